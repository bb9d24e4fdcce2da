import PyProof.Rows.All
import Wide.All
import OpenK.AllK
import Wide.FinOn
import Lean
import PyProof.EqAt
import PyProof.EqKinds
import PyProof.TupleCall
import PySem.Challenge.RW_byestand_k16_whole_walked_as_guided
import KE.KNestM
import KE.KRevSl
set_option Elab.async false
set_option linter.all false
set_option maxRecDepth 100000
set_option genSizeOf false
noncomputable section
theorem cR{a b c:Nat}(h:a<b)(k:b<=c):a<c:=Nat.lt_of_lt_of_le h k
theorem aH(n:Nat):n<=n:=Nat.le_refl n
theorem aZ{α:Type _}{xs:List α}{i:Nat}{a:α}(h:xs[i]? =some a):∃ h:i<xs.length,xs[i] =a:=List.getElem?_eq_some_iff.mp h
abbrev ak:=PySem.W.Frag
namespace L2
open PySem PySem.Spec PyProof.Rows
abbrev Key:=Sum Int Str
def xK:Key->Value->Bool
 | .inl k,v=>Value.isInt k v
 | .inr x,v=>Value.isStrOf x v
def aes(w:World):Key->Int
 | .inl k=>hashInt k
 | .inr x=>hashStr w x
theorem d7:∀ {k:Key} {v:Value},xK k v=true->(∃ i t,k=Sum.inl i/\v=Value.int i t)\/(∃ x t,k=Sum.inr x/\v=Value.str x t)
 | .inl i,v,h=>by
   obtain⟨t,e⟩:=Value.isInt_shape (k:=i) (v:=v) h
   exact .inl ⟨i,t,rfl,e⟩
 | .inr x,v,h=>by
   obtain⟨t,e⟩:=Value.isStrOf_shape (x:=x) (v:=v) h;exact .inr ⟨x,t,rfl,e⟩
theorem Q5(i:Int)(t:Tok):xK (.inl i) (.int i t)=true:=by simp[xK,Value.isInt]
theorem Q6(x:Str)(t:Tok):xK (.inr x) (.str x t)=true:=by simp[xK,Value.isStrOf]
theorem aaU(a b:Int):decide ((Sum.inl a:Key)=Sum.inl b)=(a==b):=by
 by_cases e:a=b
 · subst e;simp
 · have h:¬ (Sum.inl a:Key)=Sum.inl b:=fun q=>e (Sum.inl.inj q);rw[decide_eq_false h];exact(beq_eq_false_iff_ne.mpr e).symm
theorem aaV(a b:Str):decide ((Sum.inr a:Key)=Sum.inr b)=decide (a=b):=by
 by_cases e:a=b
 · subst e;simp
 · have h:¬ (Sum.inr a:Key)=Sum.inr b:=fun q=>e (Sum.inr.inj q);rw[decide_eq_false h,decide_eq_false e]
theorem aaW(a:Int)(b:Str):decide ((Sum.inl a:Key)=Sum.inr b)=false:=decide_eq_false (fun q=>nomatch q)
theorem aaX(a:Str)(b:Int):decide ((Sum.inr a:Key)=Sum.inl b)=false:=decide_eq_false (fun q=>nomatch q)
def bW(prog:Program)(w:World):PySem.KeyKind prog w Key where
 is:=xK
 hash:=aes w
 inj:=fun v a b ha hb=>by
  rcases d7 ha with ⟨i,t,rfl,rfl⟩ | ⟨x,t,rfl,rfl⟩
  · rcases d7 hb with ⟨j,u,rfl,e⟩ | ⟨y,u,rfl,e⟩
    · injection e with e1 _;rw[e1]
    · exact nomatch e
  · rcases d7 hb with ⟨j,u,rfl,e⟩ | ⟨y,u,rfl,e⟩
    · exact nomatch e
    · injection e with e1 _;rw[e1]
 byValue:=fun k v h=>by
  rcases d7 h with ⟨i,t,rfl,rfl⟩ | ⟨x,t,rfl,rfl⟩ <;> rfl
 pyHash:=fun hv h=>by
  rcases d7 hv with ⟨i,t,rfl,rfl⟩ | ⟨x,t,rfl,rfl⟩
  · exact wpAny_pyHash_int h
  · exact wpAny_pyHash_str h
 eqBool:=fun hu hv h=>by
  rcases d7 hu with ⟨i,t,rfl,rfl⟩ | ⟨x,t,rfl,rfl⟩
  · rcases d7 hv with ⟨j,u,rfl,rfl⟩ | ⟨y,u,rfl,rfl⟩
    · rw[aaU]at h;exact wpAny_eqBool_int h
    · rw[aaW]at h;exact SeqAt.EqAt.int_str i t y u _ _ _ _ h
  · rcases d7 hv with ⟨j,u,rfl,rfl⟩ | ⟨y,u,rfl,rfl⟩
    · rw[aaX]at h;exact SeqAt.EqAt.str_int x t j u _ _ _ _ h
    · rw[aaV]at h;exact wpAny_eqBool_str h
 «strs»:=fun k x t v h=>by
  rcases d7 h with ⟨i,u,rfl,e⟩ | ⟨y,u,rfl,e⟩
  · exact nomatch e
  · injection e with e1 _;subst e1;cases v <;> rfl
theorem KD(prog:Program)(w:World)(i:Int)(t:Tok):(bW prog w).is (.inl i) (.int i t)=true:=Q5 i t
theorem KH(prog:Program)(w:World)(x:Str)(t:Tok):(bW prog w).is (.inr x) (.str x t)=true:=Q6 x t
inductive V where
 | non | bl (b:Bool) | int (i:Int) | str (x:Str) | byt (b:Array UInt8) | flt (b:UInt64) | ref (a:Addr) | ty (n:String)
 deriving DecidableEq
def RelV:V->Value->Prop
 | .non,u=>u=Value.none
 | .bl b,u=>u=Value.bool b
 | .int i,u=>∃ t,u=Value.int i t
 | .str x,u=>∃ t,u=Value.str x t
 | .byt b,u=>∃ t,u=Value.bytes b t
 | .flt b,u=>∃ t,u=Value.float b t
 | .ref a,u=>u=Value.ref a
 | .ty n,u=>u=Value.type n
abbrev Vals:List V->List Value->Prop:=Paired RelV
theorem Vals.length{xs:List V}{us:List Value}(r:Vals xs us):xs.length=us.length:=Paired.length r
theorem Vals.get:∀ {xs:List V} {us:List Value} {i:Nat} {x:V},Vals xs us->xs[i]? =some x->∃ u,us[i]? =some u/\RelV x u
 | _,_,_,_,.nil,e=>by simp at e
 | _,_,0,_,.cons r _,e=>by simp at e;subst e;exact⟨_,rfl,r⟩
 | _,_,i+1,x,.cons _ t,e=>by
   obtain⟨u,h1,h2⟩:=Vals.get (i:=i) (x:=x) t (by simpa using e);exact⟨u,by simpa using h1,h2⟩
theorem Vals.append:∀ {xs ys:List V} {us ws:List Value},Vals xs us->Vals ys ws->Vals (xs++ys) (us++ws)
 | _,_,_,_,.nil,s=>s
 | _,_,_,_,.cons r t,s=>.cons r (Vals.append t s)
theorem Vals.take:∀ {xs:List V} {us:List Value} (n:Nat),Vals xs us->Vals (xs.take n) (us.take n)
 | _,_,0,_=>.nil
 | _,_,_+1,.nil=>.nil
 | _,_,n+1,.cons r t=>.cons r (Vals.take n t)
theorem Vals.drop:∀ {xs:List V} {us:List Value} (n:Nat),Vals xs us->Vals (xs.drop n) (us.drop n)
 | _,_,0,r=>r
 | _,_,_+1,.nil=>.nil
 | _,_,n+1,.cons _ t=>Vals.drop n t
def jP:Option V->Option Value->Prop
 | some v,some u=>RelV v u
 | none,none=>True
 | _,_=>False
def KV{κ:Type}:List (κ × V)->List (κ × Value)->Prop:=Paired fun(p:κ × V) (q:κ × Value)=>p.1=q.1/\RelV p.2 q.2
def kV:Key->V
 | .inl i=>.int i
 | .inr x=>.str x
inductive HO where
 | lst (xs:List V)
 | tup (xs:List V)
 | dK (kvs:List (Key × V)) | dT (kvs:List (List Key × V))
 | set (S:Int->Bool) (n:Nat)
 | ins (C dx:Addr) (fs:List (Str × V))
 | own (x:Addr)
 | xd (fs:List (Str × V))
 | met (f x:Addr)
 | rng (lo hi:Int)
 | frz (o:Obj) (u:HO)
 | tbl (ps:Array Value)
 | ext (φ:Heap->Prop)
abbrev Hp:=Addr->Option HO
def upd(H:Hp)(a:Addr)(o:HO):Hp:=fun b=>if b=a then some o else H b
theorem az{H:Hp}{a:Addr}{o:HO}:upd H a o a=some o:=by unfold upd;rw[if_pos rfl]
theorem aB{H:Hp}{a b:Addr}{o:HO}(h:b ≠ a):upd H a o b=H b:=by unfold upd;rw[if_neg h]
theorem Yr{H:Hp}{a:Addr}{o u:HO}:upd (upd H a o) a u=upd H a u:=by
 funext b;unfold upd;split <;> rfl
theorem Xu{H:Hp}{a b:Addr}{o u:HO}(h:H a=some o)(h':H b=some u)(d:o ≠ u):a ≠ b:=by
 intro e;subst e;rw[h]at h';exact d (Option.some.inj h')
theorem aV{H:Hp}{a b:Addr}{o:HO}(h:H a=some o)(h':H b=none):a ≠ b:=by
 intro e;subst e;rw[h]at h';cases h'
section
variable(P:Program)(w:World)
def bA(H:Hp)(h:Heap)(a:Addr):HO->Prop
 | .lst xs=>xs.length<=sizeLine/\∃(its:List Value) (n:Nat),Vals xs its/\h.get? a=some { cls:=.type "list",data:=.seq its.toArray n }
 | .tup xs=>xs.length<=sizeLine/\∃ its:List Value,Vals xs its/\IsTup h a its.toArray
 | .dK kvs=>kvs.length<=sizeLine/\(a==sysModules)=false/\∃ vs,KV kvs vs/\h.DictOf (bW P w) a vs
 | .dT kvs=>kvs.length<=sizeLine/\(a==sysModules)=false/\∃ xs:List (List Key × Addr × Value),
    Paired (fun(p:List Key × V) (q:List Key × Addr × Value)=>p.1=q.1/\H q.2.1=some (.tup (p.1.map kV))/\RelV p.2 q.2.2) kvs xs/\
    ∃ o es ep,h.get? a=some o/\o.ExactDict/\o.data= .dict es ep/\es.toList=xs.map (entryOfKey (tupleKind (bW P w)))/\(xs.map (·.1)).Nodup
 | .set S n=>h.SetOf (intKind P w) a S n
 | .ins C dx fs=>H dx=some (.own a)/\fs.length<=1000/\dx ≠ a/\h.get? a=some (PySem.W.instObj C dx)/\
    ∃ mA,h.Ns1 dx mA/\(∀ f,jP (fs.lookup f) (mA f))/\PySem.Within mA (fs.map (·.1))
 | .own _=>∃ o,h.get? a=some o
 | .xd fs=>∃ mA,h.Ns1 a mA/\∀ f,jP (fs.lookup f) (mA f)
 | .rng lo hi=>∃ t u v,h.get? a=some { cls:=.type "range",data:=.fields #[.int lo t,.int hi u,.int 1 v] }
 | .frz o u=>h.get? a=some o/\bA H h a u
 | .tbl ps=>h.get? a=some { cls:=.none,data:=.fields ps }
 | .met f x=>h.get? a=some (PySem.W.methodObj (.ref f) (.ref x))
 | .ext φ=>φ h/\(∃ o,h.get? a=some o)/\∀ h1 h2:Heap,φ h1->(∀ o,h1.get? a=some o->h2.get? a=some o)->φ h2
def HOk(H:Hp)(h:Heap):Prop:=∀ a o,H a=some o->bA P w H h a o
end
section
variable{P:Program}{w:World}{H H':Hp}{h h':Heap}{a:Addr}{o:HO}
theorem bA.lt(x:bA P w H h a o):a<h.objs.size:=by
 cases o with
 | lst xs=>obtain⟨_,_,_,_,e⟩:=x;exact Heap.lt_size e
 | tup xs=>obtain⟨_,_,_,p⟩:=x;exact p.lt
 | dK kvs=>obtain⟨_,_,_,_,o,_,_,e,_⟩:=x;exact Heap.lt_size e
 | dT kvs=>obtain⟨_,_,_,_,o,_,_,e,_⟩:=x;exact Heap.lt_size e
 | set S n=>obtain⟨o,_,_,_,e,_⟩:=x;exact Heap.lt_size e
 | ins C dx fs=>obtain⟨_,_,_,e,_⟩:=x;exact Heap.lt_size e
 | own y=>obtain⟨_,e⟩:=x;exact Heap.lt_size e
 | xd fs=>obtain⟨_,⟨_,_,_,e,_⟩,_⟩:=x;exact Heap.lt_size e
 | rng lo hi=>obtain⟨_,_,_,e⟩:=x;exact Heap.lt_size e
 | frz ob u=>obtain⟨e,_⟩:=x;exact Heap.lt_size e
 | tbl ps=>exact Heap.lt_size (show h.get? a=some _ from x)
 | met f y=>exact Heap.lt_size (show h.get? a=some _ from x)
 | ext φ=>obtain⟨_,⟨_,e⟩,_⟩:=x;exact Heap.lt_size e
theorem Paired.lC{α β:Type}{F G:α->β->Prop}:∀ {l₁:List α} {l₂:List β},Paired F l₁ l₂->(∀ a b,F a b->G a b)->Paired G l₁ l₂
 | _,_,.nil,_=>.nil
 | _,_,.cons r t,f=>.cons (f _ _ r) (Paired.lC t f)
theorem bA.stay(x:bA P w H h a o)(k:∀ b u,(b=a\/H b=some (.own a))->h.get? b=some u->h'.get? b=some u)
 (ho:∀ b,H b=some (.own a)->H' b=some (.own a)) (ht:∀ b xs,H b=some (.tup xs)->H' b=some (.tup xs)):bA P w H' h' a o:=by
 induction o with
 | lst xs=>obtain⟨z,its,n,r,e⟩:=x;exact⟨z,its,n,r,k _ _ (.inl rfl) e⟩
 | tup xs=>obtain⟨z,its,r,ob,e,c⟩:=x;exact⟨z,its,r,ob,k _ _ (.inl rfl) e,c⟩
 | dK kvs=>obtain⟨z,y,vs,r,ob,es,ep,e,c⟩:=x;exact⟨z,y,vs,r,ob,es,ep,k _ _ (.inl rfl) e,c⟩
 | dT kvs=>
   obtain⟨z,y,xs,r,ob,es,ep,e,c⟩:=x
   exact⟨z,y,xs,Paired.lC r fun p q z=>⟨z.1,ht _ _ z.2.1,z.2.2⟩,ob,es,ep,k _ _ (.inl rfl) e,c⟩
 | set S n=>obtain⟨ob,es,ep,t,e,c⟩:=x;exact⟨ob,es,ep,t,k _ _ (.inl rfl) e,c⟩
 | ins C dx fs=>
   obtain⟨d,z,ne,e,mA,⟨od,es,ep,e2,c⟩,r⟩:=x
   exact⟨ho _ d,z,ne,k _ _ (.inl rfl) e,mA,⟨od,es,ep,k _ _ (.inr d) e2,c⟩,r⟩
 | own y=>obtain⟨ob,e⟩:=x;exact⟨ob,k _ _ (.inl rfl) e⟩
 | xd fs=>obtain⟨mA,⟨od,es,ep,e,c⟩,r⟩:=x;exact⟨mA,⟨od,es,ep,k _ _ (.inl rfl) e,c⟩,r⟩
 | rng lo hi=>obtain⟨t,u,v,e⟩:=x;exact⟨t,u,v,k _ _ (.inl rfl) e⟩
 | frz ob u ih=>obtain⟨e,q⟩:=x;exact⟨k _ _ (.inl rfl) e,ih q⟩
 | tbl ps=>
   have e:h.get? a=some { cls:=.none,data:=.fields ps }:=x;show h'.get? a=some { cls:=.none,data:=.fields ps }
   exact k a _ (.inl rfl) e
 | met f y=>
   have e:h.get? a=some (PySem.W.methodObj (.ref f) (.ref y)):=x;show h'.get? a=some (PySem.W.methodObj (.ref f) (.ref y))
   exact k a _ (.inl rfl) e
 | ext φ=>obtain⟨p,⟨o,e⟩,st⟩:=x;exact⟨st _ _ p fun o q=>k _ _ (.inl rfl) q,⟨o,k _ _ (.inl rfl) e⟩,st⟩
theorem HOk.lt(x:HOk P w H h)(e:H a=some o):a<h.objs.size:=(x a o e).lt
theorem HOk.fresh(x:HOk P w H h)(e:h.objs.size<=a):H a=none:=by
 cases q:H a with
 | none=>rfl
 | some u=>exact absurd (cR (x.lt q) e) (Nat.lt_irrefl _)
theorem HOk.kept(x:HOk P w H h)(k:∀ b u,h.get? b=some u->h'.get? b=some u):HOk P w H h':=fun a o e=>
 (x a o e).stay (fun b u _ q=>k b u q) (fun _ q=>q) fun _ _ q=>q
theorem HOk.laid(x:HOk P w H h)(k:∀ b u,h.get? b=some u->h'.get? b=some u)(hp:h.objs.size<=a)(new:bA P w (upd H a o) h' a o):HOk P w (upd H a o) h':=fun b u e=>by
 have hn:=x.fresh hp
 by_cases hb:b=a
 · subst hb;rw[az]at e;cases e;exact new
 · rw[aB hb]at e;exact(x b u e).stay (fun c v _ q=>k c v q) (fun c q=>by rw[aB (aV q hn)];exact q) fun c xs q=>by rw[aB (aV q hn)];exact q
end
def Rd(H:Hp)(a:Addr)(u:HO):Prop:=H a=some u\/∃ o,H a=some (.frz o u)
theorem Rd.ok{P:Program}{w:World}{H:Hp}{h:Heap}{a:Addr}{u:HO}(r:Rd H a u)(x:HOk P w H h):bA P w H h a u:=by
 rcases r with r | ⟨o,r⟩
 · exact x a u r
 · obtain⟨_,q⟩:=x a _ r;exact q
def Mut:Option HO->Prop
 | some (.lst _)=>True
 | some (.dK _)=>True
 | some (.dT _)=>True
 | some (.set _ _)=>True
 | some (.ins _ _ _)=>True
 | some (.ext _)=>True
 | _=>False
section
variable{P:Program}{w:World}{H:Hp}{h h':Heap}{x e:Addr}{o':HO}
theorem HOk.write(ok:HOk P w H h)(mu:Mut (H x))(he:e=x\/H e=some (.own x))(k:∀ b u,b ≠ e->h.get? b=some u->h'.get? b=some u)(heo:∃ u,h'.get? e=some u)
 (new:bA P w (upd H x o') h' x o'):HOk P w (upd H x o') h':=fun b u q=>by
 have aaY:∀ c y,H c=some (.own y)->c ≠ x:=fun c y r z=>by subst z;rw[r]at mu;exact mu
 have aet:∀ c xs,H c=some (.tup xs)->c ≠ x:=fun c xs r z=>by subst z;rw[r]at mu;exact mu
 by_cases hb:b=x
 · subst hb;rw[az]at q;cases q;exact new
 · rw[aB hb]at q
   by_cases hbe:b=e
   · have q':H b=some (.own x):=by
      rcases he with z | z
      · exact absurd (hbe.trans z) hb
      · rw[hbe];exact z
     rw[q]at q';cases q';obtain⟨v,hv⟩:=heo;exact⟨v,by rw[hbe];exact hv⟩
   · refine(ok b u q).stay (fun c v hc r=>k c v ?_ r) (fun c r=>by rw[aB (aaY c b r)];exact r) fun c xs r=>by rw[aB (aet c xs r)];exact r
     rcases hc with rfl | hc
     · exact hbe
     · rintro rfl
       rcases he with z | z
       · exact aaY c b hc z
       · rw[hc]at z;cases z;exact hb rfl
end
structure Un (fs ex:List Addr)(H H':Hp)(h h':Heap):Prop where
 keep:∀ b o,h.get? b=some o->H b=none->b ∉ fs->b ∉ ex->h'.get? b=some o
 slot:∀ b o,h.get? b=some o->H b=none->b ∈ fs->b ∉ ex->∃ sl,h'.get? b=some { o with slots:=sl }
 free:∀ b o,h.get? b=some o->H b=none->b ∉ ex->H' b=none
 there:∀ b o,h.get? b=some o->b ∉ ex->∃ o',h'.get? b=some o'
 tups:∀ b xs,H b=some (.tup xs)->H' b=some (.tup xs)
 jQ:∀ b o u,H b=some (.frz o u)->H' b=some (.frz o u)
 jR:∀ b ps,H b=some (.tbl ps)->∃ more,H' b=some (.tbl (ps++more))
section
variable{fs fs' ex ex':List Addr}{H H1 H2:Hp}{h h1 h2 h':Heap}{a x e:Addr}{o:HO}
theorem Un.any(u:Un fs ex H H1 h h1){b:Addr}{ob:Obj}(q:h.get? b=some ob)(n:H b=none)(hx:b ∉ ex):∃ sl,h1.get? b=some { ob with slots:=sl }:=by
 by_cases hb:b ∈ fs
 · exact u.slot b ob q n hb hx
 · exact⟨ob.slots,u.keep b ob q n hb hx⟩
theorem Un.trans(a:Un fs ex H H1 h h1)(b:Un fs ex H1 H2 h1 h2):Un fs ex H H2 h h2 where
 keep:=fun c ob q n hc hx=>b.keep c ob (a.keep c ob q n hc hx) (a.free c ob q n hx) hc hx
 slot:=fun c ob q n hc hx=>by
  obtain⟨sl,e1⟩:=a.slot c ob q n hc hx;obtain⟨sl',e2⟩:=b.slot c _ e1 (a.free c ob q n hx) hc hx;exact⟨sl',e2⟩
 free:=fun c ob q n hx=>by
  obtain⟨o',e1⟩:=a.there c ob q hx;exact b.free c o' e1 (a.free c ob q n hx) hx
 there:=fun c ob q hx=>by
  obtain⟨o',e1⟩:=a.there c ob q hx;exact b.there c o' e1 hx
 tups:=fun c xs q=>b.tups c xs (a.tups c xs q)
 jQ:=fun c ob xs q=>b.jQ c ob xs (a.jQ c ob xs q)
 jR:=fun c ps q=>by
  obtain⟨m1,e1⟩:=a.jR c ps q;obtain⟨m2,e2⟩:=b.jR c _ e1;exact⟨m1++m2,by rw[e2,Array.append_assoc]⟩
theorem Un.kept(k:∀ b u,h.get? b=some u->h'.get? b=some u):Un fs ex H H h h':=
 ⟨fun b ob q _ _ _=>k b ob q,fun b ob q _ _ _=>⟨ob.slots,k b ob q⟩,fun _ _ _ n _=>n,fun b ob q _=>⟨ob,k b ob q⟩,fun _ _ q=>q,fun _ _ _ q=>q,fun _ ps q=>⟨#[],by rw[q];simp⟩⟩
theorem Un.refl:Un fs ex H H h h:=Un.kept fun _ _ q=>q
theorem Un.laid(k:∀ b u,h.get? b=some u->h'.get? b=some u)(hp:h.objs.size<=a)(hn:H a=none):Un fs ex H (upd H a o) h h' where
 keep:=fun b u q _ _ _=>k b u q
 slot:=fun b u q _ _ _=>⟨u.slots,k b u q⟩
 free:=fun b u q n _=>by rw[aB (Nat.ne_of_lt (cR (Heap.lt_size q) hp))];exact n
 there:=fun b u q _=>⟨u,k b u q⟩
 tups:=fun b xs q=>by rw[aB (aV q hn)];exact q
 jQ:=fun b u xs q=>by rw[aB (aV q hn)];exact q
 jR:=fun b ps q=>⟨#[],by rw[aB (aV q hn),q];simp⟩
theorem Un.write(mu:Mut (H x))(he:e=x\/H e=some (.own x))(k:∀ b u,b ≠ e->h.get? b=some u->h'.get? b=some u)(heo:∃ u,h'.get? e=some u):Un fs ex H (upd H x o) h h':=by
 have hx:∀ b,H b=none->b ≠ x:=fun b n z=>by subst z;rw[n]at mu;exact mu
 have hb:∀ b,H b=none->b ≠ e:=fun b n z=>by
  subst z
  rcases he with r | r
  · exact hx b n r
  · rw[n]at r;cases r
 have hm:∀ b u,H b=some u->¬ Mut (some u)->b ≠ x:=fun b u q nm z=>by subst z;rw[q]at mu;exact nm mu
 refine⟨fun b u q n _ _=>k b u (hb b n) q,fun b u q n _ _=>⟨u.slots,k b u (hb b n) q⟩,fun b u q n _=>by rw[aB (hx b n)];exact n,fun b u q _=>?_,
  fun b xs q=>by rw[aB (hm b _ q fun z=>z)];exact q,fun b u xs q=>by rw[aB (hm b _ q fun z=>z)];exact q,fun b ps q=>⟨#[],by rw[aB (hm b _ q fun z=>z),q];simp⟩⟩
 by_cases hbe:b=e
 · subst hbe;exact heo
 · exact⟨u,k b u hbe q⟩
theorem Un.mono(u:Un fs ex H H1 h h1)(hs:∀ b ∈ fs,b ∈ fs')(hx:∀ b ∈ ex,b ∈ ex'):Un fs' ex' H H1 h h1:=
 ⟨fun b ob q n hb he=>u.keep b ob q n (fun z=>hb (hs b z)) fun z=>he (hx b z),fun _ _ q n _ he=>u.any q n fun z=>he (hx _ z),fun b ob q n he=>u.free b ob q n fun z=>he (hx b z),fun b ob q he=>u.there b ob q fun z=>he (hx b z),u.tups,u.jQ,u.jR⟩
end
def trk(h:Heap)(H:Hp):List Addr:=(List.range h.objs.size).filter fun a=>(H a).isSome
def sH(h:Heap)(H:Hp):Heap:=PySem.W.hideAll h (trk h H)
theorem Q7(h:Heap)(H:Hp):(sH h H).objs.size=h.objs.size:=PySem.W.hideAll_size _ _
theorem VH{h:Heap}{H:Hp}{b:Addr}{o:Obj}(e:h.get? b=some o)(n:H b=none):(sH h H).get? b=some o:=
 PySem.W.hideAll_get _ e fun hm=>by
  have q:(H b).isSome=true:=(List.mem_filter.mp hm).2;rw[n]at q;simp at q
theorem Ys{h:Heap}{H:Hp}{b:Addr}{o:Obj}(e:(sH h H).get? b=some o):h.get? b=some o/\H b=none:=by
 have e':h.get? b=some o:=PySem.W.of_hideAll (trk h H) e;refine⟨e',?_⟩
 cases q:H b with
 | none=>rfl
 | some x=>
   have hm:b ∈ trk h H:=List.mem_filter.mpr ⟨List.mem_range.mpr (Heap.lt_size e'),by simp[q]⟩;have z:(sH h H).get? b=none:=PySem.W.hideAll_none (trk h H) hm;rw[z]at e;cases e
def Yt(g h:Heap)(L:Addr):List (Addr × Obj):=(List.range h.objs.size).filterMap fun a=>if a=L\/(g.get? a).isSome=true then none else(h.get? a).map fun o=>(a,o)
def rest(g h:Heap)(L d:Addr):List (Addr × Obj):=(Yt g h L).filter fun p=>decide (p.1 ≠ d)
structure Mod (K:ak)(mg:Str->Option Value)(base:Heap):Prop where
 kin:K.In base
 glob:base.Ns mainGlobals mg
 blt:∃ mb,base.Ns builtinsNs mb/\∀ x:Str,x ≠ "__name__"->mb x=bootBuiltins x
 nolimit:base.NoLimit
structure Cx where
 prog:Program
 w:World
 K:ak
 mg:Str->Option Value
 base:Heap
 A:Around
 N:List Str
 s₀:Shared
 H₀:Hp
 env:Env
 outer:List Env
 stack:List Env
 ex:List Addr
 fn:Str->Bool
 calm:Bool
 pn:List (Addr × Obj)
 xe:Value->Shared->Prop
def frs(l:List Env):List Addr:=l.filterMap (·.frame)
abbrev Cx.fs(X:Cx):List Addr:=frs X.outer
def Vis(sc:Scope)(x:Str):Prop:=sc.names.lookup x=some .local\/sc.names.lookup x=some .cell\/sc.names.lookup x=some .free
def Loc(sc:Scope)(x:Str):Prop:=sc.names.lookup x=some .local\/sc.names.lookup x=some .cell
def Look(env:Env)(h:Heap)(m:Str->Option Value)(x:Str)(u:Value):Prop:=
 (env.kindOf x=some .local/\m x=some u)\/((env.kindOf x=some .cell\/env.kindOf x=some .free)/\∃ c,env.cells.lookup x=some c/\h.IsCell c (some u))
structure Cx.Ok (X:Cx):Prop where
 mod:Mod X.K X.mg X.base
 kind:X.env.scope.kind= .function
 glob:X.env.globals=mainGlobals
 blt:X.env.builtins=builtinsNs
 above:X.s₀.heap.objs.size<=X.env.locals
 inj:∀ x y c,X.env.cells.lookup x=some c->X.env.cells.lookup y=some c->x=y
 has:∀ x,(X.env.kindOf x=some .cell\/X.env.kindOf x=some .free)->∃ c,X.env.cells.lookup x=some c
 cab:∀ x c,X.fn x=true->X.env.cells.lookup x=some c->X.s₀.heap.objs.size<=c
 hd:X.calm=true->X.A.handled=none
 frames:X.A.frames=some X.stack
 stk:X.stack=X.outer\/(X.stack=X.env::X.outer/\X.env.frame=some X.env.locals)
 exf:∀ b ∈ X.ex,b ≠ X.env.locals/\∀ x c,X.env.cells.lookup x=some c->c ≠ b
 bs:∀ b o,X.base.get? b=some o->X.s₀.heap.get? b=some o/\X.H₀ b=none
 bsz:X.base.objs.size<=X.s₀.heap.objs.size
 sI:∀ b o,X.base.get? b=some o->b ∉ X.ex
 v8:∀ b ∈ X.ex,b ∉ X.fs
 jT:X.s₀.heap.FunFrames X.base X.outer
 frf:∀ b ∈ X.fs,X.H₀ b=none
structure Inv (X:Cx)(pins:List (Addr × Obj))(σ:List (Option V))(H:Hp)(s:Shared):Prop where
 ok:X.Ok
 os:s.os=X.s₀.os
 bare:AllBare s.gens
 base:Un X.fs X.ex X.H₀ H X.s₀.heap s.heap
 loc:∃ m,s.heap.Ns X.env.locals m/\∀(i:Nat) (x:Str) (v:V),X.N[i]? =some x->σ[i]? =some (some v)->Vis X.env.scope x->∃ u,RelV v u/\Look X.env s.heap m x u
 cell:∀ x c,X.env.cells.lookup x=some c->∃ v,s.heap.IsCell c v
 free:H X.env.locals=none
 gO:∀ x c,X.env.cells.lookup x=some c->H c=none
 pin:∀ p ∈ X.pn++pins,s.heap.get? p.1=some p.2/\H p.1=none/\p.1 ≠ X.env.locals/\p.1 ∉ X.fs/\∀ v,p.2.data ≠ .cell v
 hok:HOk X.prog X.w H s.heap
 len:σ.length=X.N.length
section
variable{X:Cx}{pins:List (Addr × Obj)}{σ:List (Option V)}{H H':Hp}{s:Shared}{h':Heap}
theorem Cx.Ok.aeu(ok:X.Ok){b:Addr}{o:Obj}(e:X.base.get? b=some o):b ∉ X.fs:=fun hb=>by
 have:=(ok.jT.mem hb).1;rw[e]at this;cases this
theorem Inv.bs(I:Inv X pins σ H s):∀ b o,X.base.get? b=some o->s.heap.get? b=some o/\H b=none:=fun b o e=>
 ⟨I.base.keep b o (I.ok.bs b o e).1 (I.ok.bs b o e).2 (I.ok.aeu e) (I.ok.sI b o e),I.base.free b o (I.ok.bs b o e).1 (I.ok.bs b o e).2 (I.ok.sI b o e)⟩
theorem Inv.bk(I:Inv X pins σ H s):∀ b o,X.base.get? b=some o->s.heap.get? b=some o:=fun b o e=>(I.bs b o e).1
theorem Inv.mod(I:Inv X pins σ H s):Mod X.K X.mg X.base:=I.ok.mod
theorem Inv.kIn(I:Inv X pins σ H s):X.K.In s.heap:=I.ok.mod.kin.keeps I.bk
theorem Inv.nolimit(I:Inv X pins σ H s):s.heap.NoLimit:=I.ok.mod.nolimit.keeps I.bk
theorem Inv.fr(I:Inv X pins σ H s):∃ m,Fr X.base X.env.locals s.heap m:=
 let ⟨m,hn,_⟩:=I.loc
 ⟨m,hn,I.bk,Nat.le_trans I.ok.bsz I.ok.above⟩
theorem Inv.lt(I:Inv X pins σ H s):X.env.locals<s.heap.objs.size:=let ⟨_,hn,_⟩:=I.loc;hn.lt
theorem Inv.sz(I:Inv X pins σ H s):X.s₀.heap.objs.size<=s.heap.objs.size:=Nat.le_trans I.ok.above (Nat.le_of_lt I.lt)
theorem Inv.aaZ(I:Inv X pins σ H s){a:Addr}(h:s.heap.objs.size<=a):a ∉ X.fs:=fun hb=>by
 obtain⟨_,o,ho,_⟩:=I.ok.jT.mem hb;exact absurd (cR (Heap.lt_size ho) (Nat.le_trans I.sz h)) (Nat.lt_irrefl _)
theorem Inv.cne(I:Inv X pins σ H s):∀ x c,X.env.cells.lookup x=some c->c ≠ X.env.locals:=fun x c e z=>by
 obtain⟨v,o,ho,hd⟩:=I.cell x c e;obtain⟨m,⟨o',es,ep,ho',hd',_⟩,_⟩:=I.loc;rw[z,ho']at ho;cases ho;rw[hd']at hd;cases hd
theorem Inv.jT(I:Inv X pins σ H s):s.heap.FunFrames X.base X.outer:=by
 have all:∀(l:List Env),(∀ b ∈ frs l,b ∈ X.fs)->X.s₀.heap.FunFrames X.base l->s.heap.FunFrames X.base l:=by
  intro l
  induction l with
  | nil=>intro _ _;trivial
  | cons env r ih=>
    intro hs hl;obtain⟨hk,⟨L,o,hf,hn,ho,hd⟩,hr⟩:=hl;have hL:L ∈ X.fs:=hs L (by unfold frs;rw[List.filterMap_cons,hf];exact List.mem_cons_self);obtain⟨sl,e⟩:=I.base.slot L o ho (I.ok.frf L hL) hL fun z=>I.ok.v8 L z hL;exact⟨hk,⟨L,_,hf,hn,e,hd⟩,ih (fun b hb=>hs b (by unfold frs;rw[List.filterMap_cons,hf];exact List.mem_cons_of_mem _ hb)) hr⟩
 exact all X.outer (fun _ hb=>hb) I.ok.jT
theorem Inv.stack(I:Inv X pins σ H s):s.heap.FunFrames X.base X.stack:=by
 rcases I.ok.stk with e | ⟨e,hf⟩
 · rw[e];exact I.jT
 · rw[e];obtain⟨m,hn,_⟩:=I.loc;refine .cons (by rw[I.ok.kind];decide) hf hn ?_ I.jT;exact Heap.get?_none_of_le (Nat.le_trans I.ok.bsz I.ok.above)
theorem Inv.v9(I:Inv X pins σ H s):∀ b ∈ frs X.stack,b ∈ X.env.locals::X.fs:=fun b hb=>by
 rcases I.ok.stk with e | ⟨e,hf⟩
 · rw[e]at hb;exact List.mem_cons_of_mem _ hb
 · rw[e]at hb;unfold frs at hb;rw[List.filterMap_cons,hf]at hb;exact hb
theorem Inv.oH(I:Inv X pins σ H s):∀ b ∈ frs X.stack,H b=none:=fun b hb=>by
 rcases List.mem_cons.mp (I.v9 b hb) with e | hb
 · rw[e];exact I.free
 · obtain⟨_,o,ho,_⟩:=I.ok.jT.mem hb;exact I.base.free b o ho (I.ok.frf b hb) fun z=>I.ok.v8 b z hb
theorem Inv.step{g':Array GenState}{t':Nat}{d':Drawn}{ch:List Addr}(I:Inv X pins σ H s)
 (hch:∀ b ∈ ch,(b ∈ X.ex\/X.s₀.heap.objs.size<=b)/\b ≠ X.env.locals/\(∀ x c,X.env.cells.lookup x=some c->c ≠ b)/\∀ p ∈ X.pn++pins,p.1 ≠ b)
 (keep:∀ b o,b ≠ X.env.locals->b ∉ X.fs->b ∉ ch->s.heap.get? b=some o->H b=none->h'.get? b=some o)
 (slot:∀ b o,b ≠ X.env.locals->b ∈ X.fs->b ∉ ch->s.heap.get? b=some o->H b=none->∃ sl,h'.get? b=some { o with slots:=sl }) (free:∀ b o,b ∉ ch->s.heap.get? b=some o->H b=none->H' b=none)
 (there:∀ b o,b ∉ ch->s.heap.get? b=some o->∃ o',h'.get? b=some o')
 (tups:∀ b xs,H b=some (.tup xs)->H' b=some (.tup xs)) (jQ:∀ b o u,H b=some (.frz o u)->H' b=some (.frz o u)) (jR:∀ b ps,H b=some (.tbl ps)->∃ more,H' b=some (.tbl (ps++more)))
 (ns:∀ m,s.heap.Ns X.env.locals m->h'.Ns X.env.locals m) (hok:HOk X.prog X.w H' h') (hg:AllBare g'):
 Inv X pins σ H' { s with heap:=h',gens:=g',drawn:=d',toks:=t' }:=by
 have neL:∀ b o,X.s₀.heap.get? b=some o->b ≠ X.env.locals:=fun b o e=>Nat.ne_of_lt (cR (Heap.lt_size e) I.ok.above)
 have neC:∀ b o,X.s₀.heap.get? b=some o->b ∉ X.ex->b ∉ ch:=fun b o e hx hb=>by
  rcases (hch b hb).1 with z | z
  · exact hx z
  · exact absurd (cR (Heap.lt_size e) z) (Nat.lt_irrefl _)
 have cellK:∀ x c,X.env.cells.lookup x=some c->∀ v,s.heap.IsCell c v->h'.IsCell c v:=fun x c e v ⟨o,ho,hd⟩=>by
  have nch:c ∉ ch:=fun z=>(hch c z).2.2.1 x c e rfl
  by_cases hc:c ∈ X.fs
  · obtain⟨sl,q⟩:=slot c o (I.cne x c e) hc nch ho (I.gO x c e);exact⟨_,q,hd⟩
  · exact⟨o,keep c o (I.cne x c e) hc nch ho (I.gO x c e),hd⟩
 refine⟨I.ok,I.os,hg,⟨fun b o e n hb hx=>?_,fun b o e n hb hx=>?_,fun b o e n hx=>?_,fun b o e hx=>?_,fun b xs e=>tups b xs (I.base.tups b xs e),fun b o xs e=>jQ b o xs (I.base.jQ b o xs e),fun b ps e=>?_⟩,?_,fun x c e=>?_,?_,fun x c e=>?_,fun p hp=>?_,hok,I.len⟩
 · exact keep b o (neL b o e) hb (neC b o e hx) (I.base.keep b o e n hb hx) (I.base.free b o e n hx)
 · obtain⟨sl,e1⟩:=I.base.slot b o e n hb hx;obtain⟨sl',e2⟩:=slot b _ (neL b o e) hb (neC b o e hx) e1 (I.base.free b o e n hx);exact⟨sl',e2⟩
 · obtain⟨o',e1⟩:=I.base.there b o e hx;exact free b o' (neC b o e hx) e1 (I.base.free b o e n hx)
 · obtain⟨o',e1⟩:=I.base.there b o e hx;exact there b o' (neC b o e hx) e1
 · obtain⟨m1,e1⟩:=I.base.jR b ps e;obtain⟨m2,e2⟩:=jR b _ e1;exact⟨m1++m2,by rw[e2,Array.append_assoc]⟩
 · obtain⟨m,hn,hl⟩:=I.loc;refine⟨m,ns m hn,fun i x v e1 e2 e3=>?_⟩;obtain⟨u,r,l⟩:=hl i x v e1 e2 e3;refine⟨u,r,?_⟩
   rcases l with l | ⟨k,c,e,z⟩
   · exact .inl l
   · exact .inr ⟨k,c,e,cellK x c e _ z⟩
 · obtain⟨v,z⟩:=I.cell x c e;exact⟨v,cellK x c e v z⟩
 · obtain⟨m,⟨o,_,_,ho,_⟩,_⟩:=I.loc;exact free _ o (fun z=>(hch _ z).2.1 rfl) ho I.free
 · obtain⟨v,o,ho,hd⟩:=I.cell x c e;exact free c o (fun z=>(hch c z).2.2.1 x c e rfl) ho (I.gO x c e)
 · obtain⟨e,n,ne,nf,d⟩:=I.pin p hp;have nch:p.1 ∉ ch:=fun z=>(hch p.1 z).2.2.2 p hp rfl;exact⟨keep p.1 p.2 ne nf nch e n,free p.1 p.2 nch e n,ne,nf,d⟩
theorem Inv.un{t':Nat}(I:Inv X pins σ H s)(u:Un X.fs [] H H' s.heap h')(hok:HOk X.prog X.w H' h'):Inv X pins σ H' { s with heap:=h',toks:=t' }:=by
 obtain⟨m,⟨o,es,ep,ho,r⟩,_⟩:=id I.loc;obtain⟨sl,hL⟩:=u.any ho I.free (by simp)
 exact I.step (g':=s.gens) (d':=s.drawn) (ch:=[]) (fun _ z=>nomatch z) (fun b o _ hb _ e n=>u.keep b o e n hb (by simp)) (fun b o _ hb _ e n=>u.slot b o e n hb (by simp)) (fun b o _ e n=>u.free b o e n (by simp)) (fun b o _ e=>u.there b o e (by simp)) u.tups u.jQ u.jR (fun m' hm=>by
  obtain⟨o',es',ep',ho',r'⟩:=hm;rw[ho]at ho';cases ho'
  exact⟨_,es',ep',hL,r'⟩) hok I.bare
theorem Inv.call{g':Array GenState}{t':Nat}{d':Drawn}{ch:List Addr}(I:Inv X pins σ H s)(u:Un (frs X.stack) ch H H' s.heap h')(hok:HOk X.prog X.w H' h')(hg:AllBare g')
 (hch:∀ b ∈ ch,(b ∈ X.ex\/X.s₀.heap.objs.size<=b)/\b ≠ X.env.locals/\(∀ x c,X.env.cells.lookup x=some c->c ≠ b)/\∀ p ∈ X.pn++pins,p.1 ≠ b):
 Inv X pins σ H' { s with heap:=h',gens:=g',drawn:=d',toks:=t' }:=by
 obtain⟨m,⟨o,es,ep,ho,r⟩,_⟩:=id I.loc;obtain⟨sl,hL⟩:=u.any ho I.free fun z=>(hch _ z).2.1 rfl
 exact I.step (ch:=ch) hch (fun b o hL hb hc e n=>u.keep b o e n (fun z=>(List.mem_cons.mp (I.v9 b z)).elim hL hb) hc) (fun b o _ _ hc e n=>u.any e n hc) (fun b o hc e n=>u.free b o e n hc) (fun b o hc e=>u.there b o e hc) u.tups u.jQ u.jR (fun m' hm=>by
  obtain⟨o',es',ep',ho',r'⟩:=hm;rw[ho]at ho';cases ho'
  exact⟨_,es',ep',hL,r'⟩) hok hg
theorem Inv.turned{t':Nat}{it:Addr}(I:Inv X pins σ H s)(k:∀ b o,b ≠ it->s.heap.get? b=some o->h'.get? b=some o)(hn:H it=none)(hL:it ≠ X.env.locals)
 (h1:it ∈ X.ex\/X.s₀.heap.objs.size<=it) (h2:∀ x c,X.env.cells.lookup x=some c->c ≠ it) (h3:∀ p ∈ X.pn++pins,p.1 ≠ it):Inv X pins σ H { s with heap:=h',toks:=t' }:=by
 have nit:∀ b u,H b=some u->b ≠ it:=fun b u e z=>by rw[z,hn]at e;cases e
 refine I.step (g':=s.gens) (d':=s.drawn) (ch:=[it]) (fun b hb=>?_) (fun b o _ _ hc e _=>k b o (fun z=>hc (by simp[z])) e) (fun b o _ _ hc e _=>⟨o.slots,k b o (fun z=>hc (by simp[z])) e⟩) (fun _ _ _ _ n=>n)
  (fun b o hc e=>⟨o,k b o (fun z=>hc (by simp[z])) e⟩) (fun _ _ e=>e) (fun _ _ _ e=>e) (fun b ps e=>⟨#[],by rw[e];simp⟩) (fun m hm=>?_) (fun b u e=>?_) I.bare
 · have e:b=it:=by simpa using hb
   subst e;exact⟨h1,hL,h2,h3⟩
 · obtain⟨o,es,ep,ho,r⟩:=hm;exact⟨o,es,ep,k _ o (Ne.symm hL) ho,r⟩
 · refine(I.hok b u e).stay (fun c v hc q=>k c v ?_ q) (fun _ q=>q) fun _ _ q=>q
   rcases hc with z | z
   · rw[z];exact nit b u e
   · exact nit c _ z
theorem Inv.tok(I:Inv X pins σ H s)(t:Nat):Inv X pins σ H { s with toks:=t }:=I.un (h':=s.heap) (t':=t) Un.refl I.hok
theorem Inv.kept{t':Nat}(I:Inv X pins σ H s)(k:∀ b u,s.heap.get? b=some u->h'.get? b=some u):Inv X pins σ H { s with heap:=h',toks:=t' }:=I.un (Un.kept k) (I.hok.kept k)
theorem Inv.laid{a:Addr}{o:HO}{t':Nat}(I:Inv X pins σ H s)(k:∀ b u,s.heap.get? b=some u->h'.get? b=some u)(hp:s.heap.objs.size<=a)(new:bA X.prog X.w (upd H a o) h' a o):
 Inv X pins σ (upd H a o) { s with heap:=h',toks:=t' }:=I.un (Un.laid k hp (I.hok.fresh hp)) (I.hok.laid k hp new)
theorem Inv.write{x e:Addr}{o:HO}{t':Nat}(I:Inv X pins σ H s)(mu:Mut (H x))(he:e=x\/H e=some (.own x))(k:∀ b u,b ≠ e->s.heap.get? b=some u->h'.get? b=some u)(heo:∃ u,h'.get? e=some u)
 (new:bA X.prog X.w (upd H x o) h' x o):Inv X pins σ (upd H x o) { s with heap:=h',toks:=t' }:=I.un (Un.write mu he k heo) (I.hok.write mu he k heo new)
theorem Inv.weak{σ':List (Option V)}(I:Inv X pins σ H s)(hl:σ'.length=σ.length)(w:∀(i:Nat) v,σ'[i]? =some (some v)->σ[i]? =some (some v)):Inv X pins σ' H s:=
 ⟨I.ok,I.os,I.bare,I.base,let ⟨m,hn,hl'⟩:=I.loc;⟨m,hn,fun i x v e1 e2 e3=>hl' i x v e1 (w i v e2) e3⟩,I.cell,I.free,I.gO,I.pin,I.hok,hl.trans I.len⟩
theorem Inv.BV{zE:List (Addr × Obj)}(I:Inv X pins σ H s)(h:∀ p ∈ zE,s.heap.get? p.1=some p.2/\H p.1=none/\p.1 ≠ X.env.locals/\p.1 ∉ X.fs/\∀ v,p.2.data ≠ .cell v):Inv X zE σ H s:=
 ⟨I.ok,I.os,I.bare,I.base,I.loc,I.cell,I.free,I.gO,fun p hp=>(List.mem_append.mp hp).elim (fun z=>I.pin p (List.mem_append_left _ z)) (h p),I.hok,I.len⟩
theorem Hq{N:List Str}(hN:N.Nodup){i j:Nat}{x:Str}(a:N[i]? =some x)(b:N[j]? =some x):i=j:=by
 obtain⟨h1,e1⟩:=aZ a;obtain⟨h2,e2⟩:=aZ b;exact(List.getElem_inj hN).mp (e1.trans e2.symm)
theorem Q8{M:Model}{A:Around}{E:Value->Shared->Prop}{i:Nat}{x:Str}{v:V}{u:Value}{Q:Unit->Shared->Prop}(I:Inv X pins σ H s)(hN:X.N.Nodup)(hi:X.N[i]? =some x)(hx:Loc X.env.scope x)(r:RelV v u)
 (h:∀ s',Inv X pins (σ.set i (some v)) H s'->(∃ a,Heap.SameBut a s.heap s'.heap/\(a=X.env.locals\/X.env.cells.lookup x=some a))->Q () s') (hf:X.fn x=true\/X.env.scope.names.lookup x=some .local:=by first | exact .inl rfl | exact .inr rfl | assumption):wpAny M A (storeName X.env x u) Q E s:=by
 obtain⟨m,hn,hl⟩:=id I.loc;have hcls:(X.env.scope.kind == .class||(X.env.scope.kind == .module&&X.env.locals != X.env.globals))=false:=by rw[I.ok.kind];rfl
 have aa0:i<σ.length:=by rw[I.len];exact(aZ hi).1
 have cne:=I.cne
 have tracked:∀ {a:Addr} {h':Heap},(∃ o,s.heap.get? a=some o/\H a=none)->Heap.SameBut a s.heap h'->HOk X.prog X.w H h':=fun {a h'} ha hs b ob e=>by
  obtain⟨_,_,hfree⟩:=ha;refine(I.hok b ob e).stay (fun c w' hc q=>(hs.2 c ?_).trans q) (fun _ q=>q) fun _ _ q=>q;rintro rfl
  rcases hc with rfl | hc
  · rw[hfree]at e;cases e
  · rw[hfree]at hc;cases hc
 rcases hx with hk | hk
 · refine wpAny_storeName_local hk hn (fun h' hn' hs=>?_) hcls;obtain⟨oL,_,_,hoL,_⟩:=id hn;refine h _ ⟨I.ok,I.os,I.bare,⟨fun b o e n hb hx=>?_,fun b o e n hb hx=>?_,I.base.free,fun b o e hx=>?_,I.base.tups,I.base.jQ,I.base.jR⟩,⟨_,hn',fun j y v' e1 e2 e3=>?_⟩,fun y c e=>?_,I.free,I.gO,fun p hp=>?_,tracked ⟨oL,hoL,I.free⟩ hs,by simpa using I.len⟩ ⟨_,hs,.inl rfl⟩
   · exact(hs.2 b (Nat.ne_of_lt (cR (Heap.lt_size e) I.ok.above))).trans (I.base.keep b o e n hb hx)
   · obtain⟨sl,e1⟩:=I.base.slot b o e n hb hx;exact⟨sl,(hs.2 b (Nat.ne_of_lt (cR (Heap.lt_size e) I.ok.above))).trans e1⟩
   · obtain⟨o',e1⟩:=I.base.there b o e hx;exact⟨o',(hs.2 b (Nat.ne_of_lt (cR (Heap.lt_size e) I.ok.above))).trans e1⟩
   · by_cases hj:j=i
     · subst hj;rw[hi]at e1;cases e1;rw[List.getElem?_set_self aa0]at e2;cases e2;exact⟨u,r,.inl ⟨hk,by simp⟩⟩
     · rw[List.getElem?_set_ne (Ne.symm hj)]at e2;obtain⟨u',r',q⟩:=hl j y v' e1 e2 e3;refine⟨u',r',?_⟩
       rcases q with ⟨k,e⟩ | ⟨k,c,e,z⟩
       · refine .inl ⟨k,?_⟩;have:y ≠ x:=fun e=>hj (Hq hN e1 (e ▸ hi));simp[this,e]
       · exact .inr ⟨k,c,e,z.sameBut hs (cne y c e)⟩
   · obtain⟨w',z⟩:=I.cell y c e;exact⟨w',z.sameBut hs (cne y c e)⟩
   · obtain⟨e,n,ne,nf,d⟩:=I.pin p hp;exact⟨(hs.2 p.1 ne).trans e,n,ne,nf,d⟩
 · have hfn:X.fn x=true:=by
    rcases hf with z | z
    · exact z
    · rw[z]at hk;cases hk
   obtain⟨c,hc⟩:=I.ok.has x (.inl hk);obtain⟨w',z⟩:=I.cell x c hc;refine wpAny_storeName_cell I.ok.kind hk hc z (fun h' hc' hs=>?_);obtain⟨oc,hoc,aev⟩:=id z;refine h { s with heap:=h' } ⟨I.ok,I.os,I.bare,⟨fun b o e n hb hx=>?_,fun b o e n hb hx=>?_,I.base.free,fun b o e hx=>?_,I.base.tups,I.base.jQ,I.base.jR⟩,⟨m,hn.sameBut hs (Ne.symm (cne x c hc)),fun j y v' e1 e2 e3=>?_⟩,fun y c' e=>?_,I.free,I.gO,fun p hp=>?_,tracked ⟨oc,hoc,I.gO x c hc⟩ hs,by simpa using I.len⟩ ⟨c,hs,.inr hc⟩
   · exact(hs.2 b (Nat.ne_of_lt (cR (Heap.lt_size e) (I.ok.cab x c hfn hc)))).trans (I.base.keep b o e n hb hx)
   · obtain⟨sl,e1⟩:=I.base.slot b o e n hb hx;exact⟨sl,(hs.2 b (Nat.ne_of_lt (cR (Heap.lt_size e) (I.ok.cab x c hfn hc)))).trans e1⟩
   · obtain⟨o',e1⟩:=I.base.there b o e hx;exact⟨o',(hs.2 b (Nat.ne_of_lt (cR (Heap.lt_size e) (I.ok.cab x c hfn hc)))).trans e1⟩
   · by_cases hj:j=i
     · subst hj;rw[hi]at e1;cases e1;rw[List.getElem?_set_self aa0]at e2;cases e2;exact⟨u,r,.inr ⟨.inl hk,c,hc,hc'⟩⟩
     · rw[List.getElem?_set_ne (Ne.symm hj)]at e2;obtain⟨u',r',q⟩:=hl j y v' e1 e2 e3;refine⟨u',r',?_⟩
       rcases q with q | ⟨k,c',e,z'⟩
       · exact .inl q
       · refine .inr ⟨k,c',e,z'.sameBut hs ?_⟩;rintro rfl;exact hj (Hq hN e1 (I.ok.inj _ _ _ e hc ▸ hi))
   · by_cases hcc:c'=c
     · subst hcc;exact⟨_,hc'⟩
     · obtain⟨w2,z2⟩:=I.cell y c' e;exact⟨w2,z2.sameBut hs hcc⟩
   · obtain⟨e,n,ne,nf,d⟩:=I.pin p hp;refine⟨(hs.2 p.1 ?_).trans e,n,ne,nf,d⟩;intro q;rw[q,hoc]at e;have q':oc=p.2:=Option.some.inj e;exact d w' (by rw[<- q'];exact aev)
theorem uA{M:Model}{A:Around}{E:Value->Shared->Prop}{i:Nat}{x:Str}{v:V}{u:Value}{Q:Unit->Shared->Prop}(I:Inv X pins σ H s)(hN:X.N.Nodup)(hi:X.N[i]? =some x)(hx:Loc X.env.scope x)(r:RelV v u)
 (h:∀ s',Inv X pins (σ.set i (some v)) H s'->Q () s') (hf:X.fn x=true\/X.env.scope.names.lookup x=some .local:=by first | exact .inl rfl | exact .inr rfl | assumption):wpAny M A (storeName X.env x u) Q E s:=
 Q8 I hN hi hx r (fun s' I' _=>h s' I') hf
theorem Inv.call'{s':Shared}{ch:List Addr}(I:Inv X pins σ H s)(ho:s'.os=s.os)(u:Un (frs X.stack) ch H H' s.heap s'.heap)(hok:HOk X.prog X.w H' s'.heap)(hg:AllBare s'.gens)
 (hch:∀ b ∈ ch,(b ∈ X.ex\/X.s₀.heap.objs.size<=b)/\b ≠ X.env.locals/\(∀ x c,X.env.cells.lookup x=some c->c ≠ b)/\∀ p ∈ X.pn++pins,p.1 ≠ b):Inv X pins σ H' s':=by
 obtain⟨h',g',d',t',o'⟩:=s';have e:o'=s.os:=ho;subst e;exact I.call (g':=g') (t':=t') (d':=d') u hok hg hch
end
abbrev XK:=Value->Option Addr->Hp->Prop
abbrev St:=List (Option V)
abbrev VK:=V->Hp->Prop
abbrev TE:=St->Hp->VK->Prop
abbrev TT:=St->Hp->(Bool->Hp->Prop)->Prop
abbrev TA:=St->Hp->(List V->Hp->Prop)->Prop
structure Ends where
 nx:St->Hp->Prop
 rt:VK
 bk:St->Hp->Prop:=fun _ _=>False
 ct:St->Hp->Prop:=fun _ _=>False
abbrev TS:=Ends->St->Hp->Prop
def EP(X:Cx)(pins:List (Addr × Obj))(σ:St)(Q:VK)(u:Value)(s':Shared):Prop:=∃ v H',Inv X pins σ H' s'/\RelV v u/\Q v H'
def TP(X:Cx)(pins:List (Addr × Obj))(σ:St)(Q:Bool->Hp->Prop)(b:Bool)(s':Shared):Prop:=∃ H',Inv X pins σ H' s'/\Q b H'
def AP(X:Cx)(pins:List (Addr × Obj))(σ:St)(Q:List V->Hp->Prop)(us:List Value)(s':Shared):Prop:=∃ vs H',Inv X pins σ H' s'/\Vals vs us/\Q vs H'
def SP(X:Cx)(pins:List (Addr × Obj))(D:Ends)(f:Flow)(s':Shared):Prop:=
 match f with
 | .next=>∃ σ' H',Inv X pins σ' H' s'/\D.nx σ' H'
 | .brk=>∃ σ' H',Inv X pins σ' H' s'/\D.bk σ' H'
 | .cont=>∃ σ' H',Inv X pins σ' H' s'/\D.ct σ' H'
 | .ret u=>∃ v σ' H',Inv X pins σ' H' s'/\RelV v u/\D.rt v H'
def PE(X:Cx)(e:Expr)(t:TE):Prop:=
 ∀(pins:List (Addr × Obj)) (s:Shared) (σ:St) (H:Hp) (Q:VK),Inv X pins σ H s->t σ H Q->wpAny (model X.prog X.w) X.A (eval e X.env) (EP X pins σ Q) X.xe s
def PT(X:Cx)(e:Expr)(t:TT):Prop:=
 ∀(pins:List (Addr × Obj)) (s:Shared) (σ:St) (H:Hp) (Q:Bool->Hp->Prop),Inv X pins σ H s->t σ H Q->wpAny (model X.prog X.w) X.A (isTrue e X.env (eval e X.env)) (TP X pins σ Q) X.xe s
def PW(X:Cx)(e:Expr)(t:TT):Prop:=
 ∀(whole:Sem Value) (pins:List (Addr × Obj)) (s:Shared) (σ:St) (H:Hp) (Q:Bool->Hp->Prop),Inv X pins σ H s->t σ H Q->wpAny (model X.prog X.w) X.A (isTrue e X.env whole) (TP X pins σ Q) X.xe s
theorem PW.pt{X:Cx}{e:Expr}{t:TT}(h:PW X e t):PT X e t:=h _
def PA(X:Cx)(es:List Expr)(t:TA):Prop:=
 ∀(pos:Pos) (pins:List (Addr × Obj)) (s:Shared) (σ:St) (H:Hp) (Q:List V->Hp->Prop),Inv X pins σ H s->t σ H Q->wpAny (model X.prog X.w) X.A (spliced (backTo pos (starEach es X.env))) (AP X pins σ Q) X.xe s
def PS(X:Cx)(st:Stmt)(t:TS):Prop:=
 ∀(pins:List (Addr × Obj)) (s:Shared) (σ:St) (H:Hp) (D:Ends),Inv X pins σ H s->t D σ H->wpAny (model X.prog X.w) X.A (exec st X.env) (SP X pins D) X.xe s
def PSs(X:Cx)(st:List Stmt)(t:TS):Prop:=
 ∀(pins:List (Addr × Obj)) (s:Shared) (σ:St) (H:Hp) (D:Ends),Inv X pins σ H s->t D σ H->wpAny (model X.prog X.w) X.A (execs st X.env) (SP X pins D) X.xe s
theorem thn{α:Type}{t:Sem α}{Q Q':α->Shared->Prop}{M:Model}{A:Around}{E:Value->Shared->Prop}{s:Shared}(h:wpAny M A t Q E s)(hQ:∀ a s,Q a s->Q' a s):wpAny M A t Q' E s:=wpAny_mono h hQ fun _ _ x=>x
section
variable{X:Cx}
def aa1(i:Nat):TE:=fun σ H Q=>∃ v,σ[i]? =some (some v)/\Q v H
def tC(v:V):TE:=fun _ H Q=>Q v H
theorem zF{i:Nat}{x:Str}{pos:Pos}(hN:X.N[i]? =some x)(hv:Vis X.env.scope x)(hd:(x==("__debug__":Str))=false:=by decide)(hcd:(x==("__classdict__":Str))=false:=by decide):PE X (.Name x pos) (aa1 i):=by
 intro pins s σ H Q I h;obtain⟨v,e,h⟩:=h;obtain⟨m,hn,hl⟩:=I.loc;obtain⟨u,r,l⟩:=hl i x v hN e hv;have fin:EP X pins σ Q u s:=⟨v,H,I,r,h⟩
 rcases l with ⟨hk,hm⟩ | ⟨hk,c,hc,hcell⟩
 · exact wpAny_Name (wpAny_loadName_local I.ok.kind hk hn hm fin) hd
 · rcases hk with hk | hk
   · exact wpAny_Name (wpAny_loadName_cell I.ok.kind hk hc hcell fin) hd
   · exact wpAny_Name (wpAny_loadName_free I.ok.kind hk hc hcell fin hcd) hd
theorem bJ{i j pos}:PE X (.Constant (.int i) j pos) (tC (.int i)):=fun _ _ _ H _ I h=>wpAny_Constant_int ⟨.int i,H,I.tok _,⟨_,rfl⟩,h⟩
theorem Xv{b j pos}:PE X (.Constant (.bool b) j pos) (tC (.bl b)):=fun _ _ _ H _ I h=>Constant_bool ⟨.bl b,H,I,rfl,h⟩
theorem aa2{j pos}:PE X (.Constant .none j pos) (tC .non):=fun _ _ _ H _ I h=>Constant_none ⟨.non,H,I,rfl,h⟩
theorem m_{x j pos}:PE X (.Constant (.str x) j pos) (tC (.str x)):=fun _ _ _ H _ I h=>Calls.Constant_str ⟨.str x,H,I.tok _,⟨_,rfl⟩,h⟩
def Gl(X:Cx)(x:Str):Prop:=X.env.kindOf x=some .globalImplicit
theorem kE{E:Value->Shared->Prop}{pins:List (Addr × Obj)}{s:Shared}{σ:St}{H:Hp}{x:Str}{u:Value}{pos:Pos}{Q:Value->Shared->Prop}(I:Inv X pins σ H s)(hg:Gl X x)(hm:X.mg x=some u)(h:Q u s)
 (hd:(x==("__debug__":Str))=false:=by decide):wpAny (model X.prog X.w) X.A (eval (.Name x pos) X.env) Q E s:=
 Calls.Name_function_global I.ok.kind hg (Calls.loadGlobal_global (by rw[I.ok.glob];exact I.mod.glob.keeps I.bk) hm h) hd
theorem qN{E:Value->Shared->Prop}{pins:List (Addr × Obj)}{s:Shared}{σ:St}{H:Hp}{x:Str}{u:Value}{pos:Pos}{Q:Value->Shared->Prop}(I:Inv X pins σ H s)(hg:Gl X x)(hm:X.mg x=none)(hv:bootBuiltins x=some u)(h:Q u s)
 (hn:x ≠ "__name__":=by decide) (hd:(x==("__debug__":Str))=false:=by decide):wpAny (model X.prog X.w) X.A (eval (.Name x pos) X.env) Q E s:=by
 obtain⟨mb,h1,h2⟩:=I.mod.blt;exact Calls.Name_function_global I.ok.kind hg (Calls.loadGlobal_builtin (by rw[I.ok.glob];exact I.mod.glob.keeps I.bk) hm (by rw[I.ok.blt];exact h1.keeps I.bk) ((h2 x hn).trans hv) h) hd
theorem BW{x:Str}{v:V}{u:Value}{pos:Pos}(hg:Gl X x)(hm:X.mg x=some u)(r:RelV v u)(hd:(x==("__debug__":Str))=false:=by decide):PE X (.Name x pos) (tC v):=
 fun _ _ _ H _ I h=>kE I hg hm ⟨v,H,I,r,h⟩ hd
theorem iy{x:Str}{v:V}{u:Value}{pos:Pos}(hg:Gl X x)(hm:X.mg x=none)(hv:bootBuiltins x=some u)(r:RelV v u)(hn:x ≠ "__name__":=by decide)(hd:(x==("__debug__":Str))=false:=by decide):PE X (.Name x pos) (tC v):=
 fun _ _ _ H _ I h=>qN I hg hm hv ⟨v,H,I,r,h⟩ hn hd
variable{a b:Expr}{ta tb:TE}{pos:Pos}
def PC(X:Cx)(op:CmpOp)(a b:Expr)(t:TE):Prop:=
 ∀(pins:List (Addr × Obj)) (s:Shared) (σ:St) (H:Hp) (Q:VK),Inv X pins σ H s->t σ H Q->
  wpAny (model X.prog X.w) X.A (eval a X.env) (fun v s₁=>wpAny (model X.prog X.w) X.A (eval b X.env) (fun u s₂=>wpAny (model X.prog X.w) X.A (compareOp op v u) (EP X pins σ Q) X.xe s₂) X.xe s₁) X.xe s
theorem Hr(b:Expr){op:CmpOp}(h:op ≠ .In)(h2:op ≠ .NotIn):behindInMarks op b=false:=by
 have e1:(op==CmpOp.In)=false:=by cases op <;> first | rfl | exact absurd rfl h
 have e2:(op==CmpOp.NotIn)=false:=by cases op <;> first | rfl | exact absurd rfl h2
 cases b <;> simp[behindInMarks,e1,e2]
def aew(ta:TE):TE:=fun σ H Q=>ta σ H fun x H1=>Q (.bl (decide (x= .non))) H1
def adL(ta:TE):TE:=fun σ H Q=>ta σ H fun x H1=>Q (.bl (!decide (x= .non))) H1
theorem RelV.Ht{x:V}{v:Value}(r:RelV x v):(v==Value.none)=decide (x= .non):=by
 cases x with
 | non=>cases r;rfl
 | bl _=>cases r;rfl
 | int _=>obtain⟨t,rfl⟩:=r;rfl
 | str _=>obtain⟨t,rfl⟩:=r;rfl
 | byt _=>obtain⟨t,rfl⟩:=r;rfl
 | flt _=>obtain⟨t,rfl⟩:=r;rfl
 | ref _=>cases r;rfl
 | ty _=>cases r;rfl
theorem Q9{j pos'}(ha:PE X a ta):PC X .Is a (.Constant .none j pos') (aew ta):=by
 intro pins s σ H Q I h;refine thn (ha pins s σ H _ I h) fun v s1 ⟨x,H1,I1,r1,q1⟩=>?_;exact Constant_none (is_none_gen ⟨.bl _,H1,I1,by rw[r1.Ht];rfl,q1⟩)
theorem Le{j pos'}(ha:PE X a ta):PC X .IsNot a (.Constant .none j pos') (adL ta):=by
 intro pins s σ H Q I h;refine thn (ha pins s σ H _ I h) fun v s1 ⟨x,H1,I1,r1,q1⟩=>?_;exact Constant_none (isnot_none_gen ⟨.bl _,H1,I1,by rw[r1.Ht];rfl,q1⟩)
def tB(t:TE):TT:=fun σ H Q=>t σ H fun x H1=>∃ c,x= .bl c/\Q c H1
theorem aa3{op:CmpOp}{t:TE}(h:PC X op a b t)(h1:behindInMarks op b=false:=by first | exact Hr _ (by decide) (by decide) | rfl):PE X (.Compare a [op] [b] pos) t:=fun pins s σ H Q I hw=>wpAny_Compare1 (h pins s σ H Q I hw) h1
theorem Hu{op:CmpOp}{t:TE}(h:PC X op a b t)(h1:behindInMarks op b=false:=by first | exact Hr _ (by decide) (by decide) | rfl):PT X (.Compare a [op] [b] pos) (tB t):=by
 intro pins s σ H Q I hw;refine wpAny_isTrue_Compare1 (thn (h pins s σ H _ I hw) fun v s1 h1=>thn h1 fun u s2 h2=>thn h2 fun c s3 ⟨x,H1,I1,r1,q1⟩=>?_) h1;obtain⟨d,rfl,q⟩:=q1;cases r1;exact wpAny_truthy_bool ⟨H1,I1,q⟩
theorem pD{e:Expr}{t:TE}(h:PE X e t)(he:∀ whole,isTrue e X.env whole=(do let v <- whole;standAt e.pos;holding [v] (truthy v)):=by intro _;rfl):PT X e (tB t):=by
 intro pins s σ H Q I hw;refine isTrue_plain (thn (h pins s σ H _ I hw) fun v s1 ⟨x,H1,I1,r1,q1⟩=>?_) (he _);obtain⟨d,rfl,q⟩:=q1;cases r1;exact wpAny_truthy_bool ⟨H1,I1,q⟩
variable{tA tB':TT}{rest:List Expr}
def aa4(t u:TT):TT:=fun σ H Q=>t σ H fun c H1=>if c=true then u σ H1 Q else Q false H1
def tOr(t u:TT):TT:=fun σ H Q=>t σ H fun c H1=>if c=true then Q true H1 else u σ H1 Q
def aex(t:TT):TT:=fun σ H Q=>t σ H fun c H1=>Q (!c) H1
theorem pw_and1(ha:PT X a tA):PW X (.BoolOp .And [a] pos) tA:=by
 intro wh pins s σ H Q I h;refine isTrue_and (thn (ha pins s σ H Q I h) fun c s1 e=>?_)
 cases c with
 | true=>exact isTrue_and_nil e
 | false=>exact e
theorem pw_or1(ha:PT X a tA):PW X (.BoolOp .Or [a] pos) tA:=by
 intro wh pins s σ H Q I h;refine isTrue_or (thn (ha pins s σ H Q I h) fun c s1 e=>?_)
 cases c with
 | false=>exact isTrue_or_nil e
 | true=>exact e
theorem pw_and(ha:PT X a tA)(hb:PW X (.BoolOp .And (b::rest) pos) tB'):PW X (.BoolOp .And (a::b::rest) pos) (aa4 tA tB'):=by
 intro wh pins s σ H Q I h;refine isTrue_and (thn (ha pins s σ H _ I h) fun c s1 ⟨H1,I1,q1⟩=>?_)
 cases c with
 | true=>exact hb wh pins s1 σ H1 Q I1 q1
 | false=>exact⟨H1,I1,q1⟩
theorem pw_or(ha:PT X a tA)(hb:PW X (.BoolOp .Or (b::rest) pos) tB'):PW X (.BoolOp .Or (a::b::rest) pos) (tOr tA tB'):=by
 intro wh pins s σ H Q I h;refine isTrue_or (thn (ha pins s σ H _ I h) fun c s1 ⟨H1,I1,q1⟩=>?_)
 cases c with
 | true=>exact⟨H1,I1,q1⟩
 | false=>exact hb wh pins s1 σ H1 Q I1 q1
theorem zG(ha:PT X a tA):PT X (.UnaryOp .Not a pos) (aex tA):=by
 intro pins s σ H Q I h;exact isTrue_not (ha pins s σ H (fun c H1=>Q (!c) H1) I h)
def Xw(ta tb:TE):TE:=fun σ H Q=>ta σ H fun x H1=>∃ c,x= .bl c/\if c=true then tb σ H1 Q else Q (.bl false) H1
def aey(ta tb:TE):TE:=fun σ H Q=>ta σ H fun x H1=>∃ c,x= .bl c/\if c=true then Q (.bl true) H1 else tb σ H1 Q
def adM(ta:TE):TE:=fun σ H Q=>ta σ H fun x H1=>∃ c,x= .bl c/\Q (.bl (!c)) H1
theorem tY{op}{t:TE}(h:PE X a t):PE X (.BoolOp op [a] pos) t:=fun pins s σ H Q I hw=>BoolOp_one (h pins s σ H Q I hw)
theorem tZ(ha:PE X a ta)(hb:PE X (.BoolOp .And (b::rest) pos) tb):PE X (.BoolOp .And (a::b::rest) pos) (Xw ta tb):=by
 intro pins s σ H Q I h;refine BoolOp_and (thn (ha pins s σ H _ I h) fun v s1 ⟨x,H1,I1,r1,q1⟩=>?_);obtain⟨c,rfl,q1⟩:=q1;cases r1;refine wpAny_truthy_bool ?_
 cases c with
 | true=>exact hb pins s1 σ H1 Q I1 q1
 | false=>exact⟨.bl false,H1,I1,rfl,q1⟩
theorem aa5(ha:PE X a ta):PE X (.UnaryOp .Not a pos) (adM ta):=by
 intro pins s σ H Q I h;refine UnaryOp_ (thn (ha pins s σ H _ I h) fun v s1 ⟨x,H1,I1,r1,q1⟩=>?_);obtain⟨c,rfl,q1⟩:=q1;cases r1;exact not_of (wpAny_truthy_bool ⟨.bl (!c),H1,I1,rfl,q1⟩)
def tIf(t:TT)(ta tb:TE):TE:=fun σ H Q=>t σ H fun c H1=>if c=true then ta σ H1 Q else tb σ H1 Q
theorem Hv{c:Expr}(hc:PT X c tA)(ha:PE X a ta)(hb:PE X b tb):PE X (.IfExp c a b pos) (tIf tA ta tb):=by
 intro pins s σ H Q I h;refine wpAny_IfExp (thn (hc pins s σ H _ I h) fun d s1 ⟨H1,I1,q1⟩=>?_)
 cases d with
 | true=>exact ha pins s1 σ H1 Q I1 q1
 | false=>exact hb pins s1 σ H1 Q I1 q1
end
def SqL(K:ak)(H:Hp)(a:Addr)(xs:List V):Prop:=
 Rd H a (.lst xs)\/
  ∃(o:Obj) (its:Array Value) (n:Nat),K.lookup a=some o/\o.cls= .type "list"/\o.dict=none/\o.data= .seq its n/\its.size<=sizeLine/\Vals xs its.toList
def SqT(K:ak)(H:Hp)(a:Addr)(xs:List V):Prop:=
 Rd H a (.tup xs)\/
  ∃(o:Obj) (its:Array Value) (n:Nat),K.lookup a=some o/\o.cls= .type "tuple"/\o.data= .seq its n/\its.size<=sizeLine/\Vals xs its.toList
def aez:Value->Option V
 | .none=>some .non
 | .bool b=>some (.bl b)
 | .int i _=>some (.int i)
 | .str x _=>some (.str x)
 | .bytes b _=>some (.byt b)
 | .float b _=>some (.flt b)
 | .ref a=>some (.ref a)
 | .type n=>some (.ty n)
 | _=>none
theorem RelV.abs{x:V}{u:Value}(r:RelV x u):aez u=some x:=by
 cases x with
 | non=>cases r;rfl
 | bl _=>cases r;rfl
 | int _=>obtain⟨t,rfl⟩:=r;rfl
 | str _=>obtain⟨t,rfl⟩:=r;rfl
 | byt _=>obtain⟨t,rfl⟩:=r;rfl
 | flt _=>obtain⟨t,rfl⟩:=r;rfl
 | ref _=>cases r;rfl
 | ty _=>cases r;rfl
theorem RelV.inj{x y:V}{u:Value}(r:RelV x u)(q:RelV y u):x=y:=Option.some.inj (r.abs.symm.trans q.abs)
theorem Vals.inj:∀ {xs ys:List V} {us:List Value},Vals xs us->Vals ys us->xs=ys
 | _,_,_,.nil,.nil=>rfl
 | _,_,_,.cons r t,.cons r' t'=>by rw[r.inj r',Vals.inj t t']
section
variable{X:Cx}{pins:List (Addr × Obj)}{σ:St}{H:Hp}{s:Shared}{a:Addr}{xs ys:List V}
theorem SqL.of{K:ak}(h:H a=some (.lst xs)):SqL K H a xs:=.inl (.inl h)
theorem SqT.of{K:ak}(h:H a=some (.tup xs)):SqT K H a xs:=.inl (.inl h)
theorem Inv.list(I:Inv X pins σ H s)(h:SqL X.K H a xs):∃ its:List Value,Vals xs its/\PlainL s.heap a its.toArray/\xs.length<=sizeLine:=by
 rcases h with h | ⟨o,its,n,hk,hc,hd,hs,hz,r⟩
 · obtain⟨z,its,n,r,e⟩:=h.ok I.hok;exact⟨its,r,⟨_,n,e,rfl,rfl,rfl⟩,z⟩
 · refine⟨its.toList,r,⟨o,n,I.kIn a o hk,hc,hd,by simpa using hs⟩,?_⟩;have e:=r.length;simp only[Array.length_toList]at e;omega
theorem Inv.tuple(I:Inv X pins σ H s)(h:SqT X.K H a xs):∃ its:List Value,Vals xs its/\IsTup s.heap a its.toArray/\xs.length<=sizeLine:=by
 rcases h with h | ⟨o,its,n,hk,hc,hs,hz,r⟩
 · obtain⟨z,its,r,p⟩:=h.ok I.hok;exact⟨its,r,p,z⟩
 · refine⟨its.toList,r,⟨o,I.kIn a o hk,hc,n,by simpa using hs⟩,?_⟩;have e:=r.length;simp only[Array.length_toList]at e;omega
theorem Inv.yF(I:Inv X pins σ H s)(h:SqL X.K H a xs)(h':SqL X.K H a ys):xs=ys:=by
 obtain⟨its,r,⟨o,n,e,_,_,d⟩,_⟩:=I.list h;obtain⟨its',r',⟨o',n',e',_,_,d'⟩,_⟩:=I.list h';rw[e]at e';cases e';rw[d]at d';injection d' with d1 _;have:its=its':=by simpa using congrArg Array.toList d1
 subst this;exact r.inj r'
theorem Inv.Q_(I:Inv X pins σ H s)(h:SqT X.K H a xs)(h':SqT X.K H a ys):xs=ys:=by
 obtain⟨its,r,⟨o,e,_,n,d⟩,_⟩:=I.tuple h;obtain⟨its',r',⟨o',e',_,n',d'⟩,_⟩:=I.tuple h';rw[e]at e';cases e';rw[d]at d';injection d' with d1 _;have:its=its':=by simpa using congrArg Array.toList d1
 subst this;exact r.inj r'
end
abbrev Cx.wish(X:Cx)(E:Value->Shared->Prop):Cx:={ X with xe:=E }
abbrev Cx.nox(X:Cx):Cx:=X.wish fun _ _=>False
theorem Cx.Ok.wish{X:Cx}(ok:X.Ok)(E:Value->Shared->Prop):(X.wish E).Ok:=
 ⟨ok.mod,ok.kind,ok.glob,ok.blt,ok.above,ok.inj,ok.has,ok.cab,ok.hd,ok.frames,ok.stk,ok.exf,ok.bs,ok.bsz,ok.sI,ok.v8,ok.jT,ok.frf⟩
theorem Cx.Ok.pF{X:Cx}{E:Value->Shared->Prop}(ok:(X.wish E).Ok):X.Ok:=
 ⟨ok.mod,ok.kind,ok.glob,ok.blt,ok.above,ok.inj,ok.has,ok.cab,ok.hd,ok.frames,ok.stk,ok.exf,ok.bs,ok.bsz,ok.sI,ok.v8,ok.jT,ok.frf⟩
section
variable{X:Cx}{pins:List (Addr × Obj)}{σ:St}{H:Hp}{s:Shared}{E:Value->Shared->Prop}
theorem Inv.wish(I:Inv X pins σ H s)(E:Value->Shared->Prop):Inv (X.wish E) pins σ H s:=⟨I.ok.wish E,I.os,I.bare,I.base,I.loc,I.cell,I.free,I.gO,I.pin,I.hok,I.len⟩
theorem Inv.pF(I:Inv (X.wish E) pins σ H s):Inv X pins σ H s:=⟨I.ok.pF,I.os,I.bare,I.base,I.loc,I.cell,I.free,I.gO,I.pin,I.hok,I.len⟩
theorem SP.pF{D:Ends}{f:Flow}{s':Shared}(h:SP (X.wish E) pins D f s'):SP X pins D f s':=by
 cases f with
 | next=>obtain⟨σ',H',I,q⟩:=h;exact⟨σ',H',I.pF,q⟩
 | brk=>obtain⟨σ',H',I,q⟩:=h;exact⟨σ',H',I.pF,q⟩
 | cont=>obtain⟨σ',H',I,q⟩:=h;exact⟨σ',H',I.pF,q⟩
 | ret u=>obtain⟨v,σ',H',I,r,q⟩:=h;exact⟨v,σ',H',I.pF,r,q⟩
theorem PSs.nox{st:List Stmt}{t:TS}(h:PSs X.nox st t):PSs X st t:=fun pins s σ H D I hw=>
 wpAny_mono (h pins s σ H D (I.wish _) hw) (fun _ _ q=>q.pF) fun _ _ z=>False.elim z
end
section
variable{X:Cx}{st:Stmt}{rest:List Stmt}{t u:TS}{e:Expr}{te:TE}{pos:Pos}
def xM:TS:=fun D σ H=>D.nx σ H
def Nh(t u:TS):TS:=fun D σ H=>t { D with nx:=u D } σ H
theorem iz:PSs X [] xM:=fun _ _ σ H _ I h=>wpAny_execs_nil ⟨σ,H,I,h⟩
theorem aR(h1:PS X st t)(h2:PSs X rest u):PSs X (st::rest) (Nh t u):=by
 intro pins s σ H D I h;refine wpAny_execs_cons (thn (h1 pins s σ H { D with nx:=u D } I h) fun f s1 q=>?_)
 cases f with
 | next=>
   obtain⟨σ',H',I',q⟩:=q
   exact h2 pins s1 σ' H' D I' q
 | ret v=>exact q
 | brk=>exact q
 | cont=>exact q
theorem aO(h1:PS X st t):PSs X [st] t:=by
 intro pins s σ H D I h;refine wpAny_execs_cons (thn (h1 pins s σ H D I h) fun f s1 q=>?_)
 cases f with
 | next=>exact wpAny_execs_nil q
 | ret v=>exact q
 | brk=>exact q
 | cont=>exact q
theorem Inv.quiet{pins:List (Addr × Obj)}{σ:St}{H:Hp}{s:Shared}(I:Inv X pins σ H s):interactive X.env=false:=by simp[interactive,I.ok.kind]
def adN(te:TE):TS:=fun D σ H=>te σ H fun _ H1=>D.nx σ H1
theorem gn(he:PE X e te)(hs:swapsWith e none pos.line X.env=pure false:=by rfl):PS X (.Expr e pos) (adN te):=by
 intro pins s σ H D I h;exact wpAny_Expr_any (thn (he pins s σ H _ I h) fun v s1 ⟨x,H1,I1,r1,q1⟩=>⟨σ,H1,I1,q1⟩) I.quiet hs
def aeA(te:TE):TS:=fun D σ H=>te σ H D.rt
theorem dw(he:PE X e te):PS X (.Return (some e) pos) (aeA te):=by
 intro pins s σ H D I h;exact wpAny_Return_some (thn (he pins s σ H _ I h) fun v s1 ⟨x,H1,I1,r1,q1⟩=>⟨x,σ,H1,I1,r1,q1⟩)
def aeB(c:TT)(t u:TS):TS:=fun D σ H=>c σ H fun b H1=>if b=true then t D σ H1 else u D σ H1
theorem nq{c:Expr}{a b:List Stmt}{tc:TT}(hc:PT X c tc)(ha:PSs X a t)(hb:PSs X b u):PS X (.If c a b pos) (aeB tc t u):=by
 intro pins s σ H D I h;refine wpAny_If (thn (hc pins s σ H _ I h) fun d s1 ⟨H1,I1,q1⟩=>?_)
 cases d with
 | true=>exact ha pins s1 σ H1 D I1 q1
 | false=>exact hb pins s1 σ H1 D I1 q1
end
abbrev TG:=V->St->Hp->(St->Hp->Prop)->Prop
abbrev TGs:=List V->St->Hp->(St->Hp->Prop)->Prop
def PG(X:Cx)(target:Expr)(t:TG):Prop:=
 ∀(pins:List (Addr × Obj)) (s:Shared) (σ:St) (H:Hp) (v:V) (u:Value) (Q:St->Hp->Prop),Inv X pins σ H s->RelV v u->t v σ H Q->
  wpAny (model X.prog X.w) X.A (assign target X.env u) (fun _ s'=>∃ σ' H',Inv X pins σ' H' s'/\Q σ' H') X.xe s
def PGs(X:Cx)(ts:List Expr)(t:TGs):Prop:=
 ∀(pins:List (Addr × Obj)) (s:Shared) (σ:St) (H:Hp) (vs:List V) (us:List Value) (Q:St->Hp->Prop),Inv X pins σ H s->Vals vs us->t vs σ H Q->
  wpAny (model X.prog X.w) X.A (assignInOrder ((assignEach ts X.env).map (·.2)) us) (fun _ s'=>∃ σ' H',Inv X pins σ' H' s'/\Q σ' H') X.xe s
section
variable{X:Cx}{pos:Pos}
def GP(i:Nat):TG:=fun v σ H Q=>Q (σ.set i (some v)) H
theorem mO{i:Nat}{x:Str}(hN:X.N.Nodup)(hi:X.N[i]? =some x)(hx:Loc X.env.scope x)(hf:X.fn x=true\/X.env.scope.names.lookup x=some .local:=by first | exact .inl rfl | exact .inr rfl | assumption):PG X (.Name x pos) (GP i):=by
 intro pins s σ H v u Q I r h;exact wpAny_assign_Name (uA I hN hi hx r (fun s' I'=>⟨_,H,I',h⟩) hf)
def aeC:TGs:=fun vs σ H Q=>vs= []/\Q σ H
def adO(t:TG)(u:TGs):TGs:=fun vs σ H Q=>∃ v r,vs=v::r/\t v σ H fun σ' H'=>u r σ' H' Q
theorem Yu:PGs X [] aeC:=by
 intro pins s σ H vs us Q I r h;obtain⟨e,h⟩:=h;subst e;cases r;exact assignInOrder_nil ⟨σ,H,I,h⟩
theorem VJ{e:Expr}{es:List Expr}{t:TG}{u:TGs}(h1:PG X e t)(h2:PGs X es u)
 (hs:(assignEach (e::es) X.env).map (·.2)=assign e X.env::(assignEach es X.env).map (·.2):=by rfl):PGs X (e::es) (adO t u):=by
 intro pins s σ H vs us Q I r h;obtain⟨v,vr,e1,h⟩:=h;subst e1
 cases r with
 | cons r rr=>
   rw[hs];refine assignInOrder_cons (thn (h1 pins s σ H _ _ _ I r h) fun _ s1 ⟨σ1,H1,I1,q1⟩=>?_);exact h2 pins s1 σ1 H1 _ _ Q I1 rr q1
def aeD(K:ak)(n:Nat)(t:TGs):TG:=fun v σ H Q=>∃ a xs,v= .ref a/\SqT K H a xs/\xs.length=n/\t xs σ H Q
theorem aa6{es:List Expr}{k:Nat}{t:TGs}{n:Nat}(hc:X.calm=true)(h:PGs X es t)
 (hn:(assignEach es X.env).length=n:=by rfl) (hst:(assignEach es X.env).findIdx? (·.1)=none:=by rfl):PG X (.Tuple es k pos) (aeD X.K n t):=by
 intro pins s σ H v u Q I r hw;obtain⟨a,xs,e1,hq,hl,hw⟩:=hw;subst e1;cases r;obtain⟨its,rv,ht,hz⟩:=I.tuple hq;refine assign_Tuple_tuple (I.ok.hd hc) ht (by simp[hn,<- hl,rv.length]) hst fun h' hx=>?_;have I1:Inv X pins σ H { s with heap:=h' }:=I.kept (t':=s.toks) fun b o e=>hx b o (Nat.ne_of_lt (Heap.lt_size e)) e;exact h pins _ σ H xs _ Q I1 (by simpa using rv) hw
def Ni(te:TE)(g:TG):TS:=fun D σ H=>te σ H fun x H1=>g x σ H1 D.nx
theorem aa7{tg e:Expr}{te:TE}{g:TG}(he:PE X e te)(hg:PG X tg g)(hs:swapsWithSole [tg] e pos.line X.env=pure false:=by rfl)(hw:swappedStores [tg] e X.env=pure none:=by rfl)
 (h1:(assignEach [tg] X.env).map (·.2)= [assign tg X.env]:=by rfl):PS X (.Assign [tg] e pos) (Ni te g):=by
 intro pins s σ H D I h;refine wpAny_Assign_stores (thn (he pins s σ H _ I h) fun v s1 ⟨x,H1,I1,r1,q1⟩=>?_) hs hw;rw[h1];exact thn (hg pins s1 σ H1 x v _ I1 r1 q1) fun _ s2 q=>q
theorem lM{i:Nat}{x:Str}{e:Expr}{te:TE}{pos':Pos}(hN:X.N.Nodup)(hi:X.N[i]? =some x)(hx:Loc X.env.scope x)(he:PE X e te)(hs:swapsWith e (some (.Name x pos')) pos.line X.env=pure false:=by rfl)(hf:X.fn x=true\/X.env.scope.names.lookup x=some .local:=by first | exact .inl rfl | exact .inr rfl | assumption):
 PS X (.Assign [.Name x pos'] e pos) (Ni te (GP i)):=by
 intro pins s σ H D I h;refine wpAny_Assign_Name (thn (he pins s σ H _ I h) fun v s1 ⟨y,H1,I1,r1,q1⟩=>?_) hs;exact uA I1 hN hi hx r1 (fun s2 I2=>⟨_,H1,I2,q1⟩) hf
end
structure It where
 go:Nat->Hp->Prop
 yld:Nat->Hp->V->Hp->Prop
 stop:Nat->Hp->Prop
def lD(X:Cx)(pins:List (Addr × Obj))(H:Hp)(b:Addr):Prop:=
 H b=none/\b ≠ X.env.locals/\b ∉ X.fs/\(b ∈ X.ex\/X.s₀.heap.objs.size<=b)/\(∀ x c,X.env.cells.lookup x=some c->c ≠ b)/\∀ p ∈ X.pn++pins,p.1 ≠ b
theorem Inv.Nj{X:Cx}{pins:List (Addr × Obj)}{σ:St}{H H':Hp}{s:Shared}{b:Addr}(I:Inv X pins σ H s)(hb:s.heap.objs.size<=b)(hn:H' b=none):lD X pins H' b:=by
 refine⟨hn,Nat.ne_of_gt (cR I.lt hb),I.aaZ hb,.inr (Nat.le_trans I.sz hb),fun x c e z=>?_,fun p hp z=>?_⟩
 · obtain⟨v,q⟩:=I.cell x c e;exact absurd (cR q.lt (by rw[z];exact hb)) (Nat.lt_irrefl _)
 · exact absurd (cR (Heap.lt_size (I.pin p hp).1) (by rw[z];exact hb)) (Nat.lt_irrefl _)
structure Turn (P:Program)(w:World)(K:ak)(tg:Expr)(J:It)(fp:List Addr)(it:Addr)(tn:Nat->Heap->Prop):Prop where
 mem:it ∈ fp
 obj:∀ i h,tn i h->∀ b ∈ fp,∃ o,h.get? b=some o/\∀ v,o.data ≠ .cell v
 keep:∀ i h h',tn i h->(∀ b ∈ fp,∀ o,h.get? b=some o->h'.get? b=some o)->tn i h'
 item:∀(X:Cx),X.prog=P->X.w=w->X.K=K->X.calm=true->∀(i:Nat) (pins:List (Addr × Obj)) (s:Shared) (σ:St) (H:Hp) (E:Value->Shared->Prop),Inv X pins σ H s->(∀ b ∈ fp,lD X pins H b)->tn i s.heap->J.go i H->
  wpAny (model P w) X.A (pyNext (.ref it)) (fun r s1=>∃ u,r=some u/\
   wpAny (model P w) X.A (letOwnedTupleGo tg (.ref it) u) (fun _ s2=>∃ x H',Inv X pins σ H' s2/\RelV x u/\J.yld i H x H'/\tn (i+1) s2.heap/\∀ b ∈ fp,H' b=none) E s1) E s
 done:∀(X:Cx),X.prog=P->X.w=w->X.K=K->X.calm=true->∀(i:Nat) (pins:List (Addr × Obj)) (s:Shared) (σ:St) (H:Hp) (E:Value->Shared->Prop),Inv X pins σ H s->(∀ b ∈ fp,lD X pins H b)->tn i s.heap->J.stop i H->
  wpAny (model P w) X.A (pyNext (.ref it)) (fun r s1=>r=none/\Inv X pins σ H s1) E s
 self:∀(A:Around) (i:Nat) (s:Shared) (Q:Value->Shared->Prop) (E:Value->Shared->Prop),tn i s.heap->Q (.ref it) s->wpAny (model P w) A (pyIter (.ref it)) Q E s
abbrev TI:=St->Hp->(It->Hp->Prop)->Prop
def PIE(X:Cx)(pins:List (Addr × Obj))(σ:St)(tg:Expr)(R:It->Hp->Prop)(itv:Value)(s2:Shared):Prop:=
 ∃(it:Addr) (fp:List Addr) (tn:Nat->Heap->Prop) (J:It) (H':Hp),itv= .ref it/\Inv X pins σ H' s2/\Turn X.prog X.w X.K tg J fp it tn/\tn 0 s2.heap/\(∀ b ∈ fp,lD X pins H' b)/\R J H'
def PI(X:Cx)(tg iter:Expr)(wi:TI):Prop:=
 ∀(pins:List (Addr × Obj)) (s:Shared) (σ:St) (H:Hp) (R:It->Hp->Prop),Inv X pins σ H s->wi σ H R->
  wpAny (model X.prog X.w) X.A (eval iter X.env) (fun v s1=>wpAny (model X.prog X.w) X.A (pyIter v) (PIE X pins σ tg R) X.xe s1) X.xe s
theorem Nk{M:Model}{A:Around}{E:Value->Shared->Prop}{s:Shared}{tg:Expr}{it:Addr}{u:Value}{o:Obj}{n:String}{vs:Array Value}{Q:Unit->Shared->Prop}(ho:s.heap.get? it=some o)(hc:o.cls= .type n)(hd:o.data= .fields vs)
 (hn:["enumerate","zip","dict_itemiterator","dict_reverseitemiterator","odict_iterator","itertools.zip_longest","itertools.pairwise"].contains n=false) (hQ:Q () s):wpAny M A (letOwnedTupleGo tg (.ref it) u) Q E s:=by
 unfold letOwnedTupleGo
 cases tg <;> first
  | exact wpAny_pure hQ
  | (cases u <;> first
      | exact wpAny_pure hQ
      | (refine wpAny_bind (wpAny_load ho ?_)
         rw[hc,hd];show wpAny M A (if(["enumerate","zip","dict_itemiterator","dict_reverseitemiterator","odict_iterator","itertools.zip_longest","itertools.pairwise"].contains n&&vs[0]? == some (rawInt _))=true then _ else _) Q E s;rw[if_neg (by intro h;rw[hn,Bool.false_and]at h;cases h)]
         exact wpAny_pure hQ))
def Itl(K:ak)(a:Addr):It:=
 ⟨fun i H=>∃ xs x,SqL K H a xs/\xs[i]? =some x,fun i H x H'=>H'=H/\∀ xs,SqL K H a xs->xs[i]? =some x,fun i H=>∃ xs,SqL K H a xs/\xs.length<=i⟩
def Itt(K:ak)(a:Addr):It:=
 ⟨fun i H=>∃ xs x,SqT K H a xs/\xs[i]? =some x,fun i H x H'=>H'=H/\∀ xs,SqT K H a xs->xs[i]? =some x,fun i H=>∃ xs,SqT K H a xs/\xs.length<=i⟩
def Itr(lo:Int)(n:Nat):It:=⟨fun i _=>i<n,fun i H x H'=>H'=H/\x= .int (lo+i),fun i _=>n<=i⟩
theorem Ra{P:Program}{w:World}{K:ak}{tg:Expr}(a it:Addr):Turn P w K tg (Itl K a) [it] it (fun i h=>h.IsListIter it a i) where
 mem:=by simp
 obj:=fun i h st b hb=>by
  have e:b=it:=by simpa using hb
  subst e;obtain⟨o,e,c,d⟩:=st;exact⟨o,e,fun v z=>by rw[d]at z;cases z⟩
 keep:=fun i h h' st k=>st.at fun o e=>k it (by simp) o e
 item:=by
  intro X hP hw hK hc i pins s σ H E I hf st hg;subst hP hw hK;obtain⟨xs,x,hq,hx⟩:=hg;obtain⟨its,rv,p,hz⟩:=I.list hq;obtain⟨u,hu,ru⟩:=rv.get hx;obtain⟨f0,f1,f2,f3,f4,f5⟩:=hf it (by simp);refine wpAny_pyNext_list_item st p.isList (x:=u) (by simpa using hu) fun h' st' sb=>?_;have I1:Inv X pins σ H { s with heap:=h' }:=I.turned (t':=s.toks) (fun b o hb e=>(sb.2 b hb).trans e) f0 f1 f3 f4 f5;obtain⟨o,e,c,d⟩:=id st';exact⟨u,rfl,Nk (s:={ s with heap:=h' }) e c d (by decide) ⟨x,H,I1,ru,⟨rfl,fun ys hy=>by rw[I.yF hy hq];exact hx⟩,st',fun b hb=>(hf b hb).1⟩⟩
 done:=by
  intro X hP hw hK hc i pins s σ H E I hf st hg;subst hP hw hK;obtain⟨xs,hq,hx⟩:=hg;obtain⟨its,rv,p,hz⟩:=I.list hq;obtain⟨f0,f1,f2,f3,f4,f5⟩:=hf it (by simp);have hl:=rv.length;exact wpAny_pyNext_list_end (I.ok.hd hc) st p.isList (by simp;omega) fun h' eb=>⟨rfl,I.turned (t':=s.toks) (fun b o hb e=>eb b o hb e) f0 f1 f3 f4 f5⟩
 self:=fun _ _ _ _ _ st h=>wpAny_pyIter_listiter st h
theorem Nm{P:Program}{w:World}{K:ak}{tg:Expr}(a it:Addr):Turn P w K tg (Itt K a) [it] it (fun i h=>h.IsTupleIter it a i) where
 mem:=by simp
 obj:=fun i h st b hb=>by
  have e:b=it:=by simpa using hb
  subst e;obtain⟨o,e,c,d⟩:=st;exact⟨o,e,fun v z=>by rw[d]at z;cases z⟩
 keep:=fun i h h' st k=>st.at fun o e=>k it (by simp) o e
 item:=by
  intro X hP hw hK hc i pins s σ H E I hf st hg;subst hP hw hK;obtain⟨xs,x,hq,hx⟩:=hg;obtain⟨its,rv,p,hz⟩:=I.tuple hq;obtain⟨u,hu,ru⟩:=rv.get hx;obtain⟨f0,f1,f2,f3,f4,f5⟩:=hf it (by simp);refine wpAny_pyNext_tuple_item st (show s.heap.IsTuple a its.toArray from p) (x:=u) (by simpa using hu) fun h' st' sb=>?_;have I1:Inv X pins σ H { s with heap:=h' }:=I.turned (t':=s.toks) (fun b o hb e=>(sb.2 b hb).trans e) f0 f1 f3 f4 f5;obtain⟨o,e,c,d⟩:=id st';exact⟨u,rfl,Nk (s:={ s with heap:=h' }) e c d (by decide) ⟨x,H,I1,ru,⟨rfl,fun ys hy=>by rw[I.Q_ hy hq];exact hx⟩,st',fun b hb=>(hf b hb).1⟩⟩
 done:=by
  intro X hP hw hK hc i pins s σ H E I hf st hg;subst hP hw hK;obtain⟨xs,hq,hx⟩:=hg;obtain⟨its,rv,p,hz⟩:=I.tuple hq;obtain⟨f0,f1,f2,f3,f4,f5⟩:=hf it (by simp);have hl:=rv.length;exact wpAny_pyNext_tuple_end (I.ok.hd hc) st (show s.heap.IsTuple a its.toArray from p) (by simp;omega) fun h' eb=>⟨rfl,I.turned (t':=s.toks) (fun b o hb e=>eb b o hb e) f0 f1 f3 f4 f5⟩
 self:=fun _ _ _ _ _ st h=>wpAny_pyIter_tupleiter st h
theorem Np{P:Program}{w:World}{K:ak}{tg:Expr}(it:Addr)(lo:Int)(n:Nat):Turn P w K tg (Itr lo n) [it] it (fun i h=>IsRangeIter h it (lo+(i:Nat)*1) ((n:Int) - (i:Nat)) 1) where
 mem:=by simp
 obj:=fun i h st b hb=>by
  have e:b=it:=by simpa using hb
  subst e
  exact⟨_,st,fun v z=>by
   have z':Data.fields _=Data.cell v:=z
   cases z'⟩
 keep:=fun i h h' st k=>k it (by simp) _ st
 item:=by
  intro X hP hw hK hc i pins s σ H E I hf st hg;subst hP hw hK;obtain⟨f0,f1,f2,f3,f4,f5⟩:=hf it (by simp);have W:=Walks.range (prog:=X.prog) (w:=X.w) (I.ok.hd hc) it lo 1 n;refine W.item i s _ _ hg st fun v h' tk hv st' kk=>?_;obtain⟨t,rfl⟩:=hv;have I1:Inv X pins σ H { s with heap:=h',toks:=tk }:=I.turned (fun b o hb e=>kk b o (by simpa using hb) e) f0 f1 f3 f4 f5;refine⟨_,rfl,Nk (s:={ s with heap:=h',toks:=tk }) (n:="range_iterator") st' rfl rfl (by decide) ⟨.int (lo+i),H,I1,⟨t,?_⟩,⟨rfl,rfl⟩,st',fun b hb=>(hf b hb).1⟩⟩;rw[Int.mul_one]
 done:=by
  intro X hP hw hK hc i pins s σ H E I hf st hg;subst hP hw hK;obtain⟨f0,f1,f2,f3,f4,f5⟩:=hf it (by simp);exact wpAny_pyNext_range_end (I.ok.hd hc) st (by have:n<=i:=hg;omega) fun h' eb=>⟨rfl,I.turned (t':=s.toks) (fun b o hb e=>eb b o hb e) f0 f1 f3 f4 f5⟩
 self:=fun _ _ _ _ _ st h=>wpAny_pyIter_rangeiter st h
section
variable{X:Cx}{tg:Expr}
def Nq(K:ak)(tl:TE):TI:=fun σ H R=>tl σ H fun x H1=>∃ a,x= .ref a/\(∃ xs,SqL K H1 a xs)/\R (Itl K a) H1
def VL(K:ak)(tl:TE):TI:=fun σ H R=>tl σ H fun x H1=>∃ a,x= .ref a/\(∃ xs,SqT K H1 a xs)/\R (Itt K a) H1
theorem oJ{l:Expr}{tl:TE}(hl:PE X l tl):PI X tg l (Nq X.K tl):=by
 intro pins s σ H R I h;refine thn (hl pins s σ H _ I h) fun v s1 ⟨x,H1,I1,r1,q1⟩=>?_;obtain⟨a,e,⟨xs,hq⟩,q⟩:=q1;subst e;cases r1;obtain⟨its,rv,p,hz⟩:=I1.list hq;refine wpAny_pyIter_list p.isList ?_;refine⟨s1.heap.objs.size,[s1.heap.objs.size],_,_,H1,rfl,I1.kept (t':=s1.toks) fun b o e=>Heap.get?_push_of_some _ e,Ra a _,⟨_,Heap.get?_push_size _ rfl,rfl,rfl⟩,fun b hb=>?_,q⟩;have e:b=s1.heap.objs.size:=by simpa using hb
 subst e;exact I1.Nj (aH _) (I1.hok.fresh (aH _))
theorem aa8{l:Expr}{tl:TE}(hl:PE X l tl):PI X tg l (VL X.K tl):=by
 intro pins s σ H R I h;refine thn (hl pins s σ H _ I h) fun v s1 ⟨x,H1,I1,r1,q1⟩=>?_;obtain⟨a,e,⟨xs,hq⟩,q⟩:=q1;subst e;cases r1;obtain⟨its,rv,p,hz⟩:=I1.tuple hq;refine wpAny_pyIter_tuple (show s1.heap.IsTuple a its.toArray from p) ?_;refine⟨s1.heap.objs.size,[s1.heap.objs.size],_,_,H1,rfl,I1.kept (t':=s1.toks) fun b o e=>Heap.get?_push_of_some _ e,Nm a _,⟨_,Heap.get?_push_size _ rfl,rfl,rfl⟩,fun b hb=>?_,q⟩;have e:b=s1.heap.objs.size:=by simpa using hb
 subst e;exact I1.Nj (aH _) (I1.hok.fresh (aH _))
theorem Hw{pins:List (Addr × Obj)}{σ:St}{H:Hp}{s:Shared}{R:It->Hp->Prop}{E:Value->Shared->Prop}{lo hi:Int}{t u v:Tok}{tk:Nat}(I:Inv X pins σ H s)(h1: -(2 ^ 62)<=lo)(h2:lo<2 ^ 62)(h3: -(2 ^ 62)<=hi)(h4:hi<2 ^ 62)
 (q:R (Itr lo (hi - lo).toNat) H):wpAny (model X.prog X.w) X.A (pyIter (.ref s.heap.objs.size)) (PIE X pins σ tg R) E { s with heap:=s.heap.push { cls:=.type "range",data:=.fields #[.int lo t,.int hi u,.int 1 v] },toks:=tk }:=by
 refine wpAny_pyIter_range (IsRange.new ..) (small_one h1 h2 h3 h4) ?_;have I1:Inv X pins σ H { s with heap:=s.heap.push { cls:=.type "range",data:=.fields #[.int lo t,.int hi u,.int 1 v] },toks:=tk }:=I.kept fun b o e=>Heap.get?_push_of_some _ e
 refine⟨(s.heap.push { cls:=.type "range",data:=.fields #[.int lo t,.int hi u,.int 1 v] }).objs.size,[(s.heap.push { cls:=.type "range",data:=.fields #[.int lo t,.int hi u,.int 1 v] }).objs.size],_,_,H,rfl,
  I1.kept (t':=tk) fun b o e=>Heap.get?_push_of_some _ e,Np _ lo (hi - lo).toNat,?_,fun b hb=>?_,q⟩
 · have e1:lo+((0:Nat):Int)*1=lo:=by simp
   have e2:(((hi - lo).toNat:Nat):Int) - ((0:Nat):Int)=Builtin.Range.rangeSize lo hi 1:=by rw[rangeSize_one];split <;> omega
   show IsRangeIter _ _ (lo+((0:Nat):Int)*1) ((((hi - lo).toNat:Nat):Int) - ((0:Nat):Int)) 1;rw[e1,e2];exact Heap.get?_push_size _ rfl
 · have e:b=(s.heap.push { cls:=.type "range",data:=.fields #[.int lo t,.int hi u,.int 1 v] }).objs.size:=by simpa using hb
   subst e;exact I1.Nj (aH _) (I1.hok.fresh (aH _))
def GQ(ta:TA):TI:=fun σ H R=>ta σ H fun vs H1=>∃ j:Int,vs= [.int j]/\-(2 ^ 62)<=j/\j<2 ^ 62/\R (Itr 0 j.toNat) H1
def Xx(ta:TA):TI:=fun σ H R=>ta σ H fun vs H1=>∃ i j:Int,vs= [.int i,.int j]/\(-(2 ^ 62)<=i/\i<2 ^ 62/\-(2 ^ 62)<=j/\j<2 ^ 62)/\R (Itr i (j - i).toNat) H1
theorem gP{a:Expr}{ta:TA}{p pos:Pos}(hg:Gl X "range")(hm:X.mg "range" =none)(ha:PA X [a] ta)(hs:starEach [a] X.env= [(false,eval a X.env)]:=by rfl):PI X tg (.Call (.Name "range" p) [a] [] pos) (GQ ta):=by
 intro pins s σ H R I h;refine Call_ (qN I hg hm boot_range (PyProof.Rows.callWith_type1 (thn (ha pos pins s σ H _ I h) fun us s1 ⟨vs,H1,I1,r1,q1⟩=>?_) hs rfl));obtain⟨j,e,q1,q2,q⟩:=q1;subst e
 cases r1 with
 | cons r rr=>
   cases rr;obtain⟨t,rfl⟩:=r;exact call_range_1 (Hw I1 (by omega) (by omega) q1 q2 (by simpa using q))
theorem Rb{a b:Expr}{ta:TA}{p pos:Pos}(hg:Gl X "range")(hm:X.mg "range" =none)(ha:PA X [a,b] ta)(hs:starEach [a,b] X.env= [(false,eval a X.env),(false,eval b X.env)]:=by rfl)(hs2:starEach [b] X.env= [(false,eval b X.env)]:=by rfl):
 PI X tg (.Call (.Name "range" p) [a,b] [] pos) (Xx ta):=by
 intro pins s σ H R I h;refine Call_ (qN I hg hm boot_range (PyProof.Rows.callWith_type1 (thn (ha pos pins s σ H _ I h) fun us s1 ⟨vs,H1,I1,r1,q1⟩=>?_) (by rw[hs,hs2]) (by rw[hs2];rfl)));obtain⟨i,j,e,⟨q1,q2,q3,q4⟩,q⟩:=q1;subst e
 cases r1 with
 | cons r rr=>
   cases rr with
   | cons r' rr=>
     cases rr;obtain⟨t,rfl⟩:=r;obtain⟨t',rfl⟩:=r';exact call_range_2 (Hw I1 q1 q2 q3 q4 q)
def Hx(wi:TI)(g:TG)(tb:TS):TS:=fun D σ H=>wi σ H fun J H1=>∃ W:Nat->Nat->St->Hp->Prop,(∃ m,W 0 m σ H1)/\∀ i m σ H,W i m σ H->
 (J.stop i H/\D.nx σ H)\/(J.go i H/\∃ N:St->Hp->Prop,(∀ σ' H',N σ' H'->∃ m',m'<m/\W (i+1) m' σ' H')/\∀ x H',J.yld i H x H'->g x σ H' fun σ2 H2=>tb { D with nx:=N,ct:=N,bk:=D.nx } σ2 H2)
def v_(fp:List Addr)(h:Heap):List (Addr × Obj):=fp.filterMap fun b=>(h.get? b).map fun o=>(b,o)
theorem qj{fp:List Addr}{h:Heap}{b:Addr}{o:Obj}(hb:b ∈ fp)(e:h.get? b=some o):(b,o) ∈ v_ fp h:=List.mem_filterMap.mpr ⟨b,hb,by rw[e];rfl⟩
theorem Rc{fp:List Addr}{h:Heap}{p:Addr × Obj}(hp:p ∈ v_ fp h):p.1 ∈ fp/\h.get? p.1=some p.2:=by
 obtain⟨b,hb,e⟩:=List.mem_filterMap.mp hp
 cases q:h.get? b with
 | none=>rw[q]at e;cases e
 | some o=>
   rw[q]at e;have e':(b,o)=p:=Option.some.inj e;subst e';exact⟨hb,q⟩
theorem Inv.pinned{pins:List (Addr × Obj)}{σ:St}{H:Hp}{s:Shared}{fp:List Addr}(I:Inv X pins σ H s)(hf:∀ b ∈ fp,lD X pins H b)(ho:∀ b ∈ fp,∃ o,s.heap.get? b=some o/\∀ v,o.data ≠ .cell v):Inv X (pins++v_ fp s.heap) σ H s:=
 I.BV fun p hp=>(List.mem_append.mp hp).elim (fun z=>I.pin p (List.mem_append_right _ z)) fun z=>by
  obtain⟨hb,e⟩:=Rc z;obtain⟨f0,f1,f2,_⟩:=hf p.1 hb;obtain⟨o,e',d⟩:=ho p.1 hb;rw[e]at e';cases e';exact⟨e,f0,f1,f2,d⟩
theorem Inv.qO{pins pl:List (Addr × Obj)}{σ:St}{H:Hp}{s:Shared}(I:Inv X (pins++pl) σ H s):Inv X pins σ H s:=I.BV fun p hp=>I.pin p (List.mem_append_right _ (List.mem_append_left _ hp))
theorem t6{iter:Expr}{body:List Stmt}{wi:TI}{g:TG}{tb:TS}{pos:Pos}(hp:PassesOwn (model X.prog X.w) X.A X.env X.xe)(hc:X.calm=true)(hi:PI X tg iter wi)(hg:PG X tg g)(hb:PSs X body tb)
 (hs:∀ x,foldedSetIterable iter X.env x=pure x:=by intro _;rfl):PS X (.For tg iter body [] pos) (Hx wi g tb):=by
 intro pins s σ H D I h;refine wpAny_For (thn (hi pins s σ H _ I h) fun v s1 h1=>thn h1 fun itv s2 h2=>?_) hs;obtain⟨it,fp,tn,J,H2,e,I2,T,st2,f2,W,⟨m0,w0⟩,turn⟩:=h2;subst e;have stat:∀ {H':Hp},(∀ b ∈ fp,H' b=none)->∀ b ∈ fp,lD X pins H' b:=fun hn b hb=>⟨hn b hb,(f2 b hb).2⟩;refine codeAny_forLoop_any (fun n s'=>∃ i σ' H',Inv X pins σ' H' s'/\tn i s'.heap/\(∀ b ∈ fp,H' b=none)/\W i n σ' H') ?_ m0 ⟨0,σ,H2,I2,st2,fun b hb=>(f2 b hb).1,w0⟩;rintro n s3 ⟨i,σ3,H3,I3,st3,fr3,w3⟩
 rcases turn i n σ3 H3 w3 with ⟨stop,qn⟩ | ⟨go,N,hN,step⟩
 · refine wpAny_passesOwn hp (thn (T.done X rfl rfl rfl hc i pins s3 σ3 H3 X.xe I3 (stat fr3) st3 stop) fun r s4 ⟨hr,I4⟩=>?_);subst hr;exact wpAny_execs_nil ⟨σ3,H3,I4,qn⟩
 · refine wpAny_passesOwn hp (thn (T.item X rfl rfl rfl hc i pins s3 σ3 H3 X.xe I3 (stat fr3) st3 go) fun r s4 ⟨u,hr,h4⟩=>?_);subst hr;refine wpAny_passesOwn hp (thn h4 fun _ s5 ⟨x,H5,I5,r5,y5,st5,fr5⟩=>?_);have I5':=I5.pinned (stat fr5) (T.obj _ _ st5);refine wpAny_passesOwn hp (thn (hg _ s5 σ3 H5 x u _ I5' r5 (step x H5 y5)) fun _ s6 ⟨σ6,H6,I6,q6⟩=>?_);refine wpAny_passesOwn hp (thn (hb _ s6 σ6 H6 _ I6 q6) fun f s7 q7=>?_)
   have again:∀ {σ7:St} {H7:Hp},Inv X (pins++v_ fp s5.heap) σ7 H7 s7->N σ7 H7->∃ m,m<n/\∃ i σ' H',Inv X pins σ' H' s7/\tn i s7.heap/\(∀ b ∈ fp,H' b=none)/\W i m σ' H':=fun {σ7 H7} I7 n7=>by
    obtain⟨m',hm,w7⟩:=hN σ7 H7 n7;refine⟨m',hm,i+1,σ7,H7,I7.qO,T.keep _ _ _ st5 fun b hb o e=>(I7.pin (b,o) (List.mem_append_right _ (List.mem_append_right _ (qj hb e)))).1,fun b hb=>?_,w7⟩;obtain⟨o,e,d⟩:=T.obj _ _ st5 b hb;exact(I7.pin (b,o) (List.mem_append_right _ (List.mem_append_right _ (qj hb e)))).2.1
   cases f with
   | next=>obtain⟨σ7,H7,I7,n7⟩:=q7;exact again I7 n7
   | cont=>obtain⟨σ7,H7,I7,n7⟩:=q7;exact again I7 n7
   | brk=>obtain⟨σ7,H7,I7,q7⟩:=q7;exact⟨σ7,H7,I7.qO,q7⟩
   | ret v=>obtain⟨x7,σ7,H7,I7,r7,q7⟩:=q7;exact⟨x7,σ7,H7,I7.qO,r7,q7⟩
end
theorem uB{K:ak}{a:Addr}{xs:List V}{g:TG}{tb:TS}{D:Ends}{σ:St}{H:Hp}(Pv:Nat->St->Hp->Prop)(h0:Pv 0 σ H)(hl:∀ i σ H,i<=xs.length->Pv i σ H->SqL K H a xs)
 (hs:∀ i x σ H,xs[i]? =some x->Pv i σ H->g x σ H fun σ2 H2=>tb { D with nx:=Pv (i+1),ct:=Pv (i+1),bk:=D.nx } σ2 H2) (hd:∀ σ H,Pv xs.length σ H->D.nx σ H):
 ∃ W:Nat->Nat->St->Hp->Prop,(∃ m,W 0 m σ H)/\∀ i m σ H,W i m σ H->
   ((Itl K a).stop i H/\D.nx σ H)\/((Itl K a).go i H/\∃ N:St->Hp->Prop,(∀ σ' H',N σ' H'->∃ m',m'<m/\W (i+1) m' σ' H')/\∀ x H',(Itl K a).yld i H x H'->g x σ H' fun σ2 H2=>tb { D with nx:=N,ct:=N,bk:=D.nx } σ2 H2):=by
 refine⟨fun i m σ H=>m=xs.length - i/\i<=xs.length/\Pv i σ H,⟨xs.length,by simp,Nat.zero_le _,h0⟩,?_⟩;rintro i m σ H ⟨rfl,hi,p⟩;have q:=hl i σ H hi p
 by_cases hlt:i<xs.length
 · refine .inr ⟨⟨xs,xs[i],q,by simp[hlt]⟩,Pv (i+1),fun σ' H' p'=>⟨xs.length - (i+1),by omega,rfl,hlt,p'⟩,fun x H' y=>?_⟩;obtain⟨e,y⟩:=y;subst e;exact hs i x σ _ (y xs q) p
 · have e:i=xs.length:=by omega
   subst e;exact .inl ⟨⟨xs,q,aH _⟩,hd σ H p⟩
abbrev R2:=V->V->Hp->VK->Prop
def OpR(X:Cx)(f:Value->Value->Sem Value)(r:R2):Prop:=
 ∀(pins:List (Addr × Obj)) (s:Shared) (σ:St) (H:Hp) (x y:V) (v u:Value) (Q:VK),Inv X pins σ H s->RelV x v->RelV y u->r x y H Q->
  wpAny (model X.prog X.w) X.A (f v u) (EP X pins σ Q) X.xe s
def UnR(X:Cx)(f:Value->Sem Value)(r:V->Hp->VK->Prop):Prop:=
 ∀(pins:List (Addr × Obj)) (s:Shared) (σ:St) (H:Hp) (x:V) (v:Value) (Q:VK),Inv X pins σ H s->RelV x v->r x H Q->
  wpAny (model X.prog X.w) X.A (f v) (EP X pins σ Q) X.xe s
def jb(X:Cx)(f:Value)(r:List V->Hp->VK->Prop):Prop:=
 ∀(pins:List (Addr × Obj)) (s:Shared) (σ:St) (H:Hp) (xs:List V) (us:List Value) (Q:VK),Inv X pins σ H s->Vals xs us->r xs H Q->
  wpAny (model X.prog X.w) X.A (call f us) (EP X pins σ Q) X.xe s
def aeE(X:Cx)(r:V->Hp->(Bool->Hp->Prop)->Prop):Prop:=
 ∀(pins:List (Addr × Obj)) (s:Shared) (σ:St) (H:Hp) (x:V) (v:Value) (Q:Bool->Hp->Prop),Inv X pins σ H s->RelV x v->r x H Q->
  wpAny (model X.prog X.w) X.A (truthy v) (TP X pins σ Q) X.xe s
def tOp(r:R2)(ta tb:TE):TE:=fun σ H Q=>ta σ H fun x H1=>tb σ H1 fun y H2=>r x y H2 Q
def tUn(r:V->Hp->VK->Prop)(ta:TE):TE:=fun σ H Q=>ta σ H fun x H1=>r x H1 Q
def rI(C:Int->Int->Prop)(g:Int->Int->V):R2:=fun x y H Q=>∃ i j,x= .int i/\y= .int j/\C i j/\Q (g i j) H
def rI0(g:Int->Int->V):R2:=fun x y H Q=>∃ i j,x= .int i/\y= .int j/\Q (g i j) H
def rU(g:Int->V):V->Hp->VK->Prop:=fun x H Q=>∃ i,x= .int i/\Q (g i) H
section
variable{X:Cx}{a b c:Expr}{ta tb tc:TE}{pos:Pos}
theorem VM(ha:PE X a ta)(hb:PE X b tb){pins:List (Addr × Obj)}{s:Shared}{σ:St}{H:Hp}{R:V->V->Hp->Prop}(I:Inv X pins σ H s)
 (h:ta σ H fun x H1=>tb σ H1 fun y H2=>R x y H2) {Q:Value->Shared->Prop} {f:Value->Value->Sem Value}
 (hf:∀ v u s2 x y H2,Inv X pins σ H2 s2->RelV x v->RelV y u->R x y H2->wpAny (model X.prog X.w) X.A (f v u) Q X.xe s2):
 wpAny (model X.prog X.w) X.A (eval a X.env) (fun v s₁=>wpAny (model X.prog X.w) X.A (eval b X.env) (fun u s₂=>wpAny (model X.prog X.w) X.A (f v u) Q X.xe s₂) X.xe s₁) X.xe s:=by
 refine thn (ha pins s σ H _ I h) fun v s1 ⟨x,H1,I1,r1,q1⟩=>?_;refine thn (hb pins s1 σ H1 _ I1 q1) fun u s2 ⟨y,H2,I2,r2,q2⟩=>?_;exact hf v u s2 x y H2 I2 r1 r2 q2
theorem dz{op:Operator}{r:R2}(ho:OpR X (binaryOp op) r)(ha:PE X a ta)(hb:PE X b tb):PE X (.BinOp a op b pos) (tOp r ta tb):=by
 intro pins s σ H Q I h;exact wpAny_BinOp (VM ha hb I h fun v u s2 x y H2 I2 rx ry q=>ho pins s2 σ H2 x y v u Q I2 rx ry q)
theorem adP{op:UnaryOp}{r:V->Hp->VK->Prop}(ho:UnR X (unaryOp op) r)(ha:PE X a ta):PE X (.UnaryOp op a pos) (tUn r ta):=by
 intro pins s σ H Q I h;exact UnaryOp_ (thn (ha pins s σ H _ I h) fun v s1 ⟨x,H1,I1,r1,q1⟩=>ho pins s1 σ H1 x v Q I1 r1 q1)
theorem opI{f:Value->Value->Sem Value}{C:Int->Int->Prop}{g:Int->Int->Int}
 (rule:∀(i j:Int) (t u:Tok) (s:Shared) (Q:Value->Shared->Prop) (E:Value->Shared->Prop),C i j->Q (.int (g i j) s.toks) { s with toks:=s.toks+1 }->wpAny (model X.prog X.w) X.A (f (.int i t) (.int j u)) Q E s):
 OpR X f (rI C fun i j=>.int (g i j)):=by
 intro pins s σ H x y v u Q I rx ry h;obtain⟨i,j,rfl,rfl,hc,q⟩:=h;obtain⟨t,rfl⟩:=rx;obtain⟨t',rfl⟩:=ry;exact rule i j t t' s _ _ hc ⟨.int (g i j),H,I.tok _,⟨_,rfl⟩,q⟩
theorem aa9{f:Value->Value->Sem Value}{g:Int->Int->Int}
 (rule:∀(i j:Int) (t u:Tok) (s:Shared) (Q:Value->Shared->Prop) (E:Value->Shared->Prop),Q (.int (g i j) s.toks) { s with toks:=s.toks+1 }->wpAny (model X.prog X.w) X.A (f (.int i t) (.int j u)) Q E s):
 OpR X f (rI0 fun i j=>.int (g i j)):=by
 intro pins s σ H x y v u Q I rx ry h;obtain⟨i,j,rfl,rfl,q⟩:=h;obtain⟨t,rfl⟩:=rx;obtain⟨t',rfl⟩:=ry;exact rule i j t t' s _ _ ⟨.int (g i j),H,I.tok _,⟨_,rfl⟩,q⟩
theorem VN{f:Value->Value->Sem Value}{g:Int->Int->Bool}
 (rule:∀(i j:Int) (t u:Tok) (s:Shared) (Q:Value->Shared->Prop) (E:Value->Shared->Prop),Q (.bool (g i j)) s->wpAny (model X.prog X.w) X.A (f (.int i t) (.int j u)) Q E s):
 OpR X f (rI0 fun i j=>.bl (g i j)):=by
 intro pins s σ H x y v u Q I rx ry h;obtain⟨i,j,rfl,rfl,q⟩:=h;obtain⟨t,rfl⟩:=rx;obtain⟨t',rfl⟩:=ry;exact rule i j t t' s _ _ ⟨.bl (g i j),H,I,rfl,q⟩
def VR(i j:Int):Prop:=0<=j/\j<=1000000/\i.natAbs<2 ^ 64
def V0(i j:Int):Prop:=(-(2 ^ 64)<i/\i<2 ^ 64)\/(-(2 ^ 64)<j/\j<2 ^ 64)
theorem V0.ok{i j:Int}(h:V0 i j):IntMulOk i j:=by
 rcases h with ⟨h1,h2⟩ | ⟨h1,h2⟩
 · exact .of_left (intBits_le_64 h1 h2)
 · exact .of_right (intBits_le_64 h1 h2)
theorem d9:OpR X (binaryOp .Add) (rI0 fun i j=>.int (i+j)):=aa9 fun _ _ _ _ _ _ _ q=>add_int q
theorem lN:OpR X (binaryOp .Sub) (rI0 fun i j=>.int (i - j)):=aa9 fun _ _ _ _ _ _ _ q=>sub_int q
theorem dJ:OpR X (binaryOp .Mod) (rI (fun _ j=>0<j) fun i j=>.int (i % j)):=opI fun i j _ _ _ _ _ hc q=>by
 have h1:(0:Int)<j:=hc;exact mod_int' (by omega) (by rw[Int.fmod_eq_emod_of_nonneg i (by omega)];exact q)
theorem Hy:OpR X (binaryOp .Pow) (rI VR fun i j=>.int (i ^ j.toNat)):=opI fun _ _ _ _ _ _ _ hc q=>pow_int_small hc.1 hc.2.1 hc.2.2 q
theorem unI{f:Value->Sem Value}{g:Int->Int}
 (rule:∀(i:Int) (t:Tok) (s:Shared) (Q:Value->Shared->Prop) (E:Value->Shared->Prop),Q (.int (g i) s.toks) { s with toks:=s.toks+1 }->wpAny (model X.prog X.w) X.A (f (.int i t)) Q E s):
 UnR X f (rU fun i=>.int (g i)):=by
 intro pins s σ H x v Q I rx h;obtain⟨i,rfl,q⟩:=h;obtain⟨t,rfl⟩:=rx;exact rule i t s _ _ ⟨.int (g i),H,I.tok _,⟨_,rfl⟩,q⟩
theorem Hz:UnR X (unaryOp .USub) (rU fun i=>.int (-i)):=unI fun _ _ _ _ _ q=>neg_int q
end
def aa_:V->V->Bool
 | .non,.non=>true | .non,.int _=>true | .int _,.non=>true | .non,.bl _=>true | .bl _,.non=>true | .non,.str _=>true | .str _,.non=>true
 | .int _,.int _=>true | .bl _,.bl _=>true | .str _,.str _=>true | .byt _,.byt _=>true
 | .int _,.str _=>true | .str _,.int _=>true | .bl _,.str _=>true | .str _,.bl _=>true
 | _,_=>false
def rEq:R2:=fun x y H Q=>aa_ x y=true/\Q (.bl (decide (x=y))) H
def rNe:R2:=fun x y H Q=>aa_ x y=true/\Q (.bl (!decide (x=y))) H
theorem BX{i j:Int}:decide (V.int i=V.int j)=(i==j):=by
 rw[Bool.eq_iff_iff];simp
theorem HB{i j:Bool}:decide (V.bl i=V.bl j)=(i==j):=by
 rw[Bool.eq_iff_iff];simp
theorem BZ{i j:Str}:decide (V.str i=V.str j)=(i==j):=by
 rw[Bool.eq_iff_iff];simp
theorem Lf{i j:Array UInt8}:decide (V.byt i=V.byt j)=(i.toList==j.toList):=by
 rw[Bool.eq_iff_iff];cases i;cases j;simp
section
variable{X:Cx}{a b c:Expr}{ta tb tc:TE}{pos:Pos}
theorem bz{pins:List (Addr × Obj)}{σ:St}{H:Hp}{s:Shared}{Q:VK}{k k':Bool}(I:Inv X pins σ H s)(q:Q (.bl k) H)(e:k=k'):EP X pins σ Q (.bool k') s:=by
 subst e;exact⟨.bl k,H,I,rfl,q⟩
theorem zH:OpR X (compareOp .Eq) rEq:=by
 intro pins s σ H x y v u Q I rx ry h;obtain⟨hs,q⟩:=h
 cases x with
 | non=>
   cases rx
   cases y with
   | non=>cases ry;exact PySem.EqNone.eq_none_none (bz I q (by simp))
   | bl j=>cases ry;exact PySem.EqNone.eq_none_bool (bz I q (by simp))
   | int j=>obtain⟨t',rfl⟩:=ry;exact PySem.EqNone.eq_none_int (bz I q (by simp))
   | str j=>obtain⟨t',rfl⟩:=ry;exact PySem.EqNone.eq_none_str (bz I q (by simp))
   | _=>exact absurd (show false=true from hs) Bool.false_ne_true
 | bl i=>
   cases rx
   cases y with
   | non=>cases ry;exact PySem.EqNone.eq_bool_none (bz I q (by simp))
   | bl j=>cases ry;exact eq_bool (bz I q HB)
   | str j=>obtain⟨t',rfl⟩:=ry;exact PySem.EqMixed.eq_bool_str (bz I q (by simp))
   | _=>exact absurd (show false=true from hs) Bool.false_ne_true
 | int i=>
   obtain⟨t,rfl⟩:=rx
   cases y with
   | non=>cases ry;exact PySem.EqNone.eq_int_none (bz I q (by simp))
   | int j=>obtain⟨t',rfl⟩:=ry;exact eq_int (bz I q BX)
   | str j=>obtain⟨t',rfl⟩:=ry;exact PySem.EqMixed.eq_int_str (bz I q (by simp))
   | _=>exact absurd (show false=true from hs) Bool.false_ne_true
 | str i=>
   obtain⟨t,rfl⟩:=rx
   cases y with
   | non=>cases ry;exact PySem.EqNone.eq_str_none (bz I q (by simp))
   | bl j=>cases ry;exact PySem.EqMixed.eq_str_bool (bz I q (by simp))
   | int j=>obtain⟨t',rfl⟩:=ry;exact PySem.EqMixed.eq_str_int (bz I q (by simp))
   | str j=>obtain⟨t',rfl⟩:=ry;exact eq_str (bz I q BZ)
   | _=>exact absurd (show false=true from hs) Bool.false_ne_true
 | byt i=>
   obtain⟨t,rfl⟩:=rx
   cases y with
   | byt j=>obtain⟨t',rfl⟩:=ry;exact PySem.W.eq_bytes (bz I q Lf)
   | _=>exact absurd (show false=true from hs) Bool.false_ne_true
 | _=>cases y <;> exact absurd (show false=true from hs) Bool.false_ne_true
theorem adQ:OpR X (compareOp .NotEq) rNe:=by
 intro pins s σ H x y v u Q I rx ry h;obtain⟨hs,q⟩:=h
 cases x with
 | non=>
   cases rx
   cases y with
   | non=>cases ry;exact PySem.EqNone.ne_none_none (bz I q (by simp))
   | bl j=>cases ry;exact PySem.EqNone.ne_none_bool (bz I q (by simp))
   | int j=>obtain⟨t',rfl⟩:=ry;exact PySem.EqNone.ne_none_int (bz I q (by simp))
   | str j=>obtain⟨t',rfl⟩:=ry;exact PySem.EqNone.ne_none_str (bz I q (by simp))
   | _=>exact absurd (show false=true from hs) Bool.false_ne_true
 | bl i=>
   cases rx
   cases y with
   | non=>cases ry;exact PySem.EqNone.ne_bool_none (bz I q (by simp))
   | bl j=>cases ry;exact ne_bool (bz I q (congrArg not HB))
   | str j=>obtain⟨t',rfl⟩:=ry;exact PySem.EqMixed.ne_bool_str (bz I q (by simp))
   | _=>exact absurd (show false=true from hs) Bool.false_ne_true
 | int i=>
   obtain⟨t,rfl⟩:=rx
   cases y with
   | non=>cases ry;exact PySem.EqNone.ne_int_none (bz I q (by simp))
   | int j=>obtain⟨t',rfl⟩:=ry;exact ne_int (bz I q (congrArg not BX))
   | str j=>obtain⟨t',rfl⟩:=ry;exact PySem.EqMixed.ne_int_str (bz I q (by simp))
   | _=>exact absurd (show false=true from hs) Bool.false_ne_true
 | str i=>
   obtain⟨t,rfl⟩:=rx
   cases y with
   | non=>cases ry;exact PySem.EqNone.ne_str_none (bz I q (by simp))
   | bl j=>cases ry;exact PySem.EqMixed.ne_str_bool (bz I q (by simp))
   | int j=>obtain⟨t',rfl⟩:=ry;exact PySem.EqMixed.ne_str_int (bz I q (by simp))
   | str j=>obtain⟨t',rfl⟩:=ry;exact ne_str (bz I q (congrArg not BZ))
   | _=>exact absurd (show false=true from hs) Bool.false_ne_true
 | byt i=>
   obtain⟨t,rfl⟩:=rx
   cases y with
   | byt j=>obtain⟨t',rfl⟩:=ry;exact PySem.W.ne_bytes (bz I q (congrArg not Lf))
   | _=>exact absurd (show false=true from hs) Bool.false_ne_true
 | _=>cases y <;> exact absurd (show false=true from hs) Bool.false_ne_true
theorem uC:OpR X (compareOp .Lt) (rI0 fun i j=>.bl (decide (i<j))):=VN fun _ _ _ _ _ _ _ q=>lt_int q
theorem Xy:OpR X (compareOp .Gt) (rI0 fun i j=>.bl (decide (j<i))):=VN fun _ _ _ _ _ _ _ q=>gt_int q
theorem uD:OpR X (compareOp .GtE) (rI0 fun i j=>.bl (decide (j<=i))):=VN fun _ _ _ _ _ _ _ q=>ge_int q
theorem OpR.or{f:Value->Value->Sem Value}{r r':R2}(h:OpR X f r)(h':OpR X f r'):OpR X f (fun x y H Q=>r x y H Q\/r' x y H Q):=by
 intro pins s σ H x y v u Q I rx ry q
 rcases q with q | q
 · exact h pins s σ H x y v u Q I rx ry q
 · exact h' pins s σ H x y v u Q I rx ry q
theorem aM(b:Expr){op:CmpOp}(h:op ≠ .In:=by decide)(h2:op ≠ .NotIn:=by decide):behindInMarks op b=false:=by
 have e1:(op==CmpOp.In)=false:=by cases op <;> first | rfl | exact absurd rfl h
 have e2:(op==CmpOp.NotIn)=false:=by cases op <;> first | rfl | exact absurd rfl h2
 cases b <;> simp[behindInMarks,e1,e2]
theorem t7{op:CmpOp}{r:R2}(ho:OpR X (compareOp op) r)(ha:PE X a ta)(hb:PE X b tb)(hm:behindInMarks op b=false):PE X (.Compare a [op] [b] pos) (tOp r ta tb):=by
 intro pins s σ H Q I h;exact wpAny_Compare1 (VM ha hb I h fun v u s2 x y H2 I2 rx ry q=>ho pins s2 σ H2 x y v u Q I2 rx ry q) hm
def adR(t:TE):TT:=fun σ H Q=>t σ H fun x H'=>∃ k,x= .bl k/\Q k H'
theorem mQ{op:CmpOp}{r:R2}(ho:OpR X (compareOp op) r)(ha:PE X a ta)(hb:PE X b tb)(hm:behindInMarks op b=false):PT X (.Compare a [op] [b] pos) (adR (tOp r ta tb)):=by
 intro pins s σ H Q I h
 refine wpAny_isTrue_Compare1 (thn (ha pins s σ H _ I h) fun v s1 ⟨x,H1,I1,r1,q1⟩=>thn (hb pins s1 σ H1 _ I1 q1) fun u s2 ⟨y,H2,I2,r2,q2⟩=>
  thn (ho pins s2 σ H2 x y v u _ I2 r1 r2 q2) fun c s3 ⟨z,H3,I3,r3,k,e,q3⟩=>?_) hm
 subst e;cases r3;exact wpAny_truthy_bool ⟨H3,I3,q3⟩
def Nr(K:ak)(x:V)(H:Hp)(k:Bool):Prop:=
 match x with
 | .non=>k=false
 | .bl b=>k=b
 | .int i=>k=(i != 0)
 | .str y=>y.length<=sizeLine/\k=((y.length:Int) != 0)
 | .byt y=>y.size<=sizeLine/\k=((y.size:Int) != 0)
 | .ref p=>(∃ xs,SqL K H p xs/\k= !xs.isEmpty)\/(∃ xs,SqT K H p xs/\k= !xs.isEmpty)\/∃ kvs,H p=some (.dK kvs)/\k= !kvs.isEmpty
 | _=>False
theorem Nt{κ:Type}{kvs:List (κ × V)}{vs:List (κ × Value)}(r:KV kvs vs):(!vs.isEmpty)= !kvs.isEmpty:=by
 cases r <;> rfl
theorem zJ{xs:List V}{its:List Value}(r:Vals xs its):(!its.toArray.isEmpty)= !xs.isEmpty:=by
 cases r <;> simp
theorem wg:(sizeLine:Nat)<2 ^ 63:=by rw[sizeLine_eq];decide
theorem aba:aeE X (fun x H Q=>∃ k,Nr X.K x H k/\Q k H):=by
 intro pins s σ H x v Q I rx h;obtain⟨k,e,q⟩:=h;have hl:=wg;have hs:sizeLine=16777216:=sizeLine_eq
 cases x with
 | non=>
   cases rx;have e':k=false:=e;subst e'
   exact truthy_none ⟨H,I,q⟩
 | bl b=>
   cases rx;have e':k=b:=e;subst e'
   exact wpAny_truthy_bool ⟨H,I,q⟩
 | int i=>
   obtain⟨t,rfl⟩:=rx;have e':k=(i != 0):=e;subst e'
   exact PySem.P.truthy_int ⟨H,I,q⟩
 | str y=>
   obtain⟨t,rfl⟩:=rx;obtain⟨hy,e'⟩:y.length<=sizeLine/\k=((y.length:Int) != 0):=e;subst e'
   exact PySem.P.truthy_str (by omega) ⟨H,I.tok _,q⟩
 | byt y=>
   obtain⟨t,rfl⟩:=rx;obtain⟨hy,e'⟩:y.size<=sizeLine/\k=((y.size:Int) != 0):=e;subst e'
   exact PySem.W.truthy_bytes (by omega) ⟨H,I.tok _,q⟩
 | ref p=>
   cases rx;have e':(∃ xs,SqL X.K H p xs/\k= !xs.isEmpty)\/(∃ xs,SqT X.K H p xs/\k= !xs.isEmpty)\/∃ kvs,H p=some (.dK kvs)/\k= !kvs.isEmpty:=e
   rcases e' with ⟨xs,hx,e'⟩ | ⟨xs,hx,e'⟩ | ⟨kvs,hx,e'⟩
   · subst e';obtain⟨its,r,pl,hz⟩:=I.list hx;have hlen:=r.length;exact wpAny_truthy_list pl.isList (by simp only[List.size_toArray];omega) ⟨H,I.tok _,by rw[zJ r];exact q⟩
   · subst e';obtain⟨its,r,pl,hz⟩:=I.tuple hx;have hlen:=r.length;exact truthy_tuple pl (by simp only[List.size_toArray];omega) ⟨H,I.tok _,by rw[zJ r];exact q⟩
   · subst e';obtain⟨hz,hS,vs,r,m⟩:kvs.length<=sizeLine/\(p==sysModules)=false/\∃ vs,KV kvs vs/\s.heap.DictOf (bW X.prog X.w) p vs:=I.hok p _ hx;have hlen:kvs.length=vs.length:=Paired.length r
     exact wpAny_truthy_dict hS m (by omega) ⟨H,I.tok _,by rw[Nt r];exact q⟩
 | _=>exact(show False from e).elim
theorem HD(ha:PE X a ta)(he:∀ whole,isTrue a X.env whole=(do let v <- whole;standAt a.pos;holding [v] (truthy v))):
 PT X a (fun σ H Q=>ta σ H fun x H'=>∃ k,Nr X.K x H' k/\Q k H'):=by
 intro pins s σ H Q I h;exact isTrue_plain (thn (ha pins s σ H _ I h) fun v s1 ⟨x,H1,I1,r1,q1⟩=>aba pins s1 σ H1 x v Q I1 r1 q1) (he _)
theorem vals1{x:V}{us:List Value}(r:Vals [x] us):∃ u,us= [u]/\RelV x u:=by
 cases r with
 | cons r1 r2=>cases r2;exact⟨_,rfl,r1⟩
theorem vals2{x y:V}{us:List Value}(r:Vals [x,y] us):∃ u w',us= [u,w']/\RelV x u/\RelV y w':=by
 cases r with
 | cons r1 r2=>
   cases r2 with
   | cons r3 r4=>cases r4;exact⟨_,_,rfl,r1,r3⟩
theorem V1:jb X (.builtin "abs") (fun xs H Q=>∃ i,xs= [.int i]/\Q (.int (if i<0 then -i else i)) H):=by
 intro pins s σ H xs us Q I r h;obtain⟨i,rfl,q⟩:=h;obtain⟨u,rfl,t,rfl⟩:=vals1 r;exact call_abs_int fun u tk=>⟨.int (if i<0 then -i else i),H,I.tok _,⟨_,rfl⟩,q⟩
end
structure yG (h:Heap)(x dx C:Addr)(mA:Str->Option Value):Prop where
 obj:h.get? x=some (PySem.W.instObj C dx)
 ns:h.Ns1 dx mA
 ne:dx ≠ x
theorem Rf{h:Heap}{dx:Addr}{mA:Str->Option Value}(n:h.Ns1 dx mA):∃ od,h.get? dx=some od/\∀ name,PySem.W.lookIn name od=some (mA name):=by
 obtain⟨o,es,ep,ho,hd,hk,_,hm⟩:=n;refine⟨o,ho,fun name=>?_⟩;have e:=hm name;unfold nsFind findBy at e;rw[<- Array.find?_toList]at e;unfold PySem.W.lookIn;rw[hd];dsimp only
 split
 · rename_i y q;rw[q]at e;exact congrArg some e
 · rename_i q;rw[q]at e
   have a:es.toList.any (·.refKey)=false:=by
    rw[List.any_eq_false];intro y hy;obtain⟨z,t,hkey⟩:=hk y (Array.mem_toList_iff.mp hy);simp[DictEntry.refKey,hkey]
   have a':¬ es.toList.any (·.refKey)=true:=by rw[a];exact Bool.false_ne_true
   rw[if_neg a'];exact congrArg some e
theorem yG.look{h:Heap}{x dx C:Addr}{mA:Str->Option Value}(I:yG h x dx C mA):∃ od,PySem.W.InstAt h x (PySem.W.instObj C dx) C (some od)/\∀ name,PySem.W.lookIn name od=some (mA name):=
 let ⟨od,ho,hl⟩:=Rf I.ns
 ⟨od,⟨I.obj,rfl,rfl,ho⟩,hl⟩
section
variable{prog:Program}{w:World}{A:Around}{E:Value->Shared->Prop}{s:Shared}{K:ak}{x dx C f:Addr}{mA:Str->Option Value}{name:Str}{v:Value}
theorem get_map{expr:Bool}{Q:Value->Shared->Prop}(X:K.In s.heap)(I:yG s.heap x dx C mA)(hg:PySem.W.plainGet K C name=true)(hh:PySem.W.hasDictIn K C=true)
 (ha:PySem.W.findIn K (.ref C) name=some none) (hv:mA name=some v) (hv':PySem.W.handedIn v=true) (h:Q v { s with toks:=s.toks+1 }):
 wpAny (model prog w) A (getAttr (.ref x) name expr) Q E s:=by
 obtain⟨od,J,hl⟩:=I.look;exact PySem.W.get_value X J (PySem.W.plainGet_of hg).1 (PySem.W.findObj_own hh ha rfl (by rw[hl,hv])) hv' h
theorem V2{pl:Sem Bool}{Q:Value × List Value->Shared->Prop}(X:K.In s.heap)(I:yG s.heap x dx C mA)(hg:PySem.W.plainGet K C name=true)
 (hf:PySem.W.findIn K (.ref C) name=some (some (.ref f))) (ht:PySem.W.isFn K (.ref f)=true) (hv:mA name=none) (h:Q (.ref f,[.ref x]) s):
 wpAny (model prog w) A (getMethod (.ref x) name pl) Q E s:=by
 obtain⟨od,J,hl⟩:=I.look;exact PySem.W.method_fn X J (PySem.W.plainGet_of hg).1 (PySem.W.plainGet_of hg).2 hf (beq_iff_eq.mp ht) (by show(PySem.W.lookIn name od).map (·.isSome)=some false;rw[hl,hv];rfl) h
theorem Yv{ns:List Str}{Q:Unit->Shared->Prop}(X:K.In s.heap)(I:yG s.heap x dx C mA)
 (hs:PySem.W.findIn K (.ref C) "__setattr__" =some (some (.builtin "object.__setattr__"))) (hp:PySem.W.plainOver K C=true) (ht:PySem.W.takerIn K C name=some none) (hh:PySem.W.hasDictIn K C=true)
 (hw:PySem.Within mA ns) (hsz:ns.length<=sizeLine)
 (h:∀ h',yG h' x dx C (fun y=>if y=name then some v else mA y)->Heap.SameBut dx s.heap h'->Q () { s with heap:=h',toks:=s.toks+2 }):
 wpAny (model prog w) A (setAttr (.ref x) name v) Q E s:=by
 obtain⟨od,J,hl⟩:=I.look;refine PySem.W.set_plain X J hs (PySem.W.osa_open (s:={ s with toks:=s.toks+1 }) (r:=none) X J hp ht fun b=>?_);obtain⟨cd,hc,hd'⟩:=PySem.W.any_some hh;have hx:s.heap.get? x=some ⟨.ref C,some dx,.plain,#[]⟩:=I.obj;refine wpAny_bind (wpAny_pure (wpAny_bind (wpAny_bind (wpAny_loadPart hx (wpAny_bind (PySem.W.Looks.here (s:={ s with toks:=s.toks+1 }) (PySem.W.looks_clsIn X hc) ?_))))));rw[hd'];refine wpAny_pure (a:=some dx) (wpAny_bind (wpAny_pure (wpAny_bind ?_)));refine wpAny_nsSet1 (s:={ s with toks:=s.toks+1 }) I.ns fun h' hn2 hs2=>?_;obtain⟨oD,esD,epD,hoD,hdD,hcD⟩:=hn2.count (PySem.Within.cons name v hw);refine wpAny_bind (wpAny_lookBehind hoD (by rw[hdD];exact pastItsLine_dict (Nat.le_trans hcD (by rw[List.length_cons];omega))) ?_);exact wpAny_pure (h _ ⟨(hs2.2 _ (Ne.symm I.ne)).trans I.obj,hn2,I.ne⟩ hs2)
theorem V3{R:Result->Shared->Prop}{vs:List Value}{kw:List (Str × Value)}(X:K.In s.heap)(hm:PySem.W.makesIn K C=true)
 (hi:PySem.W.findIn K (.ref C) "__init__" =some (some (.ref f))) (hf:PySem.W.typeIn K (.ref f)=some (.type "function"))
 (h:codeAny (model prog w) (A.under (.builtin "type.__call__" ⟨.ref C::vs,kw⟩)) (.call (.ref f) ⟨.ref (s.heap.objs.size+1)::vs,kw⟩) (PySem.W.InitBack (s.heap.objs.size+1) R)
   { s with heap:=(s.heap.push PySem.W.emptyDict).push (PySem.W.instObj C s.heap.objs.size) }):
 codeAny (model prog w) A (.call (.ref C) ⟨vs,kw⟩) R s:=by
 obtain⟨hh,g,d,t,os⟩:=s;exact PySem.W.make_core (PySem.W.makes_of X hm) (PySem.W.looks_findIn X hi) (fun self=>PySem.W.bind_fn X self hf) (.inl rfl) h
end
def jc(f:Str)(v:V):List (Str × V)->List (Str × V)
 | []=>[(f,v)]
 | (g,x)::r=>if g=f then(g,v)::r else(g,x)::jc f v r
theorem yt(f g:Str)(v:V):∀ fs:List (Str × V),(jc f v fs).lookup g=if g=f then some v else fs.lookup g
 | []=>by
   show List.lookup g [(f,v)] =_
   by_cases h:g=f
   · have hb:(g==f)=true:=beq_iff_eq.mpr h;simp only[List.lookup,hb,if_pos h]
   · have hb:(g==f)=false:=beq_eq_false_iff_ne.mpr h
     simp only[List.lookup,hb,if_neg h]
 | (k,x)::r=>by
   have ih:=yt f g v r;rw[show jc f v ((k,x)::r)=(if k=f then(k,v)::r else(k,x)::jc f v r) from rfl]
   by_cases hk:k=f
   · rw[if_pos hk]
     by_cases h:g=k
     · have hb:(g==k)=true:=beq_iff_eq.mpr h;simp only[List.lookup,hb,if_pos (h.trans hk)]
     · have hb:(g==k)=false:=beq_eq_false_iff_ne.mpr h;simp only[List.lookup,hb,if_neg (fun e:g=f=>h (e.trans hk.symm))]
   · rw[if_neg hk]
     by_cases h:g=k
     · have hb:(g==k)=true:=beq_iff_eq.mpr h;simp only[List.lookup,hb,if_neg (fun e:g=f=>hk (h.symm.trans e))]
     · have hb:(g==k)=false:=beq_eq_false_iff_ne.mpr h;simp only[List.lookup,hb];exact ih
theorem wj(f:Str)(v:V):∀ fs:List (Str × V),f ∈ (jc f v fs).map (·.1)/\∀ g,g ∈ fs.map (·.1)->g ∈ (jc f v fs).map (·.1)
 | []=>⟨by simp[jc],fun g h=>by simp at h⟩
 | (k,x)::r=>by
   obtain⟨i1,i2⟩:=wj f v r;rw[show jc f v ((k,x)::r)=(if k=f then(k,v)::r else(k,x)::jc f v r) from rfl]
   by_cases hk:k=f
   · rw[if_pos hk];subst hk;exact⟨by simp,fun g h=>by simpa using h⟩
   · rw[if_neg hk];refine⟨?_,fun g h=>?_⟩
     · rw[List.map_cons];exact List.mem_cons_of_mem _ i1
     · rw[List.map_cons]at h ⊢
       rcases List.mem_cons.mp h with e | e
       · exact List.mem_cons.mpr (.inl e)
       · exact List.mem_cons_of_mem _ (i2 g e)
theorem yu(f:Str)(v:V):∀ fs:List (Str × V),(jc f v fs).length<=fs.length+1
 | []=>by simp[jc]
 | (k,x)::r=>by
   have ih:=yu f v r;rw[show jc f v ((k,x)::r)=(if k=f then(k,v)::r else(k,x)::jc f v r) from rfl]
   by_cases hk:k=f
   · rw[if_pos hk,List.length_cons,List.length_cons];omega
   · rw[if_neg hk,List.length_cons,List.length_cons];omega
theorem jP.some_of{v:V}{o:Option Value}(r:jP (some v) o):∃ u,o=some u/\RelV v u:=by
 cases o with
 | none=>exact(show False from r).elim
 | some u=>exact⟨u,rfl,r⟩
theorem jP.none_of{o:Option Value}(r:jP none o):o=none:=by
 cases o with
 | none=>rfl
 | some u=>exact(show False from r).elim
theorem Ek{v:V}{u:Value}(r:RelV v u):PySem.W.handedIn u=true:=by
 cases v with
 | non=>cases (show u=Value.none from r);rfl
 | bl b=>cases (show u=Value.bool b from r);rfl
 | int i=>obtain⟨t,e⟩:=(show ∃ t,u=Value.int i t from r);cases e;rfl
 | str x=>obtain⟨t,e⟩:=(show ∃ t,u=Value.str x t from r);cases e;rfl
 | byt b=>obtain⟨t,e⟩:=(show ∃ t,u=Value.bytes b t from r);cases e;rfl
 | flt b=>obtain⟨t,e⟩:=(show ∃ t,u=Value.float b t from r);cases e;rfl
 | ref a=>cases (show u=Value.ref a from r);rfl
 | ty n=>cases (show u=Value.type n from r);rfl
section
variable{P:Program}{w:World}{H H':Hp}{h h':Heap}{a C dx:Addr}{fs fs':List (Str × V)}
theorem xN(hok:HOk P w H h)(e:H a=some (.ins C dx fs)):∃ mA,yG h a dx C mA/\(∀ f,jP (fs.lookup f) (mA f))/\PySem.Within mA (fs.map (·.1))/\fs.length<=1000/\H dx=some (.own a):=by
 obtain⟨d,z,ne,ob,mA,n,r,q⟩:=(show bA P w H h a (.ins C dx fs) from hok a _ e);exact⟨mA,⟨ob,n,ne⟩,r,q,z,d⟩
end
structure Cls (K:ak)(C:Addr):Prop where
 pg:PySem.W.plainGet K C Str.empty=true
 hd:PySem.W.hasDictIn K C=true
 po:PySem.W.plainOver K C=true
 sa:PySem.W.findIn K (.ref C) "__setattr__" =some (some (.builtin "object.__setattr__"))
theorem Cls.get{K:ak}{C:Addr}(c:Cls K C)(f:Str):PySem.W.plainGet K C f=true:=c.pg
def bM(K:ak)(C:Addr)(f:Str):Prop:=PySem.W.findIn K (.ref C) f=some none
theorem bM.taker{K:ak}{C:Addr}{f:Str}(n:bM K C f):PySem.W.takerIn K C f=some none:=by
 unfold PySem.W.takerIn;rw[show PySem.W.findIn K (.ref C) f=some none from n];rfl
structure Con (K:ak)(C:Addr)(f:Str)(v:V)(u:Value):Prop where
 at_:PySem.W.findIn K (.ref C) f=some (some u)
 rel:RelV v u
 get:PySem.W.specialIn K u "__get__" =some none
 cp:PySem.W.copiedNames.contains f=false
structure Meth (K:ak)(C:Addr)(m:Str)(f:Addr):Prop where
 at_:PySem.W.findIn K (.ref C) m=some (some (.ref f))
 fn:PySem.W.isFn K (.ref f)=true
 kp:PySem.W.keepIn K (.ref f)=true
section
variable{X:Cx}{pins:List (Addr × Obj)}{σ:St}{H:Hp}{s:Shared}{a C dx:Addr}{fs:List (Str × V)}{f:Str}{v:V}{A:Around}{E:Value->Shared->Prop}
theorem Nu{b:Bool}{Q:Value->Shared->Prop}(I:Inv X pins σ H s)(e:H a=some (.ins C dx fs))(c:Cls X.K C)(n:bM X.K C f)(l:fs.lookup f=some v)
 (h:∀ u s',Inv X pins σ H s'->RelV v u->Q u s'):wpAny (model X.prog X.w) A (getAttr (.ref a) f b) Q E s:=by
 obtain⟨mA,O,r,_,_,_⟩:=xN I.hok e;obtain⟨u,hu,ru⟩:=jP.some_of (v:=v) (o:=mA f) (by rw[<- l];exact r f);exact get_map I.kIn O (c.get f) c.hd n hu (Ek ru) (h u _ (I.tok _) ru)
theorem zK{m:Str}{g:Addr}{pl:Sem Bool}{Q:Value × List Value->Shared->Prop}(I:Inv X pins σ H s)(e:H a=some (.ins C dx fs))(c:Cls X.K C)(k:Meth X.K C m g)(l:fs.lookup m=none)
 (h:Q (.ref g,[.ref a]) s):wpAny (model X.prog X.w) A (getMethod (.ref a) m pl) Q E s:=by
 obtain⟨mA,O,r,_,_,_⟩:=xN I.hok e;have hn:mA m=none:=jP.none_of (by rw[<- l];exact r m);exact V2 I.kIn O (c.get m) k.at_ k.fn hn h
theorem Nv{y:V}{u:Value}{Q:Unit->Shared->Prop}(I:Inv X pins σ H s)(e:H a=some (.ins C dx fs))(c:Cls X.K C)(n:bM X.K C f)(hl:fs.length<1000)(ry:RelV y u)
 (h:∀ s',Inv X pins σ (upd H a (.ins C dx (jc f y fs))) s'->Q () s'):wpAny (model X.prog X.w) A (setAttr (.ref a) f u) Q E s:=by
 obtain⟨mA,O,r,wi,_,ho⟩:=xN I.hok e;have hz:(fs.map (·.1)).length<=sizeLine:=by rw[List.length_map,sizeLine_eq];omega
 refine Yv I.kIn O c.sa c.po n.taker c.hd wi hz fun h' O' sb=>h _ ?_;have hd:∃ o,h'.get? dx=some o:=let ⟨o,_,_,e',_⟩:=O'.ns;⟨o,e'⟩;refine I.write (x:=a) (e:=dx) (by rw[e];exact True.intro) (.inr ho) (fun b q hb z=>(sb.2 b hb).trans z) hd ?_;refine⟨by rw[aB O.ne];exact ho,?_,O.ne,O'.obj,_,O'.ns,fun g=>?_,fun g hg=>?_⟩
 · have:=yu f y fs;omega
 · show jP ((jc f y fs).lookup g) (if g=f then some u else mA g);rw[yt]
   by_cases q:g=f
   · rw[if_pos q,if_pos q];exact ry
   · rw[if_neg q,if_neg q];exact r g
 · by_cases q:g=f
   · rw[q];exact(wj f y fs).1
   · refine(wj f y fs).2 g (wi g fun z=>hg ?_);show(if g=f then some u else mA g)=none;rw[if_neg q];exact z
theorem Inv.made(I:Inv X pins σ H s):Inv X pins σ (upd (upd H s.heap.objs.size (.own (s.heap.objs.size+1))) (s.heap.objs.size+1) (.ins C s.heap.objs.size []))
 { s with heap:=(s.heap.push PySem.W.emptyDict).push (PySem.W.instObj C s.heap.objs.size) }:=by
 have e1:(s.heap.push PySem.W.emptyDict).get? s.heap.objs.size=some PySem.W.emptyDict:=Heap.get?_push_size s.heap rfl
 have e2:((s.heap.push PySem.W.emptyDict).push (PySem.W.instObj C s.heap.objs.size)).get? (s.heap.objs.size+1)=some (PySem.W.instObj C s.heap.objs.size):=by
  have:=Heap.get?_push_size (s.heap.push PySem.W.emptyDict) (o:=PySem.W.instObj C s.heap.objs.size) rfl
  rwa[Heap.size_push]at this
 have e3:(s.heap.push PySem.W.emptyDict).Ns s.heap.objs.size (fun _=>none):=⟨PySem.W.emptyDict,#[],_,e1,rfl,(fun e he=>absurd he (by simp)),fun _=>rfl⟩;have I1:=I.laid (a:=s.heap.objs.size) (o:=.own (s.heap.objs.size+1)) (h':=s.heap.push PySem.W.emptyDict) (t':=s.toks) (fun b u q=>Heap.get?_push_of_some _ q) (aH _) ⟨_,e1⟩;refine I1.laid (a:=s.heap.objs.size+1) (o:=.ins C s.heap.objs.size []) (t':=s.toks) (fun b u q=>Heap.get?_push_of_some _ q) (Nat.le_of_eq (Heap.size_push _ _)) ?_;have ne:s.heap.objs.size ≠ s.heap.objs.size+1:=Nat.ne_of_lt (Nat.lt_succ_self _);refine⟨by rw[aB ne,az],Nat.zero_le _,ne,e2,fun _=>none,(Heap.Ns1.of_empty e3).at fun o q=>Heap.get?_push_of_some _ q,fun _=>True.intro,fun y hy=>absurd rfl hy⟩
theorem Lg{prog:Program}{w:World}{env:Env}{e:Expr}{f:Str}{pos:Pos}{s:Shared}{Q:Value->Shared->Prop}(hb:attributeBase e f env (eval e env)=eval e env)
 (h:wpAny (model prog w) A (eval e env) (fun o s₁=>wpAny (model prog w) A (getAttr o f true) Q E s₁) E s):wpAny (model prog w) A (eval (.Attribute e f pos) env) Q E s:=
 Attribute_any_ h (by rw[arm_eval_Attribute,hb])
end
def abb(K:ak)(ta:TE)(f:Str):TE:=fun σ H Q=>ta σ H fun x H1=>∃ a C dx fs v,x= .ref a/\H1 a=some (.ins C dx fs)/\Cls K C/\bM K C f/\fs.lookup f=some v/\Q v H1
def aeF(K:ak)(ta tv:TE)(f:Str):TS:=fun D σ H=>tv σ H fun y H1=>ta σ H1 fun x H2=>∃ a C dx fs,x= .ref a/\H2 a=some (.ins C dx fs)/\Cls K C/\bM K C f/\fs.length<1000/\
 D.nx σ (upd H2 a (.ins C dx (jc f y fs)))
section
variable{X:Cx}{o e value:Expr}{f:Str}{pos pos' tpos:Pos}{ta tv:TE}
theorem abd(he:PE X e ta)(hb:attributeBase e f X.env (eval e X.env)=eval e X.env):PE X (.Attribute e f pos) (abb X.K ta f):=by
 intro pins s σ H Q I h;refine Lg hb (thn (he pins s σ H _ I h) fun u s1 ⟨x,H1,I1,rx,a,C,dx,fs,v,ex,ea,c,n,l,q⟩=>?_);subst ex;obtain rfl:u=Value.ref a:=rx;exact Nu I1 ea c n l fun u' s2 I2 ru=>⟨v,H1,I2,ru,q⟩
theorem abe(ha:PE X o ta)(hv:PE X value tv)(hs:swapsWith value (some (.Attribute o f pos')) pos.line X.env=pure false):PS X (.Assign [.Attribute o f pos'] value pos) (aeF X.K ta tv f):=by
 intro pins s σ H D I h;refine plainObj_wpAny_Assign_Attribute (thn (hv pins s σ H _ I h) fun u s1 ⟨y,H1,I1,ry,q⟩=>thn (ha pins s1 σ H1 _ I1 q) fun ov s2 ⟨x,H2,I2,rx,a,C,dx,fs,ex,ea,c,n,l,q2⟩=>?_) hs;subst ex;obtain rfl:ov=Value.ref a:=rx;exact Nv I2 ea c n l ry fun s3 I3=>⟨σ,_,I3,q2⟩
end
section
variable{X:Cx}{pins:List (Addr × Obj)}{σ:St}{H:Hp}{s:Shared}{A:Around}{E:Value->Shared->Prop}{Q:Value->Shared->Prop}{c:Value}{b:Bool}
inductive nA (K:ak)(H:Hp):V->Value->Prop where
 | non:nA K H .non (.type "NoneType")
 | bl (x:Bool):nA K H (.bl x) (.type "bool")
 | int (i:Int):nA K H (.int i) (.type "int")
 | str (x:Str):nA K H (.str x) (.type "str")
 | flt (x:UInt64):nA K H (.flt x) (.type "float")
 | lst {a:Addr} {xs:List V} (e:H a=some (.lst xs)):nA K H (.ref a) (.type "list")
 | frz {a:Addr} {o:Obj} {xs:List V} (e:H a=some (.frz o (.lst xs))):nA K H (.ref a) (.type "list")
 | tup {a:Addr} {xs:List V} (e:H a=some (.tup xs)):nA K H (.ref a) (.type "tuple")
 | dK {a:Addr} {kvs:List (Key × V)} (e:H a=some (.dK kvs)):nA K H (.ref a) (.type "dict")
 | dT {a:Addr} {kvs:List (List Key × V)} (e:H a=some (.dT kvs)):nA K H (.ref a) (.type "dict")
 | ins {a C dx:Addr} {fs:List (Str × V)} (e:H a=some (.ins C dx fs)) (cl:Cls K C) (ha:PySem.W.findIn K (.ref C) "__class__" =some (some (.builtin "object.__class__")))
    (hn:PySem.W.specialIn K (.builtin "object.__class__") "__get__" =some (some (.builtin "getset_descriptor.__get__"))) (htk:PySem.W.takesIn K (.builtin "object.__class__")=some true)
    (hm:PySem.W.mroIn K C (.type "object")=some true):nA K H (.ref a) (.ref C)
theorem Rg{x:V}{u t:Value}(I:Inv X pins σ H s)(rx:RelV x u)(ty:nA X.K H x t)(e:PySem.W.kitOne X.K t c=some b)(h:∀ tk,Q (.bool b) { s with toks:=tk }):
 wpAny (model X.prog X.w) A (call (.builtin "isinstance") [u,c]) Q E s:=by
 cases ty with
 | non=>cases (show u=Value.none from rx);exact PySem.W.kia_one PySem.W.kitx_none I.kIn True.intro e (fun z=>nomatch z) h
 | bl y=>cases (show u=Value.bool y from rx);exact PySem.W.kia_one PySem.W.kitx_bool I.kIn True.intro e (fun z=>nomatch z) h
 | int i=>obtain⟨t,q⟩:=(show ∃ t,u=Value.int i t from rx);cases q;exact PySem.W.kia_one PySem.W.kitx_int I.kIn True.intro e (fun z=>nomatch z) h
 | str y=>obtain⟨t,q⟩:=(show ∃ t,u=Value.str y t from rx);cases q;exact PySem.W.kia_one PySem.W.kitx_str I.kIn True.intro e (fun z=>nomatch z) h
 | flt y=>obtain⟨t,q⟩:=(show ∃ t,u=Value.float y t from rx);cases q;exact PySem.W.kia_one PySem.W.kitx_float I.kIn True.intro e (fun z=>nomatch z) h
 | @lst a xs ea=>
   cases (show u=Value.ref a from rx);obtain⟨_,_,n,_,h1⟩:=(show bA X.prog X.w H s.heap a (.lst xs) from I.hok a _ ea)
   exact PySem.W.kia_one PySem.W.kitx_list I.kIn ⟨_,h1,rfl⟩ e (fun z=>nomatch z) h
 | @frz a ob xs ea=>
   cases (show u=Value.ref a from rx);obtain⟨_,_,_,n,_,h1⟩:=(show bA X.prog X.w H s.heap a (.frz ob (.lst xs)) from I.hok a _ ea)
   exact PySem.W.kia_one PySem.W.kitx_list I.kIn ⟨_,h1,rfl⟩ e (fun z=>nomatch z) h
 | @tup a xs ea=>
   cases (show u=Value.ref a from rx);obtain⟨_,_,_,p⟩:=(show bA X.prog X.w H s.heap a (.tup xs) from I.hok a _ ea);obtain⟨o,h1,h2,_⟩:=p
   exact PySem.W.kia_one PySem.W.kitx_tuple I.kIn ⟨o,h1,h2⟩ e (fun z=>nomatch z) h
 | @dK a kvs ea=>
   cases (show u=Value.ref a from rx);obtain⟨_,_,vs,_,p⟩:=(show bA X.prog X.w H s.heap a (.dK kvs) from I.hok a _ ea);obtain⟨o,es,ep,h1,h2,_⟩:=p
   exact PySem.W.kia_one PySem.W.kitx_dict I.kIn ⟨o,h1,h2.1⟩ e (fun z=>nomatch z) h
 | @dT a kvs ea=>
   cases (show u=Value.ref a from rx);obtain⟨_,_,xs,_,o,es,ep,h1,h2,_⟩:=(show bA X.prog X.w H s.heap a (.dT kvs) from I.hok a _ ea)
   exact PySem.W.kia_one PySem.W.kitx_dict I.kIn ⟨o,h1,h2.1⟩ e (fun z=>nomatch z) h
 | @ins a C dx fs ea cl ha hn htk hm=>
   cases (show u=Value.ref a from rx);obtain⟨mA,O,_⟩:=xN I.hok ea;obtain⟨od,J,_⟩:=O.look;exact PySem.W.kia_one (PySem.W.kitx_own (cl.get _) cl.hd ha hn htk hm) I.kIn J e (fun z=>nomatch z) h
end
structure aX (k:Nat)(A:Around):Prop where
 hd:A.handled=none
 dp:A.depth+3*k+5<recursionLimit
 un:A.units+16*k+200<cLine
theorem aX.mono{j k:Nat}{A:Around}(r:aX k A)(h:j<=k):aX j A:=⟨r.hd,by have:=r.dp;omega,by have:=r.un;omega⟩
theorem aX.deeper{k:Nat}{A:Around}(r:aX (k+1) A)(env:Env):aX k (A.deeper env):=
 ⟨r.hd,by have:=r.dp;show A.depth+1+3*k+5<_;omega,by have:=r.un;show A.units+3+16*k+200<_;omega⟩
theorem Nx{A:Around}{C:Addr}{us:List Value}{kw:List (Str × Value)}:(A.under (.builtin "type.__call__" ⟨.ref C::us,kw⟩)).depth=A.depth+1:=by
 first | rfl | simp[Around.under,Code.weight,Code.isCreation,Code.isGuard,Code.isCaller,Code.frames,Code.isFrame,guardIds]
theorem Ny{A:Around}{C:Addr}{us:List Value}{kw:List (Str × Value)}:(A.under (.builtin "type.__call__" ⟨.ref C::us,kw⟩)).units=A.units+1:=by
 first | rfl | simp[Around.under,Code.cUnits,Code.frames,Code.isFrame]
theorem aX.make{k:Nat}{A:Around}(r:aX (k+1) A)(C:Addr)(us:List Value)(kw:List (Str × Value)):aX k (A.under (.builtin "type.__call__" ⟨.ref C::us,kw⟩)):=
 ⟨r.hd,by have:=r.dp;rw[Nx];omega,by have:=r.un;rw[Ny];omega⟩
theorem aX.depth{k:Nat}{A:Around}(r:aX k A):A.depth<recursionLimit:=by have:=r.dp;omega
theorem aX.units{k:Nat}{A:Around}(r:aX k A):A.units+64<cLine:=by have:=r.un;omega
theorem aX.t8{k:Nat}{A:Around}(r:aX k A):A.units<cLine:=by have:=r.un;omega
def Nz:TA:=fun _ H Q=>Q [] H
def adS(ta:TE)(tr:TA):TA:=fun σ H Q=>ta σ H fun x H1=>tr σ H1 fun xs H2=>Q (x::xs) H2
section
variable{X:Cx}{e:Expr}{es:List Expr}{te:TE}{t:TA}{pos:Pos}
theorem aD:PA X [] Nz:=fun _ _ _ _ H Q I h=>Calls.spliced_nil ⟨[],H,I,.nil,h⟩
theorem aq(ha:PE X e te)(hr:PA X es t)(hs:starEach (e::es) X.env=(false,eval e X.env)::starEach es X.env:=by rfl):PA X (e::es) (adS te t):=by
 intro pos pins s σ H Q I h;rw[hs];show wpAny _ _ (spliced ((false,eval e X.env)::backTo pos (starEach es X.env))) _ _ s;refine Calls.spliced_cons (thn (ha pins s σ H _ I h) fun u s1 ⟨x,H1,I1,r1,q1⟩=>?_);exact thn (hr pos pins s1 σ H1 _ I1 q1) fun us s2 ⟨xs,H2,I2,r2,q2⟩=>⟨x::xs,H2,I2,.cons r1 r2,q2⟩
def aeG(t:TA):TE:=fun σ H Q=>t σ H fun xs H1=>xs.length<=sizeLine/\∀ p,H1 p=none->Q (.ref p) (upd H1 p (.tup xs))
def aeH(t:TA):TE:=fun σ H Q=>t σ H fun xs H1=>xs.length<=sizeLine/\∀ p,H1 p=none->Q (.ref p) (upd H1 p (.lst xs))
theorem t_{x1}(h:PA X es t):PE X (.Tuple es x1 pos) (aeG t):=by
 intro pins s σ H Q I hq;refine wpAny_Tuple_spliced (thn (h pos pins s σ H _ I hq) fun us s1 ⟨xs,H1,I1,r,z,q⟩=>⟨by rw[<- r.length];exact z,?_⟩);have hf:H1 s1.heap.objs.size=none:=I1.hok.fresh (aH _);refine⟨.ref s1.heap.objs.size,upd H1 s1.heap.objs.size (.tup xs),I1.laid (t':=s1.toks) (fun b u e=>Heap.get?_push_of_some _ e) (aH _) ?_,rfl,q _ hf⟩;exact⟨z,us,r,⟨_,Heap.get?_push_size _ rfl,rfl,_,rfl⟩⟩
theorem qP(h:PA X es t):PE X (.List es pos) (aeH t):=by
 intro pins s σ H Q I hq;refine wpAny_List_spliced (thn (h pos pins s σ H _ I hq) fun us s1 ⟨xs,H1,I1,r,z,q⟩=>⟨by rw[<- r.length];exact z,?_⟩);have hf:H1 s1.heap.objs.size=none:=I1.hok.fresh (aH _);refine⟨.ref s1.heap.objs.size,upd H1 s1.heap.objs.size (.lst xs),I1.laid (t':=s1.toks) (fun b u e=>Heap.get?_push_of_some _ e) (aH _) ?_,rfl,q _ hf⟩;exact⟨z,us,0,r,Heap.get?_push_size _ rfl⟩
end
abbrev Sp:=List V->Hp->VK->XK->Prop
abbrev CXT:=List Env->Hp->Shared->XK->Value->Shared->Prop
structure wu (P:Program)(w:World)(K:ak)(mg:Str->Option Value)(base:Heap)(A:Around)(outer:List Env)(s:Shared)(H:Hp):Prop where
 frames:A.frames=some outer
 mod:Mod K mg base
 bs:∀ b o,base.get? b=some o->s.heap.get? b=some o/\H b=none
 bsz:base.objs.size<=s.heap.objs.size
 jT:s.heap.FunFrames base outer
 frf:∀ b ∈ frs outer,H b=none
 hok:HOk P w H s.heap
 bare:AllBare s.gens
def CE(outer:List Env)(P:Program)(w:World)(H:Hp)(s:Shared)(Q:VK)(u:Value)(s':Shared):Prop:=
 ∃ v H',s'.os=s.os/\AllBare s'.gens/\Un (frs outer) [] H H' s.heap s'.heap/\HOk P w H' s'.heap/\RelV v u/\Q v H'
def CR(CX:CXT)(outer:List Env)(P:Program)(w:World)(H:Hp)(s:Shared)(Q:VK)(E:XK)(r:Result)(s':Shared):Prop:=
 match r with
 | .ok (.ret u)=>CE outer P w H s Q u s'
 | .ok _=>False
 | .error e=>CX outer H s E e s'
structure aP (P:Program)(w:World)(K:ak)(mg:Str->Option Value)(base:Heap)(CX:CXT)(k:Nat)(f:Addr)(fd:FuncData)(ps:List Str)(sp:Sp):Prop where
 len:∀ vs H Q E,sp vs H Q E->vs.length=ps.length
 run:∀(A:Around) (outer:List Env) (s:Shared) (H:Hp) (args:Args) (us:List Value) (vs:List V) (Q:VK) (E:XK),aX k A->wu P w K mg base A outer s H->BindsTo s fd args (ps.zip us)->Vals vs us->sp vs H Q E->
  codeAny (model P w) A (.call (.ref f) args) (CR CX outer P w H s Q E) s
theorem aP.mono{P:Program}{w:World}{K:ak}{mg:Str->Option Value}{base:Heap}{CX:CXT}{j k:Nat}{f:Addr}{fd:FuncData}{ps:List Str}{sp:Sp}(F:aP P w K mg base CX j f fd ps sp)(h:j<=k):
 aP P w K mg base CX k f fd ps sp:=⟨F.len,fun A outer s H args us vs Q E hr=>F.run A outer s H args us vs Q E (hr.mono h)⟩
theorem wu.make{P:Program}{w:World}{K:ak}{mg:Str->Option Value}{base:Heap}{A:Around}{outer:List Env}{s:Shared}{H:Hp}(e:wu P w K mg base A outer s H)(C:Addr)(us:List Value)(kw:List (Str × Value)):
 wu P w K mg base (A.under (.builtin "type.__call__" ⟨.ref C::us,kw⟩)) outer s H:=⟨by first | exact e.frames | (simpa [Around.under,Code.envs,Code.isFrame,pushEnvs] using e.frames),e.mod,e.bs,e.bsz,e.jT,e.frf,e.hok,e.bare⟩
section
variable{X:Cx}{pins:List (Addr × Obj)}{σ:St}{H:Hp}{s s':Shared}
theorem Inv.env0(I:Inv X pins σ H s):wu X.prog X.w X.K X.mg X.base X.A X.stack s H:=
 ⟨I.ok.frames,I.ok.mod,I.bs,Nat.le_trans I.ok.bsz I.sz,I.stack,I.oH,I.hok,I.bare⟩
theorem Inv.after{Q:VK}{u:Value}(I:Inv X pins σ H s)(h:CE X.stack X.prog X.w H s Q u s'):EP X pins σ Q u s':=by
 obtain⟨v,H',os,bare,un,hok,r,q⟩:=h;obtain⟨hh,g,d,t,os'⟩:=s';obtain rfl:os'=s.os:=os;exact⟨v,H',I.call (h':=hh) (g':=g) (d':=d) (t':=t) (ch:=[]) un hok bare (fun b z=>absurd z (by simp)),r,q⟩
end
def zL(sp:Sp)(dvs:List V)(E:XK)(t:TA):TE:=fun σ H Q=>t σ H fun vs H1=>sp (vs++dvs) H1 Q E
def NB(C:Addr)(m:Str)(sp:Sp)(dvs:List V)(E:XK)(ta:TE)(t:TA):TE:=fun σ H Q=>ta σ H fun x H1=>∃ a dx fs,x= .ref a/\H1 a=some (.ins C dx fs)/\fs.lookup m=none/\
 t σ H1 fun vs H2=>sp (x::(vs++dvs)) H2 Q E
def Xz(C:Addr)(sp:Sp)(dvs:List V)(E:XK)(t:TA):TE:=fun σ H Q=>t σ H fun vs H1=>∀ x dx,H1 x=none->H1 dx=none->dx ≠ x->
 sp (.ref x::(vs++dvs)) (upd (upd H1 dx (.own x)) x (.ins C dx [])) (fun v H2=>v= .non/\Q (.ref x) H2) E
def Binds(K:ak)(fd:FuncData)(ps:List Str)(ds:List Value):Prop:=
 ∀(s:Shared) (us:List Value),K.In s.heap->(us++ds).length=ps.length->BindsTo s fd ⟨us,[]⟩ (ps.zip (us++ds))
theorem Binds.all{K:ak}{fd:FuncData}{ps:List Str}(h:∀ us:List Value,us.length=ps.length->bindArgs fd ⟨us,[]⟩ =pure (ps.zip us)):Binds K fd ps []:=fun s us _ hl=>by
 rw[List.append_nil]at hl ⊢;exact .of_eq (h us hl)
def Passes(CX:CXT)(X:Cx)(E:XK):Prop:=∀(pins:List (Addr × Obj)) (σ:St) (H:Hp) (s:Shared) (e:Value) (s':Shared),Inv X pins σ H s->CX X.stack H s E e s'->X.xe e s'
section
variable{X:Cx}{CX:CXT}{k:Nat}{f C:Addr}{fd:FuncData}{ps:List Str}{sp:Sp}{dvs:List V}{ds:List Value}{E:XK}{x m:Str}{p pos apos:Pos}{e o:Expr}{es:List Expr}{ta:TE}{t:TA}
theorem zM{pins:List (Addr × Obj)}{σ:St}{H:Hp}{s:Shared}{Q:VK}{us:List Value}{vs:List V}(F:aP X.prog X.w X.K X.mg X.base CX k f fd ps sp)(hr:aX k X.A)(hb:Binds X.K fd ps ds)(hd:Vals dvs ds)(hx:Passes CX X E)
 (I:Inv X pins σ H s) (r:Vals vs us) (h:sp (vs++dvs) H Q E):wpAny (model X.prog X.w) X.A (call (.ref f) us) (EP X pins σ Q) X.xe s:=by
 have r2:Vals (vs++dvs) (us++ds):=r.append hd;have hl:(us++ds).length=ps.length:=by rw[<- r2.length];exact F.len _ _ _ _ h
 refine wpAny_call (codeAny_mono (F.run X.A X.stack s H ⟨us,[]⟩ (us++ds) (vs++dvs) Q E hr I.env0 (hb s us I.kIn hl) r2 h) fun r s' hq=>?_)
 cases r with
 | error e=>exact hx pins σ H s e s' I hq
 | ok fl=>
   cases fl with
   | ret u=>exact I.after hq
   | next=>exact False.elim hq
   | brk=>exact False.elim hq
   | cont=>exact False.elim hq
theorem xO(F:aP X.prog X.w X.K X.mg X.base CX k f fd ps sp)(hr:aX k X.A)(hg:Gl X x)(hm:X.mg x=some (.ref f))(hk:PySem.W.keepIn X.K (.ref f)=true)(hb:Binds X.K fd ps ds)(hd:Vals dvs ds)(hx:Passes CX X E)
 (ha:PA X (e::es) t) (hdb:(x==("__debug__":Str))=false:=by decide) (he:starEach (e::es) X.env=(false,eval e X.env)::starEach es X.env:=by rfl) (hpl:(backTo pos (starEach es X.env)).any (·.1)=false:=by rfl):
 PE X (.Call (.Name x p) (e::es) [] pos) (zL sp dvs E t):=by
 intro pins s σ H Q I h;refine wpAny_Call_Name_kw (kE I hg hm ?_ hdb);refine PySem.W.callWith_K (h₀:=X.base) I.ok.mod.kin hk (thn (ha pos pins s σ H _ I h) fun us s1 ⟨vs,H1,I1,r,q⟩=>⟨I1.kIn,?_⟩) he hpl;exact zM F hr hb hd hx I1 r q
theorem Yw{pl:Sem Bool}(he:PE X o ta)(c:Cls X.K C)(hm:Meth X.K C m f)(F:aP X.prog X.w X.K X.mg X.base CX k f fd ps sp)(hr:aX k X.A)(hb:Binds X.K fd ps ds)(hd:Vals dvs ds)(hx:Passes CX X E)(ha:PA X (e::es) t)
 (hst:starEach (e::es) X.env=(false,eval e X.env)::starEach es X.env:=by rfl) (hpl:(backTo pos (starEach es X.env)).any (·.1)=false:=by rfl)
 (ht:eval (.Call (.Attribute o m apos) (e::es) [] pos) X.env=(do
   let ov <- eval o X.env
   standAt apos.atName
   let (f,first) <- holding [ov] (getMethod ov m pl)
   callWith pos f first (backTo pos (starEach (e::es) X.env)) (backToKw pos (keywordEach [] X.env))):=by rfl):
 PE X (.Call (.Attribute o m apos) (e::es) [] pos) (NB C m sp dvs E ta t):=by
 intro pins s σ H Q I h;refine PySem.W.methodCall_KW (pl:=pl) (thn (he pins s σ H _ I h) fun u s1 ⟨x,H1,I1,rx,a,dx,fs,ex,ea,l,q⟩=>?_) ht;subst ex;obtain rfl:u=Value.ref a:=rx;refine zK I1 ea c hm l ?_;refine PySem.W.callWith_K (first:=[.ref a]) (h₀:=X.base) I.ok.mod.kin hm.kp (thn (ha pos pins s1 σ H1 _ I1 q) fun us s2 ⟨vs,H2,I2,r,q2⟩=>⟨I2.kIn,?_⟩) hst hpl;exact zM (us:=.ref a::us) (vs:=.ref a::vs) F hr hb hd hx I2 (.cons rfl r) q2
theorem V4{pl:Sem Bool}(he:PE X o ta)(c:Cls X.K C)(hm:Meth X.K C m f)(F:aP X.prog X.w X.K X.mg X.base CX k f fd ps sp)(hr:aX k X.A)(hb:Binds X.K fd ps ds)(hd:Vals dvs ds)(hx:Passes CX X E)
 (ht:eval (.Call (.Attribute o m apos) [] [] pos) X.env=(do
   let ov <- eval o X.env
   standAt apos.atName
   let (f,first) <- holding [ov] (getMethod ov m pl)
   callWith pos f first (backTo pos (starEach [] X.env)) (backToKw pos (keywordEach [] X.env))):=by rfl):
 PE X (.Call (.Attribute o m apos) [] [] pos) (NB C m sp dvs E ta Nz):=by
 intro pins s σ H Q I h;refine PySem.W.methodCall_KW (pl:=pl) (thn (he pins s σ H _ I h) fun u s1 ⟨x,H1,I1,rx,a,dx,fs,ex,ea,l,q⟩=>?_) ht;subst ex;obtain rfl:u=Value.ref a:=rx;refine zK I1 ea c hm l ?_;exact PySem.W.callWith_K0 (first:=[.ref a]) I1.kIn hm.kp (zM (us:=[.ref a]) (vs:=[.ref a]) F hr hb hd hx I1 (.cons rfl .nil) q)
structure Mk (K:ak)(C f:Addr):Prop where
 makes:PySem.W.makesIn K C=true
 init:PySem.W.findIn K (.ref C) "__init__" =some (some (.ref f))
 fn:PySem.W.isFn K (.ref f)=true
 kp:PySem.W.keepIn K (.ref C)=true
theorem V5{pins:List (Addr × Obj)}{σ:St}{H:Hp}{s:Shared}{Q:VK}{us:List Value}{vs:List V}(M:Mk X.K C f)(F:aP X.prog X.w X.K X.mg X.base CX k f fd ps sp)(hr:aX (k+1) X.A)(hb:Binds X.K fd ps ds)(hd:Vals dvs ds)
 (hx:Passes CX X E) (I:Inv X pins σ H s) (r:Vals vs us)
 (h:∀ x dx,H x=none->H dx=none->dx ≠ x->sp (.ref x::(vs++dvs)) (upd (upd H dx (.own x)) x (.ins C dx [])) (fun v H2=>v= .non/\Q (.ref x) H2) E):
 wpAny (model X.prog X.w) X.A (call (.ref C) us) (EP X pins σ Q) X.xe s:=by
 have hq:=h (s.heap.objs.size+1) s.heap.objs.size (I.hok.fresh (Nat.le_succ _)) (I.hok.fresh (aH _)) (Nat.ne_of_lt (Nat.lt_succ_self _));have I2:=Inv.made (C:=C) I;have r2:Vals (V.ref (s.heap.objs.size+1)::(vs++dvs)) (Value.ref (s.heap.objs.size+1)::(us++ds)):=.cons rfl (r.append hd)
 have hl:(Value.ref (s.heap.objs.size+1)::us++ds).length=ps.length:=by
  have e:=r2.length;rw[F.len _ _ _ _ hq]at e;exact e.symm
 refine wpAny_call (V3 (f:=f) I.kIn M.makes M.init (beq_iff_eq.mp M.fn) (codeAny_mono (F.run _ X.stack _ _ ⟨Value.ref (s.heap.objs.size+1)::us,[]⟩ (Value.ref (s.heap.objs.size+1)::(us++ds)) _ _ E (hr.make C us [])
  (I2.env0.make C us []) (hb _ (Value.ref (s.heap.objs.size+1)::us) I2.kIn hl) r2 hq) fun r s' hq'=>?_))
 cases r with
 | error e=>exact hx pins σ _ _ e s' I2 hq'
 | ok fl=>
   cases fl with
   | ret u=>
     obtain⟨v,H',I3,rv,ev,q3⟩:=I2.after hq';subst ev
     exact⟨rv,⟨V.ref (s.heap.objs.size+1),H',I3,rfl,q3⟩⟩
   | next=>exact False.elim hq'
   | brk=>exact False.elim hq'
   | cont=>exact False.elim hq'
theorem Yx(M:Mk X.K C f)(F:aP X.prog X.w X.K X.mg X.base CX k f fd ps sp)(hr:aX (k+1) X.A)(hg:Gl X x)(hm:X.mg x=some (.ref C))(hb:Binds X.K fd ps ds)(hd:Vals dvs ds)(hx:Passes CX X E)
 (ha:PA X (e::es) t) (hdb:(x==("__debug__":Str))=false:=by decide) (he:starEach (e::es) X.env=(false,eval e X.env)::starEach es X.env:=by rfl) (hpl:(backTo pos (starEach es X.env)).any (·.1)=false:=by rfl):
 PE X (.Call (.Name x p) (e::es) [] pos) (Xz C sp dvs E t):=by
 intro pins s σ H Q I h;refine wpAny_Call_Name_kw (kE I hg hm ?_ hdb);refine PySem.W.callWith_K (h₀:=X.base) I.ok.mod.kin M.kp (thn (ha pos pins s σ H _ I h) fun us s1 ⟨vs,H1,I1,r,q⟩=>⟨I1.kIn,?_⟩) he hpl;exact V5 M F hr hb hd hx I1 r q
end
section
variable{X:Cx}{CX:CXT}{k:Nat}{f C:Addr}{fd:FuncData}{ps ks:List Str}{sp:Sp}{E:XK}{x m:Str}{p pos apos kpos:Pos}{e o:Expr}{es:List Expr}{kws:List Keyword}{te ta:TE}{t tk:TA}{nm:Option Str}
structure afx (K:ak)(fd:FuncData)(ps ks:List Str)(g:List Value->List Value->List Value)(gV:List V->List V->List V):Prop where
 to:∀(s:Shared) (us ws:List Value),K.In s.heap->(g us ws).length=ps.length->BindsTo s fd ⟨us,ks.zip ws⟩ (ps.zip (g us ws))
 rel:∀ {vs:List V} {us:List Value} {zs:List V} {ws:List Value},Vals vs us->Vals zs ws->Vals (gV vs zs) (g us ws)
variable{g:List Value->List Value->List Value}{gV:List V->List V->List V}
end
structure aC (N P:List Str)(sc:Scope):Prop where
 kind:sc.kind= .function
 co:sc.isCoroutine=false
 gen:sc.isGenerator=false
 nd:N.Nodup
 pre:N.take P.length=P
 par:∀ x ∈ P,sc.names.lookup x=some .local\/sc.names.lookup x=some .cell
 abf:∀ y ∈ sc.names,y.2 ≠ .free
theorem El{kindOf:Str->Option NameKind}{x:Str}:∀ {binds:List (Str × Value)} {m:Str->Option Value},(∀ v,(x,v) ∉ binds)->bindL kindOf binds m x=m x
 | [],_,_=>rfl
 | (n,v)::r,m,h=>by
   unfold bindL;rw[El fun w hw=>h w (List.mem_cons_of_mem _ hw)]
   split
   · have:x ≠ n:=by rintro rfl;exact h v List.mem_cons_self
     simp[this]
   · rfl
theorem Em{kindOf:Str->Option NameKind}{x:Str}:∀ {binds:List (Str × Value)} {m:Str->Option Value},(∀ v,(x,v) ∉ binds)->bindC kindOf binds m x=m x
 | [],_,_=>rfl
 | (n,v)::r,m,h=>by
   unfold bindC;rw[Em fun w hw=>h w (List.mem_cons_of_mem _ hw)]
   split
   · rfl
   · have:x ≠ n:=by rintro rfl;exact h v List.mem_cons_self
     simp[this]
theorem En{kindOf:Str->Option NameKind}{x:Str}{v:Value}:∀ {P:List Str} {vs:List Value} {i:Nat} {m:Str->Option Value},P.Nodup->P[i]? =some x->vs[i]? =some v->kindOf x=some .local->
 bindL kindOf (P.zip vs) m x=some v
 | [],_,_,_,_,h,_,_=>by simp at h
 | _::_,[],_,_,_,_,h,_=>by simp at h
 | p::P,w::vs,0,m,nd,h1,h2,hk=>by
   simp at h1 h2;subst h1;subst h2;show bindL kindOf ((p,w)::P.zip vs) m p=_;unfold bindL;rw[El fun v hv=>(List.nodup_cons.mp nd).1 (List.of_mem_zip hv).1,if_pos hk]
   simp
 | p::P,w::vs,i+1,m,nd,h1,h2,hk=>by
   show bindL kindOf ((p,w)::P.zip vs) m x=_;unfold bindL;exact En (i:=i) (List.nodup_cons.mp nd).2 (by simpa using h1) (by simpa using h2) hk
theorem Eo{kindOf:Str->Option NameKind}{x:Str}{v:Value}:∀ {P:List Str} {vs:List Value} {i:Nat} {m:Str->Option Value},P.Nodup->P[i]? =some x->vs[i]? =some v->kindOf x ≠ some .local->
 bindC kindOf (P.zip vs) m x=some v
 | [],_,_,_,_,h,_,_=>by simp at h
 | _::_,[],_,_,_,_,h,_=>by simp at h
 | p::P,w::vs,0,m,nd,h1,h2,hk=>by
   simp at h1 h2;subst h1;subst h2;show bindC kindOf ((p,w)::P.zip vs) m p=_;unfold bindC;rw[Em fun v hv=>(List.nodup_cons.mp nd).1 (List.of_mem_zip hv).1,if_neg hk]
   simp
 | p::P,w::vs,i+1,m,nd,h1,h2,hk=>by
   show bindC kindOf ((p,w)::P.zip vs) m x=_;unfold bindC;exact Eo (i:=i) (List.nodup_cons.mp nd).2 (by simpa using h1) (by simpa using h2) hk
def start(N:List Str)(vs:List V):St:=vs.map some++List.replicate (N.length - vs.length) none
def iB(CX:CXT)(P:Program)(w:World)(K:ak)(mg:Str->Option Value)(base:Heap)(N:List Str)(qual:Str)(scope:Scope)(f:Addr)(cd:Value)(A:Around)(outer:List Env)(s:Shared)(H:Hp)(E:XK):Cx where
 prog:=P
 w:=w
 K:=K
 mg:=mg
 base:=base
 A:=A.deeper (envOfC qual scope s.heap.objs.size f cd)
 N:=N
 s₀:=s
 H₀:=H
 env:=envOfC qual scope s.heap.objs.size f cd
 outer:=outer
 stack:=envOfC qual scope s.heap.objs.size f cd::outer
 ex:=[]
 calm:=true
 fn:=fun _=>true
 pn:=[]
 xe:=fun e s'=>wpAny (model P w) (A.deeper (envOfC qual scope s.heap.objs.size f cd)) (leaving (envOfC qual scope s.heap.objs.size f cd) e) (fun _ s''=>CX outer H s E e s'') (fun e' s''=>CX outer H s E e' s'') s'
theorem HF{sc:Scope}{n:Nat}{x:Str}(h:sc.names.lookup x=some .cell):∃ c,(cellsFrom n sc.names []).lookup x=some c:=by
 have q:=PySem.W.cellsFrom_some sc.names n [] (.inl h);exact Option.isSome_iff_exists.mp q
theorem Ep{CX:CXT}{P:Program}{w:World}{K:ak}{mg:Str->Option Value}{base:Heap}{N ps:List Str}{qual:Str}{scope:Scope}{f:Addr}{cd:Value}{A:Around}{outer:List Env}{s s1:Shared}{H:Hp}{E:XK}{us:List Value}{vs:List V}
 (S:aC N ps scope) (hd:A.handled=none) (e0:wu P w K mg base A outer s H) (hl:vs.length=ps.length) (r:Vals vs us)
 (x:InCallC s s.heap.objs.size (bindL (envOfC qual scope s.heap.objs.size f cd).kindOf (ps.zip us) fun _=>none) (cellsFrom (s.heap.objs.size+1) scope.names []) (bindC (envOfC qual scope s.heap.objs.size f cd).kindOf (ps.zip us) fun _=>none) s1):
 Inv (iB CX P w K mg base N qual scope f cd A outer s H E) [] (start N vs) H s1:=by
 have hpl:ps.length<=N.length:=by have:=congrArg List.length S.pre;rw[List.length_take]at this;omega
 obtain⟨h1,tk,rfl,hk⟩:=x.done;have noA:∀ b:Addr,b ∉ (iB CX P w K mg base N qual scope f cd A outer s H E).ex:=fun b z=>absurd (show b ∈ ([]:List Addr) from z) (by simp)
 refine⟨⟨e0.mod,S.kind,rfl,rfl,aH _,fun y z c h1 h2=>?_,fun y hy=>?_,fun y c _ h=>?_,fun _=>hd,Around.frames_deeper e0.frames,.inr ⟨rfl,rfl⟩,fun b z=>absurd z (noA b),e0.bs,e0.bsz,fun b _ _=>noA b,fun b z=>absurd z (noA b),e0.jT,e0.frf⟩,
  rfl,e0.bare,Un.kept hk,⟨_,x.toInCall.ns,fun i y v h1 h2 h3=>?_⟩,fun y c h=>⟨_,x.cell y c h⟩,e0.hok.fresh (aH _),fun y c h=>?_,fun p hp=>absurd (show p ∈ ([]:List (Addr × Obj)) from hp) (by simp),e0.hok.kept hk,?_⟩
 · exact name_of_addr x.apart (PySem.mem_of_lookup h1) (PySem.mem_of_lookup h2)
 · have hy:scope.names.lookup y=some .cell\/scope.names.lookup y=some .free:=hy
   rcases hy with hy | hy
   · exact HF hy
   · exact absurd rfl (S.abf _ (PySem.mem_of_lookup hy))
 · exact Nat.le_of_lt (x.above y c (PySem.mem_of_lookup h))
 · have hi:i<vs.length:=by
    unfold start at h2
    by_cases hi:i<vs.length
    · exact hi
    · rw[List.getElem?_append_right (by simpa using hi)]at h2;rw[List.getElem?_replicate]at h2
      split at h2 <;> cases h2
   have ha:vs[i]? =some v:=by
    unfold start at h2;rw[List.getElem?_append_left (by simpa using hi),List.getElem?_map]at h2
    cases e:vs[i]? with
    | none=>rw[e]at h2;cases h2
    | some a=>rw[e]at h2;cases h2;rfl
   obtain⟨u,hu,rv⟩:=r.get ha
   have hp:ps[i]? =some y:=by
    rw[<- S.pre,List.getElem?_take_of_lt (by omega)];exact h1
   have ndP:ps.Nodup:=by rw[<- S.pre];exact S.nd.sublist (List.take_sublist _ _)
   refine⟨u,rv,?_⟩
   rcases S.par y (List.mem_of_getElem? hp) with k | k
   · exact .inl ⟨k,En ndP hp hu k⟩
   · obtain⟨c,e⟩:=HF (n:=s.heap.objs.size+1) k;refine .inr ⟨.inl k,c,e,?_⟩;have q:=x.cell y c e;rw[Eo ndP hp hu (by show scope.names.lookup y ≠ _;rw[k];decide)]at q;exact q
 · exact e0.hok.fresh (Nat.le_of_lt (x.above y c (PySem.mem_of_lookup h)))
 · unfold start;show _=N.length;rw[List.length_append,List.length_map,List.length_replicate];omega
theorem NK{CX:CXT}{P:Program}{w:World}{K:ak}{mg:Str->Option Value}{base:Heap}{k:Nat}{f:Addr}{name qual:Str}{params:Arguments}{body:List Stmt}{scope:Scope}{dV kV doc pm cdv ct oc:Value}{an od:Option Addr}
 {osl:Array (Option Value)} {N ps:List Str} {sp:Sp} (lk:K.lookup f=some ⟨oc,od,.func (PySem.W.fnOf name qual params body scope dV kV doc pm an cdv ct),osl⟩) (hcd:PySem.W.codeIn K cdv qual=true) (S:aC N ps scope)
 (len:∀ vs H Q E,sp vs H Q E->vs.length=ps.length)
 (hbody:∀(A:Around) (outer:List Env) (s:Shared) (H:Hp) (vs:List V) (Q:VK) (E:XK),aX k (A.deeper (envOfC qual scope s.heap.objs.size f cdv))->sp vs H Q E->
   ∃ t,PSs (iB CX P w K mg base N qual scope f cdv A outer s H E) body t/\t { nx:=fun _ H'=>Q .non H',rt:=Q } (start N vs) H):
 aP P w K mg base CX (k+1) f (PySem.W.fnOf name qual params body scope dV kV doc pm an cdv ct) ps sp:=by
 refine⟨len,fun A outer s H args us vs Q E hr e0 hb r hsp=>?_⟩;have hl:=len _ _ _ _ hsp;have KX:K.In s.heap:=e0.mod.kin.keeps fun b o e=>(e0.bs b o e).1;have lim:s.heap.NoLimit:=e0.mod.nolimit.keeps fun b o e=>(e0.bs b o e).1
 have hkind:∀ y ∈ ps.zip us,scope.names.lookup y.1=some .local\/(scope.names.lookup y.1=some .cell/\((cellsFrom (s.heap.objs.size+1) scope.names []).lookup y.1).isSome=true):=fun⟨n,v⟩ hy=>by
  rcases S.par n (List.of_mem_zip hy).1 with q | q
  · exact .inl q
  · exact .inr ⟨q,PySem.W.cellsFrom_some _ _ _ (.inl q)⟩
 refine codeAny_call_function hr.depth (KX _ _ lk) rfl S.co S.gen rfl (PySem.W.codeRec_of KX hcd) (hb _ _ _ _ ?_);refine wpAny_newFunctionEnv_cells S.kind hkind fun env he s1 x=>?_;subst he;refine⟨lim.keeps x.toInCall.keep,codeAny_func ?_⟩;obtain⟨t,ht,hq⟩:=hbody A outer s H vs Q E (hr.deeper _) hsp;have I:Inv (iB CX P w K mg base N qual scope f cdv A outer s H E) [] (start N vs) H s1:=Ep S hr.hd e0 hl r x;refine wpAny_mono (ht [] s1 (start N vs) H _ I hq) (fun fl s' hs=>?_) fun e s' hs=>hs
 have fin:∀ {σ':St} {H':Hp} {v:V} {u:Value},Inv (iB CX P w K mg base N qual scope f cdv A outer s H E) [] σ' H' s'->RelV v u->Q v H'->CE outer P w H s Q u s':=
  fun {σ' H' v u} J rv q=>⟨v,H',J.os,J.bare,J.base,J.hok,rv,q⟩
 cases fl with
 | ret u=>
   obtain⟨v,σ',H',J,rv,q⟩:=hs
   exact fin J rv q
 | next=>
   obtain⟨σ',H',J,q⟩:=hs
   exact fin (v:=V.non) (u:=Value.none) J rfl q
 | brk=>
   obtain⟨_,_,_,q⟩:=hs
   exact False.elim q
 | cont=>
   obtain⟨_,_,_,q⟩:=hs;exact False.elim q
section
variable{X:Cx}{x:Str}{p pos:Pos}{e:Expr}{es:List Expr}{t:TA}{id T:String}{r:List V->Hp->VK->Prop}
def tCB(r:List V->Hp->VK->Prop)(t:TA):TE:=fun σ H Q=>t σ H fun vs H1=>r vs H1 Q
theorem bu(hc:jb X (.builtin id) r)(hg:Gl X x)(hm:X.mg x=none)(hv:bootBuiltins x=some (.builtin id))(ha:PA X (e::es) t)(hn:x ≠ "__name__":=by decide)(hdb:(x==("__debug__":Str))=false:=by decide)
 (he:starEach (e::es) X.env=(false,eval e X.env)::starEach es X.env:=by rfl) (hpl:(backTo pos (starEach es X.env)).any (·.1)=false:=by rfl):PE X (.Call (.Name x p) (e::es) [] pos) (tCB r t):=by
 intro pins s σ H Q I h;refine wpAny_Call_Name_kw (qN I hg hm hv ?_ hn hdb);exact PyProof.Rows.callWith_builtin1 (thn (ha pos pins s σ H _ I h) fun us s1 ⟨vs,H1,I1,r1,q1⟩=>hc pins s1 σ H1 vs us Q I1 r1 q1) he hpl
theorem pG(hc:jb X (.type T) r)(hg:Gl X x)(hm:X.mg x=none)(hv:bootBuiltins x=some (.type T))(ha:PA X (e::es) t)(hn:x ≠ "__name__":=by decide)(hdb:(x==("__debug__":Str))=false:=by decide)
 (he:starEach (e::es) X.env=(false,eval e X.env)::starEach es X.env:=by rfl) (hpl:(backTo pos (starEach es X.env)).any (·.1)=false:=by rfl):PE X (.Call (.Name x p) (e::es) [] pos) (tCB r t):=by
 intro pins s σ H Q I h;refine wpAny_Call_Name_kw (qN I hg hm hv ?_ hn hdb);exact PyProof.Rows.callWith_type1 (thn (ha pos pins s σ H _ I h) fun us s1 ⟨vs,H1,I1,r1,q1⟩=>hc pins s1 σ H1 vs us Q I1 r1 q1) he hpl
end
end L2
namespace HT
open PySem PyProof.Rows
def lexLt:List Int->List Int->Bool
 | [],[]=>false
 | [],_::_=>true
 | _::_,[]=>false
 | x::xs,y::ys=>if x=y then lexLt xs ys else decide (x<y)
theorem NP(x y:Int)(xs ys:List Int):lexLt (x::xs) (y::ys)=if x=y then lexLt xs ys else decide (x<y):=rfl
theorem Fv:lexLt [] [] =false:=rfl
theorem B_(y:Int)(ys:List Int):lexLt [] (y::ys)=true:=rfl
theorem Cd(x:Int)(xs:List Int):lexLt (x::xs) [] =false:=rfl
theorem V6(A:Around)(s:Shared)(a:Int)(t:Tok)(c:Int)(u:Tok):∃ e,SeqAt.EqAt A s (.int a t) (.int c u) e/\(e=true ↔ a=c):=
 ⟨(a==c),SeqAt.EqAt.int_int a t c u,by simp⟩
theorem V7(A:Around)(s:Shared)(a:Int)(t:Tok)(c:Int)(u:Tok)(prog:Program)(w:World)(E:Value->Shared->Prop)(Q:Value->Shared->Prop)(h:Q (.bool (decide (a<c))) s):
 wpAny (model prog w) A (richCompare .Lt (.int a t) (.int c u)) Q E s:=
 (PyProof.Rows.lt_int h:wpAny (model prog w) A (compareOp .Lt (.int a t) (.int c u)) Q E s)
section
open PySem.SeqAt
open PySem.AutoSeq1 (wpAny_loadPart')
open PySem.MeetsSeq PySem.MeetsSeq2 PySem.MeetsSeq3
theorem Fw(l b:Addr)(items items2:Array Value)(n n2:Nat)(dd dd2:Option Addr)(sl sl2:Array (Option Value))(ns ms:List Int)(hi:IntsAre items.toList ns)(hj:IntsAre items2.toList ms):
 Meets (Builtin.«tuple.__lt__» ⟨[.ref l,.ref b],[]⟩)
  (fun _ R s=>s.heap.get? l=some { cls:=.type "tuple",dict:=dd,data:=.seq items n,slots:=sl }/\s.heap.get? b=some { cls:=.type "tuple",dict:=dd2,data:=.seq items2 n2,slots:=sl2 }/\
    R (.ok (.ret (.bool (lexLt ns ms)))) s):=
 .of_wp fun prog w A R s h=>by
  obtain⟨hp,g,d,tk,os⟩:=s;obtain⟨hl,hb,h⟩:=h;have f2:=AutoSeq1.sub_tuple_tuple;have z1:items.size=ns.length:=by rw[<- hi.length];simp
  have z2:items2.size=ms.length:=by rw[<- hj.length];simp
  wp_walk using wpAny_loadPart' hl,wpAny_loadPart' hb,wpAny_forIn_list _ (fun rest b s'=>b.1=none/\s'= ⟨hp,g,d,tk,os⟩/\∃(vs ws:List Value) (ns' ms':List Int),rest=vs.zip ws/\
   IntsAre vs ns'/\IntsAre ws ms'/\ns'.length+items2.size=ms'.length+items.size/\R (.ok (.ret (.bool (lexLt ns' ms')))) ⟨hp,g,d,tk,os⟩) _
  case turn=>
   rintro⟨y,x⟩ rest b s' ⟨hb',rfl,vs,ws,ns',ms',hz,hvi,hwi,hlen,hR⟩
   cases hvi with
   | nil=>rw[List.zip_nil_left]at hz;cases hz
   | cons a t aeI=>
     cases hwi with
     | nil=>rw[List.zip_nil_right]at hz;cases hz
     | cons c u aeJ=>
       rw[List.zip_cons_cons]at hz;injection hz with hyx hrest;injection hyx with hy hx;subst hy hx;rw[NP]at hR;simp only[List.length_cons]at hlen;obtain⟨e,he,hiff⟩:=V6 A.in1 ⟨hp,g,d,tk,os⟩ a t c u;refine wpAny_bind (he prog w _ _ ?_)
       cases e with
       | true=>
         rw[if_pos (hiff.mp rfl)]at hR
         wp_walk
         exact⟨rfl,rfl,_,_,_,_,hrest,aeI,aeJ,by omega,hR⟩
       | false=>
         rw[if_neg (fun q=>absurd (hiff.mpr q) Bool.false_ne_true)]at hR;have hri:=V7 A.in1 ⟨hp,g,d,tk,os⟩ a t c u prog w
         wp_walk using hri
         exact⟨_,rfl,by simpa using hR⟩
  case fin=>
   rintro⟨b1,b2⟩ s' ⟨hb',rfl,vs,ws,ns',ms',hz,hvi,hwi,hlen,hR⟩;simp only at hb';subst hb'
   have hv:lexLt ns' ms'=decide (items.size<items2.size):=by
    cases hvi with
    | nil=>
      cases hwi with
      | nil=>
        simp only[List.length_nil]at hlen;rw[Fv]
        exact(decide_eq_false (by omega)).symm
      | cons c u hw=>
        simp only[List.length_nil,List.length_cons]at hlen;rw[B_]
        exact(decide_eq_true (by omega)).symm
    | cons a t hv=>
      cases hwi with
      | nil=>
        simp only[List.length_nil,List.length_cons]at hlen;rw[Cd]
        exact(decide_eq_false (by omega)).symm
      | cons c u hw=>
        rw[List.zip_cons_cons]at hz;cases hz
   rw[hv]at hR
   wp_walk
   exact⟨_,rfl,by simpa [Builtin.Tuple.tupleCompareSizes] using hR⟩
  case h=>
   exact⟨rfl,rfl,items.toList,items2.toList,ns,ms,rfl,hi,hj,by omega,h⟩
end
section
variable{prog:Program}{w:World}{A:Around}{E:Value->Shared->Prop}{s:Shared}
theorem NQ{l b:Addr}{items items2:Array Value}{ns ms:List Int}{Q:Value->Shared->Prop}(hl:IsTup s.heap l items)(hb:IsTup s.heap b items2)(hi:IntsAre items.toList ns)(hj:IntsAre items2.toList ms)
 (hu:A.units<cLine) (h:Q (.bool (lexLt ns ms)) s):wpAny (model prog w) A (compareOp .Lt (.ref l) (.ref b)) Q E s:=by
 obtain⟨⟨cls,dd,data,sl⟩,ho,hc,n,hd⟩:=id hl;obtain⟨⟨cls2,dd2,data2,sl2⟩,ho2,hc2,n2,hd2⟩:=id hb;simp only at hc hd hc2 hd2;subst hc hd hc2 hd2
 exact richCompare_meets_room (op:=.Lt) ⟨_,ho,rfl⟩ ⟨_,ho2,rfl⟩ PySem.F.slot_tuple_lt PySem.F.entry_tuple_lt (PySem.F.args_tuple_lt_2 _ _) (Fw l b items items2 n n2 dd dd2 sl sl2 ns ms hi hj)
  ⟨ho,ho2,show Value.bool (lexLt ns ms) ≠ Value.notImplemented/\Q (.bool (lexLt ns ms)) s from ⟨(fun x=>nomatch x),h⟩⟩ hu
def sIx(n d:Nat):Option Int->Nat
 | none=>d
 | some v=>if v<0 then(v+(n:Int)).toNat else min v.toNat n
theorem abg(n d:Nat)(hd:d<=n)(o:Option Int):sIx n d o<=n:=by
 cases o with
 | none=>exact hd
 | some v=>
   show(if v<0 then(v+(n:Int)).toNat else min v.toNat n)<=n
   by_cases hv:v<0
   · rw[if_pos hv];omega
   · rw[if_neg hv];exact Nat.min_le_right _ _
theorem Lh(v:Int)(n d:Nat):(if v<0 then max (v+(n:Int)) 0 else min v (n:Int))=((sIx n d (some v):Nat):Int):=by
 show(if v<0 then max (v+(n:Int)) 0 else min v (n:Int))=(((if v<0 then(v+(n:Int)).toNat else min v.toNat n):Nat):Int)
 by_cases hv:v<0
 · simp only[if_pos hv];omega
 · simp only[if_neg hv];omega
theorem NZ(lo hi:Option Int)(n:Nat):Builtin.Slice.sliceAdjust lo hi 1 (n:Int)=(((sIx n 0 lo:Nat):Int),((sIx n n hi:Nat):Int)):=by
 have h1:¬ ((1:Int)<0):=by omega
 unfold Builtin.Slice.sliceAdjust;simp only[h1,if_false];refine Prod.ext ?_ ?_
 · cases lo with
   | none=>rfl
   | some v=>exact Lh v n 0
 · cases hi with
   | none=>rfl
   | some v=>exact Lh v n n
theorem N5(i j:Nat):Builtin.Slice.slicePlaces (i:Int) (j:Int) 1=j - i:=by
 unfold Builtin.Slice.slicePlaces;have h1:(1:Int) > 0:=by omega
 simp only[h1,if_true,Int.ediv_one]
 split <;> omega
theorem zN{v:Value}{o:Option Int}{Q:Option Int->Shared->Prop}(p:IsPart v o)(h:Q o s):wpAny (model prog w) A (Builtin.Slice.slicePartIndex v) Q E s:=by
 cases p with
 | none=>exact slicePart_none h
 | int i t=>exact slicePart_int h
theorem yH{sl:Addr}{vl vu:Value}{lo hi:Option Int}{n:Nat}{Q:Int × Int × Nat->Shared->Prop}(hs:s.heap.IsSliceOf sl vl vu .none)(pl:IsPart vl lo)(pu:IsPart vu hi)
 (h:Q (((sIx n 0 lo:Nat):Int),1,sIx n n hi - sIx n 0 lo) s):wpAny (model prog w) A (Builtin.Slice.sliceApplied (.ref sl) (pure (n:Int))) Q E s:=by
 obtain⟨os,hos,hcs,hds⟩:=id hs;unfold Builtin.Slice.sliceApplied Builtin.Slice.sliceFields;refine wpAny_bind (wpAny_bind (wpAny_field hos hds (x:=vl) rfl (wpAny_bind (wpAny_field hos hds (x:=vu) rfl (wpAny_bind (wpAny_field hos hds (x:=.none) rfl (wpAny_pure ?_)))))));refine wpAny_bind (slicePart_none ?_);show wpAny _ _ (if((1:Int)==0)=true then _ else _) _ _ s;rw[if_neg (by decide)];refine wpAny_bind (zN pl (wpAny_bind (zN pu (wpAny_bind (wpAny_pure ?_)))));show wpAny _ _ (match Builtin.Slice.sliceAdjust lo hi 1 (n:Int) with | (lo,hi)=>pure (lo,(1:Int),Builtin.Slice.slicePlaces lo hi 1)) _ _ s;rw[NZ lo hi n];show wpAny _ _ (pure (((sIx n 0 lo:Nat):Int),(1:Int),Builtin.Slice.slicePlaces ((sIx n 0 lo:Nat):Int) ((sIx n n hi:Nat):Int) 1)) _ _ s;rw[N5];exact wpAny_pure h
theorem V8(xs:Array Value)(i k:Nat):((List.range k).filterMap fun(m:Nat)=>xs[((i:Int)+(m:Int)*1).toNat]?).toArray=((xs.toList.drop i).take k).toArray:=by
 have e:(fun(m:Nat)=>xs[((i:Int)+(m:Int)*1).toNat]?)=fun m=>xs[i+m]?:=by
  funext m
  have:((i:Int)+(m:Int)*1).toNat=i+m:=by omega
  rw[this]
 rw[e];have:=pick_run xs i k;rw[List.filterMap_map]at this;have e2:((fun x=>xs[x]?) ∘ fun x=>i+x)=fun m=>xs[i+m]?:=rfl;rw[e2]at this;rw[this]
theorem yj{t sl:Addr}{items:Array Value}{vl vu:Value}{lo hi:Option Int}{Q:Value->Shared->Prop}(ht:IsTup s.heap t items)(hs:s.heap.IsSliceOf sl vl vu .none)(pl:IsPart vl lo)(pu:IsPart vu hi)
 (hw:¬ (sIx items.size 0 lo=0/\sIx items.size items.size hi=items.size))
 (h:Q (.ref s.heap.objs.size) { s with heap:=s.heap.push { cls:=.type "tuple",data:=.seq ((items.toList.drop (sIx items.size 0 lo)).take (sIx items.size items.size hi - sIx items.size 0 lo)).toArray } })
 (hsz:items.size<=sizeLine):wpAny (model prog w) A (getItem (.ref t) (.ref sl)) Q E s:=by
 have GR:sizeOk (.seq ((items.toList.drop (sIx items.size 0 lo)).take (sIx items.size items.size hi - sIx items.size 0 lo)).toArray):=by
  show((items.toList.drop (sIx items.size 0 lo)).take (sIx items.size items.size hi - sIx items.size 0 lo)).toArray.size<=sizeLine;rw[List.size_toArray,List.length_take,List.length_drop,Array.length_toList];omega
 have hj:sIx items.size items.size hi<=items.size:=abg _ _ (aH _) hi;obtain⟨os,hos,hcs,hds⟩:=id hs;have hTs:s.TypeIs (.ref sl) "slice":=⟨os,hos,hcs⟩;unfold getItem
 try with_reducible refine wpAny_holding ?_
 first | refine wpAny_bind (wpAny_pure ?_) | skip
 refine wpAny_bind (wpAny_sequenceKey ht.typeIs (by decide) ?_)
 refine wpAny_bind (wpAny_callSpecial?_slot (name:=Str.ofString "__getitem__") ht.typeIs PyProof.Rows.slot_tuple_getitem
  (wpAny_call_entry PyProof.Rows.slot_tuple_getitem ht.typeIs entry_tuple_getitem ?_ (args_tuple_getitem _ _)))
 show wpAny _ _ (Builtin.Tuple.tupleItemsOf (.ref t) >>= _) _ _ s;refine wpAny_bind (tupleItemsOf_ ht ?_);refine wpAny_bind (wpAny_typeOf hTs ?_);rw[if_pos (by decide)];refine wpAny_bind (yH hs pl pu ?_)
 have hno:¬ ((((sIx items.size 0 lo:Nat):Int)==0&&(1:Int)==1&&(sIx items.size items.size hi - sIx items.size 0 lo)==items.size)=true):=by
  intro q;rw[Bool.and_eq_true,Bool.and_eq_true]at q;have q1:((sIx items.size 0 lo:Nat):Int)=0:=eq_of_beq q.1.1;have q2:sIx items.size items.size hi - sIx items.size 0 lo=items.size:=eq_of_beq q.2;exact hw ⟨by omega,by omega⟩
 show wpAny _ _ (if(((sIx items.size 0 lo:Nat):Int)==0&&(1:Int)==1&&(sIx items.size items.size hi - sIx items.size 0 lo)==items.size)=true then _ else _) _ _ s;rw[if_neg hno,V8]
 first
  | exact wpAny_bind (m:=Builtin.Tuple.tupleExact _) (wpAny_newObj_type (wpAny_pure ⟨_,rfl,wpAny_pure h⟩) GR)
  | exact wpAny_bind (m:=Builtin.Tuple.tupleExact _) (wpAny_newObj_type (wpAny_bind (wpAny_pure (wpAny_pure ⟨_,rfl,wpAny_pure h⟩))) GR)
  | exact wpAny_bind (wpAny_bind (m:=Builtin.Tuple.tupleExact _) (wpAny_newObj_type (wpAny_pure (wpAny_pure ⟨_,rfl,wpAny_pure h⟩)) GR))
  | exact wpAny_bind (wpAny_bind (m:=Builtin.Tuple.tupleExact _) (wpAny_newObj_type (wpAny_pure ⟨_,rfl,wpAny_pure h⟩) GR))
end
end HT
namespace L2
open PySem PySem.Spec PyProof.Rows
abbrev TO:=St->Hp->(Option Int->Hp->Prop)->Prop
def PO(X:Cx)(e:Option Expr)(t:TO):Prop:=
 ∀(pins:List (Addr × Obj)) (s:Shared) (σ:St) (H:Hp) (Q:Option Int->Hp->Prop),Inv X pins σ H s->t σ H Q->
  wpAny (model X.prog X.w) X.A (evalPart e X.env) (fun u s'=>∃ o H',Inv X pins σ H' s'/\IsPart u o/\Q o H') X.xe s
def Li:TO:=fun _ H Q=>Q none H
def XC(t:TE):TO:=fun σ H Q=>t σ H fun x H1=>∃ i,x= .int i/\Q (some i) H1
theorem intsAre_of{ns:List Int}:∀ {us:List Value},Vals (ns.map V.int) us->IntsAre us ns:=by
 induction ns with
 | nil=>intro us r;rw[List.map_nil]at r;cases r;exact .nil
 | cons n ns ih=>
   intro us r;rw[List.map_cons]at r
   cases r with
   | cons r1 r2=>
     obtain⟨t,e⟩:=r1;subst e;exact .cons n t (ih r2)
section
variable{X:Cx}{e:Expr}{te:TE}{lo hi:Option Expr}{tl th:TO}{pos p2:Pos}
theorem Ce:PO X none Li:=by
 intro pins s σ H Q I h;rw[evalPart_none];exact wpAny_pure ⟨none,H,I,.none,h⟩
theorem Cg(h:PE X e te):PO X (some e) (XC te):=by
 intro pins s σ H Q I hw;rw[evalPart_some];refine thn (h pins s σ H _ I hw) fun u s1 ⟨x,H1,I1,r1,q1⟩=>?_;obtain⟨i,rfl,q⟩:=q1;obtain⟨t,rfl⟩:=r1;exact⟨some i,H1,I1,.int i t,q⟩
def SlR(X:Cx)(r:V->Option Int->Option Int->Hp->VK->Prop):Prop:=
 ∀(pins:List (Addr × Obj)) (s:Shared) (σ:St) (H:Hp) (x:V) (v vl vu:Value) (lo hi:Option Int) (sl:Addr) (Q:VK),Inv X pins σ H s->RelV x v->s.heap.IsSliceOf sl vl vu .none->IsPart vl lo->IsPart vu hi->r x lo hi H Q->
  ∃ T id,typeLookup (.type T) "__getitem__" =pure (some (.builtin id))/\s.TypeIs v T/\wpAny (model X.prog X.w) X.A (getItem v (.ref sl)) (EP X pins σ Q) X.xe s
theorem SlR.or{r r':V->Option Int->Option Int->Hp->VK->Prop}(h:SlR X r)(h':SlR X r'):SlR X (fun x lo hi H Q=>r x lo hi H Q\/r' x lo hi H Q):=by
 intro pins s σ H x v vl vu lo hi sl Q I rx hs pl pu q
 rcases q with q | q
 · exact h pins s σ H x v vl vu lo hi sl Q I rx hs pl pu q
 · exact h' pins s σ H x v vl vu lo hi sl Q I rx hs pl pu q
def tSl(r:V->Option Int->Option Int->Hp->VK->Prop)(te:TE)(tl th:TO):TE:=fun σ H Q=>te σ H fun x H1=>tl σ H1 fun l H2=>th σ H2 fun u H3=>r x l u H3 Q
theorem yI{r:V->Option Int->Option Int->Hp->VK->Prop}(hr:SlR X r)(he:PE X e te)(hl:PO X lo tl)(hu:PO X hi th):PE X (.Subscript e (.Slice lo hi none p2) pos) (tSl r te tl th):=by
 intro pins s σ H Q I h;refine Subscript_ (thn (he pins s σ H _ I h) fun v s1 ⟨x,H1,I1,r1,q1⟩=>?_);refine wpAny_Slice (thn (hl pins s1 σ H1 _ I1 q1) fun vl s2 ⟨l,H2,I2,pl,q2⟩=>thn (hu pins s2 σ H2 _ I2 q2) fun vu s3 ⟨u,H3,I3,pu,q3⟩=>?_);rw[evalPart_none];refine wpAny_pure ?_;have I4:Inv X pins σ H3 { s3 with heap:=s3.heap.push { cls:=.type "slice",data:=.fields #[vl,vu,.none] } }:=I3.kept (t':=s3.toks) fun b ob q=>Heap.get?_push_of_some _ q;obtain⟨T,id,hT,ht,hg⟩:=hr pins { s3 with heap:=s3.heap.push { cls:=.type "slice",data:=.fields #[vl,vu,.none] } } σ H3 x v vl vu l u s3.heap.objs.size Q I4 r1 (Heap.IsSliceOf.new ..) pl pu q3;show wpAny (model X.prog X.w) X.A (subscriptTail e (.Slice lo hi none p2) v (.ref s3.heap.objs.size)) (EP X pins σ Q) X.xe { s3 with heap:=s3.heap.push { cls:=.type "slice",data:=.fields #[vl,vu,.none] } };exact tail_any (ops:=[.ref s3.heap.objs.size,v]) ht hT hg (by with_unfolding_all rfl)
def wz(xs:List V)(lo hi:Option Int):List V:=(xs.drop (HT.sIx xs.length 0 lo)).take (HT.sIx xs.length xs.length hi - HT.sIx xs.length 0 lo)
theorem yw(xs:List V)(lo hi:Option Int):(wz xs lo hi).length<=xs.length:=by
 unfold wz;rw[List.length_take,List.length_drop];omega
def abh(K:ak):V->Option Int->Option Int->Hp->VK->Prop:=fun x lo hi H Q=>∃ a xs,x= .ref a/\SqT K H a xs/\
 ¬ (HT.sIx xs.length 0 lo=0/\HT.sIx xs.length xs.length hi=xs.length)/\∀ p,H p=none->Q (.ref p) (upd H p (.tup (wz xs lo hi)))
theorem abi:SlR X (abh X.K):=by
 intro pins s σ H x v vl vu lo hi sl Q I rx hs pl pu h;obtain⟨a,xs,rfl,hx,hw,q⟩:=h;cases rx;obtain⟨its,r,ht,hz⟩:=I.tuple hx;have hlen:its.toArray.size=xs.length:=by rw[List.size_toArray];exact r.length.symm
 refine⟨"tuple",_,PyProof.Rows.slot_tuple_getitem.lookup,ht.typeIs,?_⟩;refine HT.yj ht hs pl pu (by rw[hlen];exact hw) ?_ (by rw[hlen];exact hz);rw[hlen];refine⟨.ref s.heap.objs.size,_,I.laid (t':=s.toks) (o:=.tup (wz xs lo hi)) (fun b ob q=>Heap.get?_push_of_some _ q) (aH _) ?_,rfl,q _ (I.hok.fresh (aH _))⟩;exact⟨Nat.le_trans (yw xs lo hi) hz,_,(r.drop (HT.sIx xs.length 0 lo)).take (HT.sIx xs.length xs.length hi - HT.sIx xs.length 0 lo),IsTup.new _ _⟩
def abj(K:ak):R2:=fun x y H Q=>∃ a b ns ms,x= .ref a/\y= .ref b/\SqT K H a (ns.map V.int)/\SqT K H b (ms.map V.int)/\Q (.bl (HT.lexLt ns ms)) H
theorem uc(hu:X.A.units<cLine):OpR X (compareOp .Lt) (abj X.K):=by
 intro pins s σ H x y v u Q I rx ry h;obtain⟨a,b,ns,ms,rfl,rfl,ha,hb,q⟩:=h;cases rx;cases ry;obtain⟨its,r1,p1,_⟩:=I.tuple ha;obtain⟨its2,r2,p2,_⟩:=I.tuple hb;have i1:IntsAre its.toArray.toList ns:=intsAre_of r1;have i2:IntsAre its2.toArray.toList ms:=intsAre_of r2;exact HT.NQ p1 p2 i1 i2 hu ⟨.bl (HT.lexLt ns ms),H,I,rfl,q⟩
end
def ixN(n:Nat)(i:Int):Option Nat:=if 0<=i then(if i<n then some i.toNat else none) else if -(n:Int)<=i then some (i+n).toNat else none
def atI{α:Type}(xs:List α)(i:Int):Option α:=(ixN xs.length i).bind fun j=>xs[j]?
theorem Yy{n:Nat}{i:Int}{j:Nat}(h:ixN n i=some j):seqIndex? i n=some j/\j<n/\-(n:Int)<=i/\i<n:=by
 unfold ixN at h
 by_cases h0:0<=i
 · rw[if_pos h0]at h
   by_cases h1:i<n
   · rw[if_pos h1]at h;have e:i.toNat=j:=Option.some.inj h;exact⟨by rw[seqIndex_of h0 h1,e],by omega,by omega,h1⟩
   · rw[if_neg h1]at h;cases h
 · rw[if_neg h0]at h
   by_cases h1: -(n:Int)<=i
   · rw[if_pos h1]at h;have e:(i+n).toNat=j:=Option.some.inj h;exact⟨by rw[seqIndex_neg (by omega) h1,e],by omega,h1,by omega⟩
   · rw[if_neg h1]at h;cases h
theorem Ci{α:Type}{xs:List α}{i:Int}{v:α}(h:atI xs i=some v):∃ j,seqIndex? i xs.length=some j/\xs[j]? =some v/\j<xs.length/\-(xs.length:Int)<=i/\i<xs.length:=by
 unfold atI at h
 cases e:ixN xs.length i with
 | none=>rw[e]at h;cases h
 | some j=>
   rw[e]at h;obtain⟨h1,h2,h3,h4⟩:=Yy e;exact⟨j,h1,h,h2,h3,h4⟩
theorem qF{α:Type}{xs:List α}{j:Nat}{v:α}(h:xs[j]? =some v):atI xs (j:Int)=some v:=by
 have hj:j<xs.length:=(aZ h).1
 have e:ixN xs.length (j:Int)=some j:=by
  unfold ixN;rw[if_pos (by omega),if_pos (by omega)];simp
 unfold atI;rw[e];exact h
def Cj(b:Expr):Prop:=∀ o i,subscripted b false o i=operate [o,i] (getItem o i)
def IxR(X:Cx)(r:R2):Prop:=
 ∀(value slice:Expr) (pins:List (Addr × Obj)) (s:Shared) (σ:St) (H:Hp) (x y:V) (v u:Value) (Q:VK),Inv X pins σ H s->RelV x v->RelV y u->r x y H Q->
  subscripted slice false v u=operate [v,u] (getItem v u)->wpAny (model X.prog X.w) X.A (subscriptTail value slice v u) (EP X pins σ Q) X.xe s
def MtR(X:Cx)(id:String)(r:V->List V->Hp->VK->Prop):Prop:=
 ∀(pins:List (Addr × Obj)) (s:Shared) (σ:St) (H:Hp) (x:V) (xs:List V) (v:Value) (us:List Value) (Q:VK),Inv X pins σ H s->RelV x v->Vals xs us->r x xs H Q->
  wpAny (model X.prog X.w) X.A (call (.builtin id) (v::us)) (EP X pins σ Q) X.xe s
section
variable{X:Cx}{a b:Expr}{ta tb:TE}{pos:Pos}
theorem IxR.or{r r':R2}(h:IxR X r)(h':IxR X r'):IxR X (fun x y H Q=>r x y H Q\/r' x y H Q):=by
 intro value slice pins s σ H x y v u Q I rx ry q hs
 rcases q with q | q
 · exact h value slice pins s σ H x y v u Q I rx ry q hs
 · exact h' value slice pins s σ H x y v u Q I rx ry q hs
theorem uE{r:R2}(hr:IxR X r)(ha:PE X a ta)(hb:PE X b tb)(hs:Cj b):PE X (.Subscript a b pos) (tOp r ta tb):=by
 intro pins s σ H Q I h;exact Subscript_ (VM ha hb I h fun v u s2 x y H2 I2 rx ry q=>hr a b pins s2 σ H2 x y v u Q I2 rx ry q (hs _ _))
def abk(K:ak):R2:=fun x y H Q=>∃ p xs i v,x= .ref p/\y= .int i/\SqL K H p xs/\atI xs i=some v/\Q v H
def abl(K:ak):R2:=fun x y H Q=>∃ p xs i v,x= .ref p/\y= .int i/\SqT K H p xs/\atI xs i=some v/\Q v H
def abm:R2:=fun x y H Q=>∃ z i c,x= .str z/\y= .int i/\z.length<=sizeLine/\atI z.cps.toList i=some c/\Q (.str ⟨#[c]⟩) H
theorem xP:IxR X (abk X.K):=by
 intro value slice pins s σ H x y v u Q I rx ry h hs;obtain⟨p,xs,i,z,rfl,rfl,hq,he,q⟩:=h;cases rx;obtain⟨t,rfl⟩:=ry;obtain⟨its,r,pl,hz⟩:=I.list hq;obtain⟨j,h1,h2,h3,h4,h5⟩:=Ci he;obtain⟨w,ew,rw'⟩:=r.get h2;have hl:=r.length;have hn:=wg;have fin:EP X pins σ Q w s:=⟨z,H,I,rw',q⟩
 by_cases h0:0<=i
 · have hj:i.toNat=j:=by
    rw[seqIndex_of h0 h5]at h1;exact Option.some.inj h1
   exact item_listR pl.isList h0 (by omega) (by rw[hj];simpa using ew) fin hs
 · have hj:(i+(its.toArray.size:Int)).toNat=j:=by
    rw[seqIndex_neg (by omega) h4]at h1;rw[List.size_toArray,<- hl];exact Option.some.inj h1
   exact subscriptTail_builtinR (x:=w) pl.isList.typeIs slot_list_getitem.lookup
    (wpAny_getItem_list_neg (Q:=fun r s'=>r=w/\EP X pins σ Q r s') pl.isList (by omega) (by rw[List.size_toArray] <;> omega) (by omega) (by rw[hj];simpa using ew) ⟨rfl,fin⟩) hs
theorem abn:IxR X (abl X.K):=by
 intro value slice pins s σ H x y v u Q I rx ry h hs;obtain⟨p,xs,i,z,rfl,rfl,hq,he,q⟩:=h;cases rx;obtain⟨t,rfl⟩:=ry;obtain⟨its,r,pl,hz⟩:=I.tuple hq;obtain⟨j,h1,h2,h3,h4,h5⟩:=Ci he;obtain⟨w,ew,rw'⟩:=r.get h2;have hl:=r.length;have hn:=wg;have fin:EP X pins σ Q w s:=⟨z,H,I,rw',q⟩
 exact subscriptTail_builtinR (x:=w) pl.typeIs slot_tuple_getitem.lookup
  (getItem_tuple (j:=j) (Q:=fun r s'=>r=w/\EP X pins σ Q r s') pl (by omega) (by omega) (by rw[List.size_toArray,<- hl];exact h1) (by simpa using ew) ⟨rfl,fin⟩) hs
theorem abo:IxR X abm:=by
 intro value slice pins s σ H x y v u Q I rx ry h hs;obtain⟨z,i,c,rfl,rfl,hz,he,q⟩:=h;obtain⟨t,rfl⟩:=rx;obtain⟨t',rfl⟩:=ry;obtain⟨j,h1,h2,h3,h4,h5⟩:=Ci he;have hl:z.cps.toList.length=z.length:=by simp[Str.length]
 rw[hl]at h1 h4 h5;have hn:=wg
 exact tail_any (typeIs_str s z t) slot_str_getitem.lookup (getItem_str (c:=c) (by
  have e1:decide (i < -(2 ^ 63:Int))=false:=decide_eq_false (by omega);have e2:decide (i >= 2 ^ 63)=false:=decide_eq_false (by omega)
  rw[e1,e2,Bool.or_false]) (by rw[h1];simpa using h2) ⟨.str ⟨#[c]⟩,H,I.tok _,⟨_,rfl⟩,q⟩) hs
def rIx(K:ak):R2:=fun x y H Q=>abk K x y H Q\/abl K x y H Q\/abm x y H Q
theorem Rh:IxR X (rIx X.K):=xP.or (abn.or abo)
theorem HH(lo hi:Option Int)(n:Nat):(sliceBounds lo hi none n).1=((HT.sIx n 0 lo:Nat):Int)/\(sliceBounds lo hi none n).2.1=((HT.sIx n n hi:Nat):Int)/\(sliceBounds lo hi none n).2.2=1:=by
 refine⟨?_,?_,rfl⟩
 · cases lo with
   | none=>simp[sliceBounds,HT.sIx]
   | some i=>
     simp only[sliceBounds,HT.sIx,Option.getD_none,show(1:Int) > 0 by decide,if_true]
     by_cases h:i<0
     · simp only[h,if_true] <;> omega
     · simp only[h,if_false] <;> omega
 · cases hi with
   | none=>simp[sliceBounds,HT.sIx]
   | some i=>
     simp only[sliceBounds,HT.sIx,Option.getD_none,show(1:Int) > 0 by decide,if_true]
     by_cases h:i<0
     · simp only[h,if_true] <;> omega
     · simp only[h,if_false] <;> omega
theorem Fx(its:List Value)(lo hi:Option Int):slicePick its.toArray lo hi none=((its.drop (HT.sIx its.length 0 lo)).take (HT.sIx its.length its.length hi - HT.sIx its.length 0 lo)).toArray:=by
 obtain⟨h1,h2,h3⟩:=HH lo hi its.toArray.size;unfold slicePick;rw[h1,h2,h3];simp only[sliceRange_one,pick_run,List.size_toArray] <;> rfl
def abp(K:ak):V->Option Int->Option Int->Hp->VK->Prop:=fun x lo hi H Q=>∃ a xs,x= .ref a/\SqL K H a xs/\∀ p,H p=none->Q (.ref p) (upd H p (.lst (wz xs lo hi)))
theorem Ck:SlR X (abp X.K):=by
 intro pins s σ H x v vl vu lo hi sl Q I rx hs pl pu h;obtain⟨a,xs,rfl,hx,q⟩:=h;cases rx;obtain⟨its,r,ht,hz⟩:=I.list hx;have hlen:=r.length;refine⟨"list",_,slot_list_getitem.lookup,ht.isList.typeIs,?_⟩;refine wpAny_getItem_list_slice ht.isList hs pl pu .none (by simp) ?_ (by rw[List.size_toArray] <;> omega);rw[Fx,<- hlen];refine⟨.ref s.heap.objs.size,_,I.laid (t':=s.toks) (o:=.lst (wz xs lo hi)) (fun b ob q=>Heap.get?_push_of_some _ q) (aH _) ?_,rfl,q _ (I.hok.fresh (aH _))⟩;exact⟨Nat.le_trans (yw xs lo hi) hz,_,0,(r.drop (HT.sIx xs.length 0 lo)).take (HT.sIx xs.length xs.length hi - HT.sIx xs.length 0 lo),Heap.get?_push_size _ rfl⟩
def lZ:V->Bool
 | .non=>true
 | .bl _=>true
 | .int _=>true
 | .str _=>true
 | _=>false
def eqV:V->V->Bool
 | .non,.non=>true
 | .bl a,.bl b=>a==b
 | .bl a,.int b=>(if a then 1 else 0)==b
 | .int a,.bl b=>a==(if b then 1 else 0)
 | .int a,.int b=>a==b
 | .str a,.str b=>a==b
 | _,_=>false
theorem HJ{A:Around}{s:Shared}{y x:V}{u v:Value}(ry:RelV y u)(rx:RelV x v)(fy:lZ y=true)(fx:lZ x=true):SeqAt.EqAt A s u v (eqV y x):=by
 cases y with
 | non=>
   cases ry
   cases x with
   | non=>cases rx;exact SeqAt.EqAt.same _
   | bl b=>cases rx;exact SeqAt.EqAt.none_bool b
   | int b=>obtain⟨t,rfl⟩:=rx;exact SeqAt.EqAt.none_int b t
   | str b=>obtain⟨t,rfl⟩:=rx;exact SeqAt.EqAt.none_str b t
   | _=>exact absurd (show false=true from fx) Bool.false_ne_true
 | bl a=>
   cases ry
   cases x with
   | non=>cases rx;exact SeqAt.EqAt.bool_none a
   | bl b=>cases rx;exact SeqAt.EqAt.bool_bool a b
   | int b=>obtain⟨t,rfl⟩:=rx;exact SeqAt.EqAt.bool_int a b t
   | str b=>obtain⟨t,rfl⟩:=rx;exact SeqAt.EqAt.bool_str a b t
   | _=>exact absurd (show false=true from fx) Bool.false_ne_true
 | int a=>
   obtain⟨t',rfl⟩:=ry
   cases x with
   | non=>cases rx;exact SeqAt.EqAt.int_none a t'
   | bl b=>cases rx;exact SeqAt.EqAt.int_bool a t' b
   | int b=>obtain⟨t,rfl⟩:=rx;exact SeqAt.EqAt.int_int a t' b t
   | str b=>obtain⟨t,rfl⟩:=rx;exact SeqAt.EqAt.int_str a t' b t
   | _=>exact absurd (show false=true from fx) Bool.false_ne_true
 | str a=>
   obtain⟨t',rfl⟩:=ry
   cases x with
   | non=>cases rx;exact SeqAt.EqAt.str_none a t'
   | bl b=>cases rx;exact SeqAt.EqAt.str_bool a t' b
   | int b=>obtain⟨t,rfl⟩:=rx;exact SeqAt.EqAt.str_int a t' b t
   | str b=>obtain⟨t,rfl⟩:=rx;exact SeqAt.EqAt.str_str a t' b t
   | _=>exact absurd (show false=true from fx) Bool.false_ne_true
 | _=>exact absurd (show false=true from fy) Bool.false_ne_true
def eqU(x:V)(u:Value):Bool:=match u with
 | .none=>eqV .non x
 | .bool b=>eqV (.bl b) x
 | .int i _=>eqV (.int i) x
 | .str z _=>eqV (.str z) x
 | _=>false
theorem Ri{x y:V}{u:Value}(r:RelV y u)(f:lZ y=true):eqU x u=eqV y x:=by
 cases y with
 | non=>cases r;rfl
 | bl b=>cases r;rfl
 | int i=>obtain⟨t,rfl⟩:=r;rfl
 | str z=>obtain⟨t,rfl⟩:=r;rfl
 | _=>exact absurd (show false=true from f) Bool.false_ne_true
theorem Cm{x:V}:∀ {xs:List V} {us:List Value},Vals xs us->xs.all lZ=true->us.any (eqU x)=xs.any fun y=>eqV y x
 | _,_,.nil,_=>rfl
 | y::xs,u::us,.cons r t,f=>by
   rw[List.all_cons,Bool.and_eq_true]at f;rw[List.any_cons,List.any_cons,Ri r f.1,Cm t f.2]
theorem yJ{A:Around}{s:Shared}{x:V}{v:Value}(rx:RelV x v)(fx:lZ x=true):∀ {xs:List V} {us:List Value},Vals xs us->xs.all lZ=true->∀ u ∈ us,SeqAt.EqAt A s u v (eqU x u)
 | _,_,.nil,_=>fun u hu=>by cases hu
 | y::xs,u::us,.cons r t,f=>fun u' hu=>by
   rw[List.all_cons,Bool.and_eq_true]at f
   rcases List.mem_cons.mp hu with rfl | hu
   · rw[Ri r f.1];exact HJ r rx f.1 fx
   · exact yJ rx fx t f.2 u' hu
def inV(x:V)(xs:List V):Bool:=xs.any fun y=>eqV y x
def rIn(K:ak)(neg:Bool):R2:=fun x y H Q=>∃ p xs,y= .ref p/\(SqL K H p xs\/SqT K H p xs)/\lZ x=true/\xs.all lZ=true/\Q (.bl (if neg then !inV x xs else inV x xs)) H
theorem qQ:OpR X (compareOp .NotIn) (rIn X.K true):=by
 intro pins s σ H x y v u Q I rx ry h;obtain⟨p,xs,rfl,hq,fx,fs,q⟩:=h;cases ry
 rcases hq with hq | hq
 · obtain⟨its,r,pl,hz⟩:=I.list hq;refine SeqAt.notIn_listAt (eqU x) pl.isList (fun w hw=>yJ rx fx r fs w (by simpa using hw)) ⟨.bl _,H,I,rfl,?_⟩;rw[show its.toArray.any (eqU x)=its.any (eqU x) by simp,Cm r fs];exact q
 · obtain⟨its,r,pl,hz⟩:=I.tuple hq;refine SeqAt.notIn_tupleAt (eqU x) pl (fun w hw=>yJ rx fx r fs w (by simpa using hw)) ⟨.bl _,H,I,rfl,?_⟩;rw[show its.toArray.any (eqU x)=its.any (eqU x) by simp,Cm r fs];exact q
theorem d_:jb X (.builtin "len") (fun xs H Q=>∃ p ys,xs= [.ref p]/\(SqL X.K H p ys\/SqT X.K H p ys)/\Q (.int ys.length) H):=by
 intro pins s σ H xs us Q I r h;obtain⟨p,ys,rfl,hq,q⟩:=h;obtain⟨u,rfl,rx⟩:=vals1 r;cases rx;have hn:=wg
 rcases hq with hq | hq
 · obtain⟨its,r',pl,hz⟩:=I.list hq;have hlen:=r'.length;exact Calls.call_len_list pl.isList (by simp only[List.size_toArray] <;> omega) ⟨.int ys.length,H,I.tok _,⟨s.toks+1,by rw[List.size_toArray,hlen]⟩,q⟩
 · obtain⟨its,r',pl,hz⟩:=I.tuple hq;have hlen:=r'.length;exact len_tuple pl (by simp only[List.size_toArray] <;> omega) ⟨.int ys.length,H,I.tok _,⟨s.toks+1,by rw[List.size_toArray,hlen]⟩,q⟩
theorem HN:jb X (.type "list") (fun xs H Q=>∃ p ys,xs= [.ref p]/\(SqL X.K H p ys\/SqT X.K H p ys)/\∀ l,H l=none->Q (.ref l) (upd H l (.lst ys))):=by
 intro pins s σ H xs us Q I r h;obtain⟨p,ys,rfl,hq,q⟩:=h;obtain⟨u,rfl,rx⟩:=vals1 r;cases rx
 have fin:∀(its:List Value),Vals ys its->ys.length<=sizeLine->∀(h':Heap) (c':Nat),(∀ b o',s.heap.get? b=some o'->h'.get? b=some o')->
  h'.get? s.heap.objs.size=some { cls:=.type "list",dict:=none,data:=.seq its.toArray c',slots:=#[] }->EP X pins σ Q (.ref s.heap.objs.size) { s with heap:=h' }:=fun its r' hz h' c' kp e=>
  ⟨.ref s.heap.objs.size,_,I.laid (t':=s.toks) kp (aH _) (show bA X.prog X.w _ h' _ (.lst ys) from ⟨hz,its,c',r',e⟩),rfl,q _ (I.hok.fresh (aH _))⟩
 rcases hq with hq | hq
 · obtain⟨its,r',pl,hz⟩:=I.list hq;have hlen:=r'.length;obtain⟨o,ho,hc,n,hd⟩:=pl.isList;exact call_list_seq p (.inl rfl) ho hc hd (fun h' c' kp e=>fin its r' hz h' c' kp e) (by simp only[List.size_toArray] <;> omega)
 · obtain⟨its,r',pl,hz⟩:=I.tuple hq;have hlen:=r'.length;obtain⟨o,ho,hc,n,hd⟩:=pl;exact call_list_seq p (.inr rfl) ho hc hd (fun h' c' kp e=>fin its r' hz h' c' kp e) (by simp only[List.size_toArray] <;> omega)
def tyV(K:ak)(T:String)(x:V)(H:Hp):Prop:=match x with
 | .str _=>T= "str"
 | .int _=>T= "int"
 | .ref p=>(T= "list"/\∃ xs,SqL K H p xs)\/(T= "tuple"/\∃ o,K.lookup p=some o/\o.cls= .type "tuple"/\o.dict=none)\/
    (T= "dict"/\((∃ kvs,H p=some (.dK kvs))\/∃ kvs,H p=some (.dT kvs)))\/(T= "set"/\∃ S n,H p=some (.set S n))
 | _=>False
theorem abq{pins:List (Addr × Obj)}{σ:St}{H:Hp}{s:Shared}{T:String}{x:V}{v:Value}(I:Inv X pins σ H s)(r:RelV x v)(ty:tyV X.K T x H):
 s.TypeIs v T/\∀ a,v= .ref a->∃ ob,s.heap.get? a=some ob/\ob.dict=none:=by
 cases x with
 | str z=>
   obtain⟨t,rfl⟩:=r;cases (show T= "str" from ty)
   exact⟨typeIs_str s z t,fun _ e=>nomatch e⟩
 | int i=>
   obtain⟨t,rfl⟩:=r;cases (show T= "int" from ty)
   exact⟨typeIs_int s i t,fun _ e=>nomatch e⟩
 | ref p=>
   cases r
   rcases ty with ⟨rfl,xs,hq⟩ | ⟨rfl,o,hk,hc,hd⟩ | ⟨rfl,hk⟩ | ⟨rfl,S,n,hk⟩
   · obtain⟨its,_,pl,_⟩:=I.list hq;refine⟨pl.isList.typeIs,fun a e=>?_⟩;cases e;obtain⟨o,n,e,c,hd,_⟩:=pl;exact⟨o,e,hd⟩
   · refine⟨⟨o,I.kIn p o hk,hc⟩,fun a e=>?_⟩;cases e;exact⟨o,I.kIn _ o hk,hd⟩
   · have z:∃ o,s.heap.get? p=some o/\o.ExactDict:=by
      rcases hk with ⟨kvs,hk⟩ | ⟨kvs,hk⟩
      · obtain⟨_,_,_,_,o,_,_,e,ex,_⟩:=I.hok p _ hk;exact⟨o,e,ex⟩
      · obtain⟨_,_,_,_,o,_,_,e,ex,_⟩:=I.hok p _ hk;exact⟨o,e,ex⟩
     obtain⟨o,e,ex⟩:=z;refine⟨⟨o,e,ex.1⟩,fun a e2=>?_⟩;cases e2;exact⟨o,e,ex.2.1⟩
   · obtain⟨o,_,_,_,e,ex,_⟩:=I.hok p _ hk;refine⟨⟨o,e,ex.1⟩,fun a e2=>?_⟩;cases e2
     exact⟨o,e,ex.2.1⟩
 | _=>exact False.elim ty
def tBM(K:ak)(T:String)(r:V->List V->Hp->VK->Prop)(to:TE)(t:TA):TE:=fun σ H Q=>to σ H fun x H1=>tyV K T x H1/\t σ H1 fun xs H2=>r x xs H2 Q
variable{o e:Expr}{es:List Expr}{to:TE}{t:TA}{name:Str}{apos cpos:Pos}{T id:String}{r:V->List V->Hp->VK->Prop}
theorem GX(pa:PlainAttrs T)(slot:Slot T name id)(hty:typeOf (.builtin id)=pure (.type "method_descriptor"))(hm:MtR X id r)(ho:PE X o to)(ha:PA X (e::es) t)
 (hbase:attributeBase o name X.env (eval o X.env)=eval o X.env:=by rfl)
 (hfew:((backTo cpos (starEach (e::es) X.env)).all (fun x=> !x.1)&&(backToKw cpos (keywordEach [] X.env)).all (fun x=>x.1.isSome)
   && decide ((e::es).length+([]:List Keyword).length+(if([]:List Keyword).isEmpty then 0 else 1)<30))=true:=by rfl)
 (hline:(apos.endLine==cpos.line)=true:=by rfl) (hs:starEach (e::es) X.env=(false,eval e X.env)::starEach es X.env:=by rfl) (hplain:(backTo cpos (starEach es X.env)).any (·.1)=false:=by rfl):
 PE X (.Call (.Attribute o name apos) (e::es) [] cpos) (tBM X.K T r to t):=by
 intro pins s σ H Q I h;refine wpAny_Call_method_late hbase hfew hline rfl (thn (ho pins s σ H _ I h) fun v s1 ⟨x,H1,I1,r1,ty,q1⟩=>?_);obtain⟨h1,h2⟩:=abq I1 r1 ty;refine⟨T,id,pa,slot,hty,h1,h2,?_⟩;have hA:=ha cpos pins s1 σ H1 _ I1 q1;rw[hs]at hA ⊢;refine Calls.callWith_builtin (by show(false||(backTo cpos (starEach es X.env)).any (·.1))=false;rw[hplain] <;> rfl) (Calls.evalArgs_plain ?_);exact thn hA fun us s2 ⟨vs,H2,I2,r2,q2⟩=>hm pins s2 σ H2 x vs v us Q I2 r1 r2 q2
end
def MtM(X:Cx)(id:String)(r:V->List V->Hp->VK->Prop):Prop:=
 ∀(pins:List (Addr × Obj)) (s:Shared) (σ:St) (H:Hp) (x:V) (xs:List V) (v:Value) (us:List Value) (Q:VK),Inv X pins σ H s->RelV x v->Vals xs us->r x xs H Q->
  wpAny (model X.prog X.w) X.A (call (.builtin id) (v::us)) (EP X pins σ Q) X.xe s
theorem Vals.one:∀ {x:V} {us:List Value},Vals [x] us->∃ u,us= [u]/\RelV x u
 | _,_,.cons r .nil=>⟨_,rfl,r⟩
theorem Vals.rep{xs:List V}{us:List Value}(h:Vals xs us):∀ k:Nat,Vals (List.replicate k xs).flatten (List.replicate k us).flatten
 | 0=>.nil
 | k+1=>by
   rw[List.replicate_succ,List.replicate_succ,List.flatten_cons,List.flatten_cons];exact Vals.append h (Vals.rep h k)
theorem foldl_rep(its:List Value):∀(k:Nat) (acc:List Value),
 List.foldl (fun x1 x2=>x1++x2) acc.toArray (List.replicate k its.toArray)=(acc++(List.replicate k its).flatten).toArray
 | 0,acc=>by simp
 | k+1,acc=>by
   have e:acc.toArray++its.toArray=(acc++its).toArray:=by simp
   have e2:(acc++its)++(List.replicate k its).flatten=acc++(List.replicate (k+1) its).flatten:=by
    rw[List.replicate_succ,List.flatten_cons,List.append_assoc]
   rw[<- e2,<- foldl_rep its k (acc++its),<- e,List.replicate_succ,List.foldl_cons]
section
variable{X:Cx}{pins:List (Addr × Obj)}{σ:St}{H:Hp}{s:Shared}{l b:Addr}{xs ys zs:List V}
theorem Inv.aeK{its its':List Value}{n:Nat}{f:Array Value->Array Value}{t':Nat}(I:Inv X pins σ H s)(hH:H l=some (.lst xs))
 (e:s.heap.get? l=some { cls:=.type "list",data:=.seq its.toArray n }) (hf:f its.toArray=its'.toArray) (hv:Vals ys its') (hz:ys.length<=sizeLine):
 Inv X pins σ (upd H l (.lst ys)) { s with heap:=s.heap.update l (Obj.mapSeq f),toks:=t' }:=by
 have q:=PySem.IsL.update e f;rw[hf]at q;refine I.write (x:=l) (e:=l) (by rw[hH];exact trivial) (.inl rfl) (fun b' u hb hu=>(Heap.get?_update_other s.heap (Obj.mapSeq f) (Ne.symm hb)).trans hu) ⟨_,q⟩ ?_;exact⟨hz,its',_,hv,q⟩
theorem Inv.V9{its:List Value}{t':Nat}(I:Inv X pins σ H s)(hv:Vals ys its)(hz:ys.length<=sizeLine):
 Inv X pins σ (upd H s.heap.objs.size (.lst ys)) { s with heap:=s.heap.push { cls:=.type "list",data:=.seq its.toArray },toks:=t' }:=
 I.laid (fun _ _ q=>Heap.get?_push_of_some _ q) (aH _) ⟨hz,its,0,hv,Heap.get?_push_size _ rfl⟩
theorem Inv.fresh(I:Inv X pins σ H s):H s.heap.objs.size=none:=I.hok.fresh (aH _)
theorem Inv.N6(I:Inv X pins σ H s)(hH:H l=some (.lst xs)):xs.length<=sizeLine/\∃(its:List Value) (n:Nat),Vals xs its/\xs.length=its.length/\s.heap.get? l=some { cls:=.type "list",data:=.seq its.toArray n }:=by
 obtain⟨z,its,n,r,e⟩:=I.hok l _ hH;exact⟨z,its,n,r,r.length,e⟩
theorem V_{n:Nat}(h:n<=sizeLine):Builtin.List.listTooLong n=false:=by
 unfold Builtin.List.listTooLong;exact decide_eq_false (by omega)
end
section
variable{X:Cx}
def Lj:V->List V->Hp->VK->Prop:=fun x vs H Q=>∃ l xs y,x= .ref l/\vs= [y]/\H l=some (.lst xs)/\xs.length<sizeLine/\Q .non (upd H l (.lst (xs ++ [y])))
theorem mR:MtM X "list.append" Lj:=by
 intro pins s σ H x vs v us Q I rx rv h;obtain⟨l,xs,y,rfl,rfl,hH,hz,q⟩:=h;cases rx;obtain⟨u,rfl,ru⟩:=rv.one;obtain⟨z,its,n,r,hl,e⟩:=I.N6 hH;refine call_meets F.slot_list_append ⟨_,e,rfl⟩ F.entry_list_append (F.args_list_append_2 _ _) (PySem.list_append l its.toArray n u (by rw[List.size_toArray];omega)) ⟨e,?_⟩;refine⟨.non,_,I.aeK (its':=its ++ [u]) hH e (by simp) (r.append (.cons ru .nil)) ?_,rfl,q⟩;rw[List.length_append,List.length_singleton];omega
def abr:R2:=fun x y H Q=>∃ l b xs zs,x= .ref l/\y= .ref b/\H l=some (.lst xs)/\H b=some (.lst zs)/\xs.length+zs.length<=sizeLine/\∀ p,H p=none->Q (.ref p) (upd H p (.lst (xs++zs)))
theorem iC:OpR X (binaryOp .Add) abr:=by
 intro pins s σ H x y v u Q I rx ry h;obtain⟨l,b,xs,zs,rfl,rfl,hH,hB,hz,q⟩:=h;cases rx;cases ry;obtain⟨z,its,n,r,hl,e⟩:=I.N6 hH;obtain⟨z2,its2,n2,r2,hl2,e2⟩:=I.N6 hB;refine PySem.P.add_list e e2 ?_ (by rw[List.size_toArray,List.size_toArray];omega);have ea:its.toArray++its2.toArray=(its++its2).toArray:=by simp
 rw[ea];exact⟨.ref _,_,I.V9 (t':=s.toks) (r.append r2) (by rw[List.length_append];omega),rfl,q _ I.fresh⟩
def abt:R2:=fun x y H Q=>∃ l k xs,x= .ref l/\y= .int k/\H l=some (.lst xs)/\-(2 ^ 63)<=k/\k<2 ^ 63/\xs.length*k.toNat<=sizeLine/\
 ∀ p,H p=none->Q (.ref p) (upd H p (.lst (List.replicate k.toNat xs).flatten))
theorem len_rep{α:Type}(xs:List α)(k:Nat):(List.replicate k xs).flatten.length=k*xs.length:=by
 induction k with
 | zero=>simp
 | succ k ih=>rw[List.replicate_succ,List.flatten_cons,List.length_append,ih,Nat.succ_mul,Nat.add_comm]
theorem zO:OpR X (binaryOp .Mult) abt:=by
 intro pins s σ H x y v u Q I rx ry h;obtain⟨l,k,xs,rfl,rfl,hH,h1,h2,hz,q⟩:=h;cases rx;obtain⟨t,rfl⟩:=ry;obtain⟨z,its,n,r,hl,e⟩:=I.N6 hH;have hlen:its.toArray.size*k.toNat<=sizeLine:=by rw[List.size_toArray,<- hl];exact hz
 have hcap:¬ its.toArray.size*k.toNat > (2 ^ 63 - 1) / 8:=by
  have:(sizeLine:Nat)<=(2 ^ 63 - 1) / 8:=by decide
  omega
 have hfit:¬ (!Builtin.List.listFitsIndex k)=true:=by
  rw[fitsIndex_both h1 h2];exact Bool.false_ne_true
 have adT:¬ Builtin.List.listTooLong (its.toArray.size*k.toNat)=true:=by
  rw[V_ hlen];exact Bool.false_ne_true
 have hnew:List.foldl (fun x1 x2=>x1++x2) #[] (List.replicate (if its.toArray.isEmpty=true then 0 else k.toNat) its.toArray)=(List.replicate k.toNat its).flatten.toArray:=by
  have f0:∀ m:Nat,List.foldl (fun x1 x2=>x1++x2) #[] (List.replicate m its.toArray)=(List.replicate m its).flatten.toArray:=fun m=>by
   have:=foldl_rep its m [];rw[List.nil_append]at this;exact this
  rw[f0]
  cases its with
  | nil=>simp
  | cons a r'=>rw[if_neg (by simp)]
 refine wpAny_binaryOp_repeat_ref (T:="list") (U:="int") (by decide) ⟨_,e,rfl⟩ (fun s'=>typeIs_int s' k t) noFill_list_mul F.fills_int_mul F.slot_int_rmul repeat_list F.slot_int_index.lookup
  (call_meets F.slot_int_rmul (typeIs_int s k t) F.entry_int_rmul (F.args_int_rmul_2 _ _) (int___rmul___int_list k t l its.toArray n)
    ⟨e,rfl,⟨_,e,rfl⟩,call_meets F.slot_list_mul ⟨_,e,rfl⟩ F.entry_list_mul (F.args_list_mul_2 _ _) (AutoListH.list___mul___list_int_3 l its.toArray n k t hfit hcap adT) ⟨e,?_⟩⟩)
 rw[hnew];exact⟨.ref _,_,I.V9 (t':=s.toks) (r.rep k.toNat) (by rw[len_rep,Nat.mul_comm];exact hz),rfl,q _ I.fresh⟩
end
section
variable{prog:Program}{w:World}{A:Around}{E:Value->Shared->Prop}{s:Shared}
set_option maxRecDepth 100000 in
end
end L2
namespace Att
open PySem PySem.W PySem.Calls PyProof.Rows
theorem zQ{P:Params}{h:Heap}:∀(ns:List Int) (vs:List Value),WellAll P h vs (ns.map WData.int)->IntsAre vs ns:=by
 intro ns
 induction ns with
 | nil=>
   intro vs w;rw[List.map_nil]at w;cases w
   exact .nil
 | cons n ns ih=>
   intro vs w;rw[List.map_cons]at w
   cases w with
   | cons a b=>
     cases a;exact .cons _ _ (ih _ b)
theorem Rj{l:OpenLaw}{n:Nat}(hn:l.most=some n){P:Params}{h:Heap}{args:List WData}{vals:List Value}
 (hpre:l.row.toRowW.claim.pre args=true) (hwl:WellAll P h vals args):
 ∃ a vs ns,vals= [Value.ref a]/\args= [WData.list (ns.map WData.int)]/\h.get? a=some { cls:=.type "list",data:=.seq vs.toArray }/\IntsAre vs ns/\ns.length<=n:=by
 have hsh:WShape.hasAll [] args [.list .int] =true:=(pre_splitW hpre).1;have hc:l.pre.holds [] { args:=args } =true:=(pre_splitW hpre).2;obtain⟨d,r,rfl,h1,h2⟩:=hasAllW_cons hsh;obtain rfl:=hasAllW_nil h2;obtain⟨xs,rfl,h3⟩:=hasW_list h1;obtain⟨ns,rfl⟩:=items_int h3
 have hlen:ns.length<=n:=by
  unfold OpenLaw.pre at hc
  have h4:(WTm.not (.lt (.lit (.int (n:Int))) (.len (.arg 0)))).holds [] { args:=[.list (ns.map .int)] } =true:=by
   have h4:=(holds_andW hc).1;rw[hn]at h4;exact h4
  have h5:=condW_of h4 (w_not (w_lt w_lit (w_len_list (w_arg rfl))));rw[List.length_map]at h5;refine Nat.le_of_not_lt fun q=>?_;have q':(n:Int)<((ns.length:Nat):Int):=by omega
  first
   | (rw[decide_eq_true q']at h5;exact absurd h5 (by decide))
   | (simp at h5;omega)
 cases hwl with
 | cons w1 w2=>
   cases w2
   cases w1 with
   | list ho hall=>exact⟨_,_,ns,rfl,rfl,ho,zQ ns _ hall,hlen⟩
theorem Rk(l:OpenLaw)(args:List WData):l.row.toRowW.claim.post args (.bool true) args=true:=
 postW_of (r:=l.row.toRowW) (X:=(true==true))
  (show WShape.has [] (.bool true) .bool=true by first | rfl | decide | simp[WShape.has,WShape.arms,WShape.armsAll])
  (show(WTm.eq .res (.lit (.bool true))).value [] { args:=args,res:=some (.bool true),after:=args } =some (.bool (true==true)) from w_eq_bool (w_res rfl) w_lit) rfl
theorem KJ{l:OpenLaw}{n:Nat}{q:Program}{loose:List Str}{XP:(Str->Option Value)->Heap->Prop}{YP:World->Heap->Prop}{d:DefRec}
 (hn:l.most=some n) (hdf:d.params.defaults= [])
 (call:∀(w:World) (s₀ s₁:Shared) (mg mb:Str->Option Value) (fa:Addr) (o:Obj) (pm cd doc:Value) (a:Addr) (vs:List Value) (ns:List Int),
   Ground q loose [] XP w s₀ mg mb s₁.heap->YP w s₁.heap->
   s₁.heap.get? fa=some o->o.data= .func (docDef d.name d.params d.body d.scope pm cd doc)->s₁.heap.CodeRec cd d.name->mg d.name=some (.ref fa)->
   s₁.heap.get? a=some { cls:=.type "list",data:=.seq vs.toArray }->IntsAre vs ns->ns.length<=n->s₁.gens= #[]->
   codeAny (model l.prog w) callerA (.call (.ref fa) ⟨[.ref a],[]⟩) (fun r s'=>r= .ok (.ret (.bool true))/\OldK s₁.heap s'.heap/\s'.os=s₁.os/\AllBare s'.gens) s₁):
 WalkO q loose XP YP l.row.toRowW d [] (fun f vs=>PySem.call f vs):=by
 intro w s₀ s₁ mg mb G Y fa o pm cd doc dV kV ho hd hcd hD hmg hg args vals as hpre hlay hrd hwl hlo;obtain rfl:dV= .none:=Dflts.none hD hdf;obtain rfl:kV= .none:=Dflts.noKw hD;obtain⟨a,vs,ns,rfl,rfl,hobj,hints,hlen⟩:=Rj hn hpre hwl;refine enter_call (codeAny_mono (call w s₀ s₁ mg mb fa o pm cd doc a vs ns G Y ho (fd_plain hd) hcd hmg hobj hints hlen hg) fun r s' hq=>?_);obtain⟨rfl,h2,h3,h4⟩:=hq;exact⟨.inl ⟨.bool true,.bool true,[],rfl,fun _=>rfl,.bool true,Rk l _,fun _=>⟨List.Pairwise.nil,fun _ hm=>(nomatch hm)⟩⟩,h2,h3,h4⟩
end Att
namespace L2
open PySem PySem.Spec PyProof.Rows
theorem Er:∀ {vs:List Value} {ns:List Int},IntsAre vs ns->Vals (ns.map V.int) vs
 | _,_,.nil=>.nil
 | _,_,.cons n t h=>.cons ⟨t,rfl⟩ (Er h)
def inClass(s:Stmt)(j:Nat):Stmt:=match s with
 | .ClassDef _ _ _ body _ _ _ _ _ _ _=>body.getD j (.Pass ⟨0,0,0,0⟩)
 | _=>.Pass ⟨0,0,0,0⟩
def fD(s:Stmt):Arguments:=match s with
 | .FunctionDef _ a _ _ _ _ _ _ _ _=>a
 | _=>{ posonlyargs:=[],args:=[],vararg:=none,kwonlyargs:=[],kw_defaults:=[],kwarg:=none,defaults:=[] }
def bG(s:Stmt):List Stmt:=match s with
 | .FunctionDef _ _ b _ _ _ _ _ _ _=>b
 | _=>[]
def aa(s:Stmt):Scope:=match s with
 | .FunctionDef _ _ _ _ _ _ sc _ _ _=>sc
 | _=>{ kind:=.function,names:=[],isGenerator:=false,isCoroutine:=false }
abbrev CX0:CXT:=fun _ _ _ _ _ _=>False
abbrev E0:XK:=fun _ _ _=>False
theorem ql{X:Cx}:Passes CX0 X E0:=fun _ _ _ _ _ _ _ h=>h.elim
structure Fun (K:ak)(x qual:Str)(st:Stmt)(f:Addr)(fd:FuncData):Prop where
 ex:∃(oc:Value) (od:Option Addr) (kV doc pm:Value) (an:Option Addr) (cdv ct:Value) (osl:Array (Option Value)),
  fd=PySem.W.fnOf x qual (fD st) (bG st) (aa st) .none kV doc pm an cdv ct/\K.lookup f=some ⟨oc,od,.func fd,osl⟩/\PySem.W.codeIn K cdv qual=true
 kp:PySem.W.keepIn K (.ref f)=true
section
variable{P:Program}{w:World}{K:ak}{mg:Str->Option Value}{base:Heap}
theorem Fun.ok{x qual:Str}{st:Stmt}{f:Addr}{fd:FuncData}{N ps:List Str}{k:Nat}{sp:Sp}(F:Fun K x qual st f fd)(S:aC N ps (aa st))(len:∀ vs H Q E,sp vs H Q E->vs.length=ps.length)
 (hbody:∀(cdv:Value) (A:Around) (outer:List Env) (s:Shared) (H:Hp) (vs:List V) (Q:VK) (E:XK),aX k (A.deeper (envOfC qual (aa st) s.heap.objs.size f cdv))->sp vs H Q E->
   ∃ t,PSs (iB CX0 P w K mg base N qual (aa st) f cdv A outer s H E).nox (bG st) t/\t { nx:=fun _ H'=>Q .non H',rt:=Q } (start N vs) H):aP P w K mg base CX0 (k+1) f fd ps sp:=by
 obtain⟨oc,od,kV,doc,pm,an,cdv,ct,osl,rfl,lk,hcd⟩:=F.ex;refine NK lk hcd S len fun A outer s H vs Q E hr hsp=>?_;obtain⟨t,h,q⟩:=hbody cdv A outer s H vs Q E hr hsp;exact⟨t,h.nox,q⟩
theorem Fun.binds{x qual:Str}{st:Stmt}{f:Addr}{fd:FuncData}{ps:List Str}(F:Fun K x qual st f fd)
 (h:∀(kV doc pm:Value) (an:Option Addr) (cdv ct:Value) (us:List Value),us.length=ps.length->bindArgs (PySem.W.fnOf x qual (fD st) (bG st) (aa st) .none kV doc pm an cdv ct) ⟨us,[]⟩ =pure (ps.zip us)):Binds K fd ps []:=by
 obtain⟨oc,od,kV,doc,pm,an,cdv,ct,osl,rfl,lk,hcd⟩:=F.ex;exact .all (h kV doc pm an cdv ct)
theorem zR{x qual:Str}{st:Stmt}{f:Addr}{oc:Value}{od an:Option Addr}{osl:Array (Option Value)}{kV doc pm cdv ct:Value}(l:K.lookup f=some ⟨oc,od,.func (PySem.W.fnOf x qual (fD st) (bG st) (aa st) .none kV doc pm an cdv ct),osl⟩)
 (c:PySem.W.codeIn K cdv qual=true) (k:PySem.W.keepIn K (.ref f)=true):Fun K x qual st f (PySem.W.fnOf x qual (fD st) (bG st) (aa st) .none kV doc pm an cdv ct):=⟨⟨oc,od,kV,doc,pm,an,cdv,ct,osl,rfl,l,c⟩,k⟩
end
theorem Rm{n:Nat}(h:n<=1000):n<sizeLine:=Nat.lt_of_le_of_lt h (by decide)
section
variable{X:Cx}
theorem pv(i:Nat){x:Str}{pos:Pos}(hN:X.N[i]? =some x:=by rfl)(hv:Vis X.env.scope x:=by first | exact Or.inl rfl | exact Or.inr (Or.inl rfl) | exact Or.inr (Or.inr rfl))(hd:(x==("__debug__":Str))=false:=by decide)
 (hcd:(x==("__classdict__":Str))=false:=by decide):PE X (.Name x pos) (aa1 i):=zF hN hv hd hcd
end
theorem a_{A B:Prop}(h:B):if false=true then A else B:=by
 rw[if_neg Bool.false_ne_true];exact h
theorem cg{A B:Prop}(h:A):if true=true then A else B:=by
 rw[if_pos rfl];exact h
theorem N7{c A B:Prop}[Decidable c](h1:c->A)(h2:¬ c->B):if c then A else B:=by
 by_cases h:c
 · rw[if_pos h];exact h1 h
 · rw[if_neg h];exact h2 h
def bN(H H':Hp):Prop:=∀ b o,H b=some o->H' b=some o
theorem bN.refl(H:Hp):bN H H:=fun _ _ h=>h
theorem bN.trans{H H1 H2:Hp}(a:bN H H1)(b:bN H1 H2):bN H H2:=fun c o h=>b c o (a c o h)
end L2
set_option maxRecDepth 1000000
set_option maxHeartbeats 4000000
namespace L2
open PySem PySem.Spec PyProof.Rows
section
variable{κ:Type}[DecidableEq κ]
def nD(kvs:List (κ × V))(k:κ):Option V:=(kvs.find? fun kv=>decide (kv.1=k)).map (·.2)
def putK(kvs:List (κ × V))(k:κ)(v:V):List (κ × V):=
 if(kvs.any fun kv=>decide (kv.1=k))=true then kvs.map (fun kv=>if kv.1=k then(kv.1,v) else kv) else kvs ++ [(k,v)]
theorem uF{p:κ × V}{r:List (κ × V)}{k:κ}(e:p.1=k):nD (p::r) k=some p.2:=by simp[nD,List.find?_cons,e]
theorem uG{p:κ × V}{r:List (κ × V)}{k:κ}(e:¬ p.1=k):nD (p::r) k=nD r k:=by simp[nD,List.find?_cons,e]
theorem yK(k:κ):∀ kvs:List (κ × V),(kvs.any fun kv=>decide (kv.1=k))=(nD kvs k).isSome
 | []=>rfl
 | p::r=>by
   rw[List.any_cons]
   by_cases e:p.1=k
   · simp only[uF e,decide_eq_true e,Bool.true_or,Option.isSome_some]
   · rw[uG e,decide_eq_false e,Bool.false_or];exact yK k r
theorem yx(kvs:List (κ × V))(k:κ)(v:V):(putK kvs k v).length<=kvs.length+1:=by
 unfold putK
 split
 · rw[List.length_map];omega
 · rw[List.length_append,List.length_cons,List.length_nil];omega
theorem jP.Rn{o:Option V}{u:Option Value}(r:jP o u):o.isSome=u.isSome:=by
 cases o with
 | none=>cases u with
   | none=>rfl
   | some _=>exact(show False from r).elim
 | some _=>cases u with
   | none=>exact(show False from r).elim
   | some _=>rfl
theorem KV.val{kvs:List (κ × V)}{vs:List (κ × Value)}(r:KV kvs vs)(k:κ):jP (nD kvs k) (valueAt vs k):=by
 unfold KV at r
 induction r with
 | nil=>exact True.intro
 | @cons p q ps qs h t ih=>
   obtain⟨h1,h2⟩:=h
   by_cases e:p.1=k
   · have e':q.1=k:=h1.symm.trans e;have b:valueAt (q::qs) k=some q.2:=by simp[valueAt,List.find?_cons,e']
     rw[uF e,b];exact h2
   · have e':¬ q.1=k:=fun z=>e (h1.trans z);have b:valueAt (q::qs) k=valueAt qs k:=by simp[valueAt,List.find?_cons,e']
     rw[uG e,b];exact ih
theorem KV.any{kvs:List (κ × V)}{vs:List (κ × Value)}(r:KV kvs vs)(k:κ):(kvs.any fun kv=>decide (kv.1=k))=vs.any fun kv=>decide (kv.1=k):=by
 unfold KV at r
 induction r with
 | nil=>rfl
 | cons h t ih=>rw[List.any_cons,List.any_cons,ih,h.1]
theorem KV.repl{kvs:List (κ × V)}{vs:List (κ × Value)}(r:KV kvs vs)(k:κ){y:V}{u:Value}(ry:RelV y u):
 KV (kvs.map fun kv=>if kv.1=k then(kv.1,y) else kv) (vs.map fun kv=>if kv.1=k then(kv.1,u) else kv):=by
 unfold KV at r ⊢
 induction r with
 | nil=>exact .nil
 | @cons p q ps qs h t ih=>
   rw[List.map_cons,List.map_cons];refine .cons ?_ ih;obtain⟨h1,h2⟩:=h
   by_cases e:p.1=k
   · rw[if_pos e,if_pos (h1.symm.trans e)];exact⟨h1,ry⟩
   · rw[if_neg e,if_neg (fun z=>e (h1.trans z))];exact⟨h1,h2⟩
theorem KV.put{kvs:List (κ × V)}{vs:List (κ × Value)}(r:KV kvs vs)(k:κ){y:V}{u:Value}(ry:RelV y u):KV (putK kvs k y) (stored vs k u):=by
 unfold putK stored;rw[r.any k]
 by_cases e:(vs.any fun kv=>decide (kv.1=k))=true
 · rw[if_pos e,if_pos e];exact r.repl k ry
 · rw[if_neg e,if_neg e];exact Paired.snoc r ⟨rfl,ry⟩
theorem KV.length{kvs:List (κ × V)}{vs:List (κ × Value)}(r:KV kvs vs):kvs.length=vs.length:=Paired.length r
end
theorem N8{P:Program}{w:World}{k:Key}{u:Value}(r:RelV (kV k) u):(bW P w).is k u=true:=by
 cases k with
 | inl i=>obtain⟨t,e⟩:=(show ∃ t,u=Value.int i t from r);subst e;exact KD P w i t
 | inr x=>obtain⟨t,e⟩:=(show ∃ t,u=Value.str x t from r);subst e;exact KH P w x t
theorem Es{P:Program}{w:World}:∀ {ks:List Key} {us:List Value},Vals (ks.map kV) us->ItemsAre (bW P w) ks us
 | [],_,r=>by rw[List.map_nil]at r;cases r;exact .nil
 | k::ks,_,r=>by
   rw[List.map_cons]at r
   cases r with
   | cons h t=>exact .cons (N8 h) (Es t)
abbrev KT(H:Hp):List (List Key × V)->List (List Key × Addr × Value)->Prop:=Paired fun p q=>p.1=q.1/\H q.2.1=some (.tup (p.1.map kV))/\RelV p.2 q.2.2
theorem KT.val{H:Hp}{kvs:List (List Key × V)}{xs:List (List Key × Addr × Value)}(r:KT H kvs xs)(k:List Key):jP (nD kvs k) ((atKey xs k).map (·.2)):=by
 induction r with
 | nil=>exact True.intro
 | @cons p q ps qs h t ih=>
   obtain⟨h1,_,h2⟩:=h
   by_cases e:p.1=k
   · have e':q.1=k:=h1.symm.trans e;have b:atKey (q::qs) k=some q.2:=by simp[atKey,List.find?_cons,e']
     rw[uF e,b];exact h2
   · have e':¬ q.1=k:=fun z=>e (h1.trans z);have b:atKey (q::qs) k=atKey qs k:=by simp[atKey,List.find?_cons,e']
     rw[uG e,b];exact ih
theorem KT.repl{H:Hp}{kvs:List (List Key × V)}{xs:List (List Key × Addr × Value)}(r:KT H kvs xs)(k:List Key){y:V}{u:Value}(ry:RelV y u):
 KT H (kvs.map fun kv=>if kv.1=k then(kv.1,y) else kv) (xs.map (putAt k u)):=by
 induction r with
 | nil=>exact .nil
 | @cons p q ps qs h t ih=>
   rw[List.map_cons,List.map_cons];refine .cons ?_ ih;obtain⟨h1,h2,h3⟩:=h;unfold putAt
   by_cases e:p.1=k
   · rw[if_pos e,if_pos (h1.symm.trans e)];exact⟨h1,h2,ry⟩
   · rw[if_neg e,if_neg (fun z=>e (h1.trans z))];exact⟨h1,h2,h3⟩
theorem KT.put{H:Hp}{kvs:List (List Key × V)}{xs:List (List Key × Addr × Value)}(r:KT H kvs xs)(k:List Key){b:Addr}{y:V}{u:Value}(hb:H b=some (.tup (k.map kV)))(ry:RelV y u):
 KT H (putK kvs k y) (storedH xs k b u):=by
 have e:(kvs.any fun kv=>decide (kv.1=k))=(atKey xs k).isSome:=by
  rw[yK,(r.val k).Rn,Option.isSome_map]
 unfold putK storedH;rw[e]
 by_cases q:(atKey xs k).isSome=true
 · rw[if_pos q,if_pos q];exact r.repl k ry
 · rw[if_neg q,if_neg q];exact Paired.snoc r ⟨rfl,hb,ry⟩
theorem KT.keeps{H H':Hp}{kvs:List (List Key × V)}{xs:List (List Key × Addr × Value)}(r:KT H kvs xs)(ht:∀ b ys,H b=some (.tup ys)->H' b=some (.tup ys)):KT H' kvs xs:=
 Paired.lC r fun _ _ z=>⟨z.1,ht _ _ z.2.1,z.2.2⟩
section
variable{P:Program}{w:World}{H:Hp}{h:Heap}{a:Addr}
theorem XD{u:HO}(ok:HOk P w H h)(e:Rd H a u):bA P w H h a u:=e.ok ok
theorem N_{kvs:List (Key × V)}(ok:HOk P w H h)(e:Rd H a (.dK kvs)):kvs.length<=sizeLine/\(a==sysModules)=false/\∃ vs,KV kvs vs/\h.DictOf (bW P w) a vs:=
 show bA P w H h a (.dK kvs) from XD ok e
theorem adU{kvs:List (Key × V)}(ok:HOk P w H h)(e:H a=some (.dK kvs)):kvs.length<=sizeLine/\(a==sysModules)=false/\∃ vs,KV kvs vs/\h.DictOf (bW P w) a vs:=N_ ok (.inl e)
theorem zT{ks:List Key}(ok:HOk P w H h)(e:H a=some (.tup (ks.map kV))):(tupleKind (bW P w)).is h ks a:=by
 obtain⟨_,its,r,o,h1,h2,n,h3⟩:=(show bA P w H h a (.tup (ks.map kV)) from ok a _ e);exact⟨o,its.toArray,n,h1,h2,h3,by simpa using Es r⟩
theorem Oa{kvs:List (List Key × V)}(ok:HOk P w H h)(e:Rd H a (.dT kvs)):kvs.length<=sizeLine/\(a==sysModules)=false/\
 ∃ xs,KT H kvs xs/\h.DictOfH (tupleKind (bW P w)) a xs:=by
 obtain⟨z,y,xs,r,o,es,ep,h1,h2,h3,h4,h5⟩:=(show bA P w H h a (.dT kvs) from XD ok e);refine⟨z,y,xs,r,o,es,ep,h1,h2,h3,h4,fun x hx=>?_,h5⟩
 have all:∀ {l:List (List Key × V)} {m:List (List Key × Addr × Value)},KT H l m->∀ x ∈ m,(tupleKind (bW P w)).is h x.1 x.2.1:=by
  intro l m q
  induction q with
  | nil=>intro x hx;exact nomatch hx
  | @cons p q ps qs hq t ih=>
    intro x hx
    rcases List.mem_cons.mp hx with e | hx
    · subst e;exact zT ok (by rw[<- hq.1];exact hq.2.1)
    · exact ih x hx
 exact all r x hx
theorem adV{kvs:List (List Key × V)}(ok:HOk P w H h)(e:H a=some (.dT kvs)):kvs.length<=sizeLine/\(a==sysModules)=false/\
 ∃ xs,KT H kvs xs/\h.DictOfH (tupleKind (bW P w)) a xs:=Oa ok (.inl e)
end
def Cp(H:Hp)(a:Addr)(y:V)(r:Option V):Prop:=
 (∃ kvs k,Rd H a (.dK kvs)/\y=kV k/\r=nD kvs k)\/∃ kvs k b,Rd H a (.dT kvs)/\y= .ref b/\H b=some (.tup (k.map kV))/\r=nD kvs k
def HQ(H:Hp)(a:Addr)(y v:V)(H':Hp):Prop:=
 (∃ kvs k,H a=some (.dK kvs)/\y=kV k/\kvs.length<sizeLine/\H'=upd H a (.dK (putK kvs k v)))\/
 ∃ kvs k b,H a=some (.dT kvs)/\y= .ref b/\H b=some (.tup (k.map kV))/\kvs.length<sizeLine/\H'=upd H a (.dT (putK kvs k v))
theorem Cp.k{H:Hp}{a:Addr}{kvs:List (Key × V)}{k:Key}(e:H a=some (.dK kvs)):Cp H a (kV k) (nD kvs k):=.inl ⟨kvs,k,.inl e,rfl,rfl⟩
theorem HQ.k{H:Hp}{a:Addr}{kvs:List (Key × V)}{k:Key}{v:V}(e:H a=some (.dK kvs))(hl:kvs.length<sizeLine):HQ H a (kV k) v (upd H a (.dK (putK kvs k v))):=.inl ⟨kvs,k,e,rfl,hl,rfl⟩
section
variable{X:Cx}{pins:List (Addr × Obj)}{σ:St}{H:Hp}{s:Shared}{a:Addr}{y v:V}{u r:Value}{o:Option V}{A:Around}{E:Value->Shared->Prop}
theorem Inv.big(I:Inv X pins σ H s):sysModules<s.heap.objs.size:=by
 have h:mainGlobals<s.heap.objs.size:=(I.mod.glob.keeps I.bk).lt;exact Nat.lt_trans (by decide) h
theorem Ro{Q:Value->Shared->Prop}(hu:A.units+1<cLine)(I:Inv X pins σ H s)(g:Cp H a y (some v))(ry:RelV y u)(h:∀ w' s',Inv X pins σ H s'->RelV v w'->Q w' s'):
 wpAny (model X.prog X.w) A (getItem (.ref a) u) Q E s:=by
 rcases g with ⟨kvs,k,e,ey,l⟩ | ⟨kvs,k,b,e,ey,eb,l⟩
 · subst ey;obtain⟨z,hd,vs,rel,dd⟩:=N_ I.hok e;obtain⟨w',hw,rw'⟩:=jP.some_of (v:=v) (o:=valueAt vs k) (by rw[l];exact rel.val k);exact wpAny_getItem_of (N8 ry) dd.mapOf hw (h w' _ (I.tok _) rw')
 · subst ey;cases (show u=Value.ref b from ry);obtain⟨z,hd,xs,rel,dd⟩:=Oa I.hok e;obtain⟨w',hw,rw'⟩:=jP.some_of (v:=v) (o:=(atKey xs k).map (·.2)) (by rw[l];exact rel.val k);obtain⟨p,hp,hp2⟩:=Option.map_eq_some_iff.mp hw;refine wpAny_getItem_heap (tupleKind_room_in1 hu) (zT I.hok eb) dd hp ?_;rw[hp2];exact h w' _ (I.tok _) rw'
theorem Lk{h':Heap}{t':Nat}{ob:HO}(I:Inv X pins σ H s)(mu:Mut (H a))(hs:Heap.SameBut a s.heap h')(he:∃ q,h'.get? a=some q)(new:bA X.prog X.w (upd H a ob) h' a ob):
 Inv X pins σ (upd H a ob) { s with heap:=h',toks:=t' }:=
 I.write (x:=a) (e:=a) mu (.inl rfl) (fun b q hb z=>(hs.2 b hb).trans z) he new
theorem abu{P:Program}{w:World}{H':Hp}{h':Heap}{kvs:List (Key × V)}{vs:List (Key × Value)}(z:kvs.length<=sizeLine)(hd:(a==sysModules)=false)(rel:KV kvs vs)(dd:h'.DictOf (bW P w) a vs):
 bA P w H' h' a (.dK kvs):=⟨z,hd,vs,rel,dd⟩
theorem Rp{H':Hp}{Q:Unit->Shared->Prop}(hu:A.units+1<cLine)(I:Inv X pins σ H s)(g:HQ H a y v H')(ry:RelV y u)(rv:RelV v r)(h:∀ s',Inv X pins σ H' s'->Q () s'):
 wpAny (model X.prog X.w) A (setItem (.ref a) u r) Q E s:=by
 rcases g with ⟨kvs,k,e,ey,l,eH⟩ | ⟨kvs,k,b,e,ey,eb,l,eH⟩
 · subst ey eH;obtain⟨z,hd,vs,rel,dd⟩:=adU I.hok e;have hz:vs.length<=sizeLine:=by rw[<- rel.length];exact z
   have hl:(putK kvs k v).length<=sizeLine:=by have:=yx kvs k v;omega
   refine wpAny_setItem_pairs (hsz:=hz) (N8 ry) dd fun h' dd' hs=>h _ ?_;have he:∃ q,h'.get? a=some q:=let ⟨q,_,_,hq,_⟩:=dd';⟨q,hq⟩;exact Lk I (by rw[e];exact True.intro) hs he (abu hl hd (rel.put k rv) dd')
 · subst ey eH;cases (show u=Value.ref b from ry);obtain⟨z,hd,xs,rel,dd⟩:=adV I.hok e;have hz:xs.length<=sizeLine:=by rw[<- Paired.length rel];exact z
   have hl:(putK kvs k v).length<=sizeLine:=by have:=yx kvs k v;omega
   refine wpAny_setItem_heap (hsz:=hz) (tupleKind_room_in1 hu) (zT I.hok eb) dd fun h' dd' hs=>h _ ?_;obtain⟨q,es,ep,hq,h2,h3,h4,_,h5⟩:=dd';refine Lk I (by rw[e];exact True.intro) hs ⟨q,hq⟩ ⟨hl,hd,_,(rel.put k eb rv).keeps fun c ys ec=>?_,q,es,ep,hq,h2,h3,h4,h5⟩;rw[aB (Xu ec e (fun z=>nomatch z))];exact ec
end
theorem KN{X:Cx}{pins:List (Addr × Obj)}{σ:St}{H:Hp}{s:Shared}{a:Addr}{y:V}{o:Option V}(I:Inv X pins σ H s)(g:Cp H a y o):s.TypeIs (.ref a) "dict":=by
 rcases g with ⟨kvs,k,e,_,_⟩ | ⟨kvs,k,b,e,_,_,_⟩
 · obtain⟨_,_,vs,_,dd⟩:=N_ I.hok e;exact dd.typeIs
 · obtain⟨_,_,xs,_,dd⟩:=Oa I.hok e;exact dd.typeIs
def XF(td ty tv:TE):TS:=fun D σ H=>tv σ H fun v H1=>td σ H1 fun x H2=>ty σ H2 fun y H3=>∃ a H4,x= .ref a/\HQ H3 a y v H4/\D.nx σ H4
section
variable{X:Cx}{o i e value:Expr}{pos pos' tpos:Pos}{td ty tv:TE}
theorem Yz(hu:X.A.units+1<cLine)(ho:PE X o td)(hi:PE X i ty)(hv:PE X value tv)(hs:swapsWith value (some (.Subscript o i pos')) pos.line X.env=pure false):
 PS X (.Assign [.Subscript o i pos'] value pos) (XF td ty tv):=by
 intro pins s σ H D I h;refine wpAny_Assign_Subscript (thn (hv pins s σ H _ I h) fun r s1 ⟨v,H1,I1,rv,q1⟩=>thn (ho pins s1 σ H1 _ I1 q1) fun u s2 ⟨x,H2,I2,rx,q2⟩=>thn (hi pins s2 σ H2 _ I2 q2) fun iv s3 ⟨y,H3,I3,ry,a,H4,ex,g,q3⟩=>?_) hs;subst ex;obtain rfl:u=Value.ref a:=rx;exact Rp hu I3 g ry rv fun s4 I4=>⟨σ,H4,I4,q3⟩
end
theorem Wa{P:Program}{w:World}{H:Hp}(h:Heap)(hb:sysModules<h.objs.size):bA P w H (h.push { cls:=.type "dict",data:=.dict #[] }) h.objs.size (.dK []):=
 ⟨Nat.zero_le _,beq_eq_false_iff_ne.mpr (Ne.symm (Nat.ne_of_lt hb)),[],.nil,Heap.DictOf.new h⟩
def abv:TE:=fun _ H Q=>∀ p,H p=none->Q (.ref p) (upd H p (.dK []))
section
variable{X:Cx}{pos:Pos}
theorem Wb:PE X (.Dict [] [] pos) abv:=fun pins s σ H Q I h=>
 wpAny_Dict_empty ⟨.ref s.heap.objs.size,_,I.laid (a:=s.heap.objs.size) (o:=.dK []) (t':=s.toks) (fun _ _ q=>Heap.get?_push_of_some _ q) (aH _) (Wa s.heap I.big),rfl,h _ (I.hok.fresh (aH _))⟩
end
def Rq:List (TE × TE)->St->Hp->(List (V × V)->Hp->Prop)->Prop
 | [],_,H,Q=>Q [] H
 | (tk,tv)::r,σ,H,Q=>tk σ H fun x H1=>tv σ H1 fun y H2=>Rq r σ H2 fun ps H3=>Q ((x,y)::ps) H3
abbrev VV:List (V × V)->List (Value × Value)->Prop:=Paired fun p q=>RelV p.1 q.1/\RelV p.2 q.2
def PPs(X:Cx)(pos:Pos)(keys:List (Option Expr))(values:List Expr)(trs:List (TE × TE)):Prop:=
 ∀(pins:List (Addr × Obj)) (s:Shared) (σ:St) (H:Hp) (Q:List (V × V)->Hp->Prop),Inv X pins σ H s->Rq trs σ H Q->
  wpAny (model X.prog X.w) X.A (evalPairs (pairTrees keys values X.env pos)) (fun vs s'=>∃ ps H',Inv X pins σ H' s'/\VV ps vs/\Q ps H') X.xe s
structure M1 (X:Cx)(o:Expr)(m:Str)(apos:Pos)(e:Expr)(cpos:Pos):Prop where
 base:attributeBase o m X.env (eval o X.env)=eval o X.env
 few:((backTo cpos (starEach [e] X.env)).all (fun x=> !x.1)&&(backToKw cpos (keywordEach [] X.env)).all (fun x=>x.1.isSome)
  && decide (([e]:List Expr).length+([]:List Keyword).length+(if([]:List Keyword).isEmpty then 0 else 1)<30))=true
 line:(apos.endLine==cpos.line)=true
 trees:backTo cpos (starEach [e] X.env)= [(false,eval e X.env)]
structure M2 (X:Cx)(o:Expr)(m:Str)(apos:Pos)(e f:Expr)(cpos:Pos):Prop where
 base:attributeBase o m X.env (eval o X.env)=eval o X.env
 few:((backTo cpos (starEach [e,f] X.env)).all (fun x=> !x.1)&&(backToKw cpos (keywordEach [] X.env)).all (fun x=>x.1.isSome)
  && decide (([e,f]:List Expr).length+([]:List Keyword).length+(if([]:List Keyword).isEmpty then 0 else 1)<30))=true
 line:(apos.endLine==cpos.line)=true
 trees:backTo cpos (starEach [e,f] X.env)= [(false,eval e X.env),(false,eval f X.env)]
end L2
namespace L2
open PySem PySem.Spec PySem.SeqAt PyProof.Rows
theorem log2_lt_of{n k:Nat}(hk:0<k)(h:n<2 ^ k):n.log2<k:=by
 rcases Nat.eq_zero_or_pos n with h0 | hp
 · rw[h0];exact hk
 · exact(Nat.log2_lt (Nat.ne_of_gt hp)).mpr h
def Sml(i:Int):Prop:=i.natAbs<2 ^ 4000
theorem yz{i:Int}(h:Sml i):Builtin.Int.intBits i<=2 ^ 20:=by
 have hl:i.natAbs.log2<4000:=log2_lt_of (by decide) h;have e:(2:Nat) ^ 20=1048576:=by decide
 unfold Builtin.Int.intBits
 split <;> omega
def GZ(i j:Int):Prop:=V0 i j\/(Sml i/\Sml j)
def XH(j:Int):Prop:=j ≠ 0/\Sml j
section
variable{X:Cx}
theorem jr:OpR X (binaryOp .Mult) (rI GZ fun i j=>.int (i*j)):=opI fun _ _ _ _ _ _ _ hc q=>by
 rcases hc with hc | ⟨h1,h2⟩
 · exact mul_int q hc.ok
 · exact mul_int q (IntMulOk.of_bits (yz h1) (yz h2))
theorem yL:OpR X (binaryOp .FloorDiv) (rI (fun _ j=>XH j) fun i j=>.int (i.fdiv j)):=opI fun i j _ _ _ _ _ hc q=>
 floordiv_int hc.1 q (.inl (PyProof.noPylong_of_log2 (cR (log2_lt_of (k:=4000) (by decide) hc.2) (by decide))))
def aeL(K:ak):List V->Hp->VK->Prop:=fun xs H Q=>∃ x n t b,xs= [x,.ty n]/\nA K H x t/\PySem.W.kitOne K t (.type n)=some b/\Q (.bl b) H
theorem fL:jb X (.builtin "isinstance") (aeL X.K):=by
 intro pins s σ H xs us Q I r h;obtain⟨x,n,t,b,rfl,ty,e,q⟩:=h;obtain⟨u,v,rfl,ru,rv⟩:=vals2 r;cases (show v=Value.type n from rv);exact Rg I ru ty e fun tk=>⟨.bl b,H,I.tok _,rfl,q⟩
end
mutual
inductive Rep (H:Hp):V->PyData->Prop
 | non:Rep H .non .none
 | bl (b):Rep H (.bl b) (.bool b)
 | int (i):Rep H (.int i) (.int i)
 | str (x):Rep H (.str x) (.str x)
 | lst {a xs ds}:H a=some (.lst xs)->bY H xs ds->Rep H (.ref a) (.list ds)
 | tup {a xs ds}:H a=some (.tup xs)->bY H xs ds->Rep H (.ref a) (.tuple ds)
inductive bY (H:Hp):List V->List PyData->Prop
 | nil:bY H [] []
 | cons {v vs d ds}:Rep H v d->bY H vs ds->bY H (v::vs) (d::ds)
end
mutual
theorem Rep.mono{H H':Hp}(e:bN H H'):∀ {v:V} {d:PyData},Rep H v d->Rep H' v d
 | _,_,.non=>.non
 | _,_,.bl b=>.bl b
 | _,_,.int i=>.int i
 | _,_,.str x=>.str x
 | _,_,.lst h r=>.lst (e _ _ h) (bY.mono e r)
 | _,_,.tup h r=>.tup (e _ _ h) (bY.mono e r)
theorem bY.mono{H H':Hp}(e:bN H H'):∀ {vs:List V} {ds:List PyData},bY H vs ds->bY H' vs ds
 | _,_,.nil=>.nil
 | _,_,.cons r t=>.cons (Rep.mono e r) (bY.mono e t)
end
theorem bY.length{H:Hp}:∀ {vs:List V} {ds:List PyData},bY H vs ds->vs.length=ds.length
 | _,_,.nil=>rfl
 | _,_,.cons _ t=>by rw[List.length_cons,List.length_cons,bY.length t]
theorem bY.HR{H:Hp}:∀ {vs:List V} {ds:List PyData} {i:Nat} {v:V},bY H vs ds->vs[i]? =some v->∃ d,ds[i]? =some d/\Rep H v d
 | _,_,_,_,.nil,e=>by simp at e
 | _,_,0,_,.cons r _,e=>by simp at e;subst e;exact⟨_,rfl,r⟩
 | _,_,i+1,d,.cons _ t,e=>by
   obtain⟨u,h1,h2⟩:=bY.HR (i:=i) (v:=d) t (by simpa using e);exact⟨u,by simpa using h1,h2⟩
mutual
theorem Rep.reads{P:Program}{w:World}{H:Hp}{h:Heap}(ok:HOk P w H h):∀ {v:V} {d:PyData} {u:Value},Rep H v d->RelV v u->∃ as,Reads h u d as
 | _,_,_,.non,r=>by cases r;exact⟨_,.none⟩
 | _,_,_,.bl b,r=>by cases r;exact⟨_,.bool b⟩
 | _,_,_,.int i,r=>by obtain⟨t,rfl⟩:=r;exact⟨_,.int i t⟩
 | _,_,_,.str x,r=>by obtain⟨t,rfl⟩:=r;exact⟨_,.str x t⟩
 | _,_,_,.lst (a:=a) (xs:=xs) e ra,r=>by
   cases r;obtain⟨_,its,n,rv,ho⟩:=(show bA P w H h a (.lst xs) from ok a _ e);obtain⟨as,q⟩:=bY.reads ok ra rv
   exact⟨_,.list ho rfl rfl (by simpa using q)⟩
 | _,_,_,.tup (a:=a) (xs:=xs) e ra,r=>by
   cases r;obtain⟨_,its,rv,o,ho,hc,n,hd⟩:=(show bA P w H h a (.tup xs) from ok a _ e);obtain⟨as,q⟩:=bY.reads ok ra rv;exact⟨_,.tuple ho hc hd (by simpa using q)⟩
theorem bY.reads{P:Program}{w:World}{H:Hp}{h:Heap}(ok:HOk P w H h):∀ {vs:List V} {ds:List PyData} {us:List Value},bY H vs ds->Vals vs us->∃ as,ReadsAll h us ds as
 | _,_,_,.nil,.nil=>⟨_,.nil⟩
 | _,_,_,.cons r t,.cons rv tv=>by
   obtain⟨as,q1⟩:=Rep.reads ok r rv;obtain⟨bs,q2⟩:=bY.reads ok t tv;exact⟨_,.cons q1 q2⟩
end
section
variable{X:Cx}
def abw:R2:=fun x y H Q=>∃ dx dy,Rep H x dx/\Rep H y dy/\shaped dx=true/\shaped dy=true/\Q (.bl (PyData.eqv dx dy)) H
def abx:R2:=fun x y H Q=>∃ dx dy,Rep H x dx/\Rep H y dy/\shaped dx=true/\shaped dy=true/\Q (.bl (!PyData.eqv dx dy)) H
theorem jj(hu:X.A.units+64<cLine):OpR X (compareOp .Eq) abw:=by
 intro pins s σ H x y v u Q I rx ry h;obtain⟨dx,dy,hx,hy,sx,sy,q⟩:=h;obtain⟨as,ra⟩:=hx.reads I.hok rx;obtain⟨bs,rb⟩:=hy.reads I.hok ry;exact eq_dataH ra rb sx sy hu ⟨.bl _,H,I,rfl,q⟩
theorem ud(hu:X.A.units+64<cLine):OpR X (compareOp .NotEq) abx:=by
 intro pins s σ H x y v u Q I rx ry h;obtain⟨dx,dy,hx,hy,sx,sy,q⟩:=h;obtain⟨as,ra⟩:=hx.reads I.hok rx;obtain⟨bs,rb⟩:=hy.reads I.hok ry;exact ne_dataH ra rb sx sy hu ⟨.bl _,H,I,rfl,q⟩
end
theorem cD{H:Hp}{p:Addr}(h:H p=none)(o:HO):bN H (upd H p o):=fun b u q=>by rw[aB (aV q h)];exact q
structure Df (K:ak)(mg:Str->Option Value)(x:Str)(st:Stmt)(ps:List Str)(f:Addr)(fd:FuncData):Prop where
 fn:Fun K x x st f fd
 bd:Binds K fd ps []
 mg:mg x=some (.ref f)
section
variable{X:Cx}{k:Nat}{x:Str}{st:Stmt}{f:Addr}{fd:FuncData}{ps:List Str}{sp:Sp}{p pos:Pos}{e:Expr}{es:List Expr}{t:TA}
theorem qm(D:Df X.K X.mg x st ps f fd)(F:aP X.prog X.w X.K X.mg X.base CX0 k f fd ps sp)(hr:aX k X.A)(hg:Gl X x)(ha:PA X (e::es) t)(hdb:(x==("__debug__":Str))=false:=by decide)
 (he:starEach (e::es) X.env=(false,eval e X.env)::starEach es X.env:=by rfl) (hpl:(backTo pos (starEach es X.env)).any (·.1)=false:=by rfl):
 PE X (.Call (.Name x p) (e::es) [] pos) (zL sp [] E0 t):=xO F hr hg D.mg D.fn.kp D.bd .nil ql ha hdb he hpl
end
def gk(cells:List (Str × Addr)):List (Str × NameKind)->List (Str × Addr)->List (Str × Addr)
 | [],acc=>acc
 | (n,k)::r,acc=>if k= .free then gk cells r ((n,(cells.lookup n).getD 0)::acc) else gk cells r acc
theorem pR{scope:Scope}{env:Env}(h:∀ y ∈ scope.names,y.2= .free->∃ c,env.cells.lookup y.1=some c):closureFor scope env=pure (gk env.cells scope.names []):=by
 have key:∀(names:List (Str × NameKind)) (cs:List (Str × Addr)),(∀ y ∈ names,y.2= .free->∃ c,env.cells.lookup y.1=some c)->
  (forIn names cs fun(x:Str × NameKind) (r:List (Str × Addr))=>(match x with
    | (name,kind)=>if(kind == .free)=true then do let a <- cellOf env name;pure (ForInStep.yield ((name,a)::r)) else pure (ForInStep.yield r):Sem (ForInStep (List (Str × Addr)))))=(pure (gk env.cells names cs):Sem _):=by
  intro names
  induction names with
  | nil=>intro cs _;rfl
  | cons y r ih=>
    intro cs hy;obtain⟨n,k⟩:=y;rw[List.forIn_cons]
    by_cases hk:k= .free
    · obtain⟨c,hc⟩:=hy (n,k) List.mem_cons_self hk;have hc':env.cells.lookup n=some c:=hc;subst hk;have e1:cellOf env n=pure c:=by unfold cellOf;rw[hc']
      simp only[beq_self_eq_true,if_true,e1,pure_bind];rw[ih _ fun z hz=>hy z (List.mem_cons_of_mem _ hz)];simp only[gk,if_true,hc',Option.getD_some]
    · have hb:(k==NameKind.free)=false:=by simpa using hk
      simp only[hb,Bool.false_eq_true,if_false,pure_bind];rw[ih _ fun z hz=>hy z (List.mem_cons_of_mem _ hz)];simp only[gk,if_neg hk]
 have e:closureFor scope env=(forIn scope.names ([]:List (Str × Addr)) (fun(x:Str × NameKind) (r:List (Str × Addr))=>(match x with
  | (name,kind)=>if(kind == .free)=true then do let a <- cellOf env name;pure (ForInStep.yield ((name,a)::r)) else pure (ForInStep.yield r):Sem (ForInStep (List (Str × Addr))))) >>= fun r=>pure r):=by
  unfold closureFor;rfl
 rw[e,key _ _ h];rfl
theorem qR{cells:List (Str × Addr)}{x:Str}{c:Addr}:∀ {names:List (Str × NameKind)} {acc:List (Str × Addr)},(∀ y ∈ names,y.2= .free->∃ c,cells.lookup y.1=some c)->
 (gk cells names acc).lookup x=some c->cells.lookup x=some c\/acc.lookup x=some c
 | [],acc,_,h=>.inr h
 | (n,k)::r,acc,hy,h=>by
   unfold gk at h
   by_cases hk:k= .free
   · rw[if_pos hk]at h;obtain⟨d,hd⟩:=hy (n,k) List.mem_cons_self hk;have hd':cells.lookup n=some d:=hd;rw[hd']at h
     rcases qR (fun z hz=>hy z (List.mem_cons_of_mem _ hz)) h with q | q
     · exact .inl q
     · rw[List.lookup_cons]at q
       cases e:x==n with
       | true=>
         have e':x=n:=eq_of_beq e;rw[e]at q;subst e'
         exact .inl (by rw[hd'];exact q)
       | false=>
         rw[e]at q;exact .inr q
   · rw[if_neg hk]at h;exact qR (fun z hz=>hy z (List.mem_cons_of_mem _ hz)) h
theorem qG{cells:List (Str × Addr)}{x:Str}{c:Addr}(hc:cells.lookup x=some c):∀ {names:List (Str × NameKind)} {acc:List (Str × Addr)},((x,NameKind.free) ∈ names\/acc.lookup x=some c)->
 (gk cells names acc).lookup x=some c
 | [],acc,h=>by
   rcases h with h | h
   · cases h
   · exact h
 | (n,k)::r,acc,h=>by
   unfold gk
   by_cases hk:k= .free
   · rw[if_pos hk];refine qG hc ?_
     by_cases e:x=n
     · subst e;exact .inr (by rw[List.lookup_cons,beq_self_eq_true,hc];rfl)
     · have eb:(x==n)=false:=by simpa using e
       rcases h with h | h
       · rcases List.mem_cons.mp h with z | z
         · exact absurd (congrArg Prod.fst z) e
         · exact .inl z
       · exact .inr (by rw[List.lookup_cons,eb];exact h)
   · rw[if_neg hk];refine qG hc ?_
     rcases h with h | h
     · rcases List.mem_cons.mp h with z | z
       · exact absurd (congrArg Prod.snd z).symm hk
       · exact .inl z
     · exact .inr h
theorem oA{env:Env}:∀ {names:List (Str × NameKind)} {x:Str},names.lookup x=some .free->
 (names.map fun(n,k)=>if(k==NameKind.free&&env.scope.kind == .function&&env.kindOf n==some .cell) then(n,NameKind.cell) else(n,k)).lookup x=some .cell\/
 (names.map fun(n,k)=>if(k==NameKind.free&&env.scope.kind == .function&&env.kindOf n==some .cell) then(n,NameKind.cell) else(n,k)).lookup x=some .free
 | [],_,h=>by simp at h
 | (n,k)::r,x,h=>by
   have ih:= @oA env r x;show List.lookup x ((if(k==NameKind.free&&env.scope.kind == .function&&env.kindOf n==some .cell)=true then(n,NameKind.cell) else(n,k))::_)=_\/List.lookup x ((if(k==NameKind.free&&env.scope.kind == .function&&env.kindOf n==some .cell)=true then(n,NameKind.cell) else(n,k))::_)=_
   cases hx:x==n with
   | true=>
     simp only[List.lookup_cons,hx]at h;cases h
     by_cases hc:(NameKind.free==NameKind.free&&env.scope.kind == .function&&env.kindOf n==some .cell)=true
     · rw[if_pos hc];simp[List.lookup_cons,hx]
     · rw[if_neg hc];simp[List.lookup_cons,hx]
   | false=>
     simp only[List.lookup_cons,hx]at h
     by_cases hc:(k==NameKind.free&&env.scope.kind == .function&&env.kindOf n==some .cell)=true
     · rw[if_pos hc];simp only[List.lookup_cons,hx];exact ih h
     · rw[if_neg hc];simp only[List.lookup_cons,hx];exact ih h
theorem vB{env:Env}:∀ {names:List (Str × NameKind)} {x:Str},(∀ y ∈ names,y.2 ≠ .cell)->
 ((names.map fun(n,k)=>if(k==NameKind.free&&env.scope.kind == .function&&env.kindOf n==some .cell) then(n,NameKind.cell) else(n,k)).lookup x=some .cell\/
 (names.map fun(n,k)=>if(k==NameKind.free&&env.scope.kind == .function&&env.kindOf n==some .cell) then(n,NameKind.cell) else(n,k)).lookup x=some .free)->names.lookup x=some .free
 | [],_,_,h=>by simp at h
 | (n,k)::r,x,hn,h=>by
   have ih:= @vB env r x fun y hy=>hn y (List.mem_cons_of_mem _ hy);have hnk:k ≠ .cell:=hn (n,k) List.mem_cons_self;change List.lookup x ((if(k==NameKind.free&&env.scope.kind == .function&&env.kindOf n==some .cell)=true then(n,NameKind.cell) else(n,k))::_)=_\/List.lookup x ((if(k==NameKind.free&&env.scope.kind == .function&&env.kindOf n==some .cell)=true then(n,NameKind.cell) else(n,k))::_)=_ at h
   cases hx:x==n with
   | true=>
     rw[List.lookup_cons,hx]
     by_cases hc:(k==NameKind.free&&env.scope.kind == .function&&env.kindOf n==some .cell)=true
     · have hk:k= .free:=by
        rw[Bool.and_eq_true,Bool.and_eq_true]at hc;exact eq_of_beq hc.1.1
       rw[hk]
     · rw[if_neg hc]at h;simp only[List.lookup_cons,hx]at h
       rcases h with h | h
       · exact absurd (Option.some.inj h) hnk
       · exact h
   | false=>
     rw[List.lookup_cons,hx]
     by_cases hc:(k==NameKind.free&&env.scope.kind == .function&&env.kindOf n==some .cell)=true
     · rw[if_pos hc]at h;simp only[List.lookup_cons,hx]at h;exact ih h
     · rw[if_neg hc]at h;simp only[List.lookup_cons,hx]at h;exact ih h
def blk(X:Cx)(N':List Str)(sc:Scope)(C:Addr)(s₀:Shared)(H₀:Hp)(fp:List Addr):Cx:=
 { X with N:=N',s₀:=s₀,H₀:=H₀,env:=compEnvC sc (gk X.env.cells sc.names []) C X.env,outer:=X.stack,ex:=fp,fn:=fun _=>false,pn:=[],xe:=fun _ _=>False }
def sgb(nt:Nat)(idx:List Nat)(σ:St):St:=List.replicate nt none++idx.map fun j=>(σ[j]?).getD none
structure rQ (X:Cx)(N':List Str)(sc:Scope)(nt:Nat)(idx:List Nat):Prop where
 kind:sc.kind= .function
 HS:∀ y ∈ sc.names,y.2 ≠ .cell
 loc:∀ y ∈ sc.names,y.2= .local->sc.names.lookup y.1=some .local
 fr:∀ y ∈ sc.names,y.2= .free->X.env.kindOf y.1=some .cell\/X.env.kindOf y.1=some .free
 len:nt+idx.length=N'.length
 ix:∀ p ∈ idx.zip (N'.drop nt),X.N[p.1]? =some p.2/\sc.names.lookup p.2=some .free
theorem dg{names:List (Str × NameKind)}{x:Str}{k:NameKind}(h:names.lookup x=some k):(x,k) ∈ names:=PySem.mem_of_lookup h
theorem YB{X:Cx}{N':List Str}{sc:Scope}{nt:Nat}{idx:List Nat}{pins:List (Addr × Obj)}{σ:St}{H:Hp}{s:Shared}{fp:List Addr}{h':Heap}{tk:Nat}{m:Str->Option Value}(B:rQ X N' sc nt idx)
 (I:Inv X pins σ H s) (hf:∀ b ∈ fp,lD X pins H b) (hlt:∀ b ∈ fp,b<s.heap.objs.size) (hns:h'.Ns s.heap.objs.size m) (hk:∀ b o,s.heap.get? b=some o->h'.get? b=some o):
 Inv (blk X N' sc s.heap.objs.size s H fp) (X.pn++pins) (sgb nt idx σ) H { s with heap:=h',toks:=tk }:=by
 have hcl:∀ y ∈ sc.names,y.2= .free->∃ c,X.env.cells.lookup y.1=some c:=fun y hy e=>I.ok.has y.1 (B.fr y hy e)
 have sub:∀ x c,(gk X.env.cells sc.names []).lookup x=some c->X.env.cells.lookup x=some c:=fun x c h=>by
  rcases qR hcl h with z | z
  · exact z
  · simp at z
 have aeM:∀ b,b ∈ frs X.stack->b=X.env.locals\/b ∈ X.fs:=fun b hb=>List.mem_cons.mp (I.v9 b hb);have XJ:∀ b,b ≠ X.env.locals->b ∉ X.fs->b ∉ frs X.stack:=fun b h1 h2 h=>(aeM b h).elim h1 h2;have fresh:H s.heap.objs.size=none:=I.hok.fresh (aH _)
 refine⟨⟨I.ok.mod,B.kind,I.ok.glob,I.ok.blt,aH _,fun x y c h1 h2=>I.ok.inj x y c (sub x c h1) (sub y c h2),fun x hx=>?_,fun x c hx _=>?_,I.ok.hd,I.ok.frames,.inl rfl,fun b hb=>⟨Nat.ne_of_lt (hlt b hb),fun x c h=>(hf b hb).2.2.2.2.1 x c (sub x c h)⟩,
  I.bs,Nat.le_trans I.ok.bsz I.sz,fun b o e hb=>?_,fun b hb=>XJ b (hf b hb).2.1 (hf b hb).2.2.1,I.stack,I.oH⟩,
  rfl,I.bare,Un.kept hk,⟨m,hns,fun i x v h1 h2 h3=>?_⟩,fun x c h=>?_,fresh,fun x c h=>I.gO x c (sub x c h),fun p hp=>?_,I.hok.kept hk,?_⟩
 · -- has
   have hx':=vB (env:=X.env) (x:=x) B.HS hx;obtain⟨c,hc⟩:=hcl (x,.free) (dg hx') rfl;exact⟨c,qG hc (.inl (dg hx'))⟩
 · -- cab
   have hx':false=true:=hx;cases hx'
 · -- sI
   rcases (hf b hb).2.2.2.1 with z | z
   · exact I.ok.sI b o e z
   · exact absurd (cR (Heap.lt_size e) (Nat.le_trans I.ok.bsz z)) (Nat.lt_irrefl _)
 · -- loc
   have h1':N'[i]? =some x:=h1
   by_cases hi:i<nt
   · exfalso;unfold sgb at h2;rw[List.getElem?_append_left (by simpa using hi),List.getElem?_replicate]at h2
     split at h2 <;> cases h2
   · unfold sgb at h2;rw[List.getElem?_append_right (by simpa using hi),List.length_replicate,List.getElem?_map]at h2
     cases ej:idx[i - nt]? with
     | none=>rw[ej]at h2;cases h2
     | some j=>
       rw[ej]at h2;have h2':(σ[j]?).getD none=some v:=by simpa using h2
       have hz:(j,x) ∈ idx.zip (N'.drop nt):=by
        have e1:(N'.drop nt)[i - nt]? =some x:=by rw[List.getElem?_drop];rw[show nt+(i - nt)=i by omega];exact h1'
        refine List.mem_of_getElem? (i:=i - nt) ?_;rw[List.getElem?_zip_eq_some];exact⟨ej,e1⟩
       obtain⟨q1,q2⟩:=B.ix _ hz;have q1':X.N[j]? =some x:=q1;have q2':sc.names.lookup x=some .free:=q2
       have hs:σ[j]? =some (some v):=by
        cases e:σ[j]? with
        | none=>rw[e]at h2';cases h2'
        | some o=>rw[e]at h2';exact congrArg some h2'
       have hkx:=B.fr (x,.free) (dg q2') rfl;obtain⟨mX,_,hl⟩:=I.loc
       obtain⟨u,ru,lk⟩:=hl j x v q1' hs (by
        rcases hkx with z | z
        · exact .inr (.inl z)
        · exact .inr (.inr z))
       refine⟨u,ru,.inr ⟨oA (env:=X.env) q2',?_⟩⟩
       rcases lk with ⟨z,_⟩ | ⟨_,c,hc,hcell⟩
       · exfalso
         rcases hkx with y | y
         · rw[z]at y;cases y
         · rw[z]at y;cases y
       · obtain⟨o,ho,hd⟩:=hcell;exact⟨c,qG hc (.inl (dg q2')),o,hk c o ho,hd⟩
 · obtain⟨v,o,ho,hd⟩:=I.cell x c (sub x c h);exact⟨v,o,hk c o ho,hd⟩
 · have hp':p ∈ X.pn++pins:=by
    have:p ∈ ([]:List (Addr × Obj))++(X.pn++pins):=hp;simpa using this
   obtain⟨e,n,ne,nf,d⟩:=I.pin p hp';exact⟨hk _ _ e,n,Nat.ne_of_lt (Heap.lt_size e),XJ _ ne nf,d⟩
 · show(sgb nt idx σ).length=N'.length;unfold sgb;rw[List.length_append,List.length_replicate,List.length_map];exact B.len
def Wk:St->St->Prop
 | [],[]=>True
 | none::r,_::r'=>Wk r r'
 | some a::r,b::r'=>b=some a/\Wk r r'
 | _,_=>False
theorem Wk.ok:∀ {σ σ2:St},Wk σ σ2->σ.length=σ2.length/\∀(i:Nat) (v:V),σ[i]? =some (some v)->σ2[i]? =some (some v)
 | [],[],_=>⟨rfl,fun _ _ h=>h⟩
 | none::r,b::r',h=>by
   obtain⟨h1,h2⟩:=Wk.ok (σ:=r) (σ2:=r') h;refine⟨by simp[h1],fun i v e=>?_⟩
   cases i with
   | zero=>simp at e
   | succ i=>simpa using h2 i v (by simpa using e)
 | some a::r,b::r',h=>by
   obtain⟨hb,h⟩:=h;obtain⟨h1,h2⟩:=Wk.ok (σ:=r) (σ2:=r') h;refine⟨by simp[h1],fun i v e=>?_⟩
   cases i with
   | zero=>subst hb;simpa using e
   | succ i=>simpa using h2 i v (by simpa using e)
 | [],_::_,h=>h.elim
 | none::_,[],h=>h.elim
 | some _::_,[],h=>h.elim
abbrev TN:=St->Hp->(Hp->Prop)->Prop
def xQ(J:It)(g:TG)(tif:TT)(tin:TN):TN:=fun σ H Q=>∃ W:Nat->Nat->Hp->Prop,(∃ m,W 0 m H)/\∀ i m H,W i m H->
 (J.stop i H/\Q H)\/(J.go i H/\∃ N:Hp->Prop,(∀ H',N H'->∃ m',m'<m/\W (i+1) m' H')/\∀ x H',J.yld i H x H'->g x σ H' fun σ2 H2=>Wk σ σ2/\tif σ2 H2 fun b H3=>if b=true then tin σ2 H3 N else N H3)
def zU(D:Addr)(te:TE):TN:=fun σ H N=>te σ H fun y H1=>∃ ys,H1 D=some (.lst ys)/\ys.length<sizeLine/\N (upd H1 D (.lst (ys ++ [y])))
def Rr(wi:TI)(g:TG)(tif:TT)(tin:TN):TN:=fun σ H N=>wi σ H fun J H1=>xQ J g tif tin σ H1 N
def PTs(Y:Cx)(ifs:List Expr)(t:TT):Prop:=
 ∀(pins:List (Addr × Obj)) (s:Shared) (σ:St) (H:Hp) (Q:Bool->Hp->Prop),Inv Y pins σ H s->t σ H Q->
  wpAny (model Y.prog Y.w) Y.A (forIn ifs true fun c r=>if r=true then do let ok <- isTrue c Y.env (eval c Y.env);pure (ForInStep.yield ok) else pure (ForInStep.yield r)) (TP Y pins σ Q) Y.xe s
def XM:TT:=fun _ H Q=>Q true H
theorem Ln{Y:Cx}:PTs Y [] XM:=fun _ _ _ H _ I h=>wpAny_tests_nil ⟨H,I,h⟩
theorem Lq{Y:Cx}{c:Expr}{t:TT}(h:PT Y c t):PTs Y [c] t:=fun pins s σ H Q I q=>wpAny_tests_one (h pins s σ H Q I q)
def PN(Y:Cx)(m:Sem Unit)(t:TN):Prop:=
 ∀(pins:List (Addr × Obj)) (s:Shared) (σ:St) (H:Hp) (N:Hp->Prop),Inv Y pins σ H s->t σ H N->wpAny (model Y.prog Y.w) Y.A m (fun _ s'=>∃ H',Inv Y pins σ H' s'/\N H') Y.xe s
def NoX(Y:Cx):Prop:=∀ e s,¬ Y.xe e s
theorem NoX.any{Y:Cx}(hx:NoX Y){α:Type}{t:Sem α}{Q:α->Shared->Prop}{E:Value->Shared->Prop}{s:Shared}(h:wpAny (model Y.prog Y.w) Y.A t Q Y.xe s):wpAny (model Y.prog Y.w) Y.A t Q E s:=
 wpAny_mono h (fun _ _ q=>q) fun e s' z=>(hx e s' z).elim
theorem Lr{Y:Cx}{elt:Expr}{te:TE}{D:Addr}(he:PE Y elt te):PN Y (do let _ <- call (.builtin "list.append") [.ref D,<- eval elt Y.env]) (zU D te):=by
 intro pins s σ H N I h;refine wpAny_bind (thn (he pins s σ H _ I h) fun u s1 ⟨y,H1,I1,r1,ys,e1,hl,hN⟩=>?_);refine wpAny_bind (thn (mR (X:=Y) pins s1 σ H1 (.ref D) [y] (.ref D) [u] (fun _ H2=>N H2) I1 rfl (.cons r1 .nil) ⟨D,ys,y,rfl,rfl,e1,hl,hN⟩) fun v s2 ⟨z,H2,I2,_,q2⟩=>?_);exact wpAny_pure ⟨H2,I2,q2⟩
def jU(e:Expr)(d:Nat)(it acc:Value)(env:Env)(target:Expr)(ifs:List Expr)(ipos:Pos)(inner:Sem Unit):Sem Fin:=do
 standAt ipos
 match <- pyNext it with
 | none=>pure (.done .next)
 | some v=>
   letOwnedTupleGo target it v
   assign target env v
   let mut ok:=true
   for c in ifs do
    if ok then ok <- isTrue c env (eval c env)
   if ok then
    inner
   again (.compLoop e d it acc env)
theorem adW(elt target iter:Expr)(ifs:List Expr)(scope:Scope)(pos:Pos)(it acc:Value)(env:Env):
 compTurn (.ListComp elt [⟨target,iter,ifs,0⟩] scope pos) 0 it acc env=jU (.ListComp elt [⟨target,iter,ifs,0⟩] scope pos) 0 it acc env target ifs iter.pos (do let _ <- call (.builtin "list.append") [acc,<- eval elt env]):=rfl
theorem aby(elt target iter jt bO:Expr)(ifs gm:List Expr)(scope:Scope)(pos:Pos)(it acc:Value)(env:Env):
 compTurn (.ListComp elt [⟨target,iter,ifs,0⟩,⟨jt,bO,gm,0⟩] scope pos) 0 it acc env=jU (.ListComp elt [⟨target,iter,ifs,0⟩,⟨jt,bO,gm,0⟩] scope pos) 0 it acc env target ifs iter.pos
  (do
    let x <- eval bO env
    standAt bO.pos
    let x <- foldedSetIterable bO env x
    let _ <- runOwn (.compStart (.ListComp elt [⟨target,iter,ifs,0⟩,⟨jt,bO,gm,0⟩] scope pos) 1 (<- holding [x] (pyIter x)) acc env) env):=by
 have e:compTurn (.ListComp elt [⟨target,iter,ifs,0⟩,⟨jt,bO,gm,0⟩] scope pos) 0 it acc env=(do
  standAt iter.pos
  match <- pyNext it with
  | none=>pure (.done .next)
  | some v=>
    letOwnedTupleGo target it v
    assign target env v
    let mut ok:=true
    for c in ifs do
     if ok then ok <- isTrue c env (eval c env)
    if ok then
     let x <- eval bO env
     standAt bO.pos
     let x <- foldedSetIterable bO env x
     let _ <- runOwn (.compStart (.ListComp elt [⟨target,iter,ifs,0⟩,⟨jt,bO,gm,0⟩] scope pos) 1 (<- holding [x] (pyIter x)) acc env) env
    again (.compLoop (.ListComp elt [⟨target,iter,ifs,0⟩,⟨jt,bO,gm,0⟩] scope pos) 0 it acc env)):=rfl
 rw[e];unfold jU;simp only[bind_assoc,pure_bind]
theorem abz(elt target iter jt bO:Expr)(ifs gm:List Expr)(scope:Scope)(pos:Pos)(it acc:Value)(env:Env):
 compTurn (.ListComp elt [⟨target,iter,ifs,0⟩,⟨jt,bO,gm,0⟩] scope pos) 1 it acc env=jU (.ListComp elt [⟨target,iter,ifs,0⟩,⟨jt,bO,gm,0⟩] scope pos) 1 it acc env jt gm bO.pos (do let _ <- call (.builtin "list.append") [acc,<- eval elt env]):=rfl
def LR(Y:Cx)(pins:List (Addr × Obj))(σ:St)(Q:Hp->Prop)(r:Result)(s':Shared):Prop:=
 match r with
 | .ok _=>∃ H',Inv Y pins σ H' s'/\Q H'
 | .error _=>False
theorem Ls{Y:Cx}(hx:NoX Y)(hc:Y.calm=true){elt:Expr}{gens:List Comprehension}{scope:Scope}{pos:Pos}{d:Nat}{it D:Addr}{tg:Expr}{ifs:List Expr}{ipos:Pos}{inner:Sem Unit}{J:It}{fp:List Addr}{tn:Nat->Heap->Prop}{g:TG}{tif:TT}{tin:TN}
 (ht:compTurn (.ListComp elt gens scope pos) d (.ref it) (.ref D) Y.env=jU (.ListComp elt gens scope pos) d (.ref it) (.ref D) Y.env tg ifs ipos inner)
 (T:Turn Y.prog Y.w Y.K tg J fp it tn) (hg:PG Y tg g) (hi:PTs Y ifs tif) (hn:PN Y inner tin)
 {pins:List (Addr × Obj)} {s:Shared} {σ:St} {H:Hp} {Q:Hp->Prop} (I:Inv Y pins σ H s) (st:tn 0 s.heap) (f:∀ b ∈ fp,lD Y pins H b) (h:xQ J g tif tin σ H Q):
 codeAny (model Y.prog Y.w) Y.A (.compLoop (.ListComp elt gens scope pos) d (.ref it) (.ref D) Y.env) (LR Y pins σ Q) s:=by
 obtain⟨W,⟨m0,w0⟩,turn⟩:=h;have stat:∀ {H':Hp},(∀ b ∈ fp,H' b=none)->∀ b ∈ fp,lD Y pins H' b:=fun hn b hb=>⟨hn b hb,(f b hb).2⟩;refine codeAny_loop rfl (fun n s'=>∃ i H',Inv Y pins σ H' s'/\tn i s'.heap/\(∀ b ∈ fp,H' b=none)/\W i n H') ?_ m0 ⟨0,H,I,st,fun b hb=>(f b hb).1,w0⟩;rintro n s3 ⟨i,H3,I3,st3,fr3,w3⟩;show wpAny _ Y.A ((compTurn (.ListComp elt gens scope pos) d (.ref it) (.ref D) Y.env).onRaise (fun x=>do noteFrame x Y.env;theTreesLotGoes x)) _ _ s3;refine wpAny_noted ?_;rw[ht];unfold jU;refine wpAny_bind (wpAny_standAt ?_)
 rcases turn i n H3 w3 with ⟨stop,qn⟩ | ⟨go,N,hN,step⟩
 · refine wpAny_bind (thn (hx.any (T.done Y rfl rfl rfl hc i pins s3 σ H3 Y.xe I3 (stat fr3) st3 stop)) fun r s4 ⟨hr,I4⟩=>?_);subst hr;exact wpAny_pure ⟨H3,I4,qn⟩
 · refine wpAny_bind (thn (hx.any (T.item Y rfl rfl rfl hc i pins s3 σ H3 Y.xe I3 (stat fr3) st3 go)) fun r s4 ⟨u,hr,h4⟩=>?_);subst hr;refine wpAny_bind (thn (hx.any h4) fun _ s5 ⟨x,H5,I5,r5,y5,st5,fr5⟩=>?_);have I5':=I5.pinned (stat fr5) (T.obj _ _ st5);refine wpAny_bind (thn (hx.any (hg _ s5 σ H5 x u _ I5' r5 (step x H5 y5))) fun _ s6 ⟨σ6,H6,I6,wk,q6⟩=>?_);obtain⟨wl,wv⟩:=wk.ok
   have again:∀ {σ7:St} {H7:Hp} {s7:Shared},Inv Y (pins++v_ fp s5.heap) σ7 H7 s7->Wk σ σ7->N H7->∃ m,m<n/\∃ i H',Inv Y pins σ H' s7/\tn i s7.heap/\(∀ b ∈ fp,H' b=none)/\W i m H':=fun {σ7 H7 s7} I7 wk7 n7=>by
    obtain⟨m',hm,w7⟩:=hN H7 n7;obtain⟨wl7,wv7⟩:=wk7.ok;refine⟨m',hm,i+1,H7,(I7.weak wl7 wv7).qO,T.keep _ _ _ st5 fun b hb o e=>(I7.pin (b,o) (List.mem_append_right _ (List.mem_append_right _ (qj hb e)))).1,fun b hb=>?_,w7⟩;obtain⟨o,e,d⟩:=T.obj _ _ st5 b hb;exact(I7.pin (b,o) (List.mem_append_right _ (List.mem_append_right _ (qj hb e)))).2.1
   refine wpAny_bind (thn (hx.any (hi _ s6 σ6 H6 _ I6 q6)) fun ok s7 ⟨H7,I7,q7⟩=>?_)
   cases ok with
   | false=>exact wpAny_pure ⟨rfl,again I7 wk q7⟩
   | true=>exact wpAny_bind (thn (hx.any (hn _ s7 σ6 H7 N I7 q7)) fun _ s8 ⟨H8,I8,q8⟩=>wpAny_pure ⟨rfl,again I8 wk q8⟩)
theorem Et{prog:Program}{w:World}{A:Around}{R:Result->Shared->Prop}{s:Shared}{elt:Expr}{gens:List Comprehension}{scope:Scope}{pos:Pos}{d:Nat}{it acc:Value}{env:Env}{g:Comprehension}(hg:gens[d]? =some g)(ha:g.is_async=0)
 (h0:codeAny (model prog w) A (.compLoop (.ListComp elt gens scope pos) d it acc env) R s)
 (h:wpAny (model prog w) A (pyIter it) (fun it' s'=>codeAny (model prog w) A (.compLoop (.ListComp elt gens scope pos) d it' acc env) R s') (notedBy (model prog w) A env fun x s'=>R (.error x) s') s):
 codeAny (model prog w) A (.compStart (.ListComp elt gens scope pos) d it acc env) R s:=by
 refine codeAny_of_tree ?_;show wpAny _ _ ((compStart (.ListComp elt gens scope pos) d it acc env).onRaise (fun x=>do noteFrame x env;standAt theWindowsPlace)) _ _ s;refine wpAny_notedAt ?_;unfold compStart;rw[show clausesOf (.ListComp elt gens scope pos)=gens from rfl,hg];have e1:(Option.elim (some g) false fun x=>x.is_async != 0)=false:=by show(g.is_async != 0)=false;rw[ha];rfl
 rw[e1];show wpAny _ _ (ask >>= _) _ _ s;refine wpAny_bind (wpAny_askSetting (wpAny_ite ?_))
 split
 · exact wpAny_bind (wpAny_pure (wpAny_pure (And.intro rfl h0)))
 · exact wpAny_bind (wpAny_rule (wpAny_bind (wpAny_standAt (wpAny_bind (wpAny_mono h (fun it' s' h'=>wpAny_pure (And.intro rfl h')) fun _ _ x=>x)))))
theorem HW{X:Cx}{N':List Str}{sc:Scope}{pins zV:List (Addr × Obj)}{σ σY:St}{H H':Hp}{s s':Shared}{fp:List Addr}{h':Heap}(I:Inv X pins σ H s)(hf:∀ b ∈ fp,lD X pins H b)
 (IY:Inv (blk X N' sc s.heap.objs.size s H fp) zV σY H' s') (hs:Heap.SameBut s.heap.objs.size s'.heap h'):Inv X pins σ H' { s' with heap:=h' }:=by
 have hC:∀ b o,s.heap.get? b=some o->b ≠ s.heap.objs.size:=fun b o e=>Nat.ne_of_lt (Heap.lt_size e);have nC:H' s.heap.objs.size=none:=IY.free;have u:Un (frs X.stack) fp H H' s.heap s'.heap:=IY.base;have kk:∀ b o,b ≠ s.heap.objs.size->s'.heap.get? b=some o->h'.get? b=some o:=fun b o hb e=>hs.extBut b o hb e;refine I.call' (s':={ s' with heap:=h' }) (ch:=fp) IY.os ⟨fun b o e n h1 h2=>kk b o (hC b o e) (u.keep b o e n h1 h2),fun b o e n h1 h2=>?_,u.free,fun b o e h2=>?_,u.tups,u.jQ,u.jR⟩ ?_ IY.bare fun b hb=>?_
 · obtain⟨sl,q⟩:=u.slot b o e n h1 h2;exact⟨sl,kk b _ (hC b o e) q⟩
 · obtain⟨o',q⟩:=u.there b o e h2;exact⟨o',kk b _ (hC b o e) q⟩
 · intro a o e;refine(IY.hok a o e).stay (fun b v hb q=>kk b v ?_ q) (fun _ q=>q) fun _ _ q=>q;rintro rfl
   rcases hb with z | z
   · rw[z]at nC;rw[nC]at e;cases e
   · rw[nC]at z;cases z
 · obtain⟨f0,f1,f2,f3,f4,f5⟩:=hf b hb;exact⟨f3,f1,f4,f5⟩
section
variable{X:Cx}{N':List Str}{sc:Scope}{nt:Nat}{idx:List Nat}{elt tg iter:Expr}{ifs:List Expr}{gs:List Comprehension}{pos:Pos}{wi:TI}{g:TG}{tif:TT}{tin:Addr->TN}
def G3(nt:Nat)(idx:List Nat)(wi:TI)(g:TG)(tif:TT)(tin:Addr->TN):TE:=fun σ H Q=>wi σ H fun J H1=>∀ D,H1 D=none->xQ J g tif (tin D) (sgb nt idx σ) (upd H1 D (.lst [])) fun H2=>Q (.ref D) H2
structure wA (X:Cx)(N':List Str)(sc:Scope)(elt tg iter:Expr)(ifs:List Expr)(gs:List Comprehension)(pos:Pos)(g:TG)(tif:TT)(tin:Addr->TN):Prop where
 ok:∀(C:Addr) (s₀:Shared) (H₀:Hp) (fp:List Addr) (D it:Addr),∃ inner:Sem Unit,
  compTurn (.ListComp elt (⟨tg,iter,ifs,0⟩::gs) sc pos) 0 (.ref it) (.ref D) (blk X N' sc C s₀ H₀ fp).env=jU (.ListComp elt (⟨tg,iter,ifs,0⟩::gs) sc pos) 0 (.ref it) (.ref D) (blk X N' sc C s₀ H₀ fp).env tg ifs iter.pos inner/\
  PG (blk X N' sc C s₀ H₀ fp) tg g/\PTs (blk X N' sc C s₀ H₀ fp) ifs tif/\PN (blk X N' sc C s₀ H₀ fp) inner (tin D)
theorem HX(B:rQ X N' sc nt idx)(hc:X.calm=true)(hi:PI X tg iter wi)(O:wA X N' sc elt tg iter ifs gs pos g tif tin){pins:List (Addr × Obj)}{s:Shared}{σ:St}{H:Hp}{Q:VK}{E:Value->Shared->Prop}{use:Option (Value->Sem Unit)}{QQ:Value->Shared->Prop}
 (I:Inv X pins σ H s) (h:G3 nt idx wi g tif tin σ H Q) (hE:∀ e s,X.xe e s->E e s)
 (hend:∀(D C:Addr) (s3 s':Shared) (H3 H':Hp) (fp:List Addr) (zV:List (Addr × Obj)) (σY:St),C=s3.heap.objs.size->Inv X pins σ H3 s3->(∀ b ∈ fp,lD X pins H3 b)->Inv (blk X N' sc C s3 H3 fp) zV σY H' s'->Q (.ref D) H'->
   compPost (model X.prog X.w) X.A E use QQ (.ref D) C (.ok .next) s'):
 wpAny (model X.prog X.w) X.A (eval iter X.env) (fun x s₁=>wpAny (model X.prog X.w) X.A (pyIter x) (fun it s₂=>wpAny (model X.prog X.w) X.A (newList []) (fun acc s₃=>
  wpAny (model X.prog X.w) X.A (newFunctionEnv sc X.env.globals (gk X.env.cells sc.names []) [] X.env.qual none .none (some X.env)) (fun cenv s₄=>
   codeAny (model X.prog X.w) X.A (.compStart (.ListComp elt (⟨tg,iter,ifs,0⟩::gs) sc pos) 0 it acc { cenv with scope:=relabel sc X.env }) (compPost (model X.prog X.w) X.A E use QQ acc cenv.locals) s₄) E s₃) E s₂) E s₁) E s:=by
 refine wpAny_mono (hi pins s σ H _ I h) (fun v s1 h1=>wpAny_mono h1 (fun itv s2 h2=>?_) hE) hE;obtain⟨it,fp,tn,J,H2,e,I2,T,st2,f2,hl⟩:=h2;subst e;refine wpAny_newObj_type ?_;have I3:Inv X pins σ (upd H2 s2.heap.objs.size (.lst [])) { s2 with heap:=s2.heap.push { cls:=.type "list",data:=.seq ([]:List Value).toArray } }:=I2.V9 (its:=[]) (ys:=[]) (t':=s2.toks) .nil (Nat.zero_le _);have hD:H2 s2.heap.objs.size=none:=I2.hok.fresh (aH _);have lt2:∀ b ∈ fp,b<s2.heap.objs.size:=fun b hb=>let ⟨o,ho,_⟩:=T.obj _ _ st2 b hb;Heap.lt_size ho;have f3:∀ b ∈ fp,lD X pins (upd H2 s2.heap.objs.size (.lst [])) b:=fun b hb=>⟨by rw[aB (Nat.ne_of_lt (lt2 b hb))];exact(f2 b hb).1,(f2 b hb).2⟩;generalize hS3:({ s2 with heap:=s2.heap.push { cls:=.type "list",data:=.seq ([]:List Value).toArray } }:Shared)=s3 at I3 ⊢;have lt3:∀ b ∈ fp,b<s3.heap.objs.size:=fun b hb=>by rw[<- hS3];show b<(s2.heap.push _).objs.size;rw[Heap.size_push];exact Nat.lt_succ_of_lt (lt2 b hb)
 have k3:∀ b o,s2.heap.get? b=some o->s3.heap.get? b=some o:=fun b o e=>by rw[<- hS3];exact Heap.get?_push_of_some _ e
 refine wpAny_newFunctionEnv B.HS (by intro y hy;simp at hy) (fun h₁ hns hsb=>?_) B.kind;have old:∀ b o,s3.heap.get? b=some o->h₁.get? b=some o:=fun b o e=>hsb.extBut b o (Nat.ne_of_lt (Heap.lt_size e)) (Heap.get?_push_of_some _ e);have IY:=YB (tk:=s3.toks+([]:List (Str × Value)).length) B I3 f3 lt3 hns old;have hx:NoX (blk X N' sc s3.heap.objs.size s3 (upd H2 s2.heap.objs.size (.lst [])) fp):=fun _ _ z=>z;obtain⟨inner,ht,hg,hif,hin⟩:=O.ok s3.heap.objs.size s3 (upd H2 s2.heap.objs.size (.lst [])) fp s2.heap.objs.size it;have stY:tn 0 h₁:=T.keep _ _ _ st2 fun b _ o e=>old b o (k3 b o e)
 have fY:∀ b ∈ fp,lD (blk X N' sc s3.heap.objs.size s3 (upd H2 s2.heap.objs.size (.lst [])) fp) (X.pn++pins) (upd H2 s2.heap.objs.size (.lst [])) b:=fun b hb=>by
  obtain⟨g0,g1,g2,g3,g4,g5⟩:=f3 b hb;refine⟨g0,Nat.ne_of_lt (lt3 b hb),fun z=>(List.mem_cons.mp (I3.v9 b z)).elim g1 g2,.inl hb,fun x c e=>?_,fun p hp=>g5 p (by have hp':p ∈ ([]:List (Addr × Obj))++(X.pn++pins):=hp;simpa using hp')⟩
  rcases qR (fun y hy e=>I3.ok.has y.1 (B.fr y hy e)) e with z | z
  · exact g4 x c z
  · simp at z
 have loop:codeAny (model X.prog X.w) X.A (.compLoop (.ListComp elt (⟨tg,iter,ifs,0⟩::gs) sc pos) 0 (.ref it) (.ref s2.heap.objs.size) (blk X N' sc s3.heap.objs.size s3 (upd H2 s2.heap.objs.size (.lst [])) fp).env)
  (compPost (model X.prog X.w) X.A E use QQ (.ref s2.heap.objs.size) s3.heap.objs.size) { s3 with heap:=h₁,toks:=s3.toks+([]:List (Str × Value)).length }:=by
  refine codeAny_mono (Ls (Y:=blk X N' sc s3.heap.objs.size s3 (upd H2 s2.heap.objs.size (.lst [])) fp) hx hc ht T hg hif hin IY stY fY (hl _ hD)) fun r s' hr=>?_
  cases r with
  | error e=>exact False.elim hr
  | ok fl=>
    obtain⟨H',IY',q⟩:=hr;have fin:=hend s2.heap.objs.size _ s3 s' _ H' fp _ _ rfl I3 f3 IY' q
    cases use with
    | none=>exact fin
    | some u=>exact fin
 exact Et (g:=⟨tg,iter,ifs,0⟩) rfl rfl loop (T.self _ 0 _ _ _ stY loop)
theorem Cq(B:rQ X N' sc nt idx)(hc:X.calm=true)(hi:PI X tg iter wi)(O:wA X N' sc elt tg iter ifs gs pos g tif tin)(hs:∀ x,foldedSetIterable iter X.env x=pure x:=by intro _;rfl):
 PE X (.ListComp elt (⟨tg,iter,ifs,0⟩::gs) sc pos) (G3 nt idx wi g tif tin):=by
 intro pins s σ H Q I h;rw[eval_ListComp]
 refine wpAny_comprehension_free (use:=none) (cl:=gk X.env.cells sc.names []) rfl hs (pR fun y hy e=>I.ok.has y.1 (B.fr y hy e)) B.kind B.loc
  (HX B hc hi O I h (fun _ _ z=>z) fun D C s3 s' H3 H' fp zV σY hC I3 f3 IY q=>?_)
 subst hC;obtain⟨m,hn,_⟩:=IY.loc;exact⟨m,hn,fun h' hs'=>⟨.ref D,H',HW I3 f3 IY hs',rfl,q⟩⟩
theorem Lw{i:Nat}{y:Str}{py spos:Pos}(hN:X.N.Nodup)(hi':X.N[i]? =some y)(hy:Loc X.env.scope y)(B:rQ X N' sc nt idx)(hc:X.calm=true)(hi:PI X tg iter wi)(O:wA X N' sc elt tg iter ifs gs pos g tif tin)
 (hsw:swapsWith (.ListComp elt (⟨tg,iter,ifs,0⟩::gs) sc pos) (some (.Name y py)) spos.line X.env=pure true:=by rfl) (hs:∀ x,foldedSetIterable iter X.env x=pure x:=by intro _;rfl)
 (hf:X.fn y=true\/X.env.scope.names.lookup y=some .local:=by first | exact .inl rfl | exact .inr rfl | assumption):
 PS X (.Assign [.Name y py] (.ListComp elt (⟨tg,iter,ifs,0⟩::gs) sc pos) spos) (Ni (G3 nt idx wi g tif tin) (GP i)):=by
 intro pins s σ H D0 I h;rw[exec_Assign_Name_used _ _ _ _ hsw];refine wpAny_bind (wpAny_standAt (wpAny_bind ?_));show wpAny _ X.A (do let _ <- comprehension (.ListComp elt (⟨tg,iter,ifs,0⟩::gs) sc pos) sc X.env _ (newList []) false (eval iter X.env) (some (assign (.Name y py) X.env))) _ _ s
 refine wpAny_bind (wpAny_mono (wpAny_comprehension_free (use:=some (assign (.Name y py) X.env)) (Q:=fun _ s'=>SP X pins D0 .next s') (cl:=gk X.env.cells sc.names []) rfl hs (pR fun y hy e=>I.ok.has y.1 (B.fr y hy e)) B.kind B.loc
  (HX B hc hi O I h (fun _ _ z=>z) fun D C s3 s' H3 H' fp zV σY hC I3 f3 IY q=>?_)) (fun _ s' hq=>wpAny_pure (wpAny_pure hq)) fun _ _ e=>e)
 subst hC;obtain⟨m,hn,_⟩:=id IY.loc;obtain⟨oC,es,ep,hoC,hdC,rest⟩:=id hn;have IX:Inv X pins σ H' s':=HW (h':=s'.heap) I3 f3 IY (Heap.SameBut.refl ..);have neL:s3.heap.objs.size ≠ X.env.locals:=Nat.ne_of_gt I3.lt;have nfs:s3.heap.objs.size ∉ X.fs:=I3.aaZ (aH _)
 have adX:∀ x c,X.env.cells.lookup x=some c->c ≠ s3.heap.objs.size:=fun x c e z=>by
  obtain⟨v,hv⟩:=I3.cell x c e;exact absurd hv.lt (by rw[z];exact Nat.lt_irrefl _)
 have aeN:s'.heap.get? s3.heap.objs.size=some oC:=hoC;have hfree:H' s3.heap.objs.size=none:=IY.free
 have IP:Inv X (pins ++ [(s3.heap.objs.size,oC)]) σ H' s':=IX.BV fun p hp=>by
  rcases List.mem_append.mp hp with z | z
  · exact IX.pin p (List.mem_append_right _ z)
  · have e:p=(s3.heap.objs.size,oC):=by simpa using z
    subst e;exact⟨aeN,hfree,neL,nfs,fun v z=>by rw[hdC]at z;cases z⟩
 show wpAny _ X.A (assign (.Name y py) X.env (.ref D)) _ _ _;refine wpAny_assign_Name (uA IP hN hi' hy (v:=.ref D) rfl (fun s'' I''=>?_) hf);have pC:=I''.pin (s3.heap.objs.size,oC) (List.mem_append_right _ (List.mem_append_right _ (List.mem_singleton.mpr rfl)));refine⟨m,⟨oC,es,ep,pC.1,hdC,rest⟩,fun h' hs'=>?_⟩;refine⟨_,H',(I''.qO).turned (it:=s3.heap.objs.size) (h':=h') (t':=s''.toks) (fun b o hb e=>hs'.extBut b o hb e) pC.2.1 neL (.inr I3.sz) adX (fun p hp z=>?_),q⟩;have:=(I3.pin p hp).1;exact absurd (Heap.lt_size this) (by rw[z];exact Nat.lt_irrefl _)
theorem G4{te:TE}(hg:∀ C s₀ H₀ fp,PG (blk X N' sc C s₀ H₀ fp) tg g)(hif:∀ C s₀ H₀ fp,PTs (blk X N' sc C s₀ H₀ fp) ifs tif)(he:∀ C s₀ H₀ fp,PE (blk X N' sc C s₀ H₀ fp) elt te):
 wA X N' sc elt tg iter ifs [] pos g tif (fun D=>zU D te):=
 ⟨fun C s₀ H₀ fp D it=>⟨_,adW elt tg iter ifs sc pos (.ref it) (.ref D) _,hg C s₀ H₀ fp,hif C s₀ H₀ fp,Lr (he C s₀ H₀ fp)⟩⟩
theorem adY{tg2 bO:Expr}{gm:List Expr}{te:TE}{wi2:TI}{g2:TG}{abA:TT}(hc:X.calm=true)(hg:∀ C s₀ H₀ fp,PG (blk X N' sc C s₀ H₀ fp) tg g)(hif:∀ C s₀ H₀ fp,PTs (blk X N' sc C s₀ H₀ fp) ifs tif)
 (hi2:∀ C s₀ H₀ fp,PI (blk X N' sc C s₀ H₀ fp) tg2 bO wi2) (hg2:∀ C s₀ H₀ fp,PG (blk X N' sc C s₀ H₀ fp) tg2 g2) (Wc:∀ C s₀ H₀ fp,PTs (blk X N' sc C s₀ H₀ fp) gm abA) (he:∀ C s₀ H₀ fp,PE (blk X N' sc C s₀ H₀ fp) elt te)
 (hs:∀ C s₀ H₀ fp x,foldedSetIterable bO (blk X N' sc C s₀ H₀ fp).env x=pure x:=by intro _ _ _ _ _;rfl):
 wA X N' sc elt tg iter ifs [⟨tg2,bO,gm,0⟩] pos g tif (fun D=>Rr wi2 g2 abA (zU D te)):=by
 refine⟨fun C s₀ H₀ fp D it=>⟨_,aby elt tg iter tg2 bO ifs gm sc pos (.ref it) (.ref D) _,hg C s₀ H₀ fp,hif C s₀ H₀ fp,?_⟩⟩;have hx:NoX (blk X N' sc C s₀ H₀ fp):=fun _ _ z=>z;intro pins s σ H N I h;refine wpAny_bind (thn (hi2 C s₀ H₀ fp pins s σ H _ I h) fun v s1 h1=>?_);refine wpAny_bind (wpAny_standAt (wpAny_bind (wpAny_of_eq (hs C s₀ H₀ fp v) ?_)));refine wpAny_bind (wpAny_holding (thn h1 fun itv s2 h2=>?_));obtain⟨it2,fp2,tn2,J2,H2,e,I2,T2,st2,f2,hl2⟩:=h2;subst e;have loop:=Ls (Y:=blk X N' sc C s₀ H₀ fp) hx hc (abz elt tg iter tg2 bO ifs gm sc pos (.ref it2) (.ref D) _) T2 (hg2 C s₀ H₀ fp) (Wc C s₀ H₀ fp) (Lr (he C s₀ H₀ fp)) I2 st2 f2 hl2
 have loop':codeAny (model (blk X N' sc C s₀ H₀ fp).prog (blk X N' sc C s₀ H₀ fp).w) (blk X N' sc C s₀ H₀ fp).A (.compLoop (.ListComp elt [⟨tg,iter,ifs,0⟩,⟨tg2,bO,gm,0⟩] sc pos) 1 (.ref it2) (.ref D) (blk X N' sc C s₀ H₀ fp).env)
  (fun r s'=>match r with | .ok f=>wpAny (model (blk X N' sc C s₀ H₀ fp).prog (blk X N' sc C s₀ H₀ fp).w) (blk X N' sc C s₀ H₀ fp).A (pure ()) (fun _ s'=>∃ H',Inv (blk X N' sc C s₀ H₀ fp) pins σ H' s'/\N H') (blk X N' sc C s₀ H₀ fp).xe s' | .error e=>cameBackBy (model (blk X N' sc C s₀ H₀ fp).prog (blk X N' sc C s₀ H₀ fp).w) (blk X N' sc C s₀ H₀ fp).A (blk X N' sc C s₀ H₀ fp).env (blk X N' sc C s₀ H₀ fp).xe e s') s2:=
  codeAny_mono loop fun r s' hr=>by
   cases r with
   | error e=>exact False.elim hr
   | ok fl=>exact wpAny_pure hr
 exact wpAny_bind (wpAny_runOwn (h:=none) (Et (g:=⟨tg2,bO,gm,0⟩) rfl rfl loop' (T2.self _ 0 _ _ _ st2 loop')))
end
def abB(N N':List Str)(sc osc:Scope)(nt:Nat)(idx:List Nat):Bool:=
 decide (sc.kind= .function)&&sc.names.all (fun y=>decide (y.2 ≠ .cell))&&sc.names.all (fun y=> !decide (y.2= .local)||decide (sc.names.lookup y.1=some .local)) &&
 sc.names.all (fun y=> !decide (y.2= .free)||(decide (osc.names.lookup y.1=some .cell)||decide (osc.names.lookup y.1=some .free)))&&decide (nt+idx.length=N'.length) &&
 (idx.zip (N'.drop nt)).all (fun p=>decide (N[p.1]? =some p.2)&&decide (sc.names.lookup p.2=some .free))
theorem fM{X:Cx}{N N':List Str}{sc osc:Scope}{nt:Nat}{idx:List Nat}(h1:X.env.scope=osc)(h2:X.N=N)(h:abB N N' sc osc nt idx=true):rQ X N' sc nt idx:=by
 unfold abB at h;simp only[Bool.and_eq_true,List.all_eq_true,decide_eq_true_eq,Bool.or_eq_true,Bool.not_eq_true',decide_eq_false_iff_not]at h;obtain⟨⟨⟨⟨⟨a,b⟩,c⟩,d⟩,e⟩,f⟩:=h;refine⟨a,b,fun y hy q=>(c y hy).resolve_left (fun z=>z q),fun y hy q=>?_,e,fun p hp=>?_⟩
 · have z:=(d y hy).resolve_left (fun z=>z q);unfold Env.kindOf;rw[h1];exact z
 · rw[h2];exact f p hp
structure Low (o u n d:Int):Prop where
 pos:0<d
 gcd:Int.gcd n d=1
 eq:n*u=o*d
 le1:n.natAbs<=o.natAbs
 le2:d.natAbs<=u.natAbs
abbrev Drawn:List Int->List Int->Prop:=Paired fun n l=>0<=n/\n<l
section
variable{X:Cx}
theorem Wd{bs:List Bool}:∀ {us:List Value},Vals (bs.map V.bl) us->LSm.BoolsAre us bs:=by
 induction bs with
 | nil=>intro us r;rw[List.map_nil]at r;cases r;exact .nil
 | cons b bs ih=>
   intro us r;rw[List.map_cons]at r
   cases r with
   | cons r1 r2=>
     obtain rfl:=(show _=Value.bool b from r1);exact .cons b (ih r2)
def aeO(f:List Bool->Bool):List V->Hp->VK->Prop:=fun xs H Q=>∃ p bs,xs= [.ref p]/\H p=some (.lst (bs.map V.bl))/\Q (.bl (f bs)) H
theorem Rt(hc:X.calm=true):jb X (.builtin "all") (aeO fun bs=>bs.all id):=by
 intro pins s σ H xs us Q I r h;obtain⟨p,bs,rfl,hp,q⟩:=h;obtain⟨u,rfl,ru⟩:=vals1 r;cases ru;obtain⟨_,its,n,rv,ho⟩:=(show bA X.prog X.w H s.heap p (.lst (bs.map V.bl)) from I.hok p _ hp);have hb:=Wd rv;have hl:s.heap.IsList p its.toArray:=⟨_,ho,rfl,_,rfl⟩;have hlt:p<s.heap.objs.size:=Heap.lt_size ho;refine call_all_walk (wpAny_pyIter_list hl ?_)
 refine⟨s.heap.objs.size,[s.heap.objs.size,p],[s.heap.objs.size],its.toArray.size,_,_,fun i=>(bs[i]?).getD true,rfl,Walks.list (A:=X.A.in1) (I.ok.hd hc) _ p (Nat.ne_of_lt hlt) its.toArray,
  ⟨⟨_,Heap.get?_push_size _ rfl,rfl,rfl⟩,hl.push _⟩,fun i v s' Q' E' hP hQ=>?_,fun h' tk hk=>?_⟩
 · obtain⟨b,e,rfl⟩:=hb.get i v (by simpa using hP);simp only[e,Option.getD_some]at hQ;exact wpAny_truthy_bool hQ
 · have e:((List.range its.toArray.size).all fun i=>(bs[i]?).getD true)=bs.all id:=by
    rw[List.size_toArray,hb.length];exact LSm.range_all bs
   rw[e];exact⟨.bl _,H,I.kept (h':=h') (t':=tk) (LSm.kept_iter hk),rfl,q⟩
end
section
variable{X:Cx}{K:ak}{tg l o e:Expr}{es:List Expr}{tl to te:TE}{t:TA}{pos apos:Pos}
theorem Lx(h:X.K=K):IxR X (rIx K):=h ▸ Rh
def aeP(K:ak):List V->Hp->VK->Prop:=fun xs H Q=>∃ p ys,xs= [.ref p]/\(SqL K H p ys\/SqT K H p ys)/\Q (.int ys.length) H
def adZ(K:ak):List V->Hp->VK->Prop:=fun xs H Q=>∃ p ys,xs= [.ref p]/\(SqL K H p ys\/SqT K H p ys)/\(ys.length<=sizeLine->Q (.int ys.length) H)
theorem wB:jb X (.builtin "len") (adZ X.K):=by
 intro pins s σ H xs us Q I r h;obtain⟨p,ys,e,hs,q⟩:=h
 have hz:ys.length<=sizeLine:=by
  rcases hs with z | z
  · exact(I.list z).choose_spec.2.2
  · exact(I.tuple z).choose_spec.2.2
 exact d_ pins s σ H xs us Q I r ⟨p,ys,e,hs,q hz⟩
end
theorem HY{lo:Int}{n:Nat}{g:TG}{tif:TT}{tin:TN}{σ:St}{H:Hp}{Q:Hp->Prop}(Pv:Nat->Hp->Prop)(h0:Pv 0 H)
 (hs:∀ i H,i<n->Pv i H->g (.int (lo+i)) σ H fun σ2 H2=>Wk σ σ2/\tif σ2 H2 fun b H3=>if b=true then tin σ2 H3 (Pv (i+1)) else Pv (i+1) H3) (hd:∀ H,Pv n H->Q H):xQ (Itr lo n) g tif tin σ H Q:=by
 refine⟨fun i m H=>m=n - i/\i<=n/\Pv i H,⟨n,by simp,Nat.zero_le _,h0⟩,?_⟩;rintro i m H ⟨rfl,hi,p⟩
 by_cases hlt:i<n
 · refine .inr ⟨hlt,Pv (i+1),fun H' p'=>⟨n - (i+1),by omega,rfl,hlt,p'⟩,fun x H' y=>?_⟩;obtain⟨e,y⟩:=y;subst e y;exact hs i _ hlt p
 · have e:i=n:=by omega
   subst e;exact .inl ⟨aH _,hd H p⟩
theorem Ly{K:ak}{a:Addr}{xs:List V}{g:TG}{tif:TT}{tin:TN}{σ:St}{H:Hp}{Q:Hp->Prop}(Pv:Nat->Hp->Prop)(h0:Pv 0 H)(hl:∀ i H,i<=xs.length->Pv i H->SqL K H a xs)
 (hs:∀ i x H,xs[i]? =some x->Pv i H->g x σ H fun σ2 H2=>Wk σ σ2/\tif σ2 H2 fun b H3=>if b=true then tin σ2 H3 (Pv (i+1)) else Pv (i+1) H3) (hd:∀ H,Pv xs.length H->Q H):xQ (Itl K a) g tif tin σ H Q:=by
 refine⟨fun i m H=>m=xs.length - i/\i<=xs.length/\Pv i H,⟨xs.length,by simp,Nat.zero_le _,h0⟩,?_⟩;rintro i m H ⟨rfl,hi,p⟩;have q:=hl i H hi p
 by_cases hlt:i<xs.length
 · refine .inr ⟨⟨xs,xs[i],q,by simp[hlt]⟩,Pv (i+1),fun H' p'=>⟨xs.length - (i+1),by omega,rfl,hlt,p'⟩,fun x H' y=>?_⟩;obtain⟨e,y⟩:=y;subst e;exact hs i x _ (y xs q) p
 · have e:i=xs.length:=by omega
   subst e;exact .inl ⟨⟨xs,q,aH _⟩,hd H p⟩
example (a b v:V):Wk (sgb 1 [0,1] [some a,some b]) ((sgb 1 [0,1] [some a,some b]).set 0 (some v)):=⟨rfl,rfl,trivial⟩
def tyN:PyData->String
 | .none=>"NoneType"
 | .bool _=>"bool"
 | .int _=>"int"
 | .str _=>"str"
 | .list _=>"list"
 | .tuple _=>"tuple"
 | .dict _=>"dict"
theorem Rep.ty{K:ak}{H:Hp}{v:V}{d:PyData}(r:Rep H v d):nA K H v (.type (tyN d)):=by
 cases r with
 | non=>exact .non
 | bl b=>exact .bl b
 | int i=>exact .int i
 | str x=>exact .str x
 | lst h _=>exact .lst h
 | tup h _=>exact .tup h
def Kp(fs:List Addr)(g h:Heap):Prop:=∀ b o,g.get? b=some o->(b ∉ fs->h.get? b=some o)/\(b ∈ fs->∃ sl,h.get? b=some { o with slots:=sl })
theorem Kp.of_keeps{fs:List Addr}{g h:Heap}(k:∀ b o,g.get? b=some o->h.get? b=some o):Kp fs g h:=fun b o e=>⟨fun _=>k b o e,fun _=>⟨o.slots,k b o e⟩⟩
def Fly(g:Heap)(fl:Value)(e:Addr)(cls:Value)(d:Option Addr)(a0:Value)(h:Heap):Prop:=
 g.get? e=none/\∃ oe vs T oT ts,h.get? e=some oe/\oe.cls=cls/\oe.dict=d/\oe.data= .fields vs/\vs[0]? =some a0/\vs[1]? =some (.ref T)/\T ≠ e/\g.get? T=none/\h.get? T=some oT/\oT.data= .fields ts/\ts[3]? =some fl
section
variable{M:Model}{A:Around}{E:Value->Shared->Prop}{s:Shared}{base g:Heap}{env:Env}{outer:List Env}{L e:Addr}{a0:Value}
theorem Eu{oe:Obj}{vs:Array Value}{head:Value}{hadNext:Bool}{Q:Unit->Shared->Prop}(hfr:A.frames=some (env::outer))(hl:s.heap.FunFrames base (env::outer))(hf:env.frame=some L)
 (he:s.heap.get? e=some oe) (hd:oe.data= .fields vs) (hsz:1<vs.size)
 (h:∀ h' T oT ts,(∀ b o,s.heap.get? b=some o->b ≠ e->(b ∉ frs (env::outer)->h'.get? b=some o)/\∃ sl,h'.get? b=some { o with slots:=sl })->s.heap.get? T=none->
   h'.get? e=some (Obj.mapFields (·.setIfInBounds 1 (.ref T)) oe)->h'.get? T=some oT->oT.data= .fields ts->ts[3]? =some (rawInt L)->Q () { s with heap:=h' }):
 wpAny M A (do let a <- frameOf env;let pl <- entryPlaceOf L hadNext;let b <- EntryCells.newEntry head a .none (rawInt L) .none pl;setField (.ref e) 1 b) Q E s:=by
 have hene:e ∉ (env::outer).filterMap (·.frame):=fun hm=>by
  obtain⟨_,o,ho,hnf⟩:=hl.mem hm;rw[he]at ho;cases ho;exact hnf vs hd
 refine wpAny_bind (wpAny_frameOf_fun hfr hl hf fun h1 hs1=>?_);refine wpAny_bind (wpAny_entryPlaceOf fun pl hpl=>?_);unfold EntryCells.newEntry newFields;refine wpAny_bind (wpAny_newObj_type ?_ (hpl.sizeOk5 _ _ _ _ _));have he1:h1.get? e=some oe:=(hs1.2.1 e hene).trans he;refine wpAny_setField (Heap.get?_push_of_some _ he1) hd hsz ?_;have hTe:h1.objs.size ≠ e:=Nat.ne_of_gt (Heap.lt_size he1);refine h _ h1.objs.size _ _ (fun b o hb hbe=>?_) ?_ ?_ ((Heap.get?_update_other _ _ hTe.symm).trans (Heap.get?_push_size h1 rfl)) rfl ?_
 · have up:∀ o',h1.get? b=some o'->((h1.push { cls:=.type "traceback",dict:=none,data:=.fields ([head,.ref L,.none,rawInt L,.none]++(if pl.isEmpty then List.replicate 6 Value.none else pl)).toArray }).update e (Obj.mapFields (·.setIfInBounds 1 (Value.ref h1.objs.size)))).get? b=some o':=fun o' q=>by
    rw[Heap.get?_update_other _ _ hbe.symm];exact Heap.get?_push_of_some _ q
   refine⟨fun hn=>up o ((hs1.2.1 b hn).trans hb),?_⟩;obtain⟨sl,q⟩:=hs1.2.2 b o hb;exact⟨sl,up _ q⟩
 · cases q:s.heap.get? h1.objs.size with
   | none=>rfl
   | some o=>
     obtain⟨sl,q'⟩:=hs1.2.2 _ o q;exact absurd (Heap.lt_size q') (Nat.lt_irrefl _)
 · exact Heap.get?_update_self _ (Heap.get?_push_of_some _ he1) (Obj.isFreed_of_fields (Obj.data_mapFields hd _))
 · first
    | (simp;done)
    | (rcases hpl with rfl | ⟨_,_,_,_,_,_,_,rfl⟩ <;> simp)
theorem ue(f:Array Value->Array Value)(o:Obj):(Obj.mapFields f o).dict=o.dict:=by
 obtain⟨c,d,dt,sl⟩:=o;cases dt <;> rfl
theorem Ob{oe:Obj}{vs:Array Value}{Q:Unit->Shared->Prop}(hfr:A.frames=some (env::outer))(hl:s.heap.FunFrames base (env::outer))(hf:env.frame=some L)
 (he:s.heap.get? e=some oe) (hd:oe.data= .fields vs) (h0:vs[0]? =some a0) (h1:vs[1]? =some .none) (hg:g.get? e=none) (hgs:Kp (frs (env::outer)) g s.heap)
 (h:∀ h',Kp (frs (env::outer)) g h'->Fly g (rawInt L) e oe.cls oe.dict a0 h'->Q () { s with heap:=h' }):wpAny M A (noteFrame (.ref e) env) Q E s:=by
 unfold noteFrame;simp only[hf];refine wpAny_bind (wpAny_field he hd h1 ?_);rw[if_neg (by decide)];have sz:=(Array.getElem?_eq_some_iff.mp h1).1;refine Eu hfr hl hf he hd sz fun h' T oT ts k kT ke kt kd k3=>h h' (fun b o q=>?_) ⟨hg,_,_,T,oT,ts,ke,Obj.cls_mapFields _ _,ue _ _,Obj.data_mapFields hd _,by rw[Array.getElem?_setIfInBounds_ne (by decide)];exact h0,by simp[sz],fun z=>?_,?_,kt,kd,k3⟩
 · have hbe:b ≠ e:=fun z=>by rw[z,hg]at q;cases q
   refine⟨fun hb=>(k b o ((hgs b o q).1 hb) hbe).1 hb,fun hb=>?_⟩;obtain⟨sl,q1⟩:=(hgs b o q).2 hb;obtain⟨sl2,q2⟩:=(k b _ q1 hbe).2;exact⟨sl2,q2⟩
 · rw[z,he]at kT;cases kT
 · cases q:g.get? T with
   | none=>rfl
   | some o=>
     exfalso
     by_cases hb:T ∈ frs (env::outer)
     · obtain⟨sl,q1⟩:=(hgs T o q).2 hb;rw[kT]at q1;cases q1
     · have q1:=(hgs T o q).1 hb;rw[kT]at q1;cases q1
theorem Ew{cls:Value}{d:Option Addr}{Q:Unit->Shared->Prop}(hfr:A.frames=some (env::outer))(hl:s.heap.FunFrames base (env::outer))(hf:env.frame=some L)
 (hF:Fly g .none e cls d a0 s.heap) (hgs:Kp (frs (env::outer)) g s.heap)
 (h:∀ h',Kp (frs (env::outer)) g h'->Fly g (rawInt L) e cls d a0 h'->Q () { s with heap:=h' }):wpAny M A (noteFrame (.ref e) env) Q E s:=by
 obtain⟨hg,oe,vs,T,oT,ts,he,hc,hdd,hd,h0,h1,hTe,hgT,hT,hdT,h3⟩:=hF;subst hc hdd;unfold noteFrame;simp only[hf];refine wpAny_bind (wpAny_field he hd h1 ?_);rw[if_pos (show(Value.ref T != Value.none)=true from by simp)];refine wpAny_bind (wpAny_field hT hdT h3 ?_);rw[if_neg (show ¬ ((Value.none==rawInt L)=true) from by simp[rawInt])];refine wpAny_bind (wpAny_setField hT hdT (Array.getElem?_eq_some_iff.mp h3).1 ?_);have other:∀ b,b ≠ T->(s.heap.update T (Obj.mapFields (·.setIfInBounds 3 Value.none))).get? b=s.heap.get? b:=fun b hb=>Heap.get?_update_other _ _ (Ne.symm hb);have sz:=(Array.getElem?_eq_some_iff.mp h1).1;have zW:(s.heap.update T (Obj.mapFields (·.setIfInBounds 3 Value.none))).FunFrames base (env::outer):=hl.of_keeps fun b o hb hnf=>⟨o,(other b fun q=>by rw[q,hT]at hb;cases hb;exact hnf ts hdT).trans hb,rfl⟩;refine Eu hfr zW hf ((other e (Ne.symm hTe)).trans he) hd sz fun h' T2 oT2 ts2 k kT ke kt kd k3=>h h' (fun b o q=>?_) ⟨hg,_,_,T2,oT2,ts2,ke,Obj.cls_mapFields _ _,ue _ _,Obj.data_mapFields hd _,by rw[Array.getElem?_setIfInBounds_ne (by decide)];exact h0,by simp[sz],fun z=>?_,?_,kt,kd,k3⟩
 · have hbe:b ≠ e:=fun z=>by rw[z,hg]at q;cases q
   have hbT:b ≠ T:=fun z=>by rw[z,hgT]at q;cases q
   refine⟨fun hb=>(k b o ((other b hbT).trans ((hgs b o q).1 hb)) hbe).1 hb,fun hb=>?_⟩;obtain⟨sl,q1⟩:=(hgs b o q).2 hb;obtain⟨sl2,q2⟩:=(k b _ ((other b hbT).trans q1) hbe).2;exact⟨sl2,q2⟩
 · rw[z,other e (Ne.symm hTe),he]at kT;cases kT
 · cases q:g.get? T2 with
   | none=>rfl
   | some o=>
     exfalso;have hbT:T2 ≠ T:=fun z=>by rw[z,hgT]at q;cases q
     rw[other _ hbT]at kT
     by_cases hb:T2 ∈ frs (env::outer)
     · obtain⟨sl,q1⟩:=(hgs T2 o q).2 hb;rw[kT]at q1;cases q1
     · have q1:=(hgs T2 o q).1 hb;rw[kT]at q1;cases q1
theorem uH{fs:List Addr}{cls fl:Value}{d:Option Addr}{Q:Unit->Shared->Prop}(hF:Fly g fl e cls d a0 s.heap)(hgs:Kp fs g s.heap)
 (h:∀ h',Kp fs g h'->Fly g .none e cls d a0 h'->Q () { s with heap:=h' }):wpAny M A (setFlight (.ref e) none) Q E s:=by
 obtain⟨hg,oe,vs,T,oT,ts,he,hc,hdd,hd,h0,h1,hTe,hgT,hT,hdT,h3⟩:=hF;have sz:=(Array.getElem?_eq_some_iff.mp h3).1;have other:∀ b,b ≠ T->(s.heap.update T (Obj.mapFields (·.setIfInBounds 3 ((none:Option Addr).elim Value.none fun f=>rawInt f)))).get? b=s.heap.get? b:=fun b hb=>Heap.get?_update_other _ _ (Ne.symm hb);unfold setFlight;refine wpAny_bind (wpAny_field he hd h1 ?_);rw[if_pos (show(Value.ref T != Value.none)=true from by simp)];refine wpAny_setField hT hdT sz (h _ (fun b o q=>?_) ?_)
 · have hbT:b ≠ T:=fun z=>by rw[z,hgT]at q;cases q
   exact⟨fun hb=>(other b hbT).trans ((hgs b o q).1 hb),fun hb=>let ⟨sl,q1⟩:=(hgs b o q).2 hb;⟨sl,(other b hbT).trans q1⟩⟩
 · exact⟨hg,oe,vs,T,_,_,(other e (Ne.symm hTe)).trans he,hc,hdd,hd,h0,h1,hTe,hgT,Heap.get?_update_self _ hT (Obj.isFreed_of_fields (Obj.data_mapFields hdT _)),Obj.data_mapFields hdT _,by simp[sz]⟩
theorem KQ{oe:Obj}{vs:Array Value}{Q:Unit->Shared->Prop}(hfr:A.frames=some (env::outer))(hl:s.heap.FunFrames base (env::outer))(hf:env.frame=some L)
 (he:s.heap.get? e=some oe) (hd:oe.data= .fields vs) (h0:vs[0]? =some a0) (h1:vs[1]? =some .none) (hg:g.get? e=none) (hgs:Kp (frs (env::outer)) g s.heap)
 (h:∀ h',Kp (frs (env::outer)) g h'->Fly g .none e oe.cls oe.dict a0 h'->Q () { s with heap:=h' }):wpAny M A (leaving env (.ref e)) Q E s:=by
 unfold leaving;exact wpAny_bind (Ob hfr hl hf he hd h0 h1 hg hgs fun h' k F=>uH (s:={ s with heap:=h' }) F k fun h'' k2 F2=>h h'' k2 F2)
theorem Oc{cls:Value}{d:Option Addr}{Q:Unit->Shared->Prop}(hfr:A.frames=some (env::outer))(hl:s.heap.FunFrames base (env::outer))(hf:env.frame=some L)
 (hF:Fly g .none e cls d a0 s.heap) (hgs:Kp (frs (env::outer)) g s.heap)
 (h:∀ h',Kp (frs (env::outer)) g h'->Fly g .none e cls d a0 h'->Q () { s with heap:=h' }):wpAny M A (leaving env (.ref e)) Q E s:=by
 unfold leaving;exact wpAny_bind (Ew hfr hl hf hF hgs fun h' k F=>uH (s:={ s with heap:=h' }) F k fun h'' k2 F2=>h h'' k2 F2)
end
structure Ord (bm:List Value):Prop where
 v:bm.contains (.type "ValueError")=true
 b:bm.contains (.type "BaseException")=true
 a:bm.contains (.type "AttributeError")=false
 n:bm.contains (.type "NameError")=false
theorem Ord.cv{bm:List Value}(T:Ord bm)(C:Addr):(Value.ref C::bm).contains (.type "ValueError")=true:=by rw[List.contains_cons,T.v,Bool.or_true]
theorem Ord.cb{bm:List Value}(T:Ord bm)(C:Addr):(Value.ref C::bm).contains (.type "BaseException")=true:=by rw[List.contains_cons,T.b,Bool.or_true]
theorem Ord.ca{bm:List Value}(T:Ord bm)(C:Addr):(Value.ref C::bm).contains (.type "AttributeError")=false:=by rw[List.contains_cons,T.a];rfl
theorem Ord.cn{bm:List Value}(T:Ord bm)(C:Addr):(Value.ref C::bm).contains (.type "NameError")=false:=by rw[List.contains_cons,T.n];rfl
abbrev VF:=PySem.F.excBase_ValueError
abbrev fu(C t:Addr)(d:Option Addr):Obj:={ cls:=.ref C,dict:=d,data:=.fields #[.ref t,.none,.none,.none,.bool false,.none] }
section
variable{prog:Program}{w:World}{A:Around}{E:Value->Shared->Prop}{h:Heap}{g:Array GenState}{d:PySem.Drawn}{t:Nat}{os:OsState}
variable{nm q:Str}{C N:Addr}{bs bm:List Value}{hdct:Bool}{sn:List Str}{sub:List Value}{ab:Bool}{col:Option Bool}{dd:Option Addr}{k0 k1 k2 k3 k5:Option Value}
theorem abC{R:Result->Shared->Prop}{rest:List Value}(T:Ord bm)(hC:h.get? C=some (excClassObj nm q C N bs bm hdct sn sub ab col dd k0 k1 k2 k3 k5 "ValueError.__new__"))
 (hq:R (.ok (.ret (.ref (h.objs.size+1)))) ⟨(h.push { cls:=.type "tuple",data:=.seq rest.toArray }).push (fu C h.objs.size none),g,d,t,os⟩) (hrest:rest.length<=sizeLine:=by size_fits):
 codeAny (model prog w) A (.builtin "ValueError.__new__" ⟨.ref C::rest,[]⟩) R ⟨h,g,d,t,os⟩:=by
 have hends:=VF.ends;have c1:=T.cv C;have c2:=T.ca C;have c3:=T.cn C;refine codeAny_builtinAt VF.entry ?_;unfold Builtin.«BaseException.__new__»;refine PySem.wpAt_bind ?_;show PySem.wpAt _ _ _ (stack >>= _) _ _ _;refine PySem.wpAt_bind (PySem.wpAt_stack fun p below=>PySem.wpAt_of_wpAny ?_)
 wp_walk
 refine PySem.wpAt_of_wpAny ?_;rw[VF.owner]
 repeat (first | with_reducible refine wpAny_madeHere_exc VF.canon hC ?_ | with_reducible refine wpAny_loadPart_at hC ?_ | (with_reducible refine wpAny_isSubtype_exc hC ?_;first | rw[c1] | rw[c2] | rw[c3]) | wp_step)
 show R _ _;rw[Heap.size_push];exact hq
theorem We{M:Model}{rest:List Value}{Q:Unit->Shared->Prop}(T:Ord bm)(hC:h.get? C=some (excClassObj nm q C N bs bm hdct sn sub ab col dd k0 k1 k2 k3 k5 "ValueError.__new__"))
 (hq:Q () ⟨h,g,d,t,os⟩):wpAny M A (checkBuiltinCall "ValueError.__new__" ⟨.ref C::rest,[]⟩) Q E ⟨h,g,d,t,os⟩:=by
 have c1:=T.cv C;have hstar:=VF.noStar;simp only[checkBuiltinCall,VF.newKind,VF.newSplit,VF.newRow]
 repeat (first | refine wpAny_loadPart_at hC ?_ | (refine wpAny_isSubtype_exc hC ?_;rw[c1]) | refine wpAny_staticBase_exc hC ?_ | refine wpAny_madeBy_exc hC ?_ | simp only[bne_self_eq_false,Bool.false_eq_true,if_false] | wp_step)
 exact hq
theorem YC{rest:List Value}{fI:Addr}{Q:Value->Shared->Prop}(T:Ord bm)(hC:h.get? C=some (excClassObj nm q C N bs bm hdct sn sub ab col dd k0 k1 k2 k3 k5 "ValueError.__new__"))
 (hi:PySem.W.Looks (model prog w) h (typeLookup (.ref C) "__init__") (some (.ref fI))) (hb:∀ self,PySem.W.Looks (model prog w) h (bindSpecial (.ref fI) self) (.ref fI,[self]))
 (hq:wpAny (model prog w) (A.under (.builtin "type.__call__" ⟨.ref C::rest,[]⟩)) (call (.ref fI) (.ref (h.objs.size+1)::rest)) (fun r s'=>r= .none/\Q (.ref (h.objs.size+1)) s') E
   ⟨(h.push { cls:=.type "tuple",data:=.seq rest.toArray }).push (fu C h.objs.size none),g,d,t,os⟩) (hrest:rest.length<=sizeLine:=by size_fits):
 wpAny (model prog w) A (call (.ref C) rest) Q E ⟨h,g,d,t,os⟩:=by
 have f1:=tc_lookup;have f2:=tc_bind (.ref C);have hT:(⟨h,g,d,t,os⟩:Shared).TypeIs (.ref C) "type":=⟨_,hC,rfl⟩;refine wpAny_call (codeAny_of_tree ?_);show wpAny _ _ (callAny (.ref C) _) _ _ _
 repeat (any_goals (first | assumption | with_reducible refine wpAny_loadPart_at hC ?_ | wp_step))
 refine⟨rfl,?_⟩;refine codeAny_call_builtin_at (Code.quiet_builtin _ (by decide +kernel)) entry_typeCall (wpAny_check_type_call_sub hC ?_)
 repeat (first | with_reducible refine wpAny_loadPart_at hC ?_ | with_reducible refine wpAny_madeBy_exc hC ?_ | wp_step)
 refine codeAny_call_builtin_code (Code.quiet_builtin _ VF.quiet) (We T hC ?_);refine abC T hC ?_ hrest;show wpAny _ _ _ _ _ _;have k:∀ b o,h.get? b=some o->((h.push { cls:=.type "tuple",data:=.seq rest.toArray }).push (fu C h.objs.size none)).get? b=some o:=fun b o e=>Heap.get?_push_of_some _ (Heap.get?_push_of_some _ e);have hC1:=k _ _ hC;have hget:((h.push { cls:=.type "tuple",data:=.seq rest.toArray }).push (fu C h.objs.size none)).get? (h.objs.size+1)=some (fu C h.objs.size none):=by heap_get
 have hcC:(Value.ref C::bm).contains (.ref C)=true:=by simp
 unfold isInstance
 repeat (first | with_reducible refine wpAny_loadPart_at hget ?_ | wp_step)
 show wpAny _ _ (isSubtype (.ref C) (.ref C)) _ _ _;refine wpAny_isSubtype_exc hC1 ?_;rw[hcC]
 repeat (first | with_reducible refine wpAny_loadPart_at hget ?_ | wp_step)
 show wpAny _ _ (typeLookup (.ref C) _) _ _ _;refine(hi.keeps k).here ?_;refine wpAny_holding (wpAny_bind (((hb _).keeps k).here ?_));refine wpAny_bind (wpAny_mono hq (fun r s' hr=>?_) fun _ _ x=>x);obtain⟨rfl,hQ⟩:=hr
 wp_walk
 exact hQ
end
end L2
namespace L2
open PySem PySem.Spec PySem.SeqAt PyProof.Rows
open PySem.Builtin.ObjectAttr
abbrev bmV:List Value:=[.type "ValueError",.type "Exception",.type "BaseException",.type "object"]
theorem Od(self:Value):refuseLoop self "__setattr__" bmV=pure ():=by
 kernel_rfl
theorem zX(self:Value):∀ as:List Addr,refuseLoop self "__setattr__" (as.map Value.ref++bmV)=pure ()
 | []=>Od self
 | c::r=>by rw[List.map_cons,List.cons_append,refuseLoop_ref];exact zX self r
theorem Lz:∀ as:List Addr,(as.map Value.ref++bmV).contains (.type "object")=true
 | []=>by decide
 | c::r=>by rw[List.map_cons,List.cons_append,List.contains_cons,Lz r,Bool.or_true]
section
variable{prog:Program}{w:World}{A:Around}{E:Value->Shared->Prop}{s:Shared}{K:ak}{C e t:Addr}{v:Value}{name:Str}{cd:ClassData}{as:List Addr}
theorem YD{Q:Unit->Shared->Prop}(X:K.In s.heap)(hx:s.heap.get? e=some (fu C t none))(hc:PySem.W.clsIn K C=some cd)(hm:cd.mro=as.map Value.ref++bmV)(hd:cd.hasDict=true)
 (hs:PySem.W.findIn K (.ref C) "__setattr__" =some (some (.builtin "object.__setattr__"))) (ht:PySem.W.findIn K (.ref C) name=some none)
 (h:∀ h' dx,s.heap.get? dx=none->h'.Ns1 dx (fun y=>if y=name then some v else none)->h'.get? e=some (fu C t (some dx))->(∀ b o,b ≠ e->s.heap.get? b=some o->h'.get? b=some o)->Q () { s with heap:=h',toks:=s.toks+2 }):
 wpAny (model prog w) A (setAttr (.ref e) name v) Q E s:=by
 have SF:=PySem.F.store_object;have J:PySem.W.InstAt s.heap e (fu C t none) C none:=⟨hx,rfl,rfl,trivial⟩;have J1:PySem.W.InstAt ({ s with toks:=s.toks+1 }:Shared).heap e (fu C t none) C none:=J;have ne:cd.mro.isEmpty=false:=by rw[hm];cases as <;> rfl
 have sub:PySem.W.Looks (model prog w) s.heap (isInstance (.ref e) (.type "object")) true:=J.type.andThen (PySem.W.looks_mroIn X (by unfold PySem.W.mroIn;rw[hc,Option.bind_some,if_neg (by rw[ne];decide),hm,Lz as]));refine PySem.W.set_plain X J hs ?_;refine codeAny_call_builtin SF.slot.plain SF.entry (@PySem.W.check_slot (model prog w) _ _ { s with toks:=s.toks+1 } "object.__setattr__" "object" "__setattr__" (.ref e) [.str name s.toks,v] [] _ SF.kind SF.split sub (SF.args (.ref e) (.str name s.toks) v) ?_);have hmro:PySem.W.Looks (model prog w) s.heap (mroOf (.ref C)) cd.mro:=(PySem.W.looks_clsIn X hc).andThen .now;rw[PySem.W.osa_eq,refuse_eq];refine wpAny_bind (wpAny_bind (J1.type.here (wpAny_bind (PySem.W.Looks.here (s:={ s with toks:=s.toks+1 }) hmro ?_))));rw[hm,zX];refine wpAny_pure (wpAny_bind (J1.type.here (wpAny_bind (PySem.W.Looks.here (s:={ s with toks:=s.toks+1 }) (PySem.W.looks_findIn X ht) (wpAny_bind (wpAny_pure ?_))))));show wpAny _ _ (storeInOwnDict (.ref e) (.ref C) (.str name s.toks) name v false) _ _ _;refine wpAny_bind (wpAny_pure (wpAny_bind ?_));show wpAny _ _ (instanceDict e true) _ _ _;unfold instanceDict;refine wpAny_bind (wpAny_loadPart (s:={ s with toks:=s.toks+1 }) hx (wpAny_bind (PySem.W.Looks.here (s:={ s with toks:=s.toks+1 }) (PySem.W.looks_clsIn X hc) ?_)));rw[hd];show wpAny _ _ (alloc { cls:=.type "dict",data:=.dict #[] } >>= fun d=>update e (fun o=>{ o with dict:=some d }) >>= fun _=>dictMade (.ref C) e d) _ _ _;refine wpAny_bind (wpAny_alloc (wpAny_bind (wpAny_update (o:=fu C t none) (Heap.get?_push_of_some _ hx) (wpAny_pure ?_))));have hlt:e<s.heap.objs.size:=Heap.lt_size hx;have hE:((s.heap.push PySem.W.emptyDict).update e (fun o=>{ o with dict:=some s.heap.objs.size })).get? e=some (fu C t (some s.heap.objs.size)):=Heap.get?_update_self _ (Heap.get?_push_of_some _ hx) rfl;have hD:((s.heap.push PySem.W.emptyDict).update e (fun o=>{ o with dict:=some s.heap.objs.size })).get? s.heap.objs.size=some PySem.W.emptyDict:=(Heap.get?_update_other _ _ (Nat.ne_of_lt hlt)).trans (Heap.get?_push_size _ rfl)
 have hn:((s.heap.push PySem.W.emptyDict).update e (fun o=>{ o with dict:=some s.heap.objs.size })).Ns1 s.heap.objs.size (fun _=>none):=
  Heap.Ns1.of_empty ⟨PySem.W.emptyDict,#[],_,hD,rfl,(fun e he=>absurd he (by simp)),fun _=>rfl⟩
 show wpAny _ _ (storeInDict s.heap.objs.size (.str name s.toks) name v) _ _ _;refine wpAny_bind (wpAny_pure (wpAny_bind ?_));refine wpAny_nsSet1 (s:={ s with heap:=(s.heap.push PySem.W.emptyDict).update e (fun o=>{ o with dict:=some s.heap.objs.size }),toks:=s.toks+1 }) hn fun h' hn2 hs2=>?_;obtain⟨oD,esD,epD,hoD,hdD,hcD⟩:=hn2.count (PySem.Within.cons name v (ns:=[]) (fun _ z=>absurd rfl z));refine wpAny_bind (wpAny_lookBehind hoD (by rw[hdD];exact pastItsLine_dict (Nat.le_trans hcD (by show 1<=sizeLine+1;exact Nat.le_add_left 1 _))) ?_);refine wpAny_pure (h h' s.heap.objs.size (Heap.get?_none_of_le (aH _)) hn2 ((hs2.2 _ (Nat.ne_of_lt hlt)).trans hE) fun b o hb q=>?_);refine(hs2.2 b (Nat.ne_of_lt (Heap.lt_size q))).trans ((Heap.get?_update_other _ _ (Ne.symm hb)).trans (Heap.get?_push_of_some _ q))
end
section
variable{prog:Program}{w:World}{A:Around}{E:Value->Shared->Prop}{h:Heap}{g:Array GenState}{d:PySem.Drawn}{t:Nat}{os:OsState}
variable{nm q:Str}{C N e ta:Addr}{bs bm:List Value}{hdct:Bool}{sn:List Str}{sub:List Value}{ab:Bool}{col:Option Bool}{dd od:Option Addr}{k0 k1 k2 k3 k5:Option Value}
theorem init_exc{rest:List Value}{Q:Value->Shared->Prop}(T:Ord bm)(hC:h.get? C=some (excClassObj nm q C N bs bm hdct sn sub ab col dd k0 k1 k2 k3 k5 "ValueError.__new__"))(he:h.get? e=some (fu C ta od))
 (hq:∀ h',h'.get? e=some (fu C h.objs.size od)->(∀ b o,b ≠ e->h.get? b=some o->h'.get? b=some o)->Q .none ⟨h',g,d,t,os⟩) (hrest:rest.length<=sizeLine:=by size_fits):
 wpAny (model prog w) A (call (.builtin "ValueError.__init__") (.ref e::rest)) Q E ⟨h,g,d,t,os⟩:=by
 have c1:=T.cv C;have hstar:=VF.noStar;refine wpAny_call (codeAny_call_builtin VF.init.plain VF.initEntry ?_);simp only[checkBuiltinCall,VF.initKind,VF.initSplit,VF.initRow];have hcls:(fu C ta od).cls= .ref C:=rfl
 repeat (first | (with_reducible refine wpAny_loadPart_at he ?_;rw[hcls]) | with_reducible refine wpAny_loadPart_at hC ?_ | (with_reducible refine wpAny_isSubtype_exc hC ?_;rw[c1]) | wp_step)
 refine wpAny_onRaise ?_
 rw[show ∀(a b:String) (n:Nat),Bind.check ⟨.positional,"*","ValueError",.self,[⟨"args",.varPos,false⟩]⟩ a b n (List.map (fun x=>x.fst) ({ pos:=Value.ref e::rest }:Args).kw)=pure () from
  fun a b n=>check_star_args _ _ _ _ _ _]
 refine wpAny_pure ?_;have hlt:=Heap.lt_size he
 wp_walk
 refine hq _ (Heap.get?_update_self _ (Heap.get?_push_of_some _ he) rfl) fun b o hb z=>?_;exact(Heap.get?_update_other _ _ (Ne.symm hb)).trans (Heap.get?_push_of_some _ z)
end
end L2
namespace L2
open PySem PySem.Spec PySem.SeqAt PyProof.Rows
section
variable{prog:Program}{w:World}{A:Around}{E:Value->Shared->Prop}{h:Heap}{g:Array GenState}{d:PySem.Drawn}{t:Nat}{os:OsState}
variable{nm q:Str}{C N e dx:Addr}{bs bm:List Value}{hdct:Bool}{sn:List Str}{sub:List Value}{ab:Bool}{col:Option Bool}{dd:Option Addr}{k0 k1 k2 k3 k5:Option Value}{K:ak}{cd:ClassData}
theorem YF{name:Str}{v:Value}{oe:Obj}{mA:Str->Option Value}{expr:Bool}{Q:Value->Shared->Prop}(X:K.In h)(T:Ord bm)(hC:h.get? C=some (excClassObj nm q C N bs bm hdct sn sub ab col dd k0 k1 k2 k3 k5 "ValueError.__new__"))
 (g1:PySem.W.findIn K (.ref C) "__getattribute__" =some (some (.builtin "BaseException.__getattribute__"))) (g2:PySem.W.findIn K (.ref C) "__getattr__" =some none) (g3:PySem.W.findIn K (.ref C) name=some none)
 (hcls:PySem.W.clsIn K C=some cd) (hcd:cd.hasDict=true) {vs:Array Value} (hx:h.get? e=some oe) (hc:oe.cls= .ref C) (hfd:oe.data= .fields vs) (hdi:oe.dict=some dx) (hn:h.Ns1 dx mA) (hv:mA name=some v) (hh:PySem.W.handedIn v=true)
 (hq:Q v ⟨h,g,d,t+1,os⟩):wpAny (model prog w) A (getAttr (.ref e) name expr) Q E ⟨h,g,d,t,os⟩:=by
 have FB:=PySem.F.attrBase_ValueError;have f3:=FB.ga.bind (.ref e);have L1:=PySem.W.looks_findIn (M:=model prog w) X g1;have L2:=PySem.W.looks_findIn (M:=model prog w) X g2;have L3:=PySem.W.looks_findIn (M:=model prog w) X g3;have hx0:(expr&&onTheHeap (Value.builtin "BaseException.__getattribute__"))=false:=by cases expr <;> rfl
 have hx2:(Value.builtin "BaseException.__getattribute__" == Value.builtin "object.__getattribute__")=false:=by decide +kernel
 have hx1:(onTheHeap (Value.ref C)&&Value.builtin "BaseException.__getattribute__" == Value.builtin "object.__getattribute__")=false:=by rw[hx2];rfl
 have cb:=T.cb C;unfold getAttr
 repeat (any_goals (first | assumption | (with_reducible refine wpAny_loadPart_at hx ?_;rw[hc]) | with_reducible refine PySem.W.Looks.here L1 ?_ | with_reducible refine PySem.W.Looks.here L2 ?_ | wp_step))
 refine codeAny_call_builtin FB.ga.plain PySem.F.entry_bexc_ga ?_;have hk:builtinKind "BaseException.__getattribute__" =some .slot:=by decide +kernel
 have hsplit:splitId "BaseException.__getattribute__" =some ("BaseException","__getattribute__"):=by decide +kernel
 have ha:=PySem.F.args_bexc_ga (.ref e) (.str name t);simp only[checkBuiltinCall,hk,hsplit];refine wpAny_bind ?_;unfold isInstance
 repeat (first | (with_reducible refine wpAny_loadPart_at hx ?_;rw[hc]) | (with_reducible refine wpAny_isSubtype_exc hC ?_;rw[cb]) | wp_step)
 repeat (any_goals (first | assumption | (with_reducible refine wpAny_loadPart_at hx ?_;rw[hc]) | with_reducible refine PySem.W.Looks.here L3 ?_ | wp_step))
 rw[hfd];show wpAny _ _ (instanceDict e false) _ _ _;unfold instanceDict;refine wpAny_bind (wpAny_loadPart_at hx ?_);rw[hc,hdi];refine wpAny_bind (PySem.W.Looks.here (PySem.W.looks_clsIn X hcls) ?_);rw[hcd];refine wpAny_pure ?_;show wpAny _ _ (Builtin.ObjectAttr.inDict name (some dx)) _ _ _;unfold Builtin.ObjectAttr.inDict;refine wpAny_nsGet hn.ns ?_;rw[hv];refine wpAny_bind (wpAny_rule (wpAny_pure (wpAny_pure ?_)));show wpAny _ _ (handedOut v) _ _ _;rw[PySem.W.handedOut_of hh];exact wpAny_pure hq
end
structure Sup (H':Hp)(h0 g h:Heap):Prop where
 sub:∀ b o,g.get? b=some o->h.get? b=some o
 old:∀ b o,h.get? b=some o->((∃ o0,h0.get? b=some o0)\/∃ u,H' b=some u)->g.get? b=some o
def CXE(P:Program)(w:World):CXT:=fun outer H s E ev s'=>∃(e:Addr) (C:Value) (d:Option Addr) (a0:Value) (H':Hp) (g:Heap),ev= .ref e/\s'.os=s.os/\AllBare s'.gens/\
 Un (frs outer) [] H H' s.heap s'.heap/\HOk P w H' s'.heap/\Fly g .none e C d a0 s'.heap/\Sup H' s.heap g s'.heap/\E C d H'
theorem uI{P:Program}{w:World}{outer:List Env}{H:Hp}{s s':Shared}{e:Value}:¬ CXE P w outer H s (fun _ _ _=>False) e s':=fun⟨_,_,_,_,_,_,_,_,_,_,_,_,_,h⟩=>h
theorem bA.get{P:Program}{w:World}{H:Hp}{h:Heap}{a:Addr}{o:HO}(x:bA P w H h a o):∃ ob,h.get? a=some ob:=by
 cases o with
 | lst xs=>obtain⟨_,_,_,_,e⟩:=x;exact⟨_,e⟩
 | tup xs=>obtain⟨_,_,_,ob,e,_⟩:=x;exact⟨_,e⟩
 | dK kvs=>obtain⟨_,_,_,_,o,_,_,e,_⟩:=x;exact⟨_,e⟩
 | dT kvs=>obtain⟨_,_,_,_,o,_,_,e,_⟩:=x;exact⟨_,e⟩
 | set S n=>obtain⟨o,_,_,_,e,_⟩:=x;exact⟨_,e⟩
 | ins C dx fs=>obtain⟨_,_,_,e,_⟩:=x;exact⟨_,e⟩
 | own y=>obtain⟨_,e⟩:=x;exact⟨_,e⟩
 | xd fs=>obtain⟨_,⟨_,_,_,e,_⟩,_⟩:=x;exact⟨_,e⟩
 | rng lo hi=>obtain⟨_,_,_,e⟩:=x;exact⟨_,e⟩
 | frz ob u=>obtain⟨e,_⟩:=x;exact⟨_,e⟩
 | tbl ps=>exact⟨_,(show h.get? a=some _ from x)⟩
 | met f y=>exact⟨_,(show h.get? a=some _ from x)⟩
 | ext φ=>obtain⟨_,⟨_,e⟩,_⟩:=x;exact⟨_,e⟩
def only(g h:Heap):Heap:=PySem.W.hideAll h ((List.range h.objs.size).filter fun b=>(g.get? b).isNone)
theorem Ex{g h:Heap}{b:Addr}(hb:g.get? b=none):(only g h).get? b=none:=by
 cases q:(only g h).get? b with
 | none=>rfl
 | some o=>
   have e:h.get? b=some o:=PySem.W.of_hideAll _ q;have hm:b ∈ (List.range h.objs.size).filter fun b=>(g.get? b).isNone:=List.mem_filter.mpr ⟨List.mem_range.mpr (Heap.lt_size e),by rw[hb];rfl⟩;have q2:(only g h).get? b=none:=PySem.W.hideAll_none _ hm;rw[q]at q2;cases q2
theorem Wf{g h:Heap}{b:Addr}{o o':Obj}(e:h.get? b=some o)(hb:g.get? b=some o'):(only g h).get? b=some o:=by
 refine PySem.W.hideAll_get _ e fun hm=>?_;have:=(List.mem_filter.mp hm).2;rw[hb]at this;cases this
theorem YG{g h:Heap}{b:Addr}{o:Obj}(e:(only g h).get? b=some o):h.get? b=some o:=PySem.W.of_hideAll _ e
theorem Fly.only{g h:Heap}{fl:Value}{e:Addr}{C:Value}{d:Option Addr}{a0:Value}(F:Fly g fl e C d a0 h):Fly (only g h) fl e C d a0 h:=by
 obtain⟨hg,oe,vs,T,oT,ts,h1,h2,h3,h4,h5,h6,h7,h8,r⟩:=F;exact⟨Ex hg,oe,vs,T,oT,ts,h1,h2,h3,h4,h5,h6,h7,Ex h8,r⟩
theorem uJ{env:Env}{outer:List Env}{L:Addr}(h:env.frame=some L):frs (env::outer)=L::frs outer:=by
 unfold frs;rw[List.filterMap_cons,h]
structure Own (X:Cx):Prop where
 ex:X.ex= []
 st:X.stack=X.env::X.outer
 fr:X.env.frame=some X.env.locals
section
variable{X:Cx}{pins:List (Addr × Obj)}{σ:St}{H H':Hp}{s s':Shared}{E:XK}{e:Addr}{C:Value}{d:Option Addr}{a0:Value}{g h':Heap}
theorem Own.frs(O:Own X):L2.frs X.stack=X.env.locals::X.fs:=by rw[O.st,uJ O.fr]
theorem Inv.Ru(I:Inv X pins σ H s)(O:Own X){b:Addr}{o:Obj}(q:X.s₀.heap.get? b=some o):∃ o',s.heap.get? b=some o':=I.base.there b o q (by rw[O.ex];simp)
theorem Rv{fs:List Addr}{base h h':Heap}{l:List Env}(u:Un fs [] H H' h h')(hs:∀ b ∈ L2.frs l,b ∈ fs)(hf:∀ b ∈ L2.frs l,H b=none)(hl:h.FunFrames base l):h'.FunFrames base l:=by
 induction l with
 | nil=>trivial
 | cons env rest ih=>
   obtain⟨hk,⟨L,o,hfr,hn,ho,hd⟩,hr⟩:=hl;have hm:L ∈ L2.frs (env::rest):=by rw[uJ hfr];exact List.mem_cons_self
   obtain⟨sl,e⟩:=u.slot L o ho (hf L hm) (hs L hm) (by simp);exact⟨hk,⟨L,_,hfr,hn,e,hd⟩,ih (fun b hb=>hs b (by rw[uJ hfr];exact List.mem_cons_of_mem _ hb)) (fun b hb=>hf b (by rw[uJ hfr];exact List.mem_cons_of_mem _ hb)) hr⟩
theorem Rw(O:Own X)(I:Inv X pins σ H s)(hos:s'.os=s.os)(hb:AllBare s'.gens)(u:Un (L2.frs X.stack) [] H H' s.heap s'.heap)(ok:HOk X.prog X.w H' s'.heap)
 (sup:Sup H' X.s₀.heap g s'.heap) (k:Kp (L2.frs X.stack) g h') (F:Fly g .none e C d a0 h') (hE:E C d H'):CXE X.prog X.w X.outer X.H₀ X.s₀ E (.ref e) { s' with heap:=h' }:=by
 have b0:Un X.fs [] X.H₀ H X.s₀.heap s.heap:=by have:=I.base;rw[O.ex]at this;exact this
 have fr:=O.frs;rw[fr]at u k;have u0:Un (X.env.locals::X.fs) [] X.H₀ H' X.s₀.heap s'.heap:=(b0.mono (fun b hb=>List.mem_cons_of_mem _ hb) fun _ h=>h).trans u;have hL:X.s₀.heap.get? X.env.locals=none:=Heap.get?_none_of_le I.ok.above;have neL:∀ {b o},X.s₀.heap.get? b=some o->b ≠ X.env.locals:=fun q z=>by rw[z,hL]at q;cases q
 have nof:∀ b u',H' b=some u'->b ∉ X.env.locals::X.fs:=fun b u' q hm=>by
  have hm':b ∈ L2.frs X.stack:=by rw[fr];exact hm
  obtain⟨_,o,ho,_⟩:=I.stack.mem hm';rw[u.free b o ho (I.oH b hm') (by simp)]at q;cases q
 refine⟨e,C,d,a0,H',L2.only g h',rfl,hos.trans I.os,hb,⟨fun b o q n hf _=>?_,fun b o q n hf _=>?_,u0.free,fun b o q _=>?_,u0.tups,u0.jQ,u0.jR⟩,fun a o ea=>?_,F.only,⟨fun b o q=>YG q,fun b o q hc=>?_⟩,hE⟩
 · have hn:b ∉ X.env.locals::X.fs:=fun z=>(List.mem_cons.mp z).elim (neL q) hf;exact(k b o (sup.old b o (u0.keep b o q n hn (by simp)) (.inl ⟨o,q⟩))).1 hn
 · obtain⟨sl,q1⟩:=u0.slot b o q n (List.mem_cons_of_mem _ hf) (by simp);obtain⟨sl2,q2⟩:=(k b _ (sup.old b _ q1 (.inl ⟨o,q⟩))).2 (List.mem_cons_of_mem _ hf);exact⟨sl2,q2⟩
 · obtain⟨o',q1⟩:=u0.there b o q (by simp);have q2:=sup.old b _ q1 (.inl ⟨o,q⟩)
   by_cases hm:b ∈ X.env.locals::X.fs
   · obtain⟨sl,q3⟩:=(k b _ q2).2 hm;exact⟨_,q3⟩
   · exact⟨_,(k b _ q2).1 hm⟩
 · refine(ok a o ea).stay (fun b v hbv q=>?_) (fun _ q=>q) fun _ _ q=>q
   have tr:∃ u',H' b=some u':=by
    rcases hbv with z | z
    · exact⟨o,by rw[z];exact ea⟩
    · exact⟨_,z⟩
   obtain⟨u',z⟩:=tr;exact(k b v (sup.old b v q (.inr ⟨u',z⟩))).1 (nof b u' z)
 · have:∃ o',g.get? b=some o':=by
    rcases hc with ⟨o0,q0⟩ | ⟨u',z⟩
    · obtain⟨o',q1⟩:=u0.there b o0 q0 (by simp);exact⟨_,sup.old b _ q1 (.inl ⟨o0,q0⟩)⟩
    · obtain⟨o',q1⟩:=(ok b u' z).get;exact⟨_,sup.old b _ q1 (.inr ⟨u',z⟩)⟩
   obtain⟨o',q2⟩:=this;exact Wf q q2
def yM(X:Cx)(E:XK):Value->Shared->Prop:=fun e s'=>wpAny (model X.prog X.w) X.A (leaving X.env e) (fun _ s''=>CXE X.prog X.w X.outer X.H₀ X.s₀ E e s'') (fun e' s''=>CXE X.prog X.w X.outer X.H₀ X.s₀ E e' s'') s'
theorem qT{E':XK}(O:Own X)(hx:X.xe=yM X E)(hE:∀ C d H,E' C d H->E C d H):Passes (CXE X.prog X.w) X E':=by
 intro pins σ H s ev s' I h;obtain⟨e,C,d,a0,H',g,rfl,hos,hb,u,ok,F,sup,q⟩:=h;rw[hx];unfold yM;have hfr:X.A.frames=some (X.env::X.outer):=by rw[I.ok.frames,O.st]
 have hl:s'.heap.FunFrames X.base (X.env::X.outer):=by
  have:=Rv u (fun _ h=>h) I.oH I.stack;rw[O.st]at this;exact this
 refine Oc hfr hl O.fr F (Kp.of_keeps sup.sub) fun h' k F'=>?_;rw[<- O.st]at k;refine Rw O I hos hb u ok ⟨sup.sub,fun b o q hc=>sup.old b o q ?_⟩ k F' (hE _ _ _ q)
 rcases hc with ⟨o0,q0⟩ | z
 · exact .inl (I.Ru O q0)
 · exact .inr z
theorem YH{oe:Obj}{vs:Array Value}(O:Own X)(hx:X.xe=yM X E)(I:Inv X pins σ H s)(he:s.heap.get? e=some oe)(hd:oe.data= .fields vs)(h0:vs[0]? =some a0)(h1:vs[1]? =some .none)(hn:X.s₀.heap.get? e=none)
 (hm:Mut (H e)) (hE:E oe.cls oe.dict (fun b=>if b=e then none else H b)):X.xe (.ref e) s:=by
 rw[hx];unfold yM;have hfr:X.A.frames=some (X.env::X.outer):=by rw[I.ok.frames,O.st]
 have hl:s.heap.FunFrames X.base (X.env::X.outer):=by have:=I.stack;rw[O.st]at this;exact this
 have ne:∀ {b u},(fun b=>if b=e then none else H b) b=some u->b ≠ e/\H b=some u:=fun {b u} q=>by
  have q':(if b=e then none else H b)=some u:=q
  by_cases z:b=e
  · rw[if_pos z]at q';cases q'
  · rw[if_neg z]at q';exact⟨z,q'⟩
 have eo:∀ {b:Addr},b ≠ e->(fun b=>if b=e then none else H b) b=H b:=fun z=>if_neg z;have abD:∀ b xs,H b=some (.tup xs)->b ≠ e:=fun b xs q z=>by rw[<- z,q]at hm;exact hm
 have aeQ:∀ b a,H b=some (.own a)->b ≠ e:=fun b a q z=>by rw[<- z,q]at hm;exact hm
 have aeR:∀ b o u,H b=some (.frz o u)->b ≠ e:=fun b o u q z=>by rw[<- z,q]at hm;exact hm
 have aeS:∀ b ps,H b=some (.tbl ps)->b ≠ e:=fun b ps q z=>by rw[<- z,q]at hm;exact hm
 refine KQ (g:=PySem.W.hideAll s.heap [e]) hfr hl O.fr he hd h0 h1 (PySem.W.hideAll_none _ List.mem_cons_self) (Kp.of_keeps fun b o q=>PySem.W.of_hideAll _ q) fun h' k F=>?_;rw[<- O.st]at k;refine Rw (H':=fun b=>if b=e then none else H b) O I rfl I.bare ⟨fun _ _ q _ _ _=>q,fun b o q _ _ _=>⟨o.slots,q⟩,fun b o _ n _=>?_,fun b o q _=>⟨o,q⟩,fun b xs q=>(eo (abD b xs q)).trans q,fun b o u q=>(eo (aeR b o u q)).trans q,fun b ps q=>⟨#[],by rw[Array.append_empty];exact(eo (aeS b ps q)).trans q⟩⟩ ?_ ⟨fun b o q=>PySem.W.of_hideAll _ q,fun b o q hc=>?_⟩ k F hE
 · by_cases z:b=e
   · exact if_pos z
   · exact(if_neg z).trans n
 · intro a o ea;obtain⟨z,q⟩:=ne ea;exact(I.hok a o q).stay (fun _ _ _ q=>q) (fun b q=>(eo (aeQ b a q)).trans q) fun b xs q=>(eo (abD b xs q)).trans q
 · refine PySem.W.hideAll_get _ q fun z=>?_;have z':b=e:=by simpa using z
   rcases hc with ⟨o0,q0⟩ | ⟨u',q0⟩
   · rw[z',hn]at q0;cases q0
   · exact(ne q0).1 z'
end
def XO(e C:Addr)(d:Option Addr):HO:=.ext fun h=>∃ t,h.get? e=some (fu C t d)
theorem Oe{P:Program}{w:World}{H:Hp}{h:Heap}{e C t:Addr}{d:Option Addr}(q:h.get? e=some (fu C t d)):bA P w H h e (XO e C d):=
 ⟨⟨t,q⟩,⟨_,q⟩,fun h1 h2 ⟨t',q'⟩ k=>⟨t',k _ q'⟩⟩
theorem Og{P:Program}{w:World}{H:Hp}{h:Heap}{e C:Addr}{d:Option Addr}(ok:HOk P w H h)(q:H e=some (XO e C d)):∃ t,h.get? e=some (fu C t d):=(ok e _ q).1
theorem Wg{H:Hp}{a:Addr}{o:HO}(h:H a=some o):upd H a o=H:=by
 funext b;unfold upd;split
 · rename_i e;rw[e,h]
 · rfl
theorem qH:∀ as:List Addr,Ord (as.map Value.ref++bmV)
 | []=>⟨by decide,by decide,by decide,by decide⟩
 | c::r=>by
   obtain⟨a,b,c',d⟩:=qH r;exact⟨by rw[List.map_cons,List.cons_append,List.contains_cons,a,Bool.or_true],by rw[List.map_cons,List.cons_append,List.contains_cons,b,Bool.or_true],by rw[List.map_cons,List.cons_append,List.contains_cons,c'];rfl,by rw[List.map_cons,List.cons_append,List.contains_cons,d];rfl⟩
structure iD (K:ak)(C:Addr):Prop where
 obj:∃(nm q:Str) (N:Addr) (bs:List Value) (as:List Addr) (sn:List Str) (sub:List Value) (ab:Bool) (col:Option Bool) (dd:Option Addr) (k0 k1 k2 k3 k5:Option Value),
  K.lookup C=some (excClassObj nm q C N bs (as.map Value.ref++bmV) true sn sub ab col dd k0 k1 k2 k3 k5 "ValueError.__new__")
 aeT:PySem.W.findIn K (.ref C) "__setattr__" =some (some (.builtin "object.__setattr__"))
 aeU:PySem.W.findIn K (.ref C) "__getattribute__" =some (some (.builtin "BaseException.__getattribute__"))
 aeV:PySem.W.findIn K (.ref C) "__getattr__" =some none
theorem iD.cls{K:ak}{C:Addr}(c:iD K C):∃(cd:ClassData) (as:List Addr),PySem.W.clsIn K C=some cd/\cd.mro=as.map Value.ref++bmV/\cd.hasDict=true:=by
 obtain⟨nm,q,N,bs,as,sn,sub,ab,col,dd,k0,k1,k2,k3,k5,e⟩:=c.obj;have e2:PySem.W.clsIn K C=some { name:=nm,bases:=bs,mro:=.ref C::(as.map Value.ref++bmV),ns:=N,qualname:=q,hasDict:=true,slotNames:=sn,subclasses:=sub,abstract:=ab,collection:=col,hasDel:=false }:=by unfold PySem.W.clsIn;rw[e]
 exact⟨_,C::as,e2,rfl,rfl⟩
structure XMk (K:ak)(C f:Addr):Prop where
 cls:iD K C
 init:PySem.W.findIn K (.ref C) "__init__" =some (some (.ref f))
 fn:PySem.W.typeIn K (.ref f)=some (.type "function")
 kp:PySem.W.keepIn K (.ref C)=true
section
variable{X:Cx}{pins:List (Addr × Obj)}{σ:St}{H:Hp}{s:Shared}
def ad0(K:ak)(ta tv:TE)(f:Str):TS:=fun D σ H=>tv σ H fun y H1=>ta σ H1 fun x H2=>∃ e C,x= .ref e/\H2 e=some (XO e C none)/\iD K C/\bM K C f/\
 ∀ dx,H2 dx=none->dx ≠ e->D.nx σ (upd (upd H2 dx (.xd [(f,y)])) e (XO e C (some dx)))
theorem YJ{e C:Addr}{f:Str}{y:V}{u:Value}{Q:Unit->Shared->Prop}(I:Inv X pins σ H s)(he:H e=some (XO e C none))(c:iD X.K C)(n:bM X.K C f)(ry:RelV y u)
 (h:∀ dx s',H dx=none->dx ≠ e->Inv X pins σ (upd (upd H dx (.xd [(f,y)])) e (XO e C (some dx))) s'->Q () s'):wpAny (model X.prog X.w) X.A (setAttr (.ref e) f u) Q X.xe s:=by
 obtain⟨t,hx⟩:=Og I.hok he;obtain⟨cd,as,hc,hm,hd⟩:=c.cls;refine YD I.kIn hx hc hm hd c.aeT n fun h' dx hdx hn hE k=>?_
 have hdn:H dx=none:=by
  cases q:H dx with
  | none=>rfl
  | some o=>
    obtain⟨ob,z⟩:=(I.hok dx o q).get;rw[hdx]at z;cases z
 have hde:dx ≠ e:=fun z=>by rw[z,hx]at hdx;cases hdx
 have nT:∀ b xs,H b=some (.tup xs)->b ≠ e:=fun b xs q z=>by rw[z,he]at q;cases q
 have nO:∀ b a,H b=some (.own a)->b ≠ e:=fun b a q z=>by rw[z,he]at q;cases q
 have nF:∀ b o u,H b=some (.frz o u)->b ≠ e:=fun b o u q z=>by rw[z,he]at q;cases q
 have nB:∀ b ps,H b=some (.tbl ps)->b ≠ e:=fun b ps q z=>by rw[z,he]at q;cases q
 have up:∀ {b o},H b=some o->b ≠ e->upd (upd H dx (.xd [(f,y)])) e (XO e C (some dx)) b=some o:=fun q z=>by rw[aB z,aB (aV q hdn)];exact q
 refine h dx _ hdn hde (I.un (h':=h') (t':=s.toks+2) ⟨fun b o q n _ _=>k b o (fun z=>by rw[z,he]at n;cases n) q,fun b o q n _ _=>⟨o.slots,k b o (fun z=>by rw[z,he]at n;cases n) q⟩,fun b o q n _=>?_,fun b o q _=>?_,fun b xs q=>up q (nT b xs q),fun b o u q=>up q (nF b o u q),fun b ps q=>⟨#[],by rw[Array.append_empty];exact up q (nB b ps q)⟩⟩ fun a o q=>?_)
 · have h1:b ≠ e:=fun z=>by rw[z,he]at n;cases n
   have h2:b ≠ dx:=fun z=>by rw[z,hdx]at q;cases q
   rw[aB h1,aB h2];exact n
 · by_cases z:b=e
   · subst z;exact⟨_,hE⟩
   · exact⟨o,k b o z q⟩
 · by_cases z:a=e
   · subst z;rw[az]at q;cases q;exact Oe hE
   · rw[aB z]at q
     by_cases z2:a=dx
     · subst z2;rw[az]at q;cases q;refine⟨_,hn,fun g=>?_⟩;rw[List.lookup_cons]
       by_cases hg:g=f
       · subst hg;rw[beq_self_eq_true,if_pos rfl];exact ry
       · rw[if_neg hg,show(g==f)=false by simpa using hg];trivial
     · rw[aB z2]at q;refine(I.hok a o q).stay (fun b v hb q'=>k b v ?_ q') (fun b q'=>up q' (nO b a q')) fun b xs q'=>up q' (nT b xs q')
       rcases hb with z3 | z3
       · rw[z3];exact z
       · exact nO b a z3
theorem YK{o value:Expr}{f:Str}{pos pos':Pos}{ta tv:TE}(ha:PE X o ta)(hv:PE X value tv)(hs:swapsWith value (some (.Attribute o f pos')) pos.line X.env=pure false:=by rfl):
 PS X (.Assign [.Attribute o f pos'] value pos) (ad0 X.K ta tv f):=by
 intro pins s σ H D I h;refine plainObj_wpAny_Assign_Attribute (thn (hv pins s σ H _ I h) fun u s1 ⟨y,H1,I1,ry,q1⟩=>thn (ha pins s1 σ H1 _ I1 q1) fun ov s2 ⟨x,H2,I2,rx,e,C,ex,he,c,n,q2⟩=>?_) hs;subst ex;obtain rfl:ov=Value.ref e:=rx;exact YJ I2 he c n ry fun dx s' h1 h2 I3=>⟨σ,_,I3,q2 dx h1 h2⟩
def abE(K:ak)(t:TA):TE:=fun σ H Q=>t σ H fun vs H1=>∃ e C d y,vs= [.ref e,y]/\H1 e=some (XO e C d)/\iD K C/\Q .non H1
theorem Wh{e C:Addr}{d:Option Addr}{us:List Value}{Q:Value->Shared->Prop}(I:Inv X pins σ H s)(he:H e=some (XO e C d))(c:iD X.K C)(hl:us.length<=sizeLine)
 (h:∀ s',Inv X pins σ H s'->Q .none s'):wpAny (model X.prog X.w) X.A (call (.builtin "ValueError.__init__") (.ref e::us)) Q X.xe s:=by
 obtain⟨t,hx⟩:=Og I.hok he;obtain⟨nm,q,N,bs,as,sn,sub,ab,col,dd,k0,k1,k2,k3,k5,lk⟩:=c.obj;have hC:=I.kIn _ _ lk;obtain⟨hp,g,dr,tk,os⟩:=s;refine init_exc (qH as) hC hx (fun h' hE k=>?_) hl;have I2:=I.write (x:=e) (e:=e) (o:=XO e C d) (h':=h') (t':=tk) (by rw[he];trivial) (.inl rfl) (fun b u hb q=>k b u hb q) ⟨_,hE⟩ (Oe hE);rw[Wg he]at I2;exact h _ I2
theorem Wi{p apos pos:Pos}{a b:Expr}{t:TA}(hg:Gl X "ValueError")(hm:X.mg "ValueError" =none)(ha:PA X [a,b] t)
 (hst:starEach [a,b] X.env=(false,eval a X.env)::starEach [b] X.env:=by rfl) (hpl:(backTo pos (starEach [b] X.env)).any (·.1)=false:=by rfl) (hl:(2:Nat)<=sizeLine:=by decide) {pl:Sem Bool}
 (ht:eval (.Call (.Attribute (.Name "ValueError" p) "__init__" apos) [a,b] [] pos) X.env=(do
   let ov <- eval (.Name "ValueError" p) X.env
   standAt apos.atName
   let (f,first) <- holding [ov] (getMethod ov "__init__" pl)
   callWith pos f first (backTo pos (starEach [a,b] X.env)) (backToKw pos (keywordEach [] X.env))):=by rfl):
 PE X (.Call (.Attribute (.Name "ValueError" p) "__init__" apos) [a,b] [] pos) (abE X.K t):=by
 intro pins s σ H Q I h;obtain⟨m,F⟩:=I.fr;refine PySem.W.methodCall_KW (pl:=pl) (qN I hg hm rfl ?_) ht;refine PySem.W.method_type (K:=X.K) F I.mod.kin (v:=.builtin "ValueError.__init__") (by rfl) (by decide +kernel) (by rfl) (by rfl) ?_;refine PyProof.Rows.callWith_builtin1 (thn (ha pos pins _ σ H _ (I.tok _) h) fun us s2 ⟨vs,H2,I2,r,e,C,d,y,ev,he,c,q⟩=>?_) hst hpl;subst ev;obtain⟨u1,u2,rfl,r1,r2⟩:=vals2 r;obtain rfl:u1=Value.ref e:=r1;exact Wh (us:=[u2]) I2 he c (Nat.le_trans (show 1<=2 by decide) hl) fun s' I3=>⟨.non,H2,I3,rfl,q⟩
structure CI (K:ak)(S f:Addr):Prop where
 sp:PySem.W.specialIn K (.ref S) "__getattribute__" =some (some (.builtin "type.__getattribute__"))
 rd:PySem.W.readsIn K S (.type "type")=true
 fc:PySem.W.findCls K (.ref S) (.type "type") "__init__" =some (.val (.ref f))
 hd:PySem.W.handedIn (.ref f)=true
 kp:PySem.W.keepIn K (.ref f)=true
theorem oK{CX:CXT}{k:Nat}{f S:Addr}{fd:FuncData}{ps:List Str}{sp:Sp}{E:XK}{x:Str}{p apos pos:Pos}{e:Expr}{es:List Expr}{t:TA}(c:CI X.K S f)(F:aP X.prog X.w X.K X.mg X.base CX k f fd ps sp)(hr:aX k X.A)(hg:Gl X x)(hm:X.mg x=some (.ref S))(hb:Binds X.K fd ps [])(hx:Passes CX X E)
 (ha:PA X (e::es) t) (hdb:(x==("__debug__":Str))=false:=by decide)
 (hst:starEach (e::es) X.env=(false,eval e X.env)::starEach es X.env:=by rfl) (hpl:(backTo pos (starEach es X.env)).any (·.1)=false:=by rfl) {pl:Sem Bool}
 (ht:eval (.Call (.Attribute (.Name x p) "__init__" apos) (e::es) [] pos) X.env=(do
   let ov <- eval (.Name x p) X.env
   standAt apos.atName
   let (f,first) <- holding [ov] (getMethod ov "__init__" pl)
   callWith pos f first (backTo pos (starEach (e::es) X.env)) (backToKw pos (keywordEach [] X.env))):=by rfl):
 PE X (.Call (.Attribute (.Name x p) "__init__" apos) (e::es) [] pos) (zL sp [] E t):=by
 intro pins s σ H Q I h;refine PySem.W.methodCall_KW (pl:=pl) (kE I hg hm ?_ hdb) ht;refine PySem.W.method_cls I.kIn c.sp (PySem.W.cls_value I.kIn c.rd c.fc c.hd ?_);refine PySem.W.callWith_K (first:=[]) (K:=X.K) (h₀:=X.base) I.ok.mod.kin c.kp (thn (ha pos pins _ σ H _ (I.tok _) h) fun us s2 ⟨vs,H2,I2,r,q⟩=>⟨I2.kIn,?_⟩) hst hpl;exact zM F hr hb .nil hx I2 r q
theorem Rx{CX:CXT}{k:Nat}{f C:Addr}{fd:FuncData}{ps:List Str}{sp:Sp}{E:XK}{us:List Value}{vs:List V}{R:Addr->Hp->Prop}(M:XMk X.K C f)(F:aP X.prog X.w X.K X.mg X.base CX k f fd ps sp)(hr:aX (k+1) X.A)(hb:Binds X.K fd ps [])
 (hx:Passes CX X E) (I:Inv X pins σ H s) (r:Vals vs us) (hlu:us.length<=sizeLine)
 (h:∀ e,H e=none->sp (.ref e::vs) (upd H e (XO e C none)) (fun v H2=>v= .non/\R e H2) E):
 wpAny (model X.prog X.w) X.A (call (.ref C) us) (fun u s'=>∃ e H',u= .ref e/\s.heap.get? e=none/\Inv X pins σ H' s'/\R e H') X.xe s:=by
 obtain⟨nm,q,N,bs,as,sn,sub,ab,col,dd,k0,k1,k2,k3,k5,lk⟩:=M.cls.obj;have hC:=I.kIn _ _ lk;have fr:H (s.heap.objs.size+1)=none:=I.hok.fresh (Nat.le_succ _);have hq:=h (s.heap.objs.size+1) fr;have kp:∀ b o,s.heap.get? b=some o->((s.heap.push { cls:=.type "tuple",data:=.seq us.toArray }).push (fu C s.heap.objs.size none)).get? b=some o:=fun b o e=>Heap.get?_push_of_some _ (Heap.get?_push_of_some _ e);have hget:((s.heap.push { cls:=.type "tuple",data:=.seq us.toArray }).push (fu C s.heap.objs.size none)).get? (s.heap.objs.size+1)=some (fu C s.heap.objs.size none):=by heap_get
 have I2:Inv X pins σ (upd H (s.heap.objs.size+1) (XO (s.heap.objs.size+1) C none)) { s with heap:=(s.heap.push { cls:=.type "tuple",data:=.seq us.toArray }).push (fu C s.heap.objs.size none),toks:=s.toks }:=
  I.laid kp (Nat.le_succ _) (Oe hget)
 have r2:Vals (V.ref (s.heap.objs.size+1)::vs) (Value.ref (s.heap.objs.size+1)::us):=.cons rfl r
 have hl:(Value.ref (s.heap.objs.size+1)::us).length=ps.length:=by
  have e:=r2.length;rw[F.len _ _ _ _ hq]at e;exact e.symm
 have hbs:=hb { s with heap:=(s.heap.push { cls:=.type "tuple",data:=.seq us.toArray }).push (fu C s.heap.objs.size none),toks:=s.toks } (Value.ref (s.heap.objs.size+1)::us) I2.kIn (by rw[List.append_nil];exact hl);rw[List.append_nil]at hbs;refine YC (h:=s.heap) (g:=s.gens) (d:=s.drawn) (t:=s.toks) (os:=s.os) (qH as) hC (PySem.W.looks_findIn I.kIn M.init) (fun self=>PySem.W.bind_fn I.kIn self M.fn) ?_ hlu;refine wpAny_call (codeAny_mono (F.run _ X.stack _ _ ⟨Value.ref (s.heap.objs.size+1)::us,[]⟩ (Value.ref (s.heap.objs.size+1)::us) _ _ E (hr.make C us []) (I2.env0.make C us []) hbs r2 hq) fun r s' hq'=>?_)
 cases r with
 | error e=>exact hx pins σ _ _ e s' I2 hq'
 | ok fl=>
   cases fl with
   | ret u=>
     obtain⟨v,H',I3,rv,ev,q3⟩:=I2.after hq';subst ev
     exact⟨rv,_,H',rfl,Heap.get?_none_of_le (Nat.le_succ _),I3,q3⟩
   | next=>exact False.elim hq'
   | brk=>exact False.elim hq'
   | cont=>exact False.elim hq'
theorem KY{M:Model}{A:Around}{E:Value->Shared->Prop}{s:Shared}{env:Env}{C:Addr}{x:Sem Value}{Q:Flow->Shared->Prop}(hh:A.handled=none)
 (h:wpAny M A x (fun v s₁=>∃(e t N:Addr) (d:Option Addr) (nm q:Str) (bs:List Value) (as:List Addr) (sn:List Str) (sub:List Value) (ab:Bool) (col:Option Bool) (dd:Option Addr) (k0 k1 k2 k3 k5:Option Value),v= .ref e/\s₁.heap.get? C=some (excClassObj nm q C N bs (as.map Value.ref++bmV) true sn sub ab col dd k0 k1 k2 k3 k5 "ValueError.__new__")/\
   s₁.heap.get? e=some (fu C t d)/\E (.ref e) s₁) E s):
 wpAny M A (raiseStmt env (some x) none) Q E s:=by
 unfold raiseStmt;refine wpAny_bind (wpAny_mono h (fun v s₁ h₁=>?_) fun _ _ x=>x);obtain⟨e,t,N,d,nm,q,bs,as,sn,sub,ab,col,dd,k0,k1,k2,k3,k5,rfl,hC,he,hE⟩:=h₁;have hcB:=(qH as).cb C;obtain⟨hp,g,dr,tk,os⟩:=s₁
 repeat (first | with_reducible refine wpAny_loadPart_at he ?_ | with_reducible refine wpAny_loadPart_at hC ?_ | (with_reducible refine wpAny_isSubtype_exc hC ?_;rw[hcB]) | wp_step)
 exact wpAny_raiseNew_none hh hE
def Ry(C:Addr)(sp:Sp)(E:XK)(t:TA):TS:=fun D σ H=>t σ H fun vs H1=>vs.length<=sizeLine/\∀ e,H1 e=none->sp (.ref e::vs) (upd H1 e (XO e C none)) (fun v H2=>v= .non/\∃ d,H2 e=some (XO e C d)/\E (.ref C) d (fun b=>if b=e then none else H2 b)) E0
theorem Wj{k:Nat}{f C:Addr}{fd:FuncData}{ps:List Str}{sp:Sp}{E:XK}{us:List Value}{vs:List V}(O:Own X)(hxe:X.xe=yM X E)(M:XMk X.K C f)(F:aP X.prog X.w X.K X.mg X.base CX0 k f fd ps sp)(hr:aX (k+1) X.A)(hb:Binds X.K fd ps [])
 (I:Inv X pins σ H s) (r:Vals vs us) (hlu:vs.length<=sizeLine)
 (h:∀ e,H e=none->sp (.ref e::vs) (upd H e (XO e C none)) (fun v H2=>v= .non/\∃ d,H2 e=some (XO e C d)/\E (.ref C) d (fun b=>if b=e then none else H2 b)) E0):
 wpAny (model X.prog X.w) X.A (call (.ref C) us) (fun v s₁=>∃(e t N:Addr) (d:Option Addr) (nm q:Str) (bs:List Value) (as:List Addr) (sn:List Str) (sub:List Value) (ab:Bool) (col:Option Bool) (dd:Option Addr) (k0 k1 k2 k3 k5:Option Value),v= .ref e/\s₁.heap.get? C=some (excClassObj nm q C N bs (as.map Value.ref++bmV) true sn sub ab col dd k0 k1 k2 k3 k5 "ValueError.__new__")/\
  s₁.heap.get? e=some (fu C t d)/\X.xe (.ref e) s₁) X.xe s:=by
 refine thn (Rx M F hr hb ql I r (by rw[<- r.length];exact hlu) h) fun u s' ⟨e,H',hu,hn,I',d,he,q⟩=>?_;obtain⟨nm,qn,N,bs,as,sn,sub,ab,col,dd,k0,k1,k2,k3,k5,lk⟩:=M.cls.obj;obtain⟨t,hx⟩:=Og I'.hok he;refine⟨e,t,N,d,nm,qn,bs,as,sn,sub,ab,col,dd,k0,k1,k2,k3,k5,hu,I'.kIn _ _ lk,hx,?_⟩;refine YH (a0:=.ref t) O hxe I' hx rfl rfl rfl ?_ (by rw[he];trivial) q
 cases z:X.s₀.heap.get? e with
 | none=>rfl
 | some o=>
   obtain⟨o',z'⟩:=I.Ru O z;rw[hn]at z';cases z'
theorem Rz{k:Nat}{f C:Addr}{fd:FuncData}{ps:List Str}{sp:Sp}{E:XK}{x:Str}{p cpos pos:Pos}(O:Own X)(hxe:X.xe=yM X E)(hc:X.calm=true)(M:XMk X.K C f)(F:aP X.prog X.w X.K X.mg X.base CX0 k f fd ps sp)(hr:aX (k+1) X.A)(hb:Binds X.K fd ps [])
 (hg:Gl X x) (hm:X.mg x=some (.ref C)) (hdb:(x==("__debug__":Str))=false:=by decide):PS X (.Raise (some (.Call (.Name x p) [] [] cpos)) none pos) (Ry C sp E Nz):=by
 intro pins s σ H D I h;rw[arm_exec_Raise];refine wpAny_bind (wpAny_standAt ?_);refine KY (I.ok.hd hc) (C:=C) ?_;refine wpAny_bind (wpAny_mono (Q:=fun v s₁=>_) (wpAny_Call_Name_kw (kE I hg hm (PySem.W.callWith_K0 I.kIn M.kp (Wj (us:=[]) O hxe M F hr hb I .nil h.1 h.2)) hdb)) (fun v s₁ q=>wpAny_bind (wpAny_standAt (wpAny_pure q))) fun _ _ z=>z)
end
def qU(K:ak)(C S:Addr):Prop:=∃ cd:ClassData,PySem.W.clsIn K C=some cd/\cd.mro.contains (.ref S)=true
theorem KZ{M:Model}{A:Around}{E:Value->Shared->Prop}{s:Shared}{K:ak}{C S e:Addr}{oe:Obj}{Q:Bool->Shared->Prop}(X:K.In s.heap)(c:iD K C)(cS:iD K S)(hsub:qU K C S)
 (he:s.heap.get? e=some oe) (hcls:oe.cls= .ref C) (hq:Q true s):wpAny M A (excMatches (.ref e) (.ref S)) Q E s:=by
 obtain⟨nm,q,N,bs,as,sn,sub,ab,col,dd,k0,k1,k2,k3,k5,lk⟩:=c.obj;obtain⟨nm',q',N',bs',as',sn',sub',ab',col',dd',k0',k1',k2',k3',k5',lk'⟩:=cS.obj;have hC:=X _ _ lk;have hS:=X _ _ lk';have hcB:=(qH as').cb S
 have hcS:(Value.ref C::(as.map Value.ref++bmV)).contains (.ref S)=true:=by
  obtain⟨cd,e1,e2⟩:=hsub;unfold PySem.W.clsIn at e1;rw[lk]at e1;cases e1;exact e2
 have f:=tc_notTuple;obtain⟨h,g,d,t,os⟩:=s;unfold excMatches
 repeat (first | (with_reducible refine wpAny_loadPart_at he ?_;rw[hcls]) | with_reducible refine wpAny_loadPart_at hS ?_ | with_reducible refine wpAny_loadPart_at hC ?_ | (with_reducible refine wpAny_isSubtype_exc hS ?_;rw[hcB]) | (with_reducible refine wpAny_isSubtype_exc hC ?_;rw[hcS]) | wp_step)
 exact hq
abbrev markX(X:Cx)(e:Addr)(oe:Obj):Cx:={ X with A:=X.A.mark (some (.ref e)),calm:=false,pn:=(e,oe)::X.pn,xe:=fun _ _=>False }
abbrev rR(X:Cx)(E:Value->Shared->Prop)(pn:List (Addr × Obj)):Cx:={ X with xe:=E,pn:=pn }
section
variable{X:Cx}{pins:List (Addr × Obj)}{σ:St}{H H':Hp}{s s':Shared}{e:Addr}{oe:Obj}
theorem Cx.Ok.with{E:Value->Shared->Prop}{pn:List (Addr × Obj)}(o:X.Ok):(rR X E pn).Ok:=⟨o.mod,o.kind,o.glob,o.blt,o.above,o.inj,o.has,o.cab,o.hd,o.frames,o.stk,o.exf,o.bs,o.bsz,o.sI,o.v8,o.jT,o.frf⟩
theorem Cx.Ok.without{E:Value->Shared->Prop}{pn:List (Addr × Obj)}(o:(rR X E pn).Ok):X.Ok:=⟨o.mod,o.kind,o.glob,o.blt,o.above,o.inj,o.has,o.cab,o.hd,o.frames,o.stk,o.exf,o.bs,o.bsz,o.sI,o.v8,o.jT,o.frf⟩
theorem Cx.Ok.marked(o:X.Ok)(hf:(X.A.mark (some (.ref e))).frames=X.A.frames):(markX X e oe).Ok:=⟨o.mod,o.kind,o.glob,o.blt,o.above,o.inj,o.has,o.cab,fun z=>absurd (show false=true from z) (by decide),hf.trans o.frames,o.stk,o.exf,o.bs,o.bsz,o.sI,o.v8,o.jT,o.frf⟩
theorem Inv.with{E:Value->Shared->Prop}(I:Inv X pins σ H s):Inv (rR X E (X.pn++pins)) [] σ H s:=⟨I.ok.with,I.os,I.bare,I.base,I.loc,I.cell,I.free,I.gO,fun p hp=>I.pin p (by simpa using hp),I.hok,I.len⟩
theorem Inv.without{E:Value->Shared->Prop}{zE:List (Addr × Obj)}(I:Inv (rR X E (X.pn++pins)) zE σ H s):Inv X pins σ H s:=⟨I.ok.without,I.os,I.bare,I.base,I.loc,I.cell,I.free,I.gO,fun p hp=>I.pin p (List.mem_append_left _ hp),I.hok,I.len⟩
theorem Inv.marked(I:Inv X pins σ H s)(he:s.heap.get? e=some oe)(hn:H e=none)(hL:e ≠ X.env.locals)(hf:e ∉ X.fs)(hd:∀ v,oe.data ≠ .cell v):Inv (markX X e oe) pins σ H s:=⟨I.ok.marked rfl,I.os,I.bare,I.base,I.loc,I.cell,I.free,I.gO,fun p hp=>by
 have hp':p ∈ (e,oe)::(X.pn++pins):=hp
 rcases List.mem_cons.mp hp' with z | z
 · subst z;exact⟨he,hn,hL,hf,hd⟩
 · exact I.pin p z,I.hok,I.len⟩
theorem SP.without{E:Value->Shared->Prop}{D:Ends}{f:Flow}(h:SP (rR X E (X.pn++pins)) [] D f s'):SP X pins D f s':=by
 cases f with
 | next=>obtain⟨a,b,I,q⟩:=h;exact⟨a,b,I.without,q⟩
 | brk=>obtain⟨a,b,I,q⟩:=h;exact⟨a,b,I.without,q⟩
 | cont=>obtain⟨a,b,I,q⟩:=h;exact⟨a,b,I.without,q⟩
 | ret u=>obtain⟨v,a,b,I,r,q⟩:=h;exact⟨v,a,b,I.without,r,q⟩
def ad1(K:ak)(oe:Obj)(f:Str):TE:=fun σ H Q=>∃ C dx fs v,oe.cls= .ref C/\oe.dict=some dx/\(∃ vs,oe.data= .fields vs)/\iD K C/\bM K C f/\H dx=some (.xd fs)/\fs.lookup f=some v/\Q v H
theorem YL{i:Nat}{n f:Str}{p pos:Pos}(hN:X.N[i]? =some n)(hv:Vis X.env.scope n)(hb:attributeBase (.Name n p) f X.env (eval (.Name n p) X.env)=eval (.Name n p) X.env:=by rfl)(hd:(n==("__debug__":Str))=false:=by decide)(hcd:(n==("__classdict__":Str))=false:=by decide):
 PE (markX X e oe) (.Attribute (.Name n p) f pos) (fun σ H Q=>σ[i]? =some (some (.ref e))/\ad1 X.K oe f σ H Q):=by
 intro pins s σ H Q I h;obtain⟨hσ,C,dx,fs,v,hc,hdx,⟨vs,hfd⟩,c,na,hH,hl,q⟩:=h;refine Lg hb (thn (zF (X:=markX X e oe) (i:=i) hN hv hd hcd pins s σ H (fun y H1=>y= .ref e/\H1=H) I ⟨.ref e,hσ,rfl,rfl⟩) fun u s1 ⟨x,H1,I1,rx,ex,eH⟩=>?_);subst ex eH;obtain rfl:u=Value.ref e:=rx;have pe:=(I1.pin (e,oe) (by simp)).1;obtain⟨mA,hns,hrel⟩:=(show ∃ mA,s1.heap.Ns1 dx mA/\∀ f,jP (fs.lookup f) (mA f) from I1.hok dx _ hH);have hr:=hrel f;rw[hl]at hr;obtain⟨uv,hu,ru⟩:=hr.some_of;obtain⟨nm,q',N,bs,as,sn,sub,ab,col,dd,k0,k1,k2,k3,k5,lk⟩:=c.obj;have kin:X.K.In s1.heap:=I1.kIn;have hC:=kin _ _ lk;obtain⟨cd,as',h1,h2,h3⟩:=c.cls;obtain⟨hp,g,dr,tk,os⟩:=s1;exact YF kin (qH as) hC c.aeU c.aeV na h1 h3 pe hc hfd hdx hns hu (Ek ru) ⟨v,H1,I1.tok _,ru,q⟩
theorem ad2{fs:List Addr}{h h1 h2 g:Heap}{P:Program}{w:World}(u:Un fs [] H H' h h1)(ok:HOk P w H' h1)(sup:Sup H' h g h1)(k:Kp fs g h2)(nof:∀ b u',H' b=some u'->b ∉ fs):Un fs [] H H' h h2/\HOk P w H' h2:=by
 refine⟨⟨fun b o q n hf _=>?_,fun b o q n hf _=>?_,u.free,fun b o q _=>?_,u.tups,u.jQ,u.jR⟩,fun a o ea=>?_⟩
 · exact(k b o (sup.old b o (u.keep b o q n hf (by simp)) (.inl ⟨o,q⟩))).1 hf
 · obtain⟨sl,q1⟩:=u.slot b o q n hf (by simp);obtain⟨sl2,q2⟩:=(k b _ (sup.old b _ q1 (.inl ⟨o,q⟩))).2 hf;exact⟨sl2,q2⟩
 · obtain⟨o',q1⟩:=u.there b o q (by simp);have q2:=sup.old b _ q1 (.inl ⟨o,q⟩)
   by_cases hm:b ∈ fs
   · obtain⟨sl,q3⟩:=(k b _ q2).2 hm;exact⟨_,q3⟩
   · exact⟨_,(k b _ q2).1 hm⟩
 · refine(ok a o ea).stay (fun b v hbv q=>?_) (fun _ q=>q) fun _ _ q=>q
   have tr:∃ u',H' b=some u':=by
    rcases hbv with z | z
    · exact⟨o,by rw[z];exact ea⟩
    · exact⟨_,z⟩
   obtain⟨u',z⟩:=tr;exact(k b v (sup.old b v q (.inr ⟨u',z⟩))).1 (nof b u' z)
theorem YM{M:Model}{A:Around}{E:Value->Shared->Prop}{n:Str}{pos:Pos}{Q:Unit->Shared->Prop}(I:Inv X pins σ H s)(hl:X.env.scope.names.lookup n=some .local)
 (h:∀ s',Inv X pins (List.replicate X.N.length none) H s'->Q () s'):wpAny M A (do bindName X.env n .none;unbindBehindTheSuite X.env n pos) Q E s:=by
 obtain⟨m,hn,_⟩:=id I.loc;have hcls:(X.env.scope.kind == .class||(X.env.scope.kind == .module&&X.env.locals != X.env.globals))=false:=by rw[I.ok.kind];rfl
 refine wpAny_nameGoes hl hn hcls fun h' m' hn' hs=>h _ ?_;have hL:X.s₀.heap.get? X.env.locals=none:=Heap.get?_none_of_le I.ok.above;have kk:∀ b o,b ≠ X.env.locals->s.heap.get? b=some o->h'.get? b=some o:=fun b o hb q=>hs.extBut b o hb q;have nL:∀ b o,X.s₀.heap.get? b=some o->b ≠ X.env.locals:=fun b o q z=>by rw[z,hL]at q;cases q
 refine⟨I.ok,I.os,I.bare,⟨fun b o q n' hf hx=>kk b o (nL b o q) (I.base.keep b o q n' hf hx),fun b o q n' hf hx=>?_,I.base.free,fun b o q hx=>?_,I.base.tups,I.base.jQ,I.base.jR⟩,⟨m',hn',fun i x v h1 h2 h3=>?_⟩,fun x c hc=>?_,I.free,I.gO,fun p hp=>?_,fun a o ea=>?_,by simp⟩
 · obtain⟨sl,q1⟩:=I.base.slot b o q n' hf hx;exact⟨sl,kk b _ (nL b o q) q1⟩
 · obtain⟨o',q1⟩:=I.base.there b o q hx;exact⟨o',kk b _ (nL b o q) q1⟩
 · rw[List.getElem?_replicate]at h2
   split at h2 <;> cases h2
 · obtain⟨v,o,ho,hd⟩:=I.cell x c hc;exact⟨v,o,kk c o (I.cne x c hc) ho,hd⟩
 · obtain⟨a,b,c,d⟩:=I.pin p hp;exact⟨kk _ _ c a,b,c,d⟩
 · refine(I.hok a o ea).stay (fun b v hb q=>kk b v (fun z=>?_) q) (fun _ q=>q) fun _ _ q=>q;have hF:=I.free
   rcases hb with z2 | z2
   · rw[<- z,z2,ea]at hF;cases hF
   · rw[<- z,z2]at hF;cases hF
def RB(K:ak)(n i:Nat)(S:Addr)(th:Addr->Obj->TS)(rt:VK):XK:=fun C d H'=>∃ Ca,C= .ref Ca/\iD K Ca/\qU K Ca S/\
 ∀ e oe,oe.cls= .ref Ca->oe.dict=d->(∃ vs,oe.data= .fields vs)->H' e=none->th e oe { nx:=fun _ _=>False,rt:=rt } ((List.replicate n none).set i (some (.ref e))) H'
theorem abF{body:List Stmt}{cx:Str}{cp hpos pos:Pos}{n:Str}{i:Nat}{b₀:Stmt}{suite:List Stmt}{S:Addr}{tb:XK->TS}{th:Addr->Obj->TS}(O:Own X)(hN:X.N.Nodup)(hi:X.N[i]? =some n)(hloc:X.env.scope.names.lookup n=some .local)
 (hg:Gl X cx) (hm:X.mg cx=some (.ref S)) (cS:iD X.K S) (hs:∀ e oe,PSs (markX X e oe) (b₀::suite) (th e oe))
 (hb:∀ E' pn E,Passes (CXE X.prog X.w) (rR X E' pn) E->PSs (rR X E' pn) body (tb E)) (hdb:(cx==("__debug__":Str))=false:=by decide):
 PS X (.Try body [.ExceptHandler (some (.Name cx cp)) (some n) (b₀::suite) hpos] [] [] pos) (fun D σ H=>tb (RB X.K X.N.length i S th D.rt) D σ H):=by
 intro pins s σ H D I h;refine wpAny_Try_except ?_
 have key:=hb (fun e s₁=>wpAny (model X.prog X.w) X.A (noteFrame e X.env) (fun _ s₂=>wpAny (model X.prog X.w) X.A (setFlight e none) (fun _ s₃=>wpAny (model X.prog X.w) X.A (handleBy e X.env [.ExceptHandler (some (.Name cx cp)) (some n) (b₀::suite) hpos]) (SP X pins D) X.xe s₃) X.xe s₂) X.xe s₁)
  (X.pn++pins) (RB X.K X.N.length i S th D.rt) ?_ [] s σ H D I.with h
 · refine wpAny_mono key (fun f s₁ q=>?_) fun _ _ z=>z;have q':=SP.without q
   cases f with
   | next=>exact wpAny_execs_nil q'
   | brk=>exact q'
   | cont=>exact q'
   | ret u=>exact q'
 · intro zE σ1 H1 s1 ev s2 I1' hx;have I1:Inv X pins σ1 H1 s1:=Inv.without I1';obtain⟨e,C,d,a0,H',g,rfl,hos,hbr,u,ok,F,sup,Ca,rfl,c,hsub,hth⟩:=hx;have u':Un (L2.frs X.stack) [] H1 H' s1.heap s2.heap:=u;have fr:=O.frs;have hfr:X.A.frames=some (X.env::X.outer):=by rw[I1.ok.frames,O.st]
   have hl:s2.heap.FunFrames X.base (X.env::X.outer):=by
    have:=Rv u' (fun _ h=>h) I1.oH I1.stack;rw[O.st]at this;exact this
   have nof:∀ b u'',H' b=some u''->b ∉ L2.frs X.stack:=fun b u'' q hm'=>by
    obtain⟨_,o,ho,_⟩:=I1.stack.mem hm';rw[u'.free b o ho (I1.oH b hm') (by simp)]at q;cases q
   have mk:∀ h2,Kp (L2.frs (X.env::X.outer)) g h2->Inv X pins σ1 H' { s2 with heap:=h2 }:=fun h2 k=>by
    rw[<- O.st]at k;obtain⟨u2,ok2⟩:=ad2 u' ok sup k nof;exact I1.call' (s':={ s2 with heap:=h2 }) (ch:=[]) hos u2 ok2 hbr fun b z=>absurd z (by simp)
   have hge:∀ h2,Fly g .none e (.ref Ca) d a0 h2->H' e=none/\e ≠ X.env.locals/\e ∉ X.fs:=fun h2 F2=>by
    obtain⟨hg0,oe,vs,T,oT,ts,he,_⟩:=id F
    have nin:s1.heap.get? e=none:=by
     cases q:s1.heap.get? e with
     | none=>rfl
     | some o=>rw[sup.old e _ he (.inl ⟨o,q⟩)]at hg0;cases hg0
    refine⟨?_,fun z=>?_,fun z=>?_⟩
    · cases q:H' e with
      | none=>rfl
      | some o=>rw[sup.old e _ he (.inr ⟨o,q⟩)]at hg0;cases hg0
    · have:=I1.lt;obtain⟨m,⟨o,es,ep,ho,_⟩,_⟩:=I1.loc;rw[<- z,nin]at ho;cases ho
    · have hm':e ∈ L2.frs X.stack:=by rw[fr];exact List.mem_cons_of_mem _ z
      obtain⟨_,o,ho,_⟩:=I1.stack.mem hm';rw[nin]at ho;cases ho
   show wpAny _ X.A (noteFrame (.ref e) X.env) _ _ s2;refine Ew hfr hl O.fr F (Kp.of_keeps sup.sub) fun h1 k1 F1=>?_;refine uH (s:={ s2 with heap:=h1 }) F1 k1 fun h2 k2 F2=>?_;have I2:=mk h2 k2;obtain⟨z1,z2,z3⟩:=hge h2 F2;obtain⟨_,oe2,vs2,T2,oT2,ts2,he2,hc2,hd2,hf2,_⟩:=id F2;have ok2:(markX X e oe2).Ok:=I2.ok.marked rfl;have J2:Inv (markX X e oe2) pins σ1 H' { s2 with heap:=h2 }:=I2.marked he2 z1 z2 z3 (fun v=>by rw[hf2];nofun);refine wpAny_handleBy_cons (codeAny_handlers_test ?_) (by intro q;cases q);refine kE (X:=markX X e oe2) J2 hg hm ?_ hdb;refine KZ I2.kIn c cS hsub he2 hc2 ?_;refine codeAny_handlers_suite_as ?_;refine uH (s:={ s2 with heap:=h2 }) F2 k2 fun h3 k3 F3=>?_;have I3:=mk h3 k3;obtain⟨_,oe,vs,T,oT,ts,he3,hc3,hd3,hf3,_⟩:=id F3
   have J3:Inv (markX X e oe) pins (List.replicate X.N.length none) H' { s2 with heap:=h3 }:=(I3.marked he3 z1 z2 z3 (fun v=>by rw[hf3];nofun)).weak (by rw[List.length_replicate];exact I3.len.symm) fun j v q=>by
    rw[List.getElem?_replicate]at q
    split at q <;> cases q
   refine uA (X:=markX X e oe) J3 hN hi (.inl hloc) (v:=.ref e) rfl (fun s4 J4=>?_) (.inr hloc);refine wpAny_mono (hs e oe pins s4 _ H' _ J4 (hth e oe hc3 hd3 ⟨vs,hf3⟩ z1)) (fun f s5 q=>?_) fun _ _ z=>z.elim
   cases f with
   | next=>obtain⟨_,_,_,z⟩:=q;exact z.elim
   | brk=>obtain⟨_,_,_,z⟩:=q;exact z.elim
   | cont=>obtain⟨_,_,_,z⟩:=q;exact z.elim
   | ret uv=>
     obtain⟨v,σ5,H5,J5,rv,q5⟩:=q;have I5:Inv X pins σ5 H5 s5:=⟨⟨J5.ok.mod,J5.ok.kind,J5.ok.glob,J5.ok.blt,J5.ok.above,J5.ok.inj,J5.ok.has,J5.ok.cab,I.ok.hd,I.ok.frames,J5.ok.stk,J5.ok.exf,J5.ok.bs,J5.ok.bsz,J5.ok.sI,J5.ok.v8,J5.ok.jT,J5.ok.frf⟩,J5.os,J5.bare,J5.base,J5.loc,J5.cell,J5.free,J5.gO,fun p hp=>J5.pin p (List.mem_cons_of_mem _ hp),J5.hok,J5.len⟩;exact YM I5 hloc fun s6 I6=>⟨v,_,H5,I6,rv,q5⟩
end
section
variable{X:Cx}{pins:List (Addr × Obj)}{σ:St}{H:Hp}{s:Shared}{h':Heap}
theorem Inv.LK{t':Nat}{ch:List Addr}(I:Inv X pins σ H s)(k:∀ b o,b ∉ ch->s.heap.get? b=some o->h'.get? b=some o)(hf:∀ b ∈ ch,lD X pins H b):Inv X pins σ H { s with heap:=h',toks:=t' }:=by
 have nit:∀ b u,H b=some u->b ∉ ch:=fun b u e z=>by rw[(hf b z).1]at e;cases e
 refine I.step (g':=s.gens) (d':=s.drawn) (ch:=ch) (fun b hb=>?_) (fun b o _ _ hc e _=>k b o hc e) (fun b o _ _ hc e _=>⟨o.slots,k b o hc e⟩) (fun _ _ _ _ n=>n)
  (fun b o hc e=>⟨o,k b o hc e⟩) (fun _ _ e=>e) (fun _ _ _ e=>e) (fun b ps e=>⟨#[],by rw[e];simp⟩) (fun m hm=>?_) (fun b u e=>?_) I.bare
 · obtain⟨f0,f1,f2,f3,f4,f5⟩:=hf b hb;exact⟨f3,f1,f4,f5⟩
 · obtain⟨o,es,ep,ho,r⟩:=hm;exact⟨o,es,ep,k _ o (fun z=>(hf _ z).2.1 rfl) ho,r⟩
 · refine(I.hok b u e).stay (fun c v hc q=>k c v ?_ q) (fun _ q=>q) fun _ _ q=>q
   rcases hc with z | z
   · rw[z];exact nit b u e
   · exact nit c _ z
end
def Itz(K:ak)(a b:Addr):It:=
 ⟨fun i H=>∃ xs ys x y,SqL K H a xs/\SqL K H b ys/\xs[i]? =some x/\ys[i]? =some y,
  fun i H v H'=>∃ T x y,H T=none/\v= .ref T/\H'=upd H T (.tup [x,y])/\(∀ xs,SqL K H a xs->xs[i]? =some x)/\∀ ys,SqL K H b ys->ys[i]? =some y,
  fun i H=>∃ xs ys,SqL K H a xs/\SqL K H b ys/\(xs.length<=i\/ys.length<=i)⟩
theorem abG{h:Heap}{a b:Addr}{o u:Obj}(e:h.get? a=some o)(f:h.get? b=some u)(d:o.cls ≠ u.cls):a ≠ b:=fun z=>by
 rw[z,f]at e;cases e;exact d rfl
structure XN (z TI TO i1 i2 a b:Addr)(i:Nat)(h:Heap):Prop where
 hz:IsZip h z TI TO .none
 hTI:IsPair h TI (.ref i1) (.ref i2)
 hTO:∃ p q,IsPair h TO p q
 h1:h.IsListIter i1 a i
 h2:h.IsListIter i2 b i
theorem Ey{z TI TO i1 i2 a b:Addr}{i:Nat}{h:Heap}{xs ys:Array Value}(nT:TI ≠ TO)(ni:i1 ≠ i2)(st:XN z TI TO i1 i2 a b i h)(ha:h.IsList a xs)(hb:h.IsList b ys):ZipApart z TI TO i1 i2 a b:=by
 obtain⟨hz,hTI,⟨p,q,hTO⟩,⟨o1,e1,c1,d1⟩,⟨o2,e2,c2,d2⟩⟩:=st;obtain⟨oa,ea,ca,da⟩:=ha;obtain⟨ob,eb,cb,db⟩:=hb;have t:∀ {x y:Addr} {o u:Obj} {m n:String},h.get? x=some o->h.get? y=some u->o.cls= .type m->u.cls= .type n->m ≠ n->x ≠ y:=fun ex ey cx cy d=>abG ex ey (by rw[cx,cy];intro z;injection z with z;exact d z)
 exact⟨t hTI hz rfl rfl (by decide),t hTO hz rfl rfl (by decide),t e1 hz c1 rfl (by decide),t e2 hz c2 rfl (by decide),nT,t hTI e1 rfl c1 (by decide),t hTI e2 rfl c2 (by decide),t hTO e1 rfl c1 (by decide),t hTO e2 rfl c2 (by decide),ni,
  t ea hz ca rfl (by decide),t ea hTO ca rfl (by decide),t ea e1 ca c1 (by decide),t ea e2 ca c2 (by decide),t eb hz cb rfl (by decide),t eb hTO cb rfl (by decide),t eb e1 cb c1 (by decide),t eb e2 cb c2 (by decide)⟩
theorem Wl{P:Program}{w:World}{K:ak}{elts:List Expr}{kt:Nat}{tp:Pos}(a b z TI TO i1 i2:Addr)(nT:TI ≠ TO)(ni:i1 ≠ i2):Turn P w K (.Tuple elts kt tp) (Itz K a b) [z,TI,TO,i1,i2] z (fun i h=>XN z TI TO i1 i2 a b i h) where
 mem:=by simp
 obj:=fun i h st c hc=>by
  obtain⟨hz,hTI,⟨p,q,hTO⟩,⟨o1,e1,c1,d1⟩,⟨o2,e2,c2,d2⟩⟩:=st;simp only[List.mem_cons,List.mem_nil_iff,or_false]at hc
  rcases hc with rfl | rfl | rfl | rfl | rfl
  · exact⟨_,hz,fun v z=>by cases z⟩
  · exact⟨_,hTI,fun v z=>by cases z⟩
  · exact⟨_,hTO,fun v z=>by cases z⟩
  · exact⟨_,e1,fun v z=>by rw[d1]at z;cases z⟩
  · exact⟨_,e2,fun v z=>by rw[d2]at z;cases z⟩
 keep:=fun i h h' st k=>by
  obtain⟨hz,hTI,⟨p,q,hTO⟩,h1,h2⟩:=st;exact⟨k z (by simp) _ hz,k TI (by simp) _ hTI,⟨p,q,k TO (by simp) _ hTO⟩,h1.at fun o e=>k i1 (by simp) o e,h2.at fun o e=>k i2 (by simp) o e⟩
 item:=by
  intro X hP hw hK hc i pins s σ H E I hf st hg;subst hP hw hK;obtain⟨xs,ys,x,y,hqa,hqb,hx,hy⟩:=hg;obtain⟨ia,ra,pa,za⟩:=I.list hqa;obtain⟨ib,rb,pb,zb⟩:=I.list hqb;obtain⟨u,hu,ru⟩:=ra.get hx;obtain⟨v,hv,rv⟩:=rb.get hy;have D:=Ey nT ni st pa.isList pb.isList;obtain⟨hz,hTI,⟨p,q,hTO⟩,h1,h2⟩:=st;refine wpAny_pyNext_zip_item D hz hTI hTO h1 h2 pa.isList pb.isList (x:=u) (y:=v) (by simpa using hu) (by simpa using hv) fun h' a1 a2 a3 a4 a5 a6 hk=>?_;refine⟨_,rfl,wpAny_letOwnedTupleGo_zip (s:={ s with heap:=h' }) a1 fun h2' hz' sb=>?_⟩;have nTz:∀ {c:Addr} {o:Obj},s.heap.get? c=some o->c ≠ s.heap.objs.size:=fun e=>Nat.ne_of_lt (Heap.lt_size e);have hT2:IsPair h2' s.heap.objs.size u v:=sb.extBut _ _ (Ne.symm (nTz hz)) a5
  have I1:Inv X pins σ (upd H s.heap.objs.size (.tup [x,y])) { s with heap:=s.heap.push { cls:=.type "tuple",data:=.seq #[u,v] },toks:=s.toks }:=
   I.laid (t':=s.toks) (fun b u e=>Heap.get?_push_of_some _ e) (aH _) ⟨by show 2<=sizeLine;decide,[u,v],.cons ru (.cons rv .nil),⟨_,Heap.get?_push_size _ rfl,rfl,_,rfl⟩⟩
  have fp:∀ {c:Addr} {o:Obj},s.heap.get? c=some o->lD X pins H c->lD X pins (upd H s.heap.objs.size (.tup [x,y])) c:=fun e ⟨f0,f⟩=>⟨by rw[aB (nTz e)];exact f0,f⟩;obtain⟨o1,e1,c1,d1⟩:=id h1;obtain⟨o2,e2,c2,d2⟩:=id h2
  have I2:Inv X pins σ (upd H s.heap.objs.size (.tup [x,y])) { s with heap:=h2',toks:=s.toks }:=Inv.LK (s:={ s with heap:=s.heap.push { cls:=.type "tuple",data:=.seq #[u,v] },toks:=s.toks }) (t':=s.toks) (ch:=[z,TO,i1,i2]) I1 (fun c o nc e=>by
   simp only[List.mem_cons,List.mem_nil_iff,or_false,not_or]at nc
   by_cases hcT:c=s.heap.objs.size
   · subst hcT;have e':(s.heap.push { cls:=.type "tuple",data:=.seq #[u,v] }).get? s.heap.objs.size=some { cls:=.type "tuple",data:=.seq #[u,v] }:=Heap.get?_push_size _ rfl;rw[e']at e;cases e;exact hT2
   · have e':s.heap.get? c=some o:=by
      have e1:(s.heap.push { cls:=.type "tuple",data:=.seq #[u,v] }).get? c=some o:=e;rw[Heap.get?_push_ne _ _ _ hcT]at e1;exact e1
     exact sb.extBut _ _ nc.1 (hk c o nc.1 nc.2.1 nc.2.2.1 nc.2.2.2 e')) (fun c hc=>by
   simp only[List.mem_cons,List.mem_nil_iff,or_false]at hc
   rcases hc with rfl | rfl | rfl | rfl
   · exact fp hz (hf _ (by simp))
   · exact fp hTO (hf _ (by simp))
   · exact fp e1 (hf _ (by simp))
   · exact fp e2 (hf _ (by simp)))
  refine⟨.ref s.heap.objs.size,_,I2,rfl,⟨_,x,y,I.hok.fresh (aH _),rfl,rfl,fun zs hzs=>by rw[I.yF hzs hqa];exact hx,fun zs hzs=>by rw[I.yF hzs hqb];exact hy⟩,
   ⟨hz',sb.extBut _ _ D.TIz (hk _ _ D.TIz D.TITO D.TIi1 D.TIi2 hTI),⟨_,_,sb.extBut _ _ D.TOz a2⟩,a3.extBut sb.extBut D.i1z,a4.extBut sb.extBut D.i2z⟩,fun c hc=>?_⟩
  have g:∃ o,s.heap.get? c=some o:=by
   simp only[List.mem_cons,List.mem_nil_iff,or_false]at hc
   rcases hc with rfl | rfl | rfl | rfl | rfl
   · exact⟨_,hz⟩
   · exact⟨_,hTI⟩
   · exact⟨_,hTO⟩
   · exact⟨_,e1⟩
   · exact⟨_,e2⟩
  obtain⟨o,e⟩:=g;rw[aB (nTz e)];exact(hf c hc).1
 done:=by
  intro X hP hw hK hc i pins s σ H E I hf st hg;subst hP hw hK;obtain⟨xs,ys,hqa,hqb,hl⟩:=hg;obtain⟨ia,ra,pa,za⟩:=I.list hqa;obtain⟨ib,rb,pb,zb⟩:=I.list hqb;have la:=ra.length;have lb:=rb.length;have D:=Ey nT ni st pa.isList pb.isList;obtain⟨hz,hTI,⟨p,q,hTO⟩,h1,h2⟩:=st;refine wpAny_pyNext_zip_end (I.ok.hd hc) D hz hTI hTO h1 h2 pa.isList pb.isList (hl.imp (fun l=>by simp;omega) fun l=>by simp;omega) fun h' hk=>⟨rfl,I.LK (t':=s.toks) (ch:=[z,TO,i1,i2]) (fun c o nc e=>?_) fun c hc=>?_⟩
  · simp only[List.mem_cons,List.mem_nil_iff,or_false,not_or]at nc;exact hk c o nc.1 nc.2.1 nc.2.2.1 nc.2.2.2 e
  · simp only[List.mem_cons,List.mem_nil_iff,or_false]at hc
    rcases hc with rfl | rfl | rfl | rfl <;> exact hf _ (by simp)
 self:=fun _ _ _ _ _ st h=>wpAny_pyIter_zip st.hz h
def abH(K:ak)(ta:TA):TI:=fun σ H R=>ta σ H fun vs H1=>∃ a b,vs= [.ref a,.ref b]/\(∃ xs,SqL K H1 a xs)/\(∃ ys,SqL K H1 b ys)/\R (Itz K a b) H1
section
variable{X:Cx}
theorem RC{elts:List Expr}{kt:Nat}{tp:Pos}{a b:Expr}{ta:TA}{p pos:Pos}(hg:Gl X "zip")(hm:X.mg "zip" =none)(ha:PA X [a,b] ta)(hs:starEach [a,b] X.env= [(false,eval a X.env),(false,eval b X.env)]:=by rfl)(hs2:starEach [b] X.env= [(false,eval b X.env)]:=by rfl):
 PI X (.Tuple elts kt tp) (.Call (.Name "zip" p) [a,b] [] pos) (abH X.K ta):=by
 intro pins s σ H R I h;refine Call_ (qN I hg hm boot_zip (PyProof.Rows.callWith_type1 (thn (ha pos pins s σ H _ I h) fun us s1 ⟨vs,H1,I1,r1,q1⟩=>?_) (by rw[hs,hs2]) (by rw[hs2];rfl)));obtain⟨l1,l2,e,⟨xs,hqa⟩,⟨ys,hqb⟩,q⟩:=q1;subst e
 cases r1 with
 | cons r rr=>
   cases rr with
   | cons r' rr=>
     cases rr;cases r;cases r';obtain⟨ia,ra,pa,za⟩:=I1.list hqa;obtain⟨ib,rb,pb,zb⟩:=I1.list hqb;refine call_zip_2 pa.isList pb.isList fun h' hz hTI hTO h1 h2 hsz hk=>?_;refine wpAny_pyIter_zip hz ?_;have I2:Inv X pins σ H1 { s1 with heap:=h',toks:=s1.toks }:=I1.kept (t':=s1.toks) hk;refine⟨s1.heap.objs.size+4,[s1.heap.objs.size+4,s1.heap.objs.size+2,s1.heap.objs.size+3,s1.heap.objs.size,s1.heap.objs.size+1],_,_,H1,rfl,I2,Wl l1 l2 (s1.heap.objs.size+4) (s1.heap.objs.size+2) (s1.heap.objs.size+3) s1.heap.objs.size (s1.heap.objs.size+1) (Nat.ne_of_lt (Nat.lt_succ_self (s1.heap.objs.size+2))) (Nat.ne_of_lt (Nat.lt_succ_self s1.heap.objs.size)),⟨hz,hTI,⟨_,_,hTO⟩,h1,h2⟩,fun c hc=>?_,q⟩
     have hle:s1.heap.objs.size<=c:=by
      simp only[List.mem_cons,List.mem_nil_iff,or_false]at hc
      rcases hc with rfl | rfl | rfl | rfl | rfl <;> omega
     exact I1.Nj hle (I1.hok.fresh hle)
def Itd(lo:Int)(n:Nat):It:=⟨fun i _=>i<n,fun i H x H'=>H'=H/\x= .int (lo - i),fun i _=>n<=i⟩
end
def Ite(K:ak)(a:Addr):It:=
 ⟨fun i H=>∃ xs x,SqL K H a xs/\xs[i]? =some x,
  fun i H v H'=>∃ T x,H T=none/\v= .ref T/\H'=upd H T (.tup [.int i,x])/\∀ xs,SqL K H a xs->xs[i]? =some x,
  fun i H=>∃ xs,SqL K H a xs/\xs.length<=i⟩
structure afy (e i1 a:Addr)(i:Nat)(h:Heap):Prop where
 he:∃ old,IsEnum h e i1 i old
 h1:h.IsListIter i1 a i
end L2
namespace Ev
section
inductive W where | non | bl (b:Bool) | int (i:Int) | str (c:List Nat) | ref (n:Nat)
 deriving DecidableEq
abbrev Fs:=List (List Nat × W)
inductive O where
 | tup (xs:List W) | lst (xs:List W) | ins (C:Nat) (fs:Fs) | dk (kvs:List (W × W)) | dt (kvs:List (List W × W)) | scr (ns:List Int)
 deriving DecidableEq
inductive Tr where | lf | nd (o:Option O) (l r:Tr)
def Tr.get(t:Tr):Nat->Option O:=Tr.rec (fun _=>none) (fun o _ _ gl gr k=>Nat.rec o (fun k _=>Bool.rec (gr (Nat.div k 2)) (gl (Nat.div k 2)) (Nat.beq (Nat.mod k 2) 0)) k) t
def Tr.set(d:Nat):Tr->Nat->O->Tr:=Nat.rec (fun t _ _=>t) (fun _ ih t k o=>Tr.rec
    (Nat.rec (.nd (some o) .lf .lf) (fun k _=>Bool.rec (.nd none .lf (ih .lf (Nat.div k 2) o)) (.nd none (ih .lf (Nat.div k 2) o) .lf) (Nat.beq (Nat.mod k 2) 0)) k)
    (fun x l r _ _=>Nat.rec (.nd (some o) l r) (fun k _=>Bool.rec (.nd x l (ih r (Nat.div k 2) o)) (.nd x (ih l (Nat.div k 2) o) r) (Nat.beq (Nat.mod k 2) 0)) k) t) d
inductive Hs where | mk (n:Nat) (t:Tr)
def Hs.n(h:Hs):Nat:=Hs.rec (fun n _=>n) h
def Hs.get(h:Hs)(k:Nat):Option O:=Hs.rec (fun _ t=>t.get k) h
def Hs.set(h:Hs)(k:Nat)(o:O):Hs:=Hs.rec (fun n t=>.mk n (t.set (Nat.succ k) k o)) h
def Hs.push(h:Hs)(o:O):Hs:=Hs.rec (fun n t=>.mk (Nat.add n 1) (t.set (Nat.succ n) n o)) h
inductive R (α:Type) where | ok (a:α) (h:Hs) | ex (C:Nat) (fs:Fs) (h:Hs) | no
def R.bind{α β:Type}(r:R α)(f:α->Hs->R β):R β:=R.rec (fun a h=>f a h) (fun C fs h=>.ex C fs h) .no r
def R.nox{α:Type}(r:R α):R α:=R.rec (fun a h=>.ok a h) (fun _ _ _=>.no) .no r
def W.elim{β:Type}(w:W)(z:β)(b:Bool->β)(i:Int->β)(s:List Nat->β)(r:Nat->β):β:=W.rec z b i s r w
def W.onI{β:Type}(w:W)(f:Int->R β):R β:=W.rec .no (fun _=>.no) f (fun _=>.no) (fun _=>.no) w
def W.onR{β:Type}(w:W)(f:Nat->R β):R β:=W.rec .no (fun _=>.no) (fun _=>.no) (fun _=>.no) f w
def W.onB{β:Type}(w:W)(f t:R β):R β:=W.rec .no (fun b=>Bool.rec f t b) (fun _=>.no) (fun _=>.no) (fun _=>.no) w
def ifB{β:Type}(b:Bool)(t f:β):β:=Bool.rec f t b
def iG(ws:List W)(f:W->R W):R W:=List.rec .no (fun a r _=>List.rec (f a) (fun _ _ _=>.no) r) ws
def jE(ws:List W)(f:W->W->R W):R W:=List.rec .no (fun a r _=>List.rec .no (fun b r _=>List.rec (f a b) (fun _ _ _=>.no) r) r) ws
def uK(ws:List W)(f:Int->Int->R W):R W:=jE ws fun a b=>a.onI fun i=>b.onI fun j=>f i j
abbrev Sg:=List (Option W)
inductive Fl where | nx (τ:Sg) | rt (w:W) | bk (τ:Sg) | ct (τ:Sg)
def app{α:Type}(xs ys:List α):List α:=List.rec ys (fun x _ r=>x::r) xs
def len{α:Type}(xs:List α):Nat:=List.rec 0 (fun _ _ r=>Nat.add r 1) xs
def nth{α:Type}(xs:List α):Nat->Option α:=List.rec (fun _=>none) (fun x _ ih k=>Nat.rec (some x) (fun k _=>ih k) k) xs
def drp{α:Type}(xs:List α):Nat->List α:=List.rec (fun _=>[]) (fun x r ih k=>Nat.rec (x::r) (fun k _=>ih k) k) xs
def tak{α:Type}(xs:List α):Nat->List α:=List.rec (fun _=>[]) (fun x _ ih k=>Nat.rec [] (fun k _=>x::ih k) k) xs
def setAt{α:Type}(τ:List α)(w:α):Nat->List α:=List.rec (fun _=>[]) (fun x r ih k=>Nat.rec (w::r) (fun k _=>x::ih k) k) τ
def bh(τ:Sg):Nat->Option W:=List.rec (fun _=>none) (fun x _ ih k=>Nat.rec x (fun k _=>ih k) k) τ
def codes(x:List Nat):List Nat->Bool:=List.rec (fun y=>List.rec true (fun _ _ _=>false) y) (fun a _ ih y=>List.rec false (fun b r _=>ifB (Nat.beq a b) (ih r) false) y) x
def fget(fs:Fs)(f:List Nat):Option W:=List.rec none (fun p _ r=>ifB (codes p.1 f) (some p.2) r) fs
def Oh(f:List Nat)(w:W)(fs:Fs):Fs:=List.rec [(f,w)] (fun p r ih=>ifB (codes p.1 f) ((f,w)::r) (p::ih)) fs
def ieq(i j:Int):Bool:=Int.rec (fun a=>Int.rec (fun b=>Nat.beq a b) (fun _=>false) j) (fun a=>Int.rec (fun _=>false) (fun b=>Nat.beq a b) j) i
def ilt(i j:Int):Bool:=Int.rec (fun a=>Int.rec (fun b=>Nat.ble (Nat.add a 1) b) (fun _=>false) j) (fun a=>Int.rec (fun _=>true) (fun b=>Nat.ble (Nat.add b 1) a) j) i
def Opt{α β:Type}(o:Option α)(f:α->R β):R β:=Option.rec .no f o
def O.items{β:Type}(o:O)(f:List W->R β):R β:=O.rec f f (fun _ _=>.no) (fun _=>.no) (fun _=>.no) (fun _=>.no) o
def O.onL{β:Type}(o:O)(f:List W->R β):R β:=O.rec (fun _=>.no) f (fun _ _=>.no) (fun _=>.no) (fun _=>.no) (fun _=>.no) o
def O.onT{β:Type}(o:O)(f:List W->R β):R β:=O.rec f (fun _=>.no) (fun _ _=>.no) (fun _=>.no) (fun _=>.no) (fun _=>.no) o
def O.onS{β:Type}(o:O)(f:List W->R β):R β:=O.rec (fun _=>.no) f (fun _ _=>.no) (fun _=>.no) (fun _=>.no) (fun _=>.no) o
def O.onI{β:Type}(o:O)(f:Nat->Fs->R β):R β:=O.rec (fun _=>.no) (fun _=>.no) f (fun _=>.no) (fun _=>.no) (fun _=>.no) o
def Hs.at{β:Type}(h:Hs)(w:W)(f:Nat->O->R β):R β:=w.onR fun n=>Opt (h.get n) (f n)
def R.alloc(h:Hs)(o:O):R W:=.ok (.ref h.n) (h.push o)
def R.yes(b:Bool)(h:Hs):R W:=.ok (.bl b) h
inductive D where | non | bl (b:Bool) | int (i:Int) | str (c:List Nat) | lst (xs:List D) | tup (xs:List D)
def okC(c:List Nat):Bool:=List.rec true (fun x _ r=>ifB (Nat.ble (x+1) 1114112) r false) c
def jF(f:W->Option D)(xs:List W):Option (List D):=List.rec (some []) (fun x _ r=>Option.rec none (fun d=>Option.rec none (fun ds=>some (d::ds)) r) (f x)) xs
def toD(h:Hs)(n:Nat):W->Option D:=Nat.rec (fun _=>none) (fun _ ih w=>W.elim w (some .non) (fun b=>some (.bl b)) (fun i=>some (.int i)) (fun c=>ifB (okC c) (some (.str c)) none) fun k=>
 Option.rec none (fun o=>O.rec (fun xs=>Option.rec none (fun ds=>some (.tup ds)) (jF ih xs)) (fun xs=>Option.rec none (fun ds=>some (.lst ds)) (jF ih xs)) (fun _ _=>none) (fun _=>none) (fun _=>none) (fun _=>none) o) (h.get k)) n
def D.bools(b:Bool)(d:D):Bool:=D.casesOn d false (fun c=>Bool.rec (!c) c b) (fun _=>false) (fun _=>false) (fun _=>false) (fun _=>false)
mutual
def lE:D->D->Bool
 | .non,.non=>true
 | .bl a,.bl b=>a==b
 | .int i,.int j=>ieq i j
 | .str x,.str y=>codes x y
 | .lst xs,.lst ys=>sJ xs ys
 | .tup xs,.tup ys=>sJ xs ys
 | .bl a,.int j=>ieq (if a then 1 else 0) j
 | .int i,.bl b=>ieq i (if b then 1 else 0)
 | _,_=>false
def sJ:List D->List D->Bool
 | [],[]=>true
 | x::xs,y::ys=>lE x y&&sJ xs ys
 | _,_=>false
end
mutual
def iu:D->D->Bool
 | .non,.non=>true
 | .bl a,.bl b=>a==b
 | .int i,.int j=>ieq i j
 | .str x,.str y=>codes x y
 | .lst xs,.lst ys=>lO xs ys
 | .tup xs,.tup ys=>lO xs ys
 | _,_=>false
def lO:List D->List D->Bool
 | [],[]=>true
 | x::xs,y::ys=>iu x y&&lO xs ys
 | _,_=>false
end
def Oi(i j:Int):Int:=Int.rec (fun a=>Int.rec (fun b=>.ofNat (Nat.add a b)) (fun b=>Int.subNatNat a (Nat.add b 1)) j) (fun a=>Int.rec (fun b=>Int.subNatNat b (Nat.add a 1)) (fun b=>.negSucc (Nat.add (Nat.add a b) 1)) j) i
def Wm(i j:Int):Int:=Int.rec (fun a=>Int.rec (fun b=>Bool.rec (.negSucc (Nat.sub (Nat.sub b a) 1)) (.ofNat (Nat.sub a b)) (Nat.ble b a)) (fun b=>.ofNat (Nat.add (Nat.add a b) 1)) j) (fun a=>Int.rec (fun b=>.negSucc (Nat.add a b)) (fun b=>i - .negSucc b) j) i
def fmod(i j:Int):Int:=Int.rec (fun a=>Int.rec (fun b=>.ofNat (Nat.mod a b)) (fun b=>i % .negSucc b) j) (fun a=>Int.rec (fun b=>.negSucc a % .ofNat b) (fun b=>.negSucc a % .negSucc b) j) i
structure Pr where
 f:List W->Hs->R W
def Sml(i:Int):Bool:=Int.rec (fun a=>Nat.ble (a+1) (2 ^ 4000)) (fun a=>Nat.ble (a+2) (2 ^ 4000)) i
def size(xs:List W)(k:R W):R W:=ifB (Nat.ble (len xs) 16777215) k .no
def abI(h:Hs)(a b:W):R W:=h.at a fun _ x=>h.at b fun _ y=>O.casesOn x (fun _=>.no) (fun xs=>y.onL fun ys=>size (app xs ys) (.alloc h (.lst (app xs ys)))) (fun _ _=>.no) (fun _=>.no) (fun _=>.no) (fun _=>.no)
def abJ(h:Hs)(a b:W):R W:=W.elim a .no (fun _=>.no) (fun i=>b.onI fun j=>.ok (.int (Oi i j)) h) (fun _=>.no) (fun _=>abI h a b)
def abK(h:Hs)(i j:Int):R W:=.ok (.int (Wm i j)) h
def Wn(xs:List W)(k:Nat):List W:=Nat.rec [] (fun _ r=>app xs r) k
def abL(h:Hs)(a:W)(k:Int):R W:=h.at a fun _ x=>x.onL fun xs=>ifB (ilt k 100000) (ifB (ilt (-100000) k) (ifB (Nat.ble (len xs) 100) (.alloc h (.lst (Wn xs k.toNat))) .no) .no) .no
def abM(h:Hs)(a b:W):R W:=b.onI fun j=>W.elim a .no (fun _=>.no) (fun i=>ifB (Sml i) (ifB (Sml j) (.ok (.int (i*j)) h) .no) .no) (fun _=>.no) (fun _=>abL h a j)
def abN(h:Hs)(i j:Int):R W:=ifB (ilt 0 j) (.ok (.int (fmod i j)) h) .no
def XQ(h:Hs)(i j:Int):R W:=ifB (ilt 0 j) (ifB (Sml j) (.ok (.int (i.fdiv j)) h) .no) .no
def abO(h:Hs)(i j:Int):R W:=ifB (ilt i 1000) (ifB (ilt 0 i) (ifB (ilt 0 j) (ifB (ilt j 1000) (.ok (.int (i ^ j.toNat)) h) .no) .no) .no) .no
def aeW(h:Hs)(a:W):R W:=a.onI fun i=>.ok (.int (-i)) h
def aeX(h:Hs)(a:W):R W:=a.onI fun i=>.ok (.int (Int.ofNat i.natAbs)) h
def aeY(h:Hs)(i j:Int):R W:=.ok (.int (ifB (ilt j i) j i)) h
def aeZ(h:Hs)(i j:Int):R W:=.ok (.int (ifB (ilt i j) j i)) h
def Wo(n:Nat)(i:Int):Nat:=Int.rec (fun k=>k) (fun k=>ifB (Nat.ble (k+1) n) (n - (k+1)) n) i
def pIx(h:Hs)(a b:W):R W:=h.at a fun _ o=>o.items fun xs=>b.onI fun i=>Opt (nth xs (Wo (len xs) i)) fun w=>.ok w h
def abP(h:Hs)(a:W):R W:=h.at a fun _ o=>o.items fun xs=>.ok (.int (.ofNat (len xs))) h
def zY(w:W):Bool:=W.elim w true (fun _=>false) (fun _=>false) (fun _=>false) (fun _=>false)
def wD(h:Hs)(w:W)(f:D->R W):R W:=Opt (toD h 12 w) f
def pEq(f:Bool->Bool)(h:Hs)(a b:W):R W:=wD h a fun x=>wD h b fun y=>.yes (f (lE x y)) h
def XR(h:Hs)(a b:W):R W:=wD h a fun x=>wD h b fun y=>.yes (iu x y) h
def Wq(xs:List W):Bool:=List.rec false (fun _ _ _=>true) xs
def RG(h:Hs)(a:W):R W:=W.elim a (.yes false h) (fun b=>.yes b h) (fun i=>.yes (!ieq i 0) h) (fun _=>.no) (fun _=>h.at a fun _ o=>o.items fun xs=>.yes (Wq xs) h)
def uf(h:Hs)(a b:W):R W:=h.at a fun n o=>o.onL fun xs=>size xs (.ok .non (h.set n (.lst (app xs [b]))))
def init(xs:List W):List W:=List.rec [] (fun x r ih=>List.rec [] (fun _ _ _=>x::ih) r) xs
def abQ(h:Hs)(a:W):R W:=h.at a fun n o=>o.onL fun _=>.ok .non (h.set n (.lst []))
def XS(h:Hs)(a:W):R W:=h.at a fun _ o=>o.items fun xs=>.alloc h (.lst xs)
def eqF(a b:W):Option Bool:=W.elim a
 (W.elim b (some true) (fun _=>some false) (fun _=>some false) (fun _=>some false) (fun _=>none)) (fun _=>none)
 (fun i=>W.elim b (some false) (fun _=>none) (fun j=>some (ieq i j)) (fun _=>some false) (fun _=>none))
 (fun x=>W.elim b (some false) (fun _=>none) (fun _=>some false) (fun y=>some (codes x y)) (fun _=>none)) (fun _=>none)
def H9(a:W)(xs:List W):Option Bool:=List.rec (some false) (fun x _ ih=>Option.rec none (fun b=>Option.rec none (fun r=>some (ifB b true r)) ih) (eqF x a)) xs
def pIn(f:Bool->Bool)(h:Hs)(a b:W):R W:=h.at b fun _ o=>o.items fun xs=>Opt (eqF a a) fun _=>Opt (H9 a xs) fun c=>.yes (f c) h
def bools(xs:List W):Option (List Bool):=List.rec (some []) (fun x _ ih=>W.elim x none (fun b=>Option.rec none (fun r=>some (b::r)) ih) (fun _=>none) (fun _=>none) (fun _=>none)) xs
def allB(xs:List Bool):Bool:=List.rec true (fun b _ r=>ifB b r false) xs
def anyB(xs:List Bool):Bool:=List.rec false (fun b _ r=>ifB b true r) xs
def abR(f:List Bool->Bool)(h:Hs)(a:W):R W:=h.at a fun _ o=>o.onL fun xs=>Opt (bools xs) fun bs=>.yes (f bs) h
def Oj(xs:List W):List W->Option Bool:=List.rec (fun ys=>some (List.rec false (fun _ _ _=>true) ys)) (fun x _ ih ys=>List.rec (some false) (fun y r _=>W.elim x none (fun _=>none) (fun i=>W.elim y none (fun _=>none) (fun j=>ifB (ieq i j) (ih r) (some (ilt i j))) (fun _=>none) (fun _=>none)) (fun _=>none) (fun _=>none)) ys) xs
def xR(xs:List W):Bool:=List.rec true (fun x _ r=>W.elim x false (fun _=>false) (fun _=>r) (fun _=>false) (fun _=>false)) xs
def pLt(h:Hs)(a b:W):R W:=W.elim a .no (fun _=>.no) (fun i=>b.onI fun j=>.yes (ilt i j) h) (fun _=>.no) (fun _=>h.at a fun _ x=>h.at b fun _ y=>x.onT fun xs=>y.onT fun ys=>ifB (xR xs) (ifB (xR ys) (Opt (Oj xs ys) fun c=>.yes c h) .no) .no)
def tabOf(tb:List (List Nat × List Int))(c:List Nat):List Int:=List.rec [] (fun p _ r=>ifB (codes p.1 c) p.2 r) tb
def uL(i:Int)(xs:List Int):Bool:=List.rec false (fun x _ r=>ifB (ieq x i) true r) xs
def abS(tb:List (List Nat × List Int))(h:Hs)(a b:W):R W:=a.onI fun i=>W.elim b .no (fun _=>.no) (fun _=>.no) (fun c=>.yes (!uL i (tabOf tb c)) h) (fun _=>.no)
def xT(xs:List W):Option (List Int):=List.rec (some []) (fun x _ ih=>W.elim x none (fun _=>none) (fun i=>Option.rec none (fun r=>some (i::r)) ih) (fun _=>none) (fun _=>none)) xs
def dd(l:List Int):List Int->List Int:=List.rec (fun acc=>acc) (fun x _ ih acc=>ih (ifB (uL x acc) acc (app acc [x]))) l
def pLs(h:Hs)(a:W):R W:=h.at a fun _ o=>o.onL fun xs=>ifB (Nat.ble (len xs) 1000) (Opt (xT xs) fun ns=>.ok (.int (.ofNat (len (dd ns [])))) h) .no
def O.onD{β:Type}(o:O)(f:List (W × W)->R β):R β:=O.rec (fun _=>.no) (fun _=>.no) (fun _ _=>.no) f (fun _=>.no) (fun _=>.no) o
def wC(w:W):Bool:=W.elim w false (fun _=>false) (fun _=>true) (fun _=>true) (fun _=>false)
def keq(a b:W):Bool:=W.elim a false (fun _=>false) (fun i=>W.elim b false (fun _=>false) (fun j=>ieq i j) (fun _=>false) (fun _=>false)) (fun x=>W.elim b false (fun _=>false) (fun _=>false) (fun y=>codes x y) (fun _=>false)) (fun _=>false)
def qp(kvs:List (W × W))(k:W):Option W:=List.rec none (fun p _ r=>ifB (keq p.1 k) (some p.2) r) kvs
def XX(h:Hs)(a b:W):R W:=h.at a fun _ o=>o.onD fun kvs=>ifB (wC b) (Opt (qp kvs b) fun w=>.ok w h) .no
def isS(o:Option W):Bool:=Option.rec false (fun _=>true) o
def G5(kvs:List (W × W))(k v:W):List (W × W):=List.rec [] (fun p _ r=>ifB (keq p.1 k) (p.1,v) p::r) kvs
def G6(kvs:List (W × W))(k v:W):List (W × W):=ifB (isS (qp kvs k)) (G5 kvs k v) (app kvs [(k,v)])
def ad3(h:Hs)(ws:List W):R W:=List.rec (.alloc h (.dk [])) (fun _ _ _=>.no) ws
def Pr.add:Pr:=⟨fun ws h=>jE ws (abJ h)⟩
def Pr.sub:Pr:=⟨fun ws h=>uK ws (abK h)⟩
def Pr.mul:Pr:=⟨fun ws h=>jE ws (abM h)⟩
def Pr.fdiv:Pr:=⟨fun ws h=>uK ws (XQ h)⟩
def Pr.mod:Pr:=⟨fun ws h=>uK ws (abN h)⟩
def Pr.pow:Pr:=⟨fun ws h=>uK ws (abO h)⟩
def Pr.neg:Pr:=⟨fun ws h=>iG ws (aeW h)⟩
def Pr.abs:Pr:=⟨fun ws h=>iG ws (aeX h)⟩
def Pr.min:Pr:=⟨fun ws h=>uK ws (aeY h)⟩
def Pr.max:Pr:=⟨fun ws h=>uK ws (aeZ h)⟩
def Pr.lt:Pr:=⟨fun ws h=>jE ws (pLt h)⟩
def Pr.le:Pr:=⟨fun ws h=>uK ws fun i j=>.yes (!ilt j i) h⟩
def Pr.gt:Pr:=⟨fun ws h=>uK ws fun i j=>.yes (ilt j i) h⟩
def Pr.ge:Pr:=⟨fun ws h=>uK ws fun i j=>.yes (!ilt i j) h⟩
def Pr.eq:Pr:=⟨fun ws h=>jE ws (pEq id h)⟩
def Pr.ne:Pr:=⟨fun ws h=>jE ws (pEq not h)⟩
def Pr.ix:Pr:=⟨fun ws h=>jE ws (pIx h)⟩
def Pr.len:Pr:=⟨fun ws h=>iG ws (abP h)⟩
def Pr.tup:Pr:=⟨fun ws h=>size ws (.alloc h (.tup ws))⟩
def Pr.lst:Pr:=⟨fun ws h=>size ws (.alloc h (.lst ws))⟩
def Pr.Wr:Pr:=⟨fun ws h=>iG ws fun a=>.yes (!zY a) h⟩
def Pr.Ol:Pr:=⟨fun ws h=>iG ws fun a=>a.onB (.yes true h) (.yes false h)⟩
def Pr.truth:Pr:=⟨fun ws h=>iG ws (RG h)⟩
def Pr.append:Pr:=⟨fun ws h=>jE ws (uf h)⟩
def Pr.clear:Pr:=⟨fun ws h=>iG ws (abQ h)⟩
def Pr.list:Pr:=⟨fun ws h=>iG ws (XS h)⟩
def Pr.uM:Pr:=⟨fun ws h=>jE ws (pIn not h)⟩
def Pr.all:Pr:=⟨fun ws h=>iG ws (abR allB h)⟩
def Pr.any:Pr:=⟨fun ws h=>iG ws (abR anyB h)⟩
def Pr.same:Pr:=⟨fun ws h=>jE ws (XR h)⟩
def Pr.tab(tb:List (List Nat × List Int)):Pr:=⟨fun ws h=>jE ws (abS tb h)⟩
def Pr.H_:Pr:=⟨fun ws h=>iG ws (pLs h)⟩
def Pr.abT:Pr:=⟨fun ws h=>ad3 h ws⟩
def Pr.Om:Pr:=⟨fun ws h=>jE ws (XX h)⟩
def oM(p:Pr)(ws:List W)(h:Hs):R W:=p.f ws h
inductive Tg where | nm (i:Nat) | tup (ts:List Tg)
inductive Iv where | lst (n:Nat) | tup (n:Nat) | rng (lo:Int) (n:Nat) | zip (n m:Nat) | dwn (lo:Int) (n:Nat) | enu (n:Nat)
inductive A where | w (w:W) | ws (l:List W) | iv (v:Iv) | fl (f:Fl) | u
def A.toW{β:Type}(a:A)(f:W->R β):R β:=A.rec f (fun _=>.no) (fun _=>.no) (fun _=>.no) .no a
def A.toL{β:Type}(a:A)(f:List W->R β):R β:=A.rec (fun _=>.no) f (fun _=>.no) (fun _=>.no) .no a
def A.toV{β:Type}(a:A)(f:Iv->R β):R β:=A.rec (fun _=>.no) (fun _=>.no) f (fun _=>.no) .no a
def A.toF{β:Type}(a:A)(f:Fl->R β):R β:=A.rec (fun _=>.no) (fun _=>.no) (fun _=>.no) f .no a
abbrev Ks:=List (Nat->Nat->List W->Hs->R A)
abbrev Dn:=Ks->Nat->Sg->Hs->R A
structure X where
 f:Dn
structure I where
 f:Dn
structure S where
 f:Dn
inductive G where | mk (i:I) (t:Tg) (c:Option X)
inductive Fn where | mk (np n:Nat) (body:List S) | non
def ofW(r:R W):R A:=R.rec (fun w h=>.ok (.w w) h) (fun C f h=>.ex C f h) .no r
def goA(es:List X):Dn:=List.rec (fun _ _ _ h=>.ok (.ws []) h) (fun e _ ih K n τ h=>R.rec (motive:=fun _=>R A) (fun r h=>A.rec (motive:=fun _=>R A) (fun w=>R.rec (motive:=fun _=>R A) (fun r h=>A.rec (motive:=fun _=>R A) (fun _=>.no) (fun ws=>.ok (.ws (w::ws)) h) (fun _=>.no) (fun _=>.no) .no r) (fun C fs h=>.ex C fs h) .no (ih K n τ h)) (fun _=>.no) (fun _=>.no) (fun _=>.no) .no r) (fun C fs h=>.ex C fs h) .no (e.f K n τ h)) es
def Cr(ss:List S):Dn:=List.rec (fun _ _ τ h=>.ok (.fl (.nx τ)) h) (fun s _ ih K n τ h=>R.rec (motive:=fun _=>R A) (fun r h=>A.rec (motive:=fun _=>R A) (fun _=>.no) (fun _=>.no) (fun _=>.no) (fun f=>Fl.rec (motive:=fun _=>R A) (fun τ=>ih K n τ h) (fun w=>.ok (.fl (.rt w)) h) (fun τ=>.ok (.fl (.bk τ)) h) (fun τ=>.ok (.fl (.ct τ)) h) f) .no r) (fun C fs h=>.ex C fs h) .no (s.f K n τ h)) ss
def bindL(f:Tg->W->Sg->Option Sg)(ts:List Tg):List W->Sg->Option Sg:=List.rec (fun ws τ=>List.rec (some τ) (fun _ _ _=>none) ws) (fun t _ ih ws τ=>List.rec none (fun w r _=>Option.rec none (fun τ=>ih r τ) (f t w τ)) ws) ts
def cY(h:Hs)(n:Nat):Tg->W->Sg->Option Sg:=Nat.rec (fun _ _ _=>none) (fun _ ih t w τ=>Tg.casesOn t (fun i=>some (setAt τ (some w) i)) fun ts=>
 W.elim w none (fun _=>none) (fun _=>none) (fun _=>none) fun k=>Option.rec none (fun o=>O.rec (fun xs=>bindL ih ts xs τ) (fun _=>none) (fun _ _=>none) (fun _=>none) (fun _=>none) (fun _=>none) o) (h.get k)) n
def Iv.next{β:Type}(v:Iv)(i:Nat)(h:Hs)(fin:R β)(go:W->Hs->R β):R β:=
 Iv.rec (fun n=>Opt (h.get n) fun o=>o.onS fun xs=>Option.rec fin (fun w=>go w h) (nth xs i)) (fun n=>Opt (h.get n) fun o=>o.onT fun xs=>Option.rec fin (fun w=>go w h) (nth xs i)) (fun lo n=>Bool.rec fin (go (.int (lo + .ofNat i)) h) (Nat.ble (Nat.add i 1) n))
  (fun n m=>Opt (h.get n) fun o=>o.onS fun xs=>Opt (h.get m) fun o=>o.onS fun ys=>Option.rec fin (fun x=>Option.rec fin (fun y=>go (.ref h.n) (h.push (.tup [x,y]))) (nth ys i)) (nth xs i))
  (fun lo n=>Bool.rec fin (go (.int (lo - .ofNat i)) h) (Nat.ble (Nat.add i 1) n))
  (fun n=>Opt (h.get n) fun o=>o.onS fun xs=>Option.rec fin (fun x=>go (.ref h.n) (h.push (.tup [.int (.ofNat i),x]))) (nth xs i)) v
def yN(nt:Nat)(idx:List Nat)(τ:Sg):Sg:=Nat.rec (List.rec [] (fun i _ r=>bh τ i::r) idx) (fun _ r=>none::r) nt
def ae0(n:Nat)(i:Int):Nat:=Int.rec (fun k=>ifB (Nat.ble k n) k n) (fun k=>n - (k+1)) i
def Ia(K:Ks)(n:Nat)(e:Option X)(τ:Sg)(h:Hs)(k:Option Int->Hs->R A):R A:=
 Option.rec (k none h) (fun e=>(e.f K n τ h).bind fun a h=>a.toW fun w=>w.onI fun i=>k (some i) h) e
def sIx(n d:Nat)(o:Option Int):Nat:=Option.rec d (ae0 n) o
def frame(n:Nat)(ws:List W):Sg:=app (List.rec [] (fun w _ r=>some w::r) ws) (Nat.rec [] (fun _ r=>none::r) (n - len ws))
def G7(h:Hs)(f:Fl):R A:=Fl.rec (fun _=>.ok (.w .non) h) (fun w=>.ok (.w w) h) (fun _=>.no) (fun _=>.no) f
def ad4(K:Ks)(n:Nat)(h:Hs)(ws:List W)(F:Fn):R A:=Fn.rec (fun np k b=>ifB (Nat.beq (len ws) np) ((Cr b K n (frame k ws) h).bind fun r h=>r.toF fun f=>G7 h f) .no) .no F
def jV(Pg:List Fn)(d:Nat):Ks:=Nat.rec [] (fun _ K=>(fun n f ws h=>Opt (nth Pg f) (ad4 K n h ws))::K) d
def zZ(f:Nat)(ws:List W)(K:Ks)(n:Nat)(h:Hs):R A:=Nat.rec .no (fun n _=>List.rec .no (fun c _ _=>c n f ws h) K) n
def Oo(h:Hs)(f:Fl)(go:Sg->R A):R A:=Fl.rec go (fun w=>.ok (.fl (.rt w)) h) (fun τ=>.ok (.fl (.nx τ)) h) go f
def abU(v:Iv)(t:Tg)(b:List S)(K:Ks)(n:Nat):Nat->Sg->Hs->R A:=Nat.rec (fun _ _ _=>.no) (fun n ih i τ h=>v.next i h (.ok (.fl (.nx τ)) h) fun w h=>Opt (cY h 9 t w τ) fun τ=>(Cr b K n τ h).bind fun r h=>r.toF fun f=>Oo h f fun τ=>ih (Nat.add i 1) τ h) n
def ae1(c:X)(b:List S)(K:Ks)(n:Nat):Sg->Hs->R A:=Nat.rec (fun _ _=>.no) (fun n ih τ h=>(c.f K n τ h).bind fun r h=>r.toW fun w=>w.onB (.ok (.fl (.nx τ)) h) ((Cr b K n τ h).bind fun r h=>r.toF fun f=>Oo h f fun τ=>ih τ h)) n
def test(K:Ks)(m:Nat)(τ:Sg)(h:Hs)(c:Option X)(n k:Hs->R A):R A:=Option.rec (k h) (fun c=>(c.f K m τ h).bind fun r h=>r.toW fun w=>w.onB (n h) (k h)) c
def emit(h:Hs)(D:Nat)(w:W)(k:Hs->R A):R A:=(uf h (.ref D) w).bind fun _ h=>k h
def ae2(v:Iv)(t:Tg)(c:Option X)(e:X)(D:Nat)(K:Ks)(n:Nat):Nat->Sg->Hs->R A:=Nat.rec (fun _ _ _=>.no) (fun n ih i τ h=>v.next i h (.ok .u h) fun w h=>Opt (cY h 9 t w τ) fun τ1=>
 test K n τ1 h c (fun h=>ih (Nat.add i 1) τ h) (fun h=>(e.f K n τ1 h).bind fun r h=>r.toW fun w=>emit h D w fun h=>ih (Nat.add i 1) τ h)) n
def inner(K:Ks)(n:Nat)(τ:Sg)(h:Hs)(e:X)(D:Nat)(m:Option G)(k:Hs->R A):R A:=
 Option.rec ((e.f K n τ h).bind fun r h=>r.toW fun w=>emit h D w k) (fun g=>G.rec (fun i t c=>(i.f K n τ h).bind fun r h=>r.toV fun v=>(ae2 v t c e D K n 0 τ h).bind fun _ h=>k h) g) m
def abV(v:Iv)(t:Tg)(c:Option X)(m:Option G)(e:X)(D:Nat)(K:Ks)(n:Nat):Nat->Sg->Hs->R A:=Nat.rec (fun _ _ _=>.no) (fun n ih i τ h=>v.next i h (.ok .u h) fun w h=>Opt (cY h 9 t w τ) fun τ1=>
 test K n τ1 h c (fun h=>ih (Nat.add i 1) τ h) (fun h=>inner K n τ1 h e D m fun h=>ih (Nat.add i 1) τ h)) n
def X.var(i:Nat):X:=⟨fun _ _ τ h=>Option.rec (motive:=fun _=>R A) .no (fun w=>.ok (.w w) h) (bh τ i)⟩
def X.cst(w:W):X:=⟨fun _ _ _ h=>.ok (.w w) h⟩
def X.pr(p:Pr)(as:List X):X:=⟨fun K n τ h=>R.rec (motive:=fun _=>R A) (fun r h=>A.rec (motive:=fun _=>R A) (fun _=>.no) (fun ws=>R.rec (motive:=fun _=>R A) (fun w h=>.ok (.w w) h) (fun C f h=>.ex C f h) .no (p.f ws h)) (fun _=>.no) (fun _=>.no) .no r) (fun C fs h=>.ex C fs h) .no (goA as K n τ h)⟩
def X.and(a b:X):X:=⟨fun K n τ h=>R.rec (motive:=fun _=>R A) (fun r h=>A.rec (motive:=fun _=>R A) (fun w=>W.rec (motive:=fun _=>R A) .no (fun bb=>Bool.rec (motive:=fun _=>R A) (.ok (.w (.bl false)) h) (b.f K n τ h) bb) (fun _=>.no) (fun _=>.no) (fun _=>.no) w) (fun _=>.no) (fun _=>.no) (fun _=>.no) .no r) (fun C fs h=>.ex C fs h) .no (a.f K n τ h)⟩
def X.or(a b:X):X:=⟨fun K n τ h=>R.rec (motive:=fun _=>R A) (fun r h=>A.rec (motive:=fun _=>R A) (fun w=>W.rec (motive:=fun _=>R A) .no (fun bb=>Bool.rec (motive:=fun _=>R A) (b.f K n τ h) (.ok (.w (.bl true)) h) bb) (fun _=>.no) (fun _=>.no) (fun _=>.no) w) (fun _=>.no) (fun _=>.no) (fun _=>.no) .no r) (fun C fs h=>.ex C fs h) .no (a.f K n τ h)⟩
def X.ite(c a b:X):X:=⟨fun K n τ h=>R.rec (motive:=fun _=>R A) (fun r h=>A.rec (motive:=fun _=>R A) (fun w=>W.rec (motive:=fun _=>R A) .no (fun bb=>Bool.rec (motive:=fun _=>R A) (b.f K n τ h) (a.f K n τ h) bb) (fun _=>.no) (fun _=>.no) (fun _=>.no) w) (fun _=>.no) (fun _=>.no) (fun _=>.no) .no r) (fun C fs h=>.ex C fs h) .no (c.f K n τ h)⟩
def X.slice(a:X)(lo hi:Option X):X:=⟨fun K n τ h=>(a.f K n τ h).bind fun r h=>r.toW fun w=>Ia K n lo τ h fun l h=>Ia K n hi τ h fun u h=>h.at w fun _ o=>
 O.rec (fun xs=>ifB (ifB (Nat.beq (sIx (len xs) 0 l) 0) (Nat.beq (sIx (len xs) (len xs) u) (len xs)) false) .no (ofW (.alloc h (.tup (tak (drp xs (sIx (len xs) 0 l)) (sIx (len xs) (len xs) u - sIx (len xs) 0 l)))))) (fun xs=>ofW (.alloc h (.lst (tak (drp xs (sIx (len xs) 0 l)) (sIx (len xs) (len xs) u - sIx (len xs) 0 l))))) (fun _ _=>.no) (fun _=>.no) (fun _=>.no) (fun _=>.no) o⟩
def X.call(f:Nat)(as:List X):X:=⟨fun K n τ h=>(goA as K n τ h).bind fun a h=>a.toL fun ws=>zZ f ws K n h⟩
def X.comp(nt:Nat)(idx:List Nat)(it:I)(t:Tg)(c:Option X)(m:Option G)(e:X):X:=⟨fun K n τ h=>(it.f K n τ h).bind fun r h=>r.toV fun v=>
 (abV v t c m e h.n K n 0 (yN nt idx τ) (h.push (.lst []))).nox.bind fun _ h'=>.ok (.w (.ref h.n)) h'⟩
def X.fld(C:Nat)(o:X)(f:List Nat):X:=⟨fun K n τ h=>(o.f K n τ h).bind fun r h=>r.toW fun w=>h.at w fun _ o=>o.onI fun C' fs=>ifB (Nat.beq C C') (Opt (fget fs f) fun w=>.ok (.w w) h) .no⟩
def X.meth(C:Nat)(m:List Nat)(f:Nat)(o:X)(as:List X):X:=⟨fun K n τ h=>(o.f K n τ h).bind fun r h=>r.toW fun w=>h.at w fun _ o=>o.onI fun C' fs=>
 ifB (Nat.beq C C') (Option.rec ((goA as K n τ h).bind fun a h=>a.toL fun ws=>zZ f (w::ws) K n h) (fun _=>.no) (fget fs m)) .no⟩
def X.make(C f:Nat)(as:List X):X:=⟨fun K n τ h=>(goA as K n τ h).bind fun a h=>a.toL fun ws=>(zZ f (.ref h.n::ws) K n (h.push (.ins C []))).bind fun r h'=>r.toW fun w=>ifB (zY w) (.ok (.w (.ref h.n)) h') .no⟩
def z6:List Nat:=[116,111,108,100]
def noT:List Nat:=[110,111]
def o9:List Nat:=[119,111,114,100]
def X.told(nx:Nat)(idx:List Nat)(e:X):X:=⟨fun K n τ h=>List.rec .no (fun _ K1 _=>List.rec .no (fun _ K2 _=>
 R.rec (fun r h=>r.toW fun w=>ofW (.alloc h (.tup [.str z6,w]))) (fun C fs h=>ifB (Nat.ble (C+1) nx) (Opt (fget fs o9) fun w=>ofW (.alloc h (.tup [.str noT,w]))) .no) .no (e.f K2 n (yN 0 idx τ) h)) K1) K⟩
def X.lm(p:Pr)(a:X)(as:List X):X:=⟨fun K n τ h=>(a.f K n τ h).bind fun r h=>r.toW fun w=>h.at w fun _ o=>o.onL fun _=>(goA as K n τ h).bind fun r h=>r.toL fun ws=>ofW (oM p (w::ws) h)⟩
def I.seq(e:X):I:=⟨fun K n τ h=>(e.f K n τ h).bind fun r h=>r.toW fun w=>h.at w fun n o=>O.casesOn o (fun _=>.ok (.iv (.tup n)) h) (fun _=>.ok (.iv (.lst n)) h) (fun _ _=>.no) (fun _=>.no) (fun _=>.no) (fun _=>.no)⟩
def within(i:Int)(k:R A):R A:=ifB (ilt i 1000000000) (ifB (ilt (-1000000000) i) k .no) .no
def Oq(ws:List W)(f:W->R A):R A:=List.rec .no (fun a r _=>List.rec (f a) (fun _ _ _=>.no) r) ws
def Cu(ws:List W)(f:W->W->R A):R A:=List.rec .no (fun a r _=>List.rec .no (fun b r _=>List.rec (f a b) (fun _ _ _=>.no) r) r) ws
def I.pU(as:List X):I:=⟨fun K n τ h=>(goA as K n τ h).bind fun r h=>r.toL fun ws=>Oq ws fun w=>w.onI fun j=>within j (.ok (.iv (.rng 0 j.toNat)) h)⟩
def I.abW(as:List X):I:=⟨fun K n τ h=>(goA as K n τ h).bind fun r h=>r.toL fun ws=>Cu ws fun v w=>v.onI fun i=>w.onI fun j=>within i (within j (.ok (.iv (.rng i (j - i).toNat)) h))⟩
def I.zip(as:List X):I:=⟨fun K n τ h=>(goA as K n τ h).bind fun r h=>r.toL fun ws=>Cu ws fun v w=>h.at v fun n o=>o.onL fun _=>h.at w fun m o=>o.onL fun _=>.ok (.iv (.zip n m)) h⟩
def I.enu(as:List X):I:=⟨fun K n τ h=>(goA as K n τ h).bind fun r h=>r.toL fun ws=>Oq ws fun v=>h.at v fun n o=>o.onL fun _=>.ok (.iv (.enu n)) h⟩
def S.asg(t:Tg)(e:X):S:=⟨fun K n τ h=>(e.f K n τ h).bind fun r h=>r.toW fun w=>Opt (cY h 9 t w τ) fun τ=>.ok (.fl (.nx τ)) h⟩
def S.expr(e:X):S:=⟨fun K n τ h=>(e.f K n τ h).bind fun r h=>r.toW fun _=>.ok (.fl (.nx τ)) h⟩
def S.ret(e:X):S:=⟨fun K n τ h=>(e.f K n τ h).bind fun r h=>r.toW fun w=>.ok (.fl (.rt w)) h⟩
def S.ife(c:X)(a b:List S):S:=⟨fun K n τ h=>(c.f K n τ h).bind fun r h=>r.toW fun w=>w.onB (Cr b K n τ h) (Cr a K n τ h)⟩
def S.for_(i:I)(t:Tg)(b:List S):S:=⟨fun K n τ h=>(i.f K n τ h).bind fun r h=>r.toV fun v=>abU v t b K n 0 τ h⟩
def S.bk:S:=⟨fun _ _ τ h=>.ok (.fl (.bk τ)) h⟩
def S.ct:S:=⟨fun _ _ τ h=>.ok (.fl (.ct τ)) h⟩
def S.raise(C:Nat)(c:List Nat):S:=⟨fun _ _ _ h=>.ex C [(o9,.str c)] h⟩
def S.Ot(C:Nat)(o:X)(f:List Nat)(e:X):S:=⟨fun K n τ h=>(e.f K n τ h).bind fun r h=>r.toW fun w=>(o.f K n τ h).bind fun r h=>r.toW fun o=>h.at o fun n o=>o.onI fun C' fs=>ifB (Nat.beq C C') (ifB (Nat.ble (len fs) 900) (.ok (.fl (.nx τ)) (h.set n (.ins C (Oh f w fs)))) .no) .no⟩
def S.par(i j:Nat)(a b:X):S:=⟨fun K n τ h=>(goA [a,b] K n τ h).bind fun r h=>r.toL fun ws=>Cu ws fun u w=>.ok (.fl (.nx (setAt (setAt τ (some u) i) (some w) j))) h⟩
def S.dput(o k v:X):S:=⟨fun K n τ h=>(v.f K n τ h).bind fun r h=>r.toW fun w=>(o.f K n τ h).bind fun r h=>r.toW fun a=>(k.f K n τ h).bind fun r h=>r.toW fun b=>h.at a fun n o=>o.onD fun kvs=>ifB (wC b) (ifB (Nat.ble (len kvs) 1000000) (.ok (.fl (.nx τ)) (h.set n (.dk (G6 kvs b w)))) .no) .no⟩
inductive Q where
 | x (e:X) | a (es:List X) | i (e:I) | s (s:S) | ss (l:List S)
 | lp (v:Iv) (i:Nat) (t:Tg) (b:List S) | wh (c:X) (b:List S)
 | cl (v:Iv) (i:Nat) (t:Tg) (c:Option X) (m:Option G) (e:X) (D:Nat)
 | call (f:Nat) (ws:List W)
abbrev E:=Nat->Q->Sg->Hs->R A
def evs(Pg:List Fn)(n:Nat):E:=fun d q τ h=>Q.rec (fun e=>e.f (jV Pg d) n τ h) (fun es=>goA es (jV Pg d) n τ h) (fun e=>e.f (jV Pg d) n τ h) (fun s=>s.f (jV Pg d) n τ h) (fun l=>Cr l (jV Pg d) n τ h)
 (fun v i t b=>abU v t b (jV Pg d) n i τ h) (fun c b=>ae1 c b (jV Pg d) n τ h) (fun v i t c m e D=>abV v t c m e D (jV Pg d) n i τ h) (fun f ws=>zZ f ws (jV Pg d) n h) q
def body(V:E)(d:Nat)(h:Hs)(ws:List W)(F:Fn):R A:=Fn.rec (fun np n b=>ifB (Nat.beq (len ws) np) ((V d (.ss b) (frame n ws) h).bind fun r h=>r.toF fun f=>G7 h f) .no) .no F
end
theorem qW{α:Type}(xs ys:List α):app xs ys=xs++ys:=by
 induction xs with
 | nil=>rfl
 | cons x xs ih=>exact congrArg (x::·) ih
theorem len_eq{α:Type}(xs:List α):len xs=xs.length:=by
 induction xs with
 | nil=>rfl
 | cons x xs ih=>exact congrArg (· + 1) ih
theorem pH{α:Type}(xs:List α)(i:Nat):nth xs i=xs[i]?:=by
 induction xs generalizing i with
 | nil=>rfl
 | cons x xs ih=>cases i with
   | zero=>rfl
   | succ i=>exact ih i
theorem RJ{α:Type}(xs:List α)(i:Nat):drp xs i=xs.drop i:=by
 induction xs generalizing i with
 | nil=>cases i <;> rfl
 | cons x xs ih=>cases i with
   | zero=>rfl
   | succ i=>exact ih i
theorem RK{α:Type}(xs:List α)(i:Nat):tak xs i=xs.take i:=by
 induction xs generalizing i with
 | nil=>cases i <;> rfl
 | cons x xs ih=>cases i with
   | zero=>rfl
   | succ i=>exact congrArg (x::·) (ih i)
theorem oN{α:Type}(xs:List α)(w:α)(i:Nat):setAt xs w i=xs.set i w:=by
 induction xs generalizing i with
 | nil=>cases i <;> rfl
 | cons x xs ih=>cases i with
   | zero=>rfl
   | succ i=>exact congrArg (x::·) (ih i)
theorem oO(xs:Sg)(i:Nat):bh xs i=(xs[i]?).getD none:=by
 induction xs generalizing i with
 | nil=>cases i <;> rfl
 | cons x xs ih=>cases i with
   | zero=>rfl
   | succ i=>exact ih i
theorem iw{a b:Nat}:Nat.beq a b=true ↔ a=b:=⟨Nat.eq_of_beq_eq_true,fun h=>by subst h;exact Nat.beq_refl a⟩
theorem qt{a b:Nat}:Nat.beq a b=false ↔ a ≠ b:=by
 rw[<- Bool.not_eq_true,iw]
theorem ble_eq(a b:Nat):Nat.ble a b=decide (a<=b):=by
 cases h:Nat.ble a b with
 | true=>exact(decide_eq_true (Nat.le_of_ble_eq_true h)).symm
 | false=>exact(decide_eq_false fun z=>by rw[Nat.ble_eq_true_of_le z]at h;cases h).symm
theorem bQ{x y:List Nat}:codes x y=true ↔ x=y:=by
 induction x generalizing y with
 | nil=>cases y with
   | nil=>exact⟨fun _=>rfl,fun _=>rfl⟩
   | cons b r=>exact⟨fun h=>Bool.noConfusion h,fun h=>nomatch h⟩
 | cons a x ih=>cases y with
   | nil=>exact⟨fun h=>Bool.noConfusion h,fun h=>nomatch h⟩
   | cons b r=>
     show ifB (Nat.beq a b) (codes x r) false=true ↔ _
     cases e:Nat.beq a b with
     | true=>rw[iw.mp e];exact ih.trans ⟨fun h=>by rw[h],fun h=>(List.cons.inj h).2⟩
     | false=>exact⟨fun h=>Bool.noConfusion h,fun h=>absurd (List.cons.inj h).1 (qt.mp e)⟩
theorem jW(i j:Int):ieq i j=decide (i=j):=by
 cases i with
 | ofNat a=>cases j with
   | ofNat b=>
     show Nat.beq a b=_
     cases e:Nat.beq a b with
     | true=>rw[iw.mp e];exact(decide_eq_true rfl).symm
     | false=>exact(decide_eq_false fun z=>qt.mp e (Int.ofNat.inj z)).symm
   | negSucc b=>exact(decide_eq_false fun z=>nomatch z).symm
 | negSucc a=>cases j with
   | ofNat b=>exact(decide_eq_false fun z=>nomatch z).symm
   | negSucc b=>
     show Nat.beq a b=_
     cases e:Nat.beq a b with
     | true=>rw[iw.mp e];exact(decide_eq_true rfl).symm
     | false=>exact(decide_eq_false fun z=>qt.mp e (Int.negSucc.inj z)).symm
theorem nG(i j:Int):ilt i j=decide (i<j):=by
 cases i with
 | ofNat a=>cases j with
   | ofNat b=>
     show Nat.ble (a+1) b=_;rw[ble_eq]
     exact decide_eq_decide.mpr ⟨fun h=>by have:(a:Int)<b:=by omega
                                           exact this,fun h=>by have:(a:Int)<b:=h
                                                                omega⟩
   | negSucc b=>exact(decide_eq_false (by intro h;have:(a:Int)<Int.negSucc b:=h;omega)).symm
 | negSucc a=>cases j with
   | ofNat b=>exact(decide_eq_true (by show Int.negSucc a<(b:Int);omega)).symm
   | negSucc b=>
     show Nat.ble (b+1) a=_;rw[ble_eq];exact decide_eq_decide.mpr ⟨fun h=>by omega,fun h=>by omega⟩
theorem get_set(d:Nat):∀(t:Tr) (k k':Nat) (o:O),k<d->(t.set d k o).get k'=if k'=k then some o else t.get k':=by
 induction d with
 | zero=>intro t k k' o h;exact absurd h (Nat.not_lt_zero _)
 | succ d ih=>
   intro t k k' o h;have half:∀ a b:Nat,a % 2=b % 2->(a / 2=b / 2 ↔ a+1=b+1):=fun a b e=>by omega
   cases t with
   | lf=>
     cases k with
     | zero=>cases k' with
       | zero=>rfl
       | succ k'=>
         show ifB (Nat.beq (k' % 2) 0) (Tr.get .lf (k' / 2)) (Tr.get .lf (k' / 2))=_;rw[if_neg (by omega)]
         cases Nat.beq (k' % 2) 0 <;> rfl
     | succ k=>
       have hk:k / 2<d:=by omega
       show(ifB (Nat.beq (k % 2) 0) (Tr.nd none (Tr.set d .lf (k / 2) o) .lf) (Tr.nd none .lf (Tr.set d .lf (k / 2) o)):Tr).get k'=_
       cases e:Nat.beq (k % 2) 0 with
       | true=>cases k' with
         | zero=>rfl
         | succ k'=>
           show ifB (Nat.beq (k' % 2) 0) (Tr.get (Tr.set d .lf (k / 2) o) (k' / 2)) (Tr.get .lf (k' / 2))=_;have e1:=iw.mp e
           cases e':Nat.beq (k' % 2) 0 with
           | true=>
             have e2:=iw.mp e';show Tr.get (Tr.set d .lf (k / 2) o) (k' / 2)=_;rw[ih .lf _ _ _ hk]
             by_cases z:k' / 2=k / 2
             · rw[if_pos z,if_pos (by omega)]
             · rw[if_neg z,if_neg (by omega)];rfl
           | false=>
             have e2:=qt.mp e';show none=_
             rw[if_neg (by intro z;apply e2;have:k'=k:=(by omega);rw[this];exact e1)];rfl
       | false=>cases k' with
         | zero=>rfl
         | succ k'=>
           show ifB (Nat.beq (k' % 2) 0) (Tr.get .lf (k' / 2)) (Tr.get (Tr.set d .lf (k / 2) o) (k' / 2))=_;have e1:=qt.mp e
           cases e':Nat.beq (k' % 2) 0 with
           | false=>
             have e2:=qt.mp e';show Tr.get (Tr.set d .lf (k / 2) o) (k' / 2)=_;rw[ih .lf _ _ _ hk]
             by_cases z:k' / 2=k / 2
             · rw[if_pos z,if_pos (by omega)]
             · rw[if_neg z,if_neg (by omega)];rfl
           | true=>
             have e2:=iw.mp e';show none=_
             rw[if_neg (by intro z;apply e1;have:k'=k:=(by omega);rw[<- this];exact e2)];rfl
   | nd x l r=>
     cases k with
     | zero=>cases k' with
       | zero=>rfl
       | succ k'=>rw[if_neg (by omega)];rfl
     | succ k=>
       have hk:k / 2<d:=by omega
       show(ifB (Nat.beq (k % 2) 0) (Tr.nd x (Tr.set d l (k / 2) o) r) (Tr.nd x l (Tr.set d r (k / 2) o)):Tr).get k'=_
       cases e:Nat.beq (k % 2) 0 with
       | true=>cases k' with
         | zero=>rfl
         | succ k'=>
           show ifB (Nat.beq (k' % 2) 0) (Tr.get (Tr.set d l (k / 2) o) (k' / 2)) (Tr.get r (k' / 2))=(if k'+1=k+1 then some o else ifB (Nat.beq (k' % 2) 0) (Tr.get l (k' / 2)) (Tr.get r (k' / 2)));have e1:=iw.mp e
           cases e':Nat.beq (k' % 2) 0 with
           | true=>
             have e2:=iw.mp e';show Tr.get (Tr.set d l (k / 2) o) (k' / 2)=(if k'+1=k+1 then some o else Tr.get l (k' / 2));rw[ih l _ _ _ hk]
             by_cases z:k' / 2=k / 2
             · rw[if_pos z,if_pos (by omega)]
             · rw[if_neg z,if_neg (by omega)]
           | false=>
             have e2:=qt.mp e';show Tr.get r (k' / 2)=(if k'+1=k+1 then some o else Tr.get r (k' / 2))
             rw[if_neg (by intro z;apply e2;have:k'=k:=(by omega);rw[this];exact e1)]
       | false=>cases k' with
         | zero=>rfl
         | succ k'=>
           show ifB (Nat.beq (k' % 2) 0) (Tr.get l (k' / 2)) (Tr.get (Tr.set d r (k / 2) o) (k' / 2))=(if k'+1=k+1 then some o else ifB (Nat.beq (k' % 2) 0) (Tr.get l (k' / 2)) (Tr.get r (k' / 2)));have e1:=qt.mp e
           cases e':Nat.beq (k' % 2) 0 with
           | false=>
             have e2:=qt.mp e';show Tr.get (Tr.set d r (k / 2) o) (k' / 2)=(if k'+1=k+1 then some o else Tr.get r (k' / 2));rw[ih r _ _ _ hk]
             by_cases z:k' / 2=k / 2
             · rw[if_pos z,if_pos (by omega)]
             · rw[if_neg z,if_neg (by omega)]
           | true=>
             have e2:=iw.mp e';show Tr.get l (k' / 2)=(if k'+1=k+1 then some o else Tr.get l (k' / 2));rw[if_neg (by intro z;apply e1;have:k'=k:=(by omega);rw[<- this];exact e2)]
theorem Hs.z7(h:Hs)(o:O):(h.push o).n=h.n+1:=by cases h;rfl
theorem Hs.ad5(h:Hs)(k:Nat)(o:O):(h.set k o).n=h.n:=by cases h;rfl
theorem Hs.uN(h:Hs)(o:O)(k:Nat):(h.push o).get k=if k=h.n then some o else h.get k:=by
 cases h with | mk n t=>exact get_set (n+1) t n k o (Nat.lt_succ_self n)
theorem Hs.get_set(h:Hs)(o:O)(j k:Nat):(h.set j o).get k=if k=j then some o else h.get k:=by
 cases h with | mk n t=>exact Ev.get_set (j+1) t j k o (Nat.lt_succ_self j)
end Ev
namespace Ev
open PySem L2
inductive RW (ρ:List Addr):W->V->Prop
 | non:RW ρ .non .non
 | bl (b):RW ρ (.bl b) (.bl b)
 | int (i):RW ρ (.int i) (.int i)
 | str (c):RW ρ (.str c) (.str ⟨c.toArray⟩)
 | ref {n a}:ρ[n]? =some a->RW ρ (.ref n) (.ref a)
theorem RW.inj{ρ:List Addr}{w:W}{v v':V}(h:RW ρ w v)(h':RW ρ w v'):v=v':=by
 cases h <;> cases h' <;> first | rfl | skip
 rename_i a e a' e';rw[e]at e';rw[Option.some.inj e']
theorem dM{ρ ρ':List Addr}(e:ρ <+:ρ'){n:Nat}{a:Addr}(h:ρ[n]? =some a):ρ'[n]? =some a:=by
 obtain⟨t,rfl⟩:=e;have hn:n<ρ.length:=(aZ h).1;rw[List.getElem?_append_left hn];exact h
theorem RW.mono{ρ ρ':List Addr}(e:ρ <+:ρ'){w:W}{v:V}(h:RW ρ w v):RW ρ' w v:=by
 cases h with
 | non=>exact .non
 | bl b=>exact .bl b
 | int i=>exact .int i
 | str c=>exact .str c
 | ref h=>exact .ref (dM e h)
abbrev RWs(ρ:List Addr):List W->List V->Prop:=Paired (RW ρ)
theorem RWs.mono{ρ ρ':List Addr}(e:ρ <+:ρ'){ws:List W}{vs:List V}(h:RWs ρ ws vs):RWs ρ' ws vs:=Paired.lC h fun _ _ r=>r.mono e
theorem RWs.inj{ρ:List Addr}:∀ {ws:List W} {vs vs':List V},RWs ρ ws vs->RWs ρ ws vs'->vs=vs'
 | _,_,_,.nil,.nil=>rfl
 | _,_,_,.cons r t,.cons r' t'=>by rw[r.inj r',RWs.inj t t']
theorem RWs.get{ρ:List Addr}:∀ {ws:List W} {vs:List V} {i:Nat} {w:W},RWs ρ ws vs->ws[i]? =some w->∃ v,vs[i]? =some v/\RW ρ w v
 | _,_,_,_,.nil,e=>by simp at e
 | _,_,0,_,.cons r _,e=>by simp at e;subst e;exact⟨_,rfl,r⟩
 | _,_,i+1,w,.cons _ t,e=>by
   obtain⟨u,h1,h2⟩:=RWs.get (i:=i) (w:=w) t (by simpa using e);exact⟨u,by simpa using h1,h2⟩
theorem RWs.append{ρ:List Addr}:∀ {xs ys:List W} {us ws:List V},RWs ρ xs us->RWs ρ ys ws->RWs ρ (xs++ys) (us++ws)
 | _,_,_,_,.nil,s=>s
 | _,_,_,_,.cons r t,s=>.cons r (RWs.append t s)
theorem RWs.take{ρ:List Addr}:∀ {xs:List W} {us:List V} (n:Nat),RWs ρ xs us->RWs ρ (xs.take n) (us.take n)
 | _,_,0,_=>.nil
 | _,_,_+1,.nil=>.nil
 | _,_,n+1,.cons r t=>.cons r (RWs.take n t)
theorem RWs.drop{ρ:List Addr}:∀ {xs:List W} {us:List V} (n:Nat),RWs ρ xs us->RWs ρ (xs.drop n) (us.drop n)
 | _,_,0,r=>r
 | _,_,_+1,.nil=>.nil
 | _,_,n+1,.cons _ t=>RWs.drop n t
theorem RWs.length{ρ:List Addr}{ws:List W}{vs:List V}(h:RWs ρ ws vs):ws.length=vs.length:=Paired.length h
def RO(ρ:List Addr):Option W->Option V->Prop
 | none,_=>True
 | some w,some v=>RW ρ w v
 | some _,none=>False
theorem RO.mono{ρ ρ':List Addr}(e:ρ <+:ρ'):∀ {w:Option W} {v:Option V},RO ρ w v->RO ρ' w v
 | none,_,_=>trivial
 | some _,some _,h=>RW.mono e h
abbrev RS(ρ:List Addr):Sg->St->Prop:=Paired (RO ρ)
theorem RS.mono{ρ ρ':List Addr}(e:ρ <+:ρ'){τ:Sg}{σ:St}(h:RS ρ τ σ):RS ρ' τ σ:=Paired.lC h fun _ _ r=>r.mono e
theorem RS.get{ρ:List Addr}:∀ {τ:Sg} {σ:St} {i:Nat} {w:W},RS ρ τ σ->bh τ i=some w->∃ v,σ[i]? =some (some v)/\RW ρ w v
 | _,_,_,_,.nil,e=>nomatch e
 | some _::_,some v::_,0,_,.cons r _,e=>by cases e;exact⟨v,rfl,r⟩
 | some _::_,none::_,0,_,.cons r _,e=>r.elim
 | none::_,_,0,_,_,e=>nomatch e
 | _::_,_::_,i+1,w,.cons _ t,e=>by
   obtain⟨u,h1,h2⟩:=RS.get (i:=i) (w:=w) t e;exact⟨u,by simpa using h1,h2⟩
theorem RS.set{ρ:List Addr}{w:W}{v:V}(r:RW ρ w v):∀ {τ:Sg} {σ:St} (i:Nat),RS ρ τ σ->RS ρ (setAt τ (some w) i) (σ.set i (some v))
 | _,_,_,.nil=>by rw[oN];exact .nil
 | _::_,_::_,0,.cons _ t=>.cons (show RO ρ (some w) (some v) from r) t
 | _::_,_::_,i+1,.cons q t=>.cons q (RS.set r i t)
def nm(c:List Nat):Str:=⟨c.toArray⟩
theorem pI{a b:List Nat}(h:nm a=nm b):a=b:=by
 have:=congrArg (fun s:Str=>s.cps.toList) h;simpa [nm] using this
def FR(ρ:List Addr):Fs->List (Str × V)->Prop:=Paired fun p q=>q.1=nm p.1/\RW ρ p.2 q.2
theorem FR.mono{ρ ρ':List Addr}(e:ρ <+:ρ'){fs:Fs}{gs:List (Str × V)}(h:FR ρ fs gs):FR ρ' fs gs:=Paired.lC h fun _ _ r=>⟨r.1,r.2.mono e⟩
theorem FR.get{ρ:List Addr}{f:List Nat}:∀ {fs:Fs} {gs:List (Str × V)} {w:W},FR ρ fs gs->fget fs f=some w->∃ v,gs.lookup (nm f)=some v/\RW ρ w v
 | _,_,_,.nil,e=>nomatch e
 | p::fs,(x,v)::gs,w,.cons r t,e=>by
   obtain⟨e1,r1⟩:=r;have e1:x=nm p.1:=e1;have e':ifB (codes p.1 f) (some p.2) (fget fs f)=some w:=e;rw[List.lookup_cons]
   cases c:codes p.1 f with
   | true=>
     rw[c]at e';cases e';rw[e1,bQ.mp c]
     exact⟨v,by simp,r1⟩
   | false=>
     rw[c]at e'
     have:(nm f==x)=false:=by
      rw[e1];refine beq_eq_false_iff_ne.mpr fun z=>?_;rw[bQ.mpr (pI z).symm]at c;cases c
     rw[this];exact FR.get t e'
theorem FR.abX{ρ:List Addr}{f:List Nat}:∀ {fs:Fs} {gs:List (Str × V)},FR ρ fs gs->fget fs f=none->gs.lookup (nm f)=none
 | _,_,.nil,e=>rfl
 | p::fs,(x,v)::gs,.cons r t,e=>by
   obtain⟨e1,r1⟩:=r;have e1:x=nm p.1:=e1;have e':ifB (codes p.1 f) (some p.2) (fget fs f)=none:=e;rw[List.lookup_cons]
   cases c:codes p.1 f with
   | true=>rw[c]at e';cases e'
   | false=>
     rw[c]at e'
     have:(nm f==x)=false:=by
      rw[e1];refine beq_eq_false_iff_ne.mpr fun z=>?_;rw[bQ.mpr (pI z).symm]at c;cases c
     rw[this];exact FR.abX t e'
inductive KW:W->Key->Prop
 | int (i):KW (.int i) (.inl i)
 | str (c):KW (.str c) (.inr ⟨c.toArray⟩)
structure Cn where
 c:Nat->Addr
 P:Addr
 q:Str
 on:Bool
instance:CoeFun Cn (fun _=>Nat->Addr):=⟨Cn.c⟩
section
variable(cl:Cn)
def Tb(H:Hp):Prop:=cl.on=true->∃ ps,H cl.P=some (.tbl ps)/\TriplesOk ps.toList/\∀ pos cv,codeAmong pos ps.toList=some cv->∃ c',cv= .ref c'/\H c'=some (.ext fun h=>h.CodeRec (.ref c') cl.q)
def OA(ρ:List Addr)(H:Hp)(a:Addr):O->Prop
 | .tup xs=>∃ vs,RWs ρ xs vs/\H a=some (.tup vs)
 | .lst xs=>∃ vs,RWs ρ xs vs/\H a=some (.lst vs)
 | .ins C fs=>∃ dx gs,FR ρ fs gs/\H a=some (.ins (cl C) dx gs)
 | .dk kvs=>∃ gs,Paired (fun p q=>KW p.1 q.1/\RW ρ p.2 q.2) kvs gs/\H a=some (.dK gs)
 | .dt kvs=>∃ gs,Paired (fun p q=>Paired KW p.1 q.1/\RW ρ p.2 q.2) kvs gs/\H a=some (.dT gs)
 | .scr ns=>∃ o,H a=some (.frz o (.lst (ns.map V.int)))
structure Sim (ρ:List Addr)(h:Hs)(H:Hp):Prop where
 len:ρ.length=h.n
 nd:ρ.Nodup
 obj:∀ n a,ρ[n]? =some a->∃ o,h.get n=some o/\OA cl ρ H a o
 tb:Tb cl H
end
section
variable{cl:Cn}{ρ ρ':List Addr}{h:Hs}{H H':Hp}
theorem OA.som{a:Addr}{o:O}(x:OA cl ρ H a o):∃ u,H a=some u:=by
 cases o with
 | tup xs=>exact⟨_,x.choose_spec.2⟩
 | lst xs=>exact⟨_,x.choose_spec.2⟩
 | ins C fs=>obtain⟨_,_,_,e⟩:=x;exact⟨_,e⟩
 | dk kvs=>exact⟨_,x.choose_spec.2⟩
 | dt kvs=>exact⟨_,x.choose_spec.2⟩
 | scr ns=>exact⟨_,x.choose_spec⟩
theorem OA.keep{a:Addr}{o:O}(x:OA cl ρ H a o)(e:ρ <+:ρ')(k:H' a=H a):OA cl ρ' H' a o:=by
 cases o with
 | tup xs=>obtain⟨vs,r,q⟩:=x;exact⟨vs,r.mono e,k.trans q⟩
 | lst xs=>obtain⟨vs,r,q⟩:=x;exact⟨vs,r.mono e,k.trans q⟩
 | ins C fs=>obtain⟨dx,gs,r,q⟩:=x;exact⟨dx,gs,r.mono e,k.trans q⟩
 | dk kvs=>obtain⟨gs,r,q⟩:=x;exact⟨gs,Paired.lC r fun _ _ z=>⟨z.1,z.2.mono e⟩,k.trans q⟩
 | dt kvs=>obtain⟨gs,r,q⟩:=x;exact⟨gs,Paired.lC r fun _ _ z=>⟨z.1,z.2.mono e⟩,k.trans q⟩
 | scr ns=>obtain⟨o,q⟩:=x;exact⟨o,k.trans q⟩
def Pl:Option HO->Prop
 | some (.tbl _)=>False
 | some (.ext _)=>False
 | _=>True
theorem Tb.upd{p:Addr}{u:HO}(t:Tb cl H)(n:Pl (H p)):Tb cl (upd H p u):=fun on=>by
 obtain⟨ps,h1,h2,h3⟩:=t on;have ne:∀ {b:Addr} {w:HO},H b=some w->¬ Pl (some w)->b ≠ p:=fun {b w} e z q=>by rw[q]at e;rw[e]at n;exact z n
 refine⟨ps,by rw[aB (ne h1 (fun z=>z))];exact h1,h2,fun pos cv e=>?_⟩;obtain⟨c',e1,e2⟩:=h3 pos cv e;exact⟨c',e1,by rw[aB (ne e2 (fun z=>z))];exact e2⟩
theorem OA.pl{a:Addr}{o:O}(x:OA cl ρ H a o):Pl (H a):=by
 cases o with
 | tup xs=>rw[x.choose_spec.2];trivial
 | lst xs=>rw[x.choose_spec.2];trivial
 | ins C fs=>obtain⟨_,_,_,e⟩:=x;rw[e];trivial
 | dk kvs=>rw[x.choose_spec.2];trivial
 | dt kvs=>rw[x.choose_spec.2];trivial
 | scr ns=>rw[x.choose_spec];trivial
theorem Sim.som(s:Sim cl ρ h H){a:Addr}(e:a ∈ ρ):∃ u,H a=some u:=by
 obtain⟨n,hn⟩:=List.getElem?_of_mem e;obtain⟨o,_,x⟩:=s.obj n a hn;exact x.som
theorem Sim.new(s:Sim cl ρ h H){p:Addr}(e:H p=none):p ∉ ρ:=fun z=>by
 obtain⟨u,q⟩:=s.som z;rw[e]at q;cases q
theorem Sim.at(s:Sim cl ρ h H){n:Nat}{a:Addr}{o:O}(e:ρ[n]? =some a)(q:h.get n=some o):OA cl ρ H a o:=by
 obtain⟨o',q',x⟩:=s.obj n a e;rw[q]at q';cases q';exact x
theorem Sim.push(s:Sim cl ρ h H){p:Addr}{u:HO}{o:O}(e:H p=none)(x:OA cl (ρ ++ [p]) (upd H p u) p o):Sim cl (ρ ++ [p]) (h.push o) (upd H p u) where
 len:=by rw[List.length_append,Hs.z7,s.len];rfl
 nd:=List.nodup_append.mpr ⟨s.nd,by simp,fun a ha b hb z=>by
  simp only[List.mem_singleton]at hb
  exact s.new e (by rw[<- hb,<- z];exact ha)⟩
 obj:=fun n a hn=>by
  rw[Hs.uN]
  by_cases hlt:n<ρ.length
  · rw[List.getElem?_append_left hlt]at hn;obtain⟨o',q,y⟩:=s.obj n a hn;refine⟨o',by rw[if_neg (by rw[<- s.len];omega)];exact q,y.keep (List.prefix_append _ _) ?_⟩;obtain⟨w,hw⟩:=y.som;exact aB (aV hw e)
  · have hn':n=ρ.length:=by
     have:=(aZ hn).1;rw[List.length_append]at this;simp at this;omega
    subst hn';rw[List.getElem?_append_right (aH _),Nat.sub_self]at hn;simp at hn;subst hn;exact⟨o,by rw[if_pos s.len],x⟩
 tb:=s.tb.upd (by rw[e];trivial)
theorem Sim.put(s:Sim cl ρ h H){n:Nat}{a:Addr}{u:HO}{o:O}(e:ρ[n]? =some a)(x:OA cl ρ (upd H a u) a o):Sim cl ρ (h.set n o) (upd H a u) where
 len:=by rw[Hs.ad5,s.len]
 nd:=s.nd
 obj:=fun m b hm=>by
  rw[Hs.get_set]
  by_cases z:m=n
  · subst z;rw[e]at hm;cases hm;exact⟨o,if_pos rfl,x⟩
  · obtain⟨o',q,y⟩:=s.obj m b hm;refine⟨o',by rw[if_neg z];exact q,y.keep (List.prefix_refl _) (aB fun zz=>z ?_)⟩;subst zz;exact(List.getElem?_inj (aZ hm).1 s.nd).mp (hm.trans e.symm)
 tb:=by
  obtain⟨o',_,y⟩:=s.obj n a e;exact s.tb.upd y.pl
def Bt(cl:Cn)(ρ:List Addr)(H:Hp)(ρ':List Addr)(H':Hp):Prop:=ρ <+:ρ'/\∀ b u,H b=some u->b ∉ ρ->b ∉ ρ'/\((cl.on=true->b ≠ cl.P)->H' b=some u)/\∃ u',H' b=some u'
theorem Bt.refl:Bt cl ρ H ρ H:=⟨List.prefix_refl _,fun _ u q n=>⟨n,fun _=>q,u,q⟩⟩
theorem Bt.trans{abY:List Addr}{H'':Hp}(x:Bt cl ρ H ρ' H')(y:Bt cl ρ' H' abY H''):Bt cl ρ H abY H'':=⟨x.1.trans y.1,fun b u q n=>by
 obtain⟨n1,q1,u1,q2⟩:=x.2 b u q n;obtain⟨n2,q3,u2,q4⟩:=y.2 b u1 q2 n1;refine⟨n2,fun c=>?_,u2,q4⟩;have e:=q1 c;rw[q2]at e;cases e
 exact q3 c⟩
theorem Bt.new{p:Addr}{u:HO}(e:H p=none):Bt cl ρ H (ρ ++ [p]) (upd H p u):=⟨List.prefix_append _ _,fun b v q n=>by
 have ne:b ≠ p:=aV q e;have q':upd H p u b=some v:=by rw[aB ne];exact q
 refine⟨fun z=>?_,fun _=>q',v,q'⟩
 rcases List.mem_append.mp z with z | z
 · exact n z
 · simp at z;exact ne z⟩
theorem Bt.put{a:Addr}{u:HO}{n:Nat}(e:ρ[n]? =some a):Bt cl ρ H ρ (upd H a u):=⟨List.prefix_refl _,fun b v q nb=>by
 have q':upd H a u b=some v:=by rw[aB fun z=>nb (by rw[z];exact List.mem_of_getElem? e)];exact q
 exact⟨nb,fun _=>q',v,q'⟩⟩
end
section
variable(cl:Cn)
def Post(ρ:List Addr)(H:Hp)(E:XK){α:Type}(r:R α)(P:α->Hs->List Addr->Hp->Prop):Prop:=match r with
 | .ok a h=>∀ ρ' H',Bt cl ρ H ρ' H'->Sim cl ρ' h H'->P a h ρ' H'
 | .ex C fs h=>∀ ρ' H' dx gs,Bt cl ρ H ρ' H'->Sim cl ρ' h H'->FR ρ' fs gs->dx ∉ ρ'->H' dx=some (.xd gs)->E (.ref (cl C)) (some dx) H'
 | .no=>False
end
section
variable{cl:Cn}{ρ ρ':List Addr}{h:Hs}{H H':Hp}{E:XK}{α β:Type}
theorem Post.mono{r:R α}{P P':α->Hs->List Addr->Hp->Prop}(x:Post cl ρ H E r P)(f:∀ a h ρ' H',Bt cl ρ H ρ' H'->Sim cl ρ' h H'->P a h ρ' H'->P' a h ρ' H'):Post cl ρ H E r P':=by
 cases r with
 | ok a h=>exact fun ρ' H' b s=>f a h ρ' H' b s (x ρ' H' b s)
 | ex C fs h=>exact x
 | no=>exact x
theorem Post.later{r:R α}{P:α->Hs->List Addr->Hp->Prop}(x:Post cl ρ H E r P)(b:Bt cl ρ H ρ' H'):Post cl ρ' H' E r P:=by
 cases r with
 | ok a h=>exact fun ρ2 H2 b2 s=>x ρ2 H2 (b.trans b2) s
 | ex C fs h=>exact fun ρ2 H2 dx gs b2 s f n q=>x ρ2 H2 dx gs (b.trans b2) s f n q
 | no=>exact x
theorem Post.bind{r:R α}{f:α->Hs->R β}{P:β->Hs->List Addr->Hp->Prop}(x:Post cl ρ H E (r.bind f) P):Post cl ρ H E r fun a h1 ρ1 H1=>Post cl ρ1 H1 E (f a h1) P:=by
 cases r with
 | ok a h1=>exact fun ρ1 H1 b s1=>Post.later (ρ:=ρ) (H:=H) x b
 | ex C fs h1=>exact x
 | no=>exact x
end
section
variable(Pg:List Fn)(cl:Cn)(E:XK)(d:Nat)
def VP(Q:VK):A->Hs->List Addr->Hp->Prop:=fun r _ ρ H=>∃ w,r= .w w/\∀ v,RW ρ w v->Q v H
def LP(Q:List V->Hp->Prop):A->Hs->List Addr->Hp->Prop:=fun r _ ρ H=>∃ ws,r= .ws ws/\∀ vs,RWs ρ ws vs->Q vs H
def Ag(σ0:St)(τ:Sg)(σ:St):Prop:=∀ i,bh τ i=none->σ[i]? =σ0[i]?
def FP(σ0:St)(D:Ends)(ρ:List Addr)(H:Hp):Fl->Prop
 | .nx τ=>∀ σ,RS ρ τ σ->Ag σ0 τ σ->D.nx σ H
 | .bk τ=>∀ σ,RS ρ τ σ->Ag σ0 τ σ->D.bk σ H
 | .ct τ=>∀ σ,RS ρ τ σ->Ag σ0 τ σ->D.ct σ H
 | .rt w=>∀ v,RW ρ w v->D.rt v H
def SPo(σ0:St)(D:Ends):A->Hs->List Addr->Hp->Prop:=fun r _ ρ H=>∃ f,r= .fl f/\FP σ0 D ρ H f
def ev(q:Q)(σ:St)(H:Hp)(P:A->Hs->List Addr->Hp->Prop):Prop:=∃ ρ τ h n,Sim cl ρ h H/\RS ρ τ σ/\Post cl ρ H E (evs Pg n d q τ h) P
def tE(a:X):TE:=fun σ H Q=>ev Pg cl E d (.x a) σ H (VP Q)
def tT(a:X):TT:=fun σ H Q=>ev Pg cl E d (.x a) σ H (VP fun v H'=>∃ b,v= .bl b/\Q b H')
def tA(as:List X):TA:=fun σ H Q=>ev Pg cl E d (.a as) σ H (LP Q)
def evS(σ0:St)(q:Q)(σ:St)(H:Hp)(P:A->Hs->List Addr->Hp->Prop):Prop:=∃ ρ τ h n,Sim cl ρ h H/\RS ρ τ σ/\Ag σ0 τ σ/\Post cl ρ H E (evs Pg n d q τ h) P
def tS(σ0:St)(s:S):TS:=fun D σ H=>evS Pg cl E d σ0 (.s s) σ H (SPo σ0 D)
def tSs(σ0:St)(s:List S):TS:=fun D σ H=>evS Pg cl E d σ0 (.ss s) σ H (SPo σ0 D)
end
section
variable{Pg:List Fn}{cl:Cn}{E:XK}{d:Nat}{X:Cx}{σ:St}{H:Hp}{P:A->Hs->List Addr->Hp->Prop}
theorem PE.of{e:Expr}{t t':TE}(h:PE X e t)(f:∀ σ H Q,t' σ H Q->t σ H Q):PE X e t':=fun pins s σ H Q I q=>h pins s σ H Q I (f σ H Q q)
theorem PT.of{e:Expr}{t t':TT}(h:PT X e t)(f:∀ σ H Q,t' σ H Q->t σ H Q):PT X e t':=fun pins s σ H Q I q=>h pins s σ H Q I (f σ H Q q)
theorem PW.of{e:Expr}{t t':TT}(h:PW X e t)(f:∀ σ H Q,t' σ H Q->t σ H Q):PW X e t':=fun wh pins s σ H Q I q=>h wh pins s σ H Q I (f σ H Q q)
theorem PA.of{es:List Expr}{t t':TA}(h:PA X es t)(f:∀ σ H Q,t' σ H Q->t σ H Q):PA X es t':=fun pos pins s σ H Q I q=>h pos pins s σ H Q I (f σ H Q q)
theorem PS.of{e:Stmt}{t t':TS}(h:PS X e t)(f:∀ D σ H,t' D σ H->t D σ H):PS X e t':=fun pins s σ H D I q=>h pins s σ H D I (f D σ H q)
theorem PSs.of{e:List Stmt}{t t':TS}(h:PSs X e t)(f:∀ D σ H,t' D σ H->t D σ H):PSs X e t':=fun pins s σ H D I q=>h pins s σ H D I (f D σ H q)
theorem ev.step{q:Q}(x:ev Pg cl E d q σ H P):∃ ρ τ h n,Sim cl ρ h H/\RS ρ τ σ/\Post cl ρ H E (evs Pg n d q τ h) P:=x
theorem evS.step{q:Q}{σ0:St}(x:evS Pg cl E d σ0 q σ H P):∃ ρ τ h n,Sim cl ρ h H/\RS ρ τ σ/\Ag σ0 τ σ/\Post cl ρ H E (evs Pg n d q τ h) P:=x
theorem ev.then{q:Q}{ρ:List Addr}{τ:Sg}{h:Hs}{n:Nat}{f:A->Hs->R A}{P P':A->Hs->List Addr->Hp->Prop}(s:Sim cl ρ h H)(r:RS ρ τ σ)(p:Post cl ρ H E ((evs Pg n d q τ h).bind f) P)
 (g:∀ a h1 ρ1 H1,Bt cl ρ H ρ1 H1->Sim cl ρ1 h1 H1->Post cl ρ1 H1 E (f a h1) P->P' a h1 ρ1 H1):ev Pg cl E d q σ H P':=⟨ρ,τ,h,n,s,r,p.bind.mono g⟩
theorem evS.then{q:Q}{σ0:St}{ρ:List Addr}{τ:Sg}{h:Hs}{n:Nat}{f:A->Hs->R A}{P P':A->Hs->List Addr->Hp->Prop}(s:Sim cl ρ h H)(r:RS ρ τ σ)(ag:Ag σ0 τ σ)(p:Post cl ρ H E ((evs Pg n d q τ h).bind f) P)
 (g:∀ a h1 ρ1 H1,Bt cl ρ H ρ1 H1->Sim cl ρ1 h1 H1->Post cl ρ1 H1 E (f a h1) P->P' a h1 ρ1 H1):evS Pg cl E d σ0 q σ H P':=⟨ρ,τ,h,n,s,r,ag,p.bind.mono g⟩
theorem bK{ρ:List Addr}{H:Hp}{a:A}{f:W->R A}(p:Post cl ρ H E (a.toW f) P):∃ w,a= .w w/\Post cl ρ H E (f w) P:=by
 cases a with
 | w w=>exact⟨w,rfl,p⟩
 | _=>exact p.elim
theorem nH{ρ:List Addr}{H:Hp}{a:A}{f:List W->R A}(p:Post cl ρ H E (a.toL f) P):∃ w,a= .ws w/\Post cl ρ H E (f w) P:=by
 cases a with
 | ws w=>exact⟨w,rfl,p⟩
 | _=>exact p.elim
theorem Ib{ρ:List Addr}{H:Hp}{a:A}{f:Iv->R A}(p:Post cl ρ H E (a.toV f) P):∃ w,a= .iv w/\Post cl ρ H E (f w) P:=by
 cases a with
 | iv w=>exact⟨w,rfl,p⟩
 | _=>exact p.elim
theorem z8{ρ:List Addr}{H:Hp}{a:A}{f:Fl->R A}(p:Post cl ρ H E (a.toF f) P):∃ w,a= .fl w/\Post cl ρ H E (f w) P:=by
 cases a with
 | fl w=>exact⟨w,rfl,p⟩
 | _=>exact p.elim
theorem gQ{ρ:List Addr}{H:Hp}{α β:Type}{o:Option α}{f:α->R β}{P:β->Hs->List Addr->Hp->Prop}(p:Post cl ρ H E (Opt o f) P):∃ w,o=some w/\Post cl ρ H E (f w) P:=by
 cases o with
 | some w=>exact⟨w,rfl,p⟩
 | none=>exact p.elim
theorem z9{ρ:List Addr}{H:Hp}{β:Type}{w:W}{f:Int->R β}{P:β->Hs->List Addr->Hp->Prop}(p:Post cl ρ H E (w.onI f) P):∃ i,w= .int i/\Post cl ρ H E (f i) P:=by
 cases w with
 | int w=>exact⟨w,rfl,p⟩
 | _=>exact p.elim
theorem RL{ρ:List Addr}{H:Hp}{β:Type}{w:W}{f:Nat->R β}{P:β->Hs->List Addr->Hp->Prop}(p:Post cl ρ H E (w.onR f) P):∃ i,w= .ref i/\Post cl ρ H E (f i) P:=by
 cases w with
 | ref w=>exact⟨w,rfl,p⟩
 | _=>exact p.elim
theorem wF{ρ:List Addr}{H:Hp}{β:Type}{w:W}{f t:R β}{P:β->Hs->List Addr->Hp->Prop}(p:Post cl ρ H E (w.onB f t) P):(w= .bl true/\Post cl ρ H E t P)\/(w= .bl false/\Post cl ρ H E f P):=by
 cases w with
 | bl b=>cases b with
   | true=>exact .inl ⟨rfl,p⟩
   | false=>exact .inr ⟨rfl,p⟩
 | _=>exact p.elim
theorem jX{ρ:List Addr}{H:Hp}{β:Type}{b:Bool}{t:R β}{P:β->Hs->List Addr->Hp->Prop}(p:Post cl ρ H E (ifB b t .no) P):b=true/\Post cl ρ H E t P:=by
 cases b with
 | true=>exact⟨rfl,p⟩
 | false=>exact p.elim
theorem at_of{ρ:List Addr}{H:Hp}{h:Hs}{β:Type}{w:W}{f:Nat->O->R β}{P:β->Hs->List Addr->Hp->Prop}(s:Sim cl ρ h H){v:V}(r:RW ρ w v)(p:Post cl ρ H E (h.at w f) P):
 ∃ n o a,w= .ref n/\v= .ref a/\ρ[n]? =some a/\h.get n=some o/\OA cl ρ H a o/\Post cl ρ H E (f n o) P:=by
 obtain⟨n,rfl,p⟩:=RL p;obtain⟨o,e,p⟩:=gQ p
 cases r with
 | ref q=>exact⟨n,o,_,rfl,rfl,q,e,s.at q e,p⟩
theorem Ie{ρ:List Addr}{H:Hp}{β:Type}{o:O}{f:List W->R β}{P:β->Hs->List Addr->Hp->Prop}(p:Post cl ρ H E (o.onL f) P):∃ xs,o= .lst xs/\Post cl ρ H E (f xs) P:=by
 cases o with
 | lst xs=>exact⟨xs,rfl,p⟩
 | _=>exact p.elim
theorem Cv{ρ:List Addr}{H:Hp}{β:Type}{o:O}{f:Nat->Fs->R β}{P:β->Hs->List Addr->Hp->Prop}(p:Post cl ρ H E (o.onI f) P):∃ C fs,o= .ins C fs/\Post cl ρ H E (f C fs) P:=by
 cases o with
 | ins C fs=>exact⟨C,fs,rfl,p⟩
 | _=>exact p.elim
theorem Post.now{ρ:List Addr}{H:Hp}{h:Hs}{α:Type}{a:α}{P:α->Hs->List Addr->Hp->Prop}(s:Sim cl ρ h H)(p:Post cl ρ H E (.ok a h) P):P a h ρ H:=p ρ H Bt.refl s
theorem Post.eV{ρ:List Addr}{H:Hp}{h:Hs}{w:W}{v:V}{Q:VK}(s:Sim cl ρ h H)(p:Post cl ρ H E (.ok (.w w) h) (VP Q))(r:RW ρ w v):Q v H:=by
 obtain⟨w',e,q⟩:=p.now s;cases e;exact q v r
theorem Post.new{ρ:List Addr}{H:Hp}{h:Hs}{o:O}{u:HO}{p:Addr}{Q:VK}(s:Sim cl ρ h H)(x:Post cl ρ H E (ofW (.alloc h o)) (VP Q))(e:H p=none)(z:OA cl (ρ ++ [p]) (upd H p u) p o):Q (.ref p) (upd H p u):=by
 obtain⟨w',e',q⟩:=x (ρ ++ [p]) (upd H p u) (Bt.new e) (s.push e z);cases e';exact q _ (.ref (by rw[<- s.len,List.getElem?_append_right (aH _),Nat.sub_self];rfl))
theorem Post.newL{ρ:List Addr}{H:Hp}{h:Hs}{xs:List W}{vs:List V}{p:Addr}{Q:VK}(s:Sim cl ρ h H)(x:Post cl ρ H E (ofW (.alloc h (.lst xs))) (VP Q))(e:H p=none)(r:RWs ρ xs vs):Q (.ref p) (upd H p (.lst vs)):=
 x.new s e ⟨vs,r.mono (List.prefix_append _ _),az⟩
theorem Post.Ou{ρ:List Addr}{H:Hp}{h:Hs}{xs:List W}{vs:List V}{p:Addr}{Q:VK}(s:Sim cl ρ h H)(x:Post cl ρ H E (ofW (.alloc h (.tup xs))) (VP Q))(e:H p=none)(r:RWs ρ xs vs):Q (.ref p) (upd H p (.tup vs)):=
 x.new s e ⟨vs,r.mono (List.prefix_append _ _),az⟩
theorem Post.putL{ρ:List Addr}{H:Hp}{h:Hs}{xs:List W}{vs:List V}{n:Nat}{a:Addr}{w:W}{v:V}{Q:VK}(s:Sim cl ρ h H)(x:Post cl ρ H E (ofW (.ok w (h.set n (.lst xs)))) (VP Q))(e:ρ[n]? =some a)(r:RWs ρ xs vs)(rw:RW ρ w v):Q v (upd H a (.lst vs)):=by
 obtain⟨w',e',q⟩:=x ρ (upd H a (.lst vs)) (Bt.put e) (s.put e ⟨vs,r,az⟩);cases e';exact q _ rw
theorem abZ{i:Nat}{x:Str}{pos:Pos}(hN:X.N[i]? =some x:=by rfl)(hv:Vis X.env.scope x:=by first | exact Or.inl rfl | exact Or.inr (Or.inl rfl) | exact Or.inr (Or.inr rfl))(hd:(x==("__debug__":Str))=false:=by decide)
 (hcd:(x==("__classdict__":Str))=false:=by decide):PE X (.Name x pos) (tE Pg cl E d (.var i)):=PE.of (zF hN hv hd hcd) fun σ H Q x=>by
 obtain⟨ρ,τ,h,n,s,r,p⟩:=x.step;obtain⟨w,e,p⟩:=gQ (show Post cl ρ H E (Opt (bh τ i) fun w=>.ok (.w w) h) (VP Q) from p);obtain⟨v,ev,rv⟩:=r.get e;exact⟨v,ev,p.eV s rv⟩
theorem ug{e:Expr}{w:W}{v:V}(h:PE X e (tC v))(r:RW [] w v):PE X e (tE Pg cl E d (.cst w)):=PE.of h fun σ H Q x=>by
 obtain⟨ρ,τ,h,n,s,_,p⟩:=x.step;exact Post.eV s (show Post cl ρ H E (.ok (.w w) h) (VP Q) from p) (r.mono (List.nil_prefix))
theorem aL{i:Int}{j pos}:PE X (.Constant (.int i) j pos) (tE Pg cl E d (.cst (.int i))):=ug bJ (.int i)
theorem xU{b j pos}:PE X (.Constant (.bool b) j pos) (tE Pg cl E d (.cst (.bl b))):=ug Xv (.bl b)
theorem ab0{j pos}:PE X (.Constant .none j pos) (tE Pg cl E d (.cst .non)):=ug aa2 .non
theorem cu(c:List Nat){x:Str}{j pos}(e:x= ⟨c.toArray⟩:=by decide +kernel):PE X (.Constant (.str x) j pos) (tE Pg cl E d (.cst (.str c))):=by
 subst e;exact ug m_ (.str c)
theorem aA:PA X [] (tA Pg cl E d []):=PA.of aD fun σ H Q x=>by
 obtain⟨ρ,τ,h,n,s,_,p⟩:=x.step;obtain⟨ws,e,q⟩:=Post.now s (show Post cl ρ H E (.ok (.ws []) h) (LP Q) from p);cases e;exact q [] .nil
theorem ju{e:Expr}{es:List Expr}{a:Ev.X}{as:List Ev.X}(ha:PE X e (tE Pg cl E d a))(hr:PA X es (tA Pg cl E d as))(hs:starEach (e::es) X.env=(false,eval e X.env)::starEach es X.env:=by rfl):PA X (e::es) (tA Pg cl E d (a::as)):=
 PA.of (aq ha hr hs) fun σ H Q x=>by
 obtain⟨ρ,τ,h,n,s,r,p⟩:=x.step;refine ev.then s r (show Post cl ρ H E ((evs Pg n d (.x a) τ h).bind fun r h=>r.toW fun w=>(evs Pg n d (.a as) τ h).bind fun r h=>r.toL fun ws=>.ok (.ws (w::ws)) h) (LP Q) from p) fun a1 h1 ρ1 H1 b1 s1 p1=>?_;obtain⟨w,rfl,p1⟩:=bK p1;refine⟨w,rfl,fun v rv=>?_⟩;refine ev.then s1 (r.mono b1.1) p1 fun a2 h2 ρ2 H2 b2 s2 p2=>?_;obtain⟨ws,rfl,p2⟩:=nH p2;refine⟨ws,rfl,fun vs rs=>?_⟩;obtain⟨ws',e,q⟩:=p2.now s2;cases e;exact q _ (.cons (rv.mono b2.1) rs)
def Op2(cl:Cn)(p:Pr)(r:R2):Prop:=∀(E:XK) (ρ:List Addr) (h:Hs) (H:Hp) (w1 w2:W) (v1 v2:V) (Q:VK),Sim cl ρ h H->RW ρ w1 v1->RW ρ w2 v2->Post cl ρ H E (ofW (oM p [w1,w2] h)) (VP Q)->r v1 v2 H Q
def Op1(cl:Cn)(p:Pr)(r:V->Hp->VK->Prop):Prop:=∀(E:XK) (ρ:List Addr) (h:Hs) (H:Hp) (w1:W) (v1:V) (Q:VK),Sim cl ρ h H->RW ρ w1 v1->Post cl ρ H E (ofW (oM p [w1] h)) (VP Q)->r v1 H Q
theorem uh{p:Pr}{r:R2}(o:Op2 cl p r){a b:Ev.X}{Q:VK}(x:tE Pg cl E d (.pr p [a,b]) σ H Q):tOp r (tE Pg cl E d a) (tE Pg cl E d b) σ H Q:=by
 obtain⟨ρ,τ,h,n,s,rs,q⟩:=x.step;have q:Post cl ρ H E ((evs Pg n d (.a [a,b]) τ h).bind fun a h=>a.toL fun ws=>ofW (oM p ws h)) (VP Q):=q;have q1:=q.bind;refine ev.then s rs (show Post cl ρ H E ((evs Pg n d (.x a) τ h).bind fun r h=>r.toW fun w=>(evs Pg n d (.a [b]) τ h).bind fun r h=>r.toL fun ws=>.ok (.ws (w::ws)) h) _ from q1) fun a1 h1 ρ1 H1 b1 s1 p1=>?_;obtain⟨w1,rfl,pz⟩:=bK p1;clear p1;refine⟨w1,rfl,fun v1 rv1=>?_⟩;have p1':=pz.bind;refine ev.then s1 (rs.mono b1.1) (show Post cl ρ1 H1 E ((evs Pg n d (.x b) τ h1).bind fun r h=>r.toW fun w=>(evs Pg n d (.a []) τ h).bind fun r h=>r.toL fun ws=>.ok (.ws (w::ws)) h) _ from p1') fun a2 h2 ρ2 H2 b2 s2 p2=>?_;obtain⟨w2,rfl,pz⟩:=bK p2;clear p2;refine⟨w2,rfl,fun v2 rv2=>?_⟩;have p3:=Post.now s2 (show Post cl ρ2 H2 E (.ok (A.ws [w2]) h2) _ from pz);have p4:=Post.now s2 (show Post cl ρ2 H2 E (.ok (A.ws [w1,w2]) h2) _ from p3);exact o E ρ2 h2 H2 w1 w2 v1 v2 Q s2 (rv1.mono b2.1) rv2 p4
theorem pJ{p:Pr}{r:V->Hp->VK->Prop}(o:Op1 cl p r){a:Ev.X}{Q:VK}(x:tE Pg cl E d (.pr p [a]) σ H Q):tUn r (tE Pg cl E d a) σ H Q:=by
 obtain⟨ρ,τ,h,n,s,rs,q⟩:=x.step;have q:Post cl ρ H E ((evs Pg n d (.a [a]) τ h).bind fun a h=>a.toL fun ws=>ofW (oM p ws h)) (VP Q):=q;have q1:=q.bind;refine ev.then s rs (show Post cl ρ H E ((evs Pg n d (.x a) τ h).bind fun r h=>r.toW fun w=>(evs Pg n d (.a []) τ h).bind fun r h=>r.toL fun ws=>.ok (.ws (w::ws)) h) _ from q1) fun a1 h1 ρ1 H1 b1 s1 p1=>?_;obtain⟨w1,rfl,pz⟩:=bK p1;clear p1;refine⟨w1,rfl,fun v1 rv1=>?_⟩;have p3:=Post.now s1 (show Post cl ρ1 H1 E (.ok (A.ws [w1]) h1) _ from pz);exact o E ρ1 h1 H1 w1 v1 Q s1 rv1 p3
def OpN(cl:Cn)(p:Pr)(r:List V->Hp->VK->Prop):Prop:=∀(E:XK) (ρ:List Addr) (h:Hs) (H:Hp) (ws:List W) (vs:List V) (Q:VK),Sim cl ρ h H->RWs ρ ws vs->Post cl ρ H E (ofW (oM p ws h)) (VP Q)->r vs H Q
theorem Cw{p:Pr}{r:List V->Hp->VK->Prop}(o:OpN cl p r){as:List Ev.X}{Q:VK}(x:tE Pg cl E d (.pr p as) σ H Q):tCB r (tA Pg cl E d as) σ H Q:=by
 obtain⟨ρ,τ,h,n,s,rs,q⟩:=x.step;refine ev.then s rs (show Post cl ρ H E ((evs Pg n d (.a as) τ h).bind fun a h=>a.toL fun ws=>ofW (oM p ws h)) (VP Q) from q) fun a1 h1 ρ1 H1 b1 s1 p1=>?_;obtain⟨ws,rfl,p1⟩:=nH p1;exact⟨ws,rfl,fun vs rv=>o E ρ1 h1 H1 ws vs Q s1 rv p1⟩
end
section
variable{cl:Cn}{E:XK}{ρ:List Addr}{H:Hp}{h:Hs}{P:A->Hs->List Addr->Hp->Prop}
theorem oI{w:W}{f:Int->R W}(p:Post cl ρ H E (ofW (w.onI f)) P):∃ i,w= .int i/\Post cl ρ H E (ofW (f i)) P:=by
 cases w with
 | int w=>exact⟨w,rfl,p⟩
 | _=>exact p.elim
theorem oB{w:W}{f t:R W}(p:Post cl ρ H E (ofW (w.onB f t)) P):∃ b,w= .bl b/\Post cl ρ H E (ofW (ifB b t f)) P:=by
 cases w with
 | bl b=>exact⟨b,rfl,p⟩
 | _=>exact p.elim
theorem oIf{b:Bool}{t:R W}(p:Post cl ρ H E (ofW (ifB b t .no)) P):b=true/\Post cl ρ H E (ofW t) P:=by
 cases b with
 | true=>exact⟨rfl,p⟩
 | false=>exact p.elim
theorem oR{α:Type}{o:Option α}{f:α->R W}(p:Post cl ρ H E (ofW (Opt o f)) P):∃ w,o=some w/\Post cl ρ H E (ofW (f w)) P:=by
 cases o with
 | some w=>exact⟨w,rfl,p⟩
 | none=>exact p.elim
theorem oAt{w:W}{f:Nat->O->R W}(s:Sim cl ρ h H){v:V}(r:RW ρ w v)(p:Post cl ρ H E (ofW (h.at w f)) P):
 ∃ n o a,w= .ref n/\v= .ref a/\ρ[n]? =some a/\h.get n=some o/\OA cl ρ H a o/\Post cl ρ H E (ofW (f n o)) P:=by
 cases w with
 | ref n=>
   obtain⟨o,e,p⟩:=oR (show Post cl ρ H E (ofW (Opt (h.get n) (f n))) P from p)
   cases r with
   | ref q=>exact⟨n,o,_,rfl,rfl,q,e,s.at q e,p⟩
 | _=>exact p.elim
theorem oL{o:O}{f:List W->R W}(p:Post cl ρ H E (ofW (o.onL f)) P):∃ xs,o= .lst xs/\Post cl ρ H E (ofW (f xs)) P:=by
 cases o with
 | lst xs=>exact⟨xs,rfl,p⟩
 | _=>exact p.elim
theorem oIt{o:O}{f:List W->R W}(p:Post cl ρ H E (ofW (o.items f)) P):∃ xs,(o= .lst xs\/o= .tup xs)/\Post cl ρ H E (ofW (f xs)) P:=by
 cases o with
 | lst xs=>exact⟨xs,.inl rfl,p⟩
 | tup xs=>exact⟨xs,.inr rfl,p⟩
 | _=>exact p.elim
theorem G8{xs:List W}{k:R W}(p:Post cl ρ H E (ofW (size xs k)) P):xs.length<=16777215/\Post cl ρ H E (ofW k) P:=by
 obtain⟨e,p⟩:=oIf p;rw[ble_eq,len_eq]at e;exact⟨of_decide_eq_true e,p⟩
theorem mU:sizeLine=16777216:=sizeLine_eq
theorem OA.sq{K:ak}{a:Addr}{o:O}{xs:List W}(e:o= .lst xs\/o= .tup xs)(x:OA cl ρ H a o):∃ vs,RWs ρ xs vs/\(SqL K H a vs\/SqT K H a vs):=by
 rcases e with rfl | rfl
 · obtain⟨vs,r,q⟩:=x;exact⟨vs,r,.inl (SqL.of q)⟩
 · obtain⟨vs,r,q⟩:=x;exact⟨vs,r,.inr (SqT.of q)⟩
theorem Post.yes{b c:Bool}{Q:VK}(s:Sim cl ρ h H)(p:Post cl ρ H E (ofW (.yes b h)) (VP Q))(e:b=c):Q (.bl c) H:=by subst e;exact Post.eV s p (.bl b)
end
section
variable{cl:Cn}
theorem YQ(i j:Int):Oi i j=i+j:=by cases i <;> cases j <;> rfl
theorem YS(i j:Int):Wm i j=i - j:=by
 cases i with
 | ofNat a=>
   cases j with
   | ofNat b=>
     show(Bool.rec (Int.negSucc (b - a - 1)) (Int.ofNat (a - b)) (Nat.ble b a):Int)=(a:Int) - (b:Int)
     cases z:Nat.ble b a with
     | true=>
       have:=Nat.le_of_ble_eq_true z;show((a - b:Nat):Int)=_
       omega
     | false=>
       have:¬ b<=a:=fun q=>by rw[Nat.ble_eq_true_of_le q]at z;cases z
       show Int.negSucc (b - a - 1)=_;rw[Int.negSucc_eq]
       omega
   | negSucc b=>rfl
 | negSucc a=>
   cases j with
   | ofNat b=>
     show Int.negSucc (a+b)=Int.negSucc a - (b:Int)
     rw[Int.negSucc_eq,Int.negSucc_eq];omega
   | negSucc b=>rfl
theorem fmod_eq(i j:Int):fmod i j=i % j:=by cases i <;> cases j <;> rfl
theorem o_:Op2 cl .sub (rI0 fun i j=>.int (i - j)):=fun E ρ h H w1 w2 v1 v2 Q s r1 r2 p=>by
 obtain⟨i,rfl,p⟩:=oI (show Post cl ρ H E (ofW (w1.onI fun i=>w2.onI fun j=>abK h i j)) (VP Q) from p);obtain⟨j,rfl,p⟩:=oI p;have p:Post cl ρ H E (ofW (.ok (.int (Wm i j)) h)) (VP Q):=p;rw[YS]at p;cases r1;cases r2;exact⟨i,j,rfl,rfl,Post.eV s p (.int _)⟩
theorem Ig{i:Int}(h:Sml i=true):L2.Sml i:=by
 unfold L2.Sml
 cases i with
 | ofNat a=>
   have:Nat.ble (a+1) (2 ^ 4000)=true:=h;rw[ble_eq]at this;have:=of_decide_eq_true this;show a<2 ^ 4000
   omega
 | negSucc a=>
   have:Nat.ble (a+2) (2 ^ 4000)=true:=h;rw[ble_eq]at this;have:=of_decide_eq_true this;show a+1<2 ^ 4000;omega
theorem nJ:Op2 cl .mod (rI (fun _ j=>0<j) fun i j=>.int (i % j)):=fun E ρ h H w1 w2 v1 v2 Q s r1 r2 p=>by
 obtain⟨i,rfl,p⟩:=oI (show Post cl ρ H E (ofW (w1.onI fun i=>w2.onI fun j=>abN h i j)) (VP Q) from p);obtain⟨j,rfl,p⟩:=oI p;obtain⟨c,p⟩:=oIf p;rw[nG]at c;rw[fmod_eq]at p;cases r1;cases r2;exact⟨i,j,rfl,rfl,of_decide_eq_true c,Post.eV s p (.int _)⟩
theorem ab1:Op2 cl .fdiv (rI (fun _ j=>XH j) fun i j=>.int (i.fdiv j)):=fun E ρ h H w1 w2 v1 v2 Q s r1 r2 p=>by
 obtain⟨i,rfl,p⟩:=oI (show Post cl ρ H E (ofW (w1.onI fun i=>w2.onI fun j=>XQ h i j)) (VP Q) from p);obtain⟨j,rfl,p⟩:=oI p;obtain⟨c,p⟩:=oIf p;obtain⟨c2,p⟩:=oIf p;rw[nG]at c;have c:=of_decide_eq_true c;cases r1;cases r2;exact⟨i,j,rfl,rfl,⟨by omega,Ig c2⟩,Post.eV s p (.int _)⟩
theorem X4:Op2 cl .pow (rI VR fun i j=>.int (i ^ j.toNat)):=fun E ρ h H w1 w2 v1 v2 Q s r1 r2 p=>by
 obtain⟨i,rfl,p⟩:=oI (show Post cl ρ H E (ofW (w1.onI fun i=>w2.onI fun j=>abO h i j)) (VP Q) from p);obtain⟨j,rfl,p⟩:=oI p;obtain⟨c,p⟩:=oIf p;obtain⟨c2,p⟩:=oIf p;obtain⟨c3,p⟩:=oIf p;obtain⟨c4,p⟩:=oIf p;rw[nG]at c c2 c3 c4;have c:=of_decide_eq_true c;have c2:=of_decide_eq_true c2;have c3:=of_decide_eq_true c3;have c4:=of_decide_eq_true c4;cases r1;cases r2;exact⟨i,j,rfl,rfl,⟨by omega,by omega,by omega⟩,Post.eV s p (.int _)⟩
theorem Ov:Op1 cl .neg (rU fun i=>.int (-i)):=fun E ρ h H w1 v1 Q s r1 p=>by
 obtain⟨i,rfl,p⟩:=oI (show Post cl ρ H E (ofW (w1.onI fun i=>.ok (.int (-i)) h)) (VP Q) from p);cases r1;exact⟨i,rfl,Post.eV s p (.int _)⟩
theorem X5{p:Pr}{f g:Int->Int->Bool}(hp:∀ h w1 w2,oM p [w1,w2] h=w1.onI fun i=>w2.onI fun j=>.yes (f i j) h)(e:∀ i j,f i j=g i j):Op2 cl p (rI0 fun i j=>.bl (g i j)):=fun E ρ h H w1 w2 v1 v2 Q s r1 r2 p=>by
 rw[hp]at p;obtain⟨i,rfl,p1⟩:=oI p;obtain⟨j,rfl,p2⟩:=oI p1;cases r1;cases r2;exact⟨i,j,rfl,rfl,Post.yes s p2 (e i j)⟩
theorem oT{E:XK}{ρ:List Addr}{H:Hp}{P:A->Hs->List Addr->Hp->Prop}{o:O}{f:List W->R W}(p:Post cl ρ H E (ofW (o.onT f)) P):∃ xs,o= .tup xs/\Post cl ρ H E (ofW (f xs)) P:=by
 cases o with
 | tup xs=>exact⟨xs,rfl,p⟩
 | _=>exact p.elim
theorem ints_of{ρ:List Addr}:∀ {xs:List W} {vs:List V},RWs ρ xs vs->xR xs=true->∃ ns:List Int,xs=ns.map W.int/\vs=ns.map V.int
 | _,_,.nil,_=>⟨[],rfl,rfl⟩
 | x::xs,v::vs,.cons r t,e=>by
   cases r with
   | int i=>
     obtain⟨ns,e1,e2⟩:=ints_of t (show xR xs=true from e)
     exact⟨i::ns,by rw[e1];rfl,by rw[e2];rfl⟩
   | _=>cases e
theorem LQ:∀(ns ms:List Int),Oj (ns.map W.int) (ms.map W.int)=some (HT.lexLt ns ms)
 | [],[]=>rfl
 | [],_::_=>rfl
 | _::_,[]=>rfl
 | i::ns,j::ms=>by
   show ifB (ieq i j) (Oj (ns.map W.int) (ms.map W.int)) (some (ilt i j))=_;rw[jW,LQ ns ms,nG]
   by_cases z:i=j
   · rw[decide_eq_true z];simp[ifB,HT.lexLt,z]
   · rw[decide_eq_false z];simp[ifB,HT.lexLt,z]
def ab2(K:ak):R2:=fun x y H Q=>rI0 (fun i j=>.bl (decide (i<j))) x y H Q\/abj K x y H Q
theorem Cy{K:ak}:Op2 cl .lt (ab2 K):=fun E ρ h H w1 w2 v1 v2 Q s r1 r2 p=>by
 have p:Post cl ρ H E (ofW (pLt h w1 w2)) (VP Q):=p
 cases w1 with
 | int i=>
   obtain⟨j,rfl,p1⟩:=oI (show Post cl ρ H E (ofW (w2.onI fun j=>.yes (ilt i j) h)) (VP Q) from p);cases r1;cases r2
   exact .inl ⟨i,j,rfl,rfl,Post.yes s p1 (nG i j)⟩
 | ref n=>
   obtain⟨n,o,a,_,rfl,e1,g1,x1,p1⟩:=oAt s r1 (show Post cl ρ H E (ofW (h.at (.ref n) fun _ x=>h.at w2 fun _ y=>x.onT fun xs=>y.onT fun ys=>ifB (xR xs) (ifB (xR ys) (Opt (Oj xs ys) fun c=>.yes c h) .no) .no)) (VP Q) from p);obtain⟨m,o2,b,_,rfl,e2,g2,x2,p2⟩:=oAt s r2 p1;obtain⟨xs,rfl,p3⟩:=oT p2;obtain⟨ys,rfl,p4⟩:=oT p3;obtain⟨c1,p5⟩:=oIf p4;obtain⟨c2,p6⟩:=oIf p5;obtain⟨c,ec,p7⟩:=oR p6;obtain⟨vs,rv,q1⟩:=x1;obtain⟨us,ru,q2⟩:=x2;obtain⟨ns,rfl,rfl⟩:=ints_of rv c1;obtain⟨ms,rfl,rfl⟩:=ints_of ru c2;rw[LQ]at ec
   exact .inr ⟨a,b,ns,ms,rfl,rfl,SqT.of q1,SqT.of q2,Post.yes s p7 (Option.some.inj ec).symm⟩
 | _=>exact p.elim
theorem ae3:Op2 cl .gt (rI0 fun i j=>.bl (decide (j<i))):=X5 (f:=fun i j=>ilt j i) (fun _ _ _=>rfl) fun i j=>nG j i
theorem not_lt(i j:Int):(!ilt j i)=decide (i<=j):=by
 rw[nG,<- decide_not];exact decide_eq_decide.mpr (by omega)
theorem Cz:Op2 cl .ge (rI0 fun i j=>.bl (decide (j<=i))):=X5 (f:=fun i j=> !ilt i j) (fun _ _ _=>rfl) fun i j=>not_lt j i
theorem Ih{ρ:List Addr}{w:W}{v:V}(r:RW ρ w v):zY w=decide (v= .non):=by
 cases r <;> first | rfl | exact(decide_eq_false (by intro z;cases z)).symm
theorem ab3:Op1 cl .Wr (fun x H Q=>Q (.bl (!decide (x= .non))) H):=fun E ρ h H w1 v1 Q s r1 p=>Post.yes s (show Post cl ρ H E (ofW (.yes (!zY w1) h)) (VP Q) from p) (by rw[Ih r1])
theorem ab4:Op1 cl .Ol (fun x H Q=>∃ c,x= .bl c/\Q (.bl (!c)) H):=fun E ρ h H w1 v1 Q s r1 p=>by
 obtain⟨b,rfl,p⟩:=oB (show Post cl ρ H E (ofW (w1.onB (.yes true h) (.yes false h))) (VP Q) from p);cases r1;refine⟨b,rfl,?_⟩
 cases b with
 | true=>exact Post.yes s p rfl
 | false=>exact Post.yes s p rfl
def YT:R2:=fun x y H Q=>rI0 (fun i j=>.int (i+j)) x y H Q\/abr x y H Q
theorem l_:Op2 cl .add YT:=fun E ρ h H w1 w2 v1 v2 Q s r1 r2 p=>by
 have p:Post cl ρ H E (ofW (abJ h w1 w2)) (VP Q):=p
 cases w1 with
 | int i=>
   obtain⟨j,rfl,p⟩:=oI (show Post cl ρ H E (ofW (w2.onI fun j=>.ok (.int (Oi i j)) h)) (VP Q) from p);have p:Post cl ρ H E (ofW (.ok (.int (Oi i j)) h)) (VP Q):=p;rw[YQ]at p;cases r1;cases r2
   exact .inl ⟨i,j,rfl,rfl,Post.eV s p (.int _)⟩
 | ref n=>
   obtain⟨n,o,a,_,rfl,e1,g1,x1,p⟩:=oAt s r1 (show Post cl ρ H E (ofW (abI h (.ref n) w2)) (VP Q) from p);obtain⟨m,o2,b,_,rfl,e2,g2,x2,p⟩:=oAt s r2 p
   cases o with
   | lst xs=>
     obtain⟨ys,rfl,p⟩:=oL p;obtain⟨z,p⟩:=G8 p;obtain⟨vs,rv,q1⟩:=x1;obtain⟨us,ru,q2⟩:=x2;rw[qW]at z p;have l1:=rv.length;have l2:=ru.length;rw[List.length_append]at z
     exact .inr ⟨a,b,vs,us,rfl,rfl,q1,q2,by rw[mU];omega,fun p' hp=>Post.newL s p hp (rv.append ru)⟩
   | _=>exact p.elim
 | _=>exact p.elim
def YW:R2:=fun x y H Q=>rI GZ (fun i j=>.int (i*j)) x y H Q\/abt x y H Q
theorem YX(xs:List W)(k:Nat):Wn xs k=(List.replicate k xs).flatten:=by
 induction k with
 | zero=>rfl
 | succ k ih=>
   show app xs (Wn xs k)=_;rw[qW,ih,List.replicate_succ,List.flatten_cons]
theorem RWs.rep{ρ:List Addr}{xs:List W}{vs:List V}(r:RWs ρ xs vs):∀ k:Nat,RWs ρ (List.replicate k xs).flatten (List.replicate k vs).flatten
 | 0=>.nil
 | k+1=>by rw[List.replicate_succ,List.replicate_succ,List.flatten_cons,List.flatten_cons];exact r.append (RWs.rep r k)
theorem G9:Op2 cl .mul YW:=fun E ρ h H w1 w2 v1 v2 Q s r1 r2 p=>by
 obtain⟨j,rfl,p⟩:=oI (show Post cl ρ H E (ofW (abM h w1 w2)) (VP Q) from p);cases r2
 cases w1 with
 | int i=>
   obtain⟨c,p⟩:=oIf (show Post cl ρ H E (ofW (ifB (Sml i) (ifB (Sml j) (.ok (.int (i*j)) h) .no) .no)) (VP Q) from p);obtain⟨c2,p⟩:=oIf p;cases r1
   exact .inl ⟨i,j,rfl,rfl,.inr ⟨Ig c,Ig c2⟩,Post.eV s p (.int _)⟩
 | ref n=>
   obtain⟨n,o,a,_,rfl,e1,g1,x1,p⟩:=oAt s r1 (show Post cl ρ H E (ofW (abL h (.ref n) j)) (VP Q) from p);obtain⟨xs,rfl,p⟩:=oL p;obtain⟨c,p⟩:=oIf p;obtain⟨c2,p⟩:=oIf p;obtain⟨c3,p⟩:=oIf p;rw[nG]at c c2;rw[ble_eq,len_eq]at c3;have c:=of_decide_eq_true c;have c2:=of_decide_eq_true c2;have c3:=of_decide_eq_true c3;obtain⟨vs,rv,q1⟩:=x1;have l:=rv.length;rw[YX]at p;refine .inr ⟨a,j,vs,rfl,rfl,q1,by omega,by omega,?_,fun p' hp=>Post.newL s p hp (rv.rep _)⟩;have:vs.length*j.toNat<=100*100000:=Nat.mul_le_mul (by omega) (by omega)
   rw[mU];omega
 | _=>exact p.elim
theorem ab5{n:Nat}{i:Int}{j:Nat}(h:Wo n i=j)(hj:j<n):ixN n i=some j:=by
 unfold ixN
 cases i with
 | ofNat k=>
   have h:k=j:=h;rw[if_pos (by show(0:Int)<=(k:Int);omega),if_pos (by show(k:Int)<n;omega)]
   exact congrArg some h
 | negSucc k=>
   have h:ifB (Nat.ble (k+1) n) (n - (k+1)) n=j:=h;rw[ble_eq]at h
   by_cases c:k+1<=n
   · rw[decide_eq_true c]at h;have h:n - (k+1)=j:=h;rw[if_neg (by omega),if_pos (by omega)];exact congrArg some (by omega)
   · rw[decide_eq_false c]at h;have h:n=j:=h;omega
theorem RM{vs:List V}{xs:List W}{ρ:List Addr}{i:Int}{w:W}(r:RWs ρ xs vs)(e:nth xs (Wo (len xs) i)=some w):∃ v,atI vs i=some v/\RW ρ w v:=by
 rw[pH,len_eq]at e;obtain⟨v,ev,rv⟩:=r.get e;refine⟨v,?_,rv⟩;unfold atI;have hl:=r.length;have hlt:=(aZ ev).1;rw[hl]at ev hlt;rw[ab5 rfl hlt];exact ev
theorem ae4{K:ak}:Op2 cl .ix (rIx K):=fun E ρ h H w1 w2 v1 v2 Q s r1 r2 p=>by
 obtain⟨n,o,a,rfl,rfl,e1,g1,x1,p⟩:=oAt s r1 (show Post cl ρ H E (ofW (pIx h w1 w2)) (VP Q) from p);obtain⟨xs,e,p1⟩:=oIt p;obtain⟨i,rfl,p2⟩:=oI p1;obtain⟨w,ew,p3⟩:=oR p2;cases r2
 rcases e with rfl | rfl
 · obtain⟨vs,rv,q⟩:=x1;obtain⟨v,ev,rw⟩:=RM rv ew;exact .inl ⟨a,vs,i,v,rfl,rfl,SqL.of q,ev,Post.eV s p3 rw⟩
 · obtain⟨vs,rv,q⟩:=x1;obtain⟨v,ev,rw⟩:=RM rv ew;exact .inr (.inl ⟨a,vs,i,v,rfl,rfl,SqT.of q,ev,Post.eV s p3 rw⟩)
theorem Ow{ρ:List Addr}{ws:List W}{vs:List V}{f:W->R W}{P:A->Hs->List Addr->Hp->Prop}{H:Hp}{E:XK}(r:RWs ρ ws vs)(p:Post cl ρ H E (ofW (iG ws f)) P):∃ w v,ws= [w]/\vs= [v]/\RW ρ w v/\Post cl ρ H E (ofW (f w)) P:=by
 cases r with
 | nil=>exact p.elim
 | cons r1 t=>cases t with
   | nil=>exact⟨_,_,rfl,rfl,r1,p⟩
   | cons _ _=>exact p.elim
theorem X6{ρ:List Addr}{ws:List W}{vs:List V}{f:W->W->R W}{P:A->Hs->List Addr->Hp->Prop}{H:Hp}{E:XK}(r:RWs ρ ws vs)(p:Post cl ρ H E (ofW (jE ws f)) P):∃ w v w' v',ws= [w,w']/\vs= [v,v']/\RW ρ w v/\RW ρ w' v'/\Post cl ρ H E (ofW (f w w')) P:=by
 cases r with
 | nil=>exact p.elim
 | cons r1 t=>cases t with
   | nil=>exact p.elim
   | cons r2 t=>cases t with
     | nil=>exact⟨_,_,_,_,rfl,rfl,r1,r2,p⟩
     | cons _ _=>exact p.elim
theorem Ox{K:ak}:OpN cl .len (aeP K):=fun E ρ h H ws vs Q s r p=>by
 obtain⟨w,v,rfl,rfl,r1,p⟩:=Ow r (show Post cl ρ H E (ofW (iG ws (abP h))) (VP Q) from p);obtain⟨n,o,a,rfl,rfl,e1,g1,x1,p⟩:=oAt s r1 p;obtain⟨xs,e,p⟩:=oIt p;obtain⟨us,ru,q⟩:=x1.sq (K:=K) e;refine⟨a,us,rfl,q,?_⟩;rw[len_eq,ru.length]at p;exact Post.eV s p (.int _)
theorem ad6:OpN cl .tup (fun xs H Q=>xs.length<=sizeLine/\∀ p,H p=none->Q (.ref p) (upd H p (.tup xs))):=fun E ρ h H ws vs Q s r p=>by
 obtain⟨z,p⟩:=G8 (show Post cl ρ H E (ofW (size ws (.alloc h (.tup ws)))) (VP Q) from p);have:=r.length;exact⟨by rw[mU];omega,fun p' hp=>Post.Ou s p hp r⟩
theorem ad7:OpN cl .lst (fun xs H Q=>xs.length<=sizeLine/\∀ p,H p=none->Q (.ref p) (upd H p (.lst xs))):=fun E ρ h H ws vs Q s r p=>by
 obtain⟨z,p⟩:=G8 (show Post cl ρ H E (ofW (size ws (.alloc h (.lst ws)))) (VP Q) from p);have:=r.length;exact⟨by rw[mU];omega,fun p' hp=>Post.newL s p hp r⟩
theorem ab6{K:ak}:OpN cl .list (fun xs H Q=>∃ p ys,xs= [.ref p]/\(SqL K H p ys\/SqT K H p ys)/\∀ l,H l=none->Q (.ref l) (upd H l (.lst ys))):=fun E ρ h H ws vs Q s r p=>by
 obtain⟨w,v,rfl,rfl,r1,p⟩:=Ow r (show Post cl ρ H E (ofW (iG ws (XS h))) (VP Q) from p);obtain⟨n,o,a,rfl,rfl,e1,g1,x1,p⟩:=oAt s r1 p;obtain⟨xs,e,p⟩:=oIt p;obtain⟨us,ru,q⟩:=x1.sq (K:=K) e;exact⟨a,us,rfl,q,fun l hl=>Post.newL s p hl ru⟩
theorem Ii{ρ:List Addr}{a b:W}{u v:V}{c:Bool}(ra:RW ρ a u)(rb:RW ρ b v)(e:eqF a b=some c):lZ u=true/\lZ v=true/\eqV u v=c:=by
 cases ra with
 | non=>cases rb <;> first | (cases e;exact⟨rfl,rfl,rfl⟩) | cases e
 | bl x=>cases e
 | int i=>cases rb with
   | non=>cases e;exact⟨rfl,rfl,rfl⟩
   | int j=>
     have e:some (ieq i j)=some c:=e;cases e;refine⟨rfl,rfl,?_⟩;rw[jW];show(i==j)=_
     by_cases z:i=j
     · subst z;simp
     · rw[decide_eq_false z];exact beq_eq_false_iff_ne.mpr z
   | str x=>cases e;exact⟨rfl,rfl,rfl⟩
   | _=>cases e
 | str x=>cases rb with
   | non=>cases e;exact⟨rfl,rfl,rfl⟩
   | int j=>cases e;exact⟨rfl,rfl,rfl⟩
   | str y=>
     have e:some (codes x y)=some c:=e;cases e;refine⟨rfl,rfl,?_⟩;show(({ cps:=x.toArray }:Str) == { cps:=y.toArray })=_
     cases z:codes x y with
     | true=>rw[bQ.mp z];exact beq_self_eq_true _
     | false=>exact beq_eq_false_iff_ne.mpr fun q=>by rw[bQ.mpr (pI q)]at z;cases z
   | _=>cases e
 | ref _=>cases e
end
end Ev
namespace Ev
open PySem PySem.Spec PySem.SeqAt PyProof.Rows L2
section
variable{cl:Cn}
theorem CG{ρ:List Addr}{a:W}{v:V}(ra:RW ρ a v):∀ {xs:List W} {vs:List V} {c:Bool},RWs ρ xs vs->H9 a xs=some c->vs.all lZ=true/\inV v vs=c
 | _,_,c,.nil,e=>by cases e;exact⟨rfl,rfl⟩
 | x::xs,u::us,c,.cons r t,e=>by
   have e:Option.rec none (fun b=>Option.rec none (fun r=>some (ifB b true r)) (H9 a xs)) (eqF x a)=some c:=e
   cases h1:eqF x a with
   | none=>rw[h1]at e;cases e
   | some b=>
     rw[h1]at e
     cases h2:H9 a xs with
     | none=>rw[h2]at e;cases e
     | some r'=>
       rw[h2]at e;have e:some (ifB b true r')=some c:=e;cases e;obtain⟨f1,f2,f3⟩:=Ii r ra h1;obtain⟨g1,g2⟩:=CG ra t h2;refine⟨by rw[List.all_cons,f1,g1];rfl,?_⟩;show(eqV u v||inV v us)=_;rw[f3,g2];cases b <;> rfl
theorem ad8{K:ak}(neg:Bool){p:Pr}{f:Bool->Bool}(hp:∀ h w1 w2,oM p [w1,w2] h=pIn f h w1 w2)(hf:∀ c:Bool,f c=if neg then !c else c):Op2 cl p (rIn K neg):=fun E ρ h H w1 w2 v1 v2 Q s r1 r2 p=>by
 rw[hp]at p;obtain⟨n,o,a,rfl,rfl,e1,g1,x1,p1⟩:=oAt s r2 p;obtain⟨xs,e,p2⟩:=oIt p1;obtain⟨c0,h0,p3⟩:=oR p2;obtain⟨c,hc,p4⟩:=oR p3;obtain⟨us,ru,q⟩:=x1.sq (K:=K) e;obtain⟨f1,_,_⟩:=Ii r1 r1 h0;obtain⟨g1,g2⟩:=CG r1 ru hc;exact⟨a,us,rfl,q,f1,g1,Post.yes s p4 (by rw[hf,g2])⟩
theorem YZ{K:ak}:Op2 cl .uM (rIn K true):=ad8 true (f:=not) (fun _ _ _=>rfl) fun _=>rfl
def OpM(cl:Cn)(p:Pr)(r:V->List V->Hp->VK->Prop):Prop:=∀(E:XK) (ρ:List Addr) (h:Hs) (H:Hp) (w:W) (v:V) (ws:List W) (vs:List V) (Q:VK),Sim cl ρ h H->RW ρ w v->RWs ρ ws vs->Post cl ρ H E (ofW (oM p (w::ws) h)) (VP Q)->r v vs H Q
theorem Ij:OpM cl .append Lj:=fun E ρ h H w v ws vs Q s r rs p=>by
 obtain⟨w1,v1,w2,v2,e,e',r1,r2,p1⟩:=X6 (.cons r rs) (show Post cl ρ H E (ofW (jE (w::ws) (uf h))) (VP Q) from p);cases e;cases e';obtain⟨n,o,a,rfl,rfl,e1,g1,x1,p2⟩:=oAt s r1 p1;obtain⟨xs,rfl,p3⟩:=oL p2;obtain⟨z,p4⟩:=G8 p3;obtain⟨us,ru,q⟩:=x1;have hl:=ru.length;rw[qW]at p4;exact⟨a,us,v2,rfl,rfl,q,by rw[mU];omega,Post.putL s p4 e1 (ru.append (.cons r2 .nil)) .non⟩
theorem Y0{K:ak}{E:XK}{ρ:List Addr}{h:Hs}{H:Hp}{w:W}{v:V}{Q:VK}(s:Sim cl ρ h H)(r:RW ρ w v)(p:Post cl ρ H E (ofW (oM .truth [w] h)) (VP Q)):∃ k,Nr K v H k/\Q (.bl k) H:=by
 have p:Post cl ρ H E (ofW (RG h w)) (VP Q):=p
 cases r with
 | non=>exact⟨false,rfl,Post.yes s p rfl⟩
 | bl b=>exact⟨b,rfl,Post.yes s p rfl⟩
 | int i=>
   refine⟨i != 0,rfl,Post.yes s p ?_⟩;rw[jW]
   by_cases z:i=0
   · subst z;rfl
   · rw[decide_eq_false z];exact(bne_iff_ne.mpr z).symm
 | str c=>exact p.elim
 | @ref n a q=>
   obtain⟨n,o,a',e0,e0',e1,g1,x1,p1⟩:=oAt s (.ref q) (show Post cl ρ H E (ofW (h.at (.ref n) fun _ o=>o.items fun xs=>.yes (Wq xs) h)) (VP Q) from p);cases e0;cases e0';obtain⟨xs,e,p2⟩:=oIt p1;have ne:∀ {vs:List V},RWs ρ xs vs->Wq xs= !vs.isEmpty:=fun r=>by cases r <;> rfl
   rcases e with rfl | rfl
   · obtain⟨us,ru,q2⟩:=x1;exact⟨_,.inl ⟨us,SqL.of q2,rfl⟩,Post.yes s p2 (ne ru)⟩
   · obtain⟨us,ru,q2⟩:=x1;exact⟨_,.inr (.inl ⟨us,SqT.of q2,rfl⟩),Post.yes s p2 (ne ru)⟩
mutual
def pd:D->PyData
 | .non=>.none | .bl b=>.bool b | .int i=>.int i | .str c=>.str ⟨c.toArray⟩ | .lst xs=>.list (pds xs) | .tup xs=>.tuple (pds xs)
def pds:List D->List PyData
 | []=>[]
 | x::xs=>pd x::pds xs
end
theorem G_(i j:Int):(i==j)=ieq i j:=by
 rw[jW]
 by_cases z:i=j
 · subst z;simp
 · rw[decide_eq_false z];exact beq_eq_false_iff_ne.mpr z
theorem X7(x y:List Nat):(({ cps:=x.toArray }:Str) == { cps:=y.toArray })=codes x y:=by
 cases z:codes x y with
 | true=>rw[bQ.mp z];exact beq_self_eq_true _
 | false=>exact beq_eq_false_iff_ne.mpr fun q=>by rw[bQ.mpr (pI q)]at z;cases z
mutual
theorem RN:∀ a b:D,PyData.eqv (pd a) (pd b)=lE a b
 | .non,b=>by cases b <;> simp only[pd,PyData.eqv,lE]
 | .bl x,b=>by cases b <;> simp only[pd,PyData.eqv,lE,G_]
 | .int x,b=>by cases b <;> simp only[pd,PyData.eqv,lE,G_]
 | .str x,b=>by cases b <;> simp only[pd,PyData.eqv,lE,X7]
 | .lst xs,b=>by
   cases b <;> simp only[pd,PyData.eqv,lE]
   exact CJ xs _
 | .tup xs,b=>by
   cases b <;> simp only[pd,PyData.eqv,lE];exact CJ xs _
theorem CJ:∀ a b:List D,PyData.eqvAll (pds a) (pds b)=sJ a b
 | [],b=>by cases b <;> simp only[pds,PyData.eqvAll,sJ]
 | x::xs,b=>by
   cases b with
   | nil=>simp only[pds,PyData.eqvAll,sJ]
   | cons y ys=>simp only[pds,PyData.eqvAll,sJ,RN x y,CJ xs ys]
end
theorem ab7:∀ c:List Nat,okC c=true->PySem.PyData.canLay0 (.str ⟨c.toArray⟩)=true:=fun c h=>by
 have:∀ x ∈ c,x<1114112:=by
  induction c with
  | nil=>intro x hx;cases hx
  | cons y c ih=>
    have h:ifB (Nat.ble (y+1) 1114112) (okC c) false=true:=h;rw[ble_eq]at h
    by_cases z:y+1<=1114112
    · rw[decide_eq_true z]at h;intro x hx
      rcases List.mem_cons.mp hx with rfl | hx
      · omega
      · exact ih h x hx
    · rw[decide_eq_false z]at h;cases h
 simp only[PyData.canLay0]
 first | (unfold PyData.strOk;simpa using this) | simpa [PySem.strOk] using this
theorem um{ρ:List Addr}{h:Hs}{H:Hp}(s:Sim cl ρ h H):∀(n:Nat) {w:W} {v:V} {dd:D},RW ρ w v->toD h n w=some dd->Rep H v (pd dd)/\(pd dd).canLay0=true/\(pd dd).depth<=n
 | 0,_,_,_,_,e=>nomatch e
 | n+1,w,v,dd,r,e=>by
   have all:∀ {xs:List W} {vs:List V} {ds:List D},RWs ρ xs vs->jF (toD h n) xs=some ds->bY H vs (pds ds)/\PyData.canLayAll0 (pds ds)=true/\PyData.depthAll (pds ds)<=n:=by
    intro xs
    induction xs with
    | nil=>
      intro vs ds r e;cases r;cases e
      exact⟨.nil,by simp only[pds,PyData.canLayAll0],by simp only[pds,PyData.depthAll];omega⟩
    | cons x xs ih=>
      intro vs ds r e
      cases r with
      | cons r1 t=>
        have e:Option.rec none (fun d=>Option.rec none (fun ds=>some (d::ds)) (jF (toD h n) xs)) (toD h n x)=some ds:=e
        cases h1:toD h n x with
        | none=>rw[h1]at e;cases e
        | some d1=>
          rw[h1]at e
          cases h2:jF (toD h n) xs with
          | none=>rw[h2]at e;cases e
          | some ds2=>
            rw[h2]at e;have e:some (d1::ds2)=some ds:=e;cases e;obtain⟨a1,a2,a3⟩:=um s n r1 h1;obtain⟨b1,b2,b3⟩:=ih t h2;refine⟨.cons a1 b1,?_,?_⟩
            · simp only[pds,PyData.canLayAll0,a2,b2];rfl
            · simp only[pds,PyData.depthAll];omega
   cases r with
   | non=>cases e;exact⟨.non,by simp only[pd,PyData.canLay0],by simp only[pd,PyData.depth];omega⟩
   | bl b=>cases e;exact⟨.bl b,by simp only[pd,PyData.canLay0],by simp only[pd,PyData.depth];omega⟩
   | int i=>cases e;exact⟨.int i,by simp only[pd,PyData.canLay0],by simp only[pd,PyData.depth];omega⟩
   | str c=>
     have e:ifB (okC c) (some (D.str c)) none=some dd:=e
     cases z:okC c with
     | false=>rw[z]at e;cases e
     | true=>
       rw[z]at e;cases e
       exact⟨.str _,ab7 c z,by simp only[pd,PyData.depth];omega⟩
   | @ref k a q=>
     cases hg:h.get k with
     | none=>
       have:toD h (n+1) (.ref k)=none:=by
        show Option.rec (motive:=fun _=>Option D) none _ (h.get k)=none;rw[hg]
       rw[this]at e;cases e
     | some o=>
       have x:=s.at q hg
       cases o with
       | tup xs=>
         have:toD h (n+1) (.ref k)=Option.rec none (fun ds=>some (D.tup ds)) (jF (toD h n) xs):=by
          show Option.rec (motive:=fun _=>Option D) none _ (h.get k)=_;rw[hg];rfl
         rw[this]at e
         cases h2:jF (toD h n) xs with
         | none=>rw[h2]at e;cases e
         | some ds=>
           rw[h2]at e;have e:some (D.tup ds)=some dd:=e;cases e;obtain⟨vs,rv,qq⟩:=x;obtain⟨b1,b2,b3⟩:=all rv h2
           exact⟨.tup qq b1,by simp only[pd,PyData.canLay0];exact b2,by simp only[pd,PyData.depth];omega⟩
       | lst xs=>
         have:toD h (n+1) (.ref k)=Option.rec none (fun ds=>some (D.lst ds)) (jF (toD h n) xs):=by
          show Option.rec (motive:=fun _=>Option D) none _ (h.get k)=_;rw[hg];rfl
         rw[this]at e
         cases h2:jF (toD h n) xs with
         | none=>rw[h2]at e;cases e
         | some ds=>
           rw[h2]at e;have e:some (D.lst ds)=some dd:=e;cases e;obtain⟨vs,rv,qq⟩:=x;obtain⟨b1,b2,b3⟩:=all rv h2
           exact⟨.lst qq b1,by simp only[pd,PyData.canLay0];exact b2,by simp only[pd,PyData.depth];omega⟩
       | _=>
         have:toD h (n+1) (.ref k)=none:=by
          show Option.rec (motive:=fun _=>Option D) none _ (h.get k)=none;rw[hg]
         rw[this]at e;cases e
theorem Ez{d:PyData}(h1:d.canLay0=true)(h2:d.depth<=12):shaped d=true:=by
 unfold shaped;rw[h1,decide_eq_true (by omega)];rfl
theorem X8{p:Pr}{f:Bool->Bool}(hp:∀ h w1 w2,oM p [w1,w2] h=pEq f h w1 w2):Op2 cl p (fun x y H Q=>∃ dx dy,Rep H x dx/\Rep H y dy/\shaped dx=true/\shaped dy=true/\Q (.bl (f (PyData.eqv dx dy))) H):=fun E ρ h H w1 w2 v1 v2 Q s r1 r2 p=>by
 rw[hp]at p;obtain⟨x,ex,p1⟩:=oR p;obtain⟨y,ey,p2⟩:=oR p1;obtain⟨a1,a2,a3⟩:=um s 12 r1 ex;obtain⟨b1,b2,b3⟩:=um s 12 r2 ey;exact⟨_,_,a1,b1,Ez a2 a3,Ez b2 b3,Post.yes s p2 (by rw[RN])⟩
theorem pW:Op2 cl .eq abw:=X8 (f:=id) fun _ _ _=>rfl
theorem CK:Op2 cl .ne abx:=X8 (f:=not) fun _ _ _=>rfl
mutual
theorem L_:∀ a b:D,PySem.Spec.same (pd a) (pd b)=iu a b
 | .non,b=>by cases b <;> simp only[pd,PySem.Spec.same,iu]
 | .bl x,b=>by cases b <;> simp only[pd,PySem.Spec.same,iu]
 | .int x,b=>by cases b <;> simp only[pd,PySem.Spec.same,iu,G_]
 | .str x,b=>by cases b <;> simp only[pd,PySem.Spec.same,iu,X7]
 | .lst xs,b=>by
   cases b <;> simp only[pd,PySem.Spec.same,iu]
   exact yO xs _
 | .tup xs,b=>by
   cases b <;> simp only[pd,PySem.Spec.same,iu];exact yO xs _
theorem yO:∀ a b:List D,PySem.Spec.sameAll (pds a) (pds b)=lO a b
 | [],b=>by cases b <;> simp only[pds,PySem.Spec.sameAll,lO]
 | x::xs,b=>by
   cases b with
   | nil=>simp only[pds,PySem.Spec.sameAll,lO]
   | cons y ys=>simp only[pds,PySem.Spec.sameAll,lO,L_ x y,yO xs ys]
end
end
section
variable{Pg:List Fn}{cl:Cn}{E:XK}{d:Nat}{X:Cx}{σ:L2.St}{H:Hp}
theorem aW{op:Operator}{p:Pr}{r:R2}{a b:Expr}{x y:Ev.X}{pos:Pos}(z:Op2 cl p r)(o:OpR X (binaryOp op) r)(ha:PE X a (tE Pg cl E d x))(hb:PE X b (tE Pg cl E d y)):PE X (.BinOp a op b pos) (tE Pg cl E d (.pr p [x,y])):=
 PE.of (dz o ha hb) fun _ _ _ q=>uh z q
theorem Oz{op:UnaryOp}{p:Pr}{r:V->Hp->VK->Prop}{a:Expr}{x:Ev.X}{pos:Pos}(z:Op1 cl p r)(o:UnR X (unaryOp op) r)(ha:PE X a (tE Pg cl E d x)):PE X (.UnaryOp op a pos) (tE Pg cl E d (.pr p [x])):=
 PE.of (adP o ha) fun _ _ _ q=>pJ z q
theorem Ik{op:CmpOp}{p:Pr}{r:R2}{a b:Expr}{x y:Ev.X}{pos:Pos}(z:Op2 cl p r)(o:OpR X (compareOp op) r)(ha:PE X a (tE Pg cl E d x))(hb:PE X b (tE Pg cl E d y))(hm:behindInMarks op b=false):PE X (.Compare a [op] [b] pos) (tE Pg cl E d (.pr p [x,y])):=
 PE.of (t7 o ha hb hm) fun _ _ _ q=>uh z q
theorem bB{op:CmpOp}{p:Pr}{r:R2}{a b:Expr}{x y:Ev.X}{pos:Pos}(z:Op2 cl p r)(o:OpR X (compareOp op) r)(ha:PE X a (tE Pg cl E d x))(hb:PE X b (tE Pg cl E d y))(hm:behindInMarks op b=false):PT X (.Compare a [op] [b] pos) (tT Pg cl E d (.pr p [x,y])):=
 PT.of (mQ o ha hb hm) fun _ _ _ q=>uh z q
theorem Y4{a:Expr}{x:Ev.X}{pos pos' j}(ha:PE X a (tE Pg cl E d x)):PT X (.Compare a [.IsNot] [.Constant .none j pos'] pos) (tT Pg cl E d (.pr .Wr [x])):=PT.of (Hu (Le ha)) fun _ _ _ q=>pJ ab3 q
theorem ab8{a:Expr}{x:Ev.X}{pos}(ha:PT X a (tT Pg cl E d x)):PT X (.UnaryOp .Not a pos) (tT Pg cl E d (.pr .Ol [x])):=PT.of (zG ha) fun σ H Q q=>by
 obtain⟨ρ,τ,h,n,s,r,p⟩:=(show tE Pg cl E d x σ H (fun v H1=>∃ c,v= .bl c/\∃ b,V.bl (!c)= .bl b/\Q b H1) from pJ ab4 q);refine⟨ρ,τ,h,n,s,r,p.mono fun a h ρ H _ _ ⟨w,e,g⟩=>⟨w,e,fun v rv=>?_⟩⟩;obtain⟨c,ec,b,eb,qb⟩:=g v rv;cases eb;exact⟨c,ec,qb⟩
theorem Il{a:Expr}{x:Ev.X}(ha:PE X a (tE Pg cl E d x))(he:∀ whole,isTrue a X.env whole=(do let v <- whole;standAt a.pos;holding [v] (truthy v))):PT X a (tT Pg cl E d (.pr .truth [x])):=PT.of (HD ha he) fun σ H Q q=>
 pJ (r:=fun v H1 Q'=>∃ k,Nr X.K v H1 k/\Q' (.bl k) H1) (fun E ρ h H w v Q s r p=>Y0 s r p) q |> fun z=>by
 obtain⟨ρ,τ,h,n,s,r,p⟩:=z;refine⟨ρ,τ,h,n,s,r,p.mono fun a h ρ H _ _ ⟨w,e,g⟩=>⟨w,e,fun v rv=>?_⟩⟩;obtain⟨k,t,b,eb,qb⟩:=g v rv;cases eb;exact⟨k,t,qb⟩
theorem RP{a b:Ev.X}{Q:VK}(x:tE Pg cl E d (.and a b) σ H Q):Xw (tE Pg cl E d a) (tE Pg cl E d b) σ H Q:=by
 obtain⟨ρ,τ,h,n,s,rs,q⟩:=x.step;refine ev.then s rs (show Post cl ρ H E ((evs Pg n d (.x a) τ h).bind fun r h=>r.toW fun w=>w.onB (.ok (.w (.bl false)) h) (evs Pg n d (.x b) τ h)) (VP Q) from q) fun a1 h1 ρ1 H1 b1 s1 p1=>?_;obtain⟨w,rfl,p2⟩:=bK p1;refine⟨w,rfl,fun v rv=>?_⟩
 rcases wF p2 with ⟨rfl,p3⟩ | ⟨rfl,p3⟩
 · cases rv;exact⟨true,rfl,cg ⟨ρ1,τ,h1,n,s1,rs.mono b1.1,p3⟩⟩
 · cases rv;exact⟨false,rfl,a_ (Post.eV s1 p3 (.bl false))⟩
theorem ad9{a b:Ev.X}{Q:VK}(x:tE Pg cl E d (.or a b) σ H Q):aey (tE Pg cl E d a) (tE Pg cl E d b) σ H Q:=by
 obtain⟨ρ,τ,h,n,s,rs,q⟩:=x.step;refine ev.then s rs (show Post cl ρ H E ((evs Pg n d (.x a) τ h).bind fun r h=>r.toW fun w=>w.onB (evs Pg n d (.x b) τ h) (.ok (.w (.bl true)) h)) (VP Q) from q) fun a1 h1 ρ1 H1 b1 s1 p1=>?_;obtain⟨w,rfl,p2⟩:=bK p1;refine⟨w,rfl,fun v rv=>?_⟩
 rcases wF p2 with ⟨rfl,p3⟩ | ⟨rfl,p3⟩
 · cases rv;exact⟨true,rfl,cg (Post.eV s1 p3 (.bl true))⟩
 · cases rv;exact⟨false,rfl,a_ ⟨ρ1,τ,h1,n,s1,rs.mono b1.1,p3⟩⟩
theorem RQ{a b:Expr}{rest:List Expr}{x y:Ev.X}{pos:Pos}(ha:PE X a (tE Pg cl E d x))(hb:PE X (.BoolOp .And (b::rest) pos) (tE Pg cl E d y)):PE X (.BoolOp .And (a::b::rest) pos) (tE Pg cl E d (.and x y)):=PE.of (tZ ha hb) fun _ _ _ q=>RP q
theorem Y5{a b:Ev.X}{Q:Bool->Hp->Prop}(x:tT Pg cl E d (.and a b) σ H Q):aa4 (tT Pg cl E d a) (tT Pg cl E d b) σ H Q:=by
 obtain⟨ρ,τ,h,n,s,r,p⟩:=(show tE Pg cl E d a σ H (fun v H1=>∃ c,v= .bl c/\if c=true then tT Pg cl E d b σ H1 Q else ∃ b,V.bl false= .bl b/\Q b H1) from RP x);refine⟨ρ,τ,h,n,s,r,p.mono fun a h ρ H _ _ ⟨w,e,g⟩=>⟨w,e,fun v rv=>?_⟩⟩;obtain⟨c,ec,q⟩:=g v rv;refine⟨c,ec,?_⟩
 cases c with
 | true=>exact q
 | false=>
   obtain⟨b,eb,q⟩:=(show ∃ b,V.bl false= .bl b/\Q b H from q);cases eb;exact q
theorem ab9{a b:Ev.X}{Q:Bool->Hp->Prop}(x:tT Pg cl E d (.or a b) σ H Q):tOr (tT Pg cl E d a) (tT Pg cl E d b) σ H Q:=by
 obtain⟨ρ,τ,h,n,s,r,p⟩:=(show tE Pg cl E d a σ H (fun v H1=>∃ c,v= .bl c/\if c=true then ∃ b,V.bl true= .bl b/\Q b H1 else tT Pg cl E d b σ H1 Q) from ad9 x);refine⟨ρ,τ,h,n,s,r,p.mono fun a h ρ H _ _ ⟨w,e,g⟩=>⟨w,e,fun v rv=>?_⟩⟩;obtain⟨c,ec,q⟩:=g v rv;refine⟨c,ec,?_⟩
 cases c with
 | false=>exact q
 | true=>
   obtain⟨b,eb,q⟩:=(show ∃ b,V.bl true= .bl b/\Q b H from q);cases eb;exact q
theorem RT{a b:Expr}{rest:List Expr}{x y:Ev.X}{pos:Pos}(ha:PT X a (tT Pg cl E d x))(hb:PW X (.BoolOp .And (b::rest) pos) (tT Pg cl E d y)):PW X (.BoolOp .And (a::b::rest) pos) (tT Pg cl E d (.and x y)):=PW.of (pw_and ha hb) fun _ _ _ q=>Y5 q
theorem uO{a b:Expr}{rest:List Expr}{x y:Ev.X}{pos:Pos}(ha:PT X a (tT Pg cl E d x))(hb:PW X (.BoolOp .Or (b::rest) pos) (tT Pg cl E d y)):PW X (.BoolOp .Or (a::b::rest) pos) (tT Pg cl E d (.or x y)):=PW.of (pw_or ha hb) fun _ _ _ q=>ab9 q
theorem ab_{c a b:Ev.X}{Q:VK}(x:tE Pg cl E d (.ite c a b) σ H Q):tIf (tT Pg cl E d c) (tE Pg cl E d a) (tE Pg cl E d b) σ H Q:=by
 obtain⟨ρ,τ,h,n,s,rs,q⟩:=x.step;refine ev.then s rs (show Post cl ρ H E ((evs Pg n d (.x c) τ h).bind fun r h=>r.toW fun w=>w.onB (evs Pg n d (.x b) τ h) (evs Pg n d (.x a) τ h)) (VP Q) from q) fun a1 h1 ρ1 H1 b1 s1 p1=>?_;obtain⟨w,rfl,p2⟩:=bK p1;refine⟨w,rfl,fun v rv=>?_⟩
 rcases wF p2 with ⟨rfl,p3⟩ | ⟨rfl,p3⟩
 · cases rv;exact⟨true,rfl,cg ⟨ρ1,τ,h1,n,s1,rs.mono b1.1,p3⟩⟩
 · cases rv;exact⟨false,rfl,a_ ⟨ρ1,τ,h1,n,s1,rs.mono b1.1,p3⟩⟩
theorem z_(n d:Nat)(o:Option Int):sIx n d o=HT.sIx n d o:=by
 cases o with
 | none=>rfl
 | some i=>cases i with
   | ofNat k=>
     show ifB (Nat.ble k n) k n=if(Int.ofNat k)<0 then((Int.ofNat k)+(n:Int)).toNat else min (Int.ofNat k).toNat n;rw[if_neg (by show ¬ (k:Int)<0;omega),ble_eq];show _=min k n
     by_cases c:k<=n
     · rw[decide_eq_true c,Nat.min_eq_left c];rfl
     · rw[decide_eq_false c,Nat.min_eq_right (by omega)];rfl
   | negSucc k=>
     show n - (k+1)=if(Int.negSucc k)<0 then((Int.negSucc k)+(n:Int)).toNat else min (Int.negSucc k).toNat n;rw[if_pos (by omega)];omega
def tO(o:Option Ev.X)(Pg:List Fn)(cl:Cn)(E:XK)(d:Nat):TO:=match o with
 | none=>Li
 | some e=>XC (tE Pg cl E d e)
theorem CN:PO X none (tO none Pg cl E d):=Ce
theorem CP{e:Expr}{x:Ev.X}(h:PE X e (tE Pg cl E d x)):PO X (some e) (tO (some x) Pg cl E d):=Cg h
theorem Ma{e:Option Ev.X}{ρ:List Addr}{τ:Sg}{h:Hs}{n:Nat}{k:Option Int->Hs->R A}{P:A->Hs->List Addr->Hp->Prop}{Q:Option Int->Hp->Prop}(s:Sim cl ρ h H)(rs:RS ρ τ σ)(p:Post cl ρ H E (Ia (jV Pg d) n e τ h k) P)
 (g:∀ i h1 ρ1 H1,Bt cl ρ H ρ1 H1->Sim cl ρ1 h1 H1->Post cl ρ1 H1 E (k i h1) P->Q i H1):tO e Pg cl E d σ H Q:=by
 cases e with
 | none=>exact g none h ρ H Bt.refl s p
 | some e=>
   refine ev.then s rs (show Post cl ρ H E ((evs Pg n d (.x e) τ h).bind fun a h=>a.toW fun w=>w.onI fun i=>k (some i) h) P from p) fun a1 h1 ρ1 H1 b1 s1 p1=>?_;obtain⟨w,rfl,p2⟩:=bK p1;obtain⟨i,rfl,p3⟩:=z9 p2;refine⟨_,rfl,fun v rv=>?_⟩;cases rv;exact⟨i,rfl,g (some i) h1 ρ1 H1 b1 s1 p3⟩
def acd(K:ak):V->Option Int->Option Int->Hp->VK->Prop:=fun x lo hi H Q=>abp K x lo hi H Q\/abh K x lo hi H Q
theorem Ws{K:ak}{a:Ev.X}{lo hi:Option Ev.X}{Q:VK}(x:tE Pg cl E d (.slice a lo hi) σ H Q):tSl (acd K) (tE Pg cl E d a) (tO lo Pg cl E d) (tO hi Pg cl E d) σ H Q:=by
 obtain⟨ρ,τ,h,n,s,rs,z⟩:=x.step
 refine ev.then s rs (show Post cl ρ H E ((evs Pg n d (.x a) τ h).bind fun r h=>r.toW fun w=>Ia (jV Pg d) n lo τ h fun l h=>Ia (jV Pg d) n hi τ h fun u h=>h.at w fun _ o=>
  O.rec (fun xs=>ifB (ifB (Nat.beq (sIx (len xs) 0 l) 0) (Nat.beq (sIx (len xs) (len xs) u) (len xs)) false) .no (ofW (.alloc h (.tup (tak (drp xs (sIx (len xs) 0 l)) (sIx (len xs) (len xs) u - sIx (len xs) 0 l)))))) (fun xs=>ofW (.alloc h (.lst (tak (drp xs (sIx (len xs) 0 l)) (sIx (len xs) (len xs) u - sIx (len xs) 0 l))))) (fun _ _=>.no) (fun _=>.no) (fun _=>.no) (fun _=>.no) o) (VP Q) from z) fun a1 h1 ρ1 H1 b1 s1 p1=>?_
 obtain⟨w,rfl,p2⟩:=bK p1;refine⟨w,rfl,fun v rv=>?_⟩;refine Ma s1 (rs.mono b1.1) p2 fun l h2 ρ2 H2 b2 s2 p3=>?_;refine Ma s2 ((rs.mono b1.1).mono b2.1) p3 fun u h3 ρ3 H3 b3 s3 p4=>?_;obtain⟨k,o,ad,_,rfl,e1,g1,x1,p5⟩:=at_of s3 (rv.mono (b2.1.trans b3.1)) p4
 cases o with
 | lst xs=>
   obtain⟨vs,ru,q⟩:=x1;have p6:Post cl ρ3 H3 E (ofW (.alloc h3 (.lst (tak (drp xs (sIx (len xs) 0 l)) (sIx (len xs) (len xs) u - sIx (len xs) 0 l))))) (VP Q):=p5;rw[RK,RJ,len_eq,z_,z_,ru.length]at p6
   exact .inl ⟨ad,vs,rfl,SqL.of q,fun p hp=>Post.newL s3 p6 hp ((ru.drop _).take _)⟩
 | tup xs=>
   obtain⟨vs,ru,q⟩:=x1;have p6:Post cl ρ3 H3 E (ifB (ifB (Nat.beq (sIx (len xs) 0 l) 0) (Nat.beq (sIx (len xs) (len xs) u) (len xs)) false) .no (ofW (.alloc h3 (.tup (tak (drp xs (sIx (len xs) 0 l)) (sIx (len xs) (len xs) u - sIx (len xs) 0 l)))))) (VP Q):=p5;rw[RK,RJ,len_eq,z_,z_,ru.length]at p6;refine .inr ⟨ad,vs,rfl,SqT.of q,?_,fun p hp=>?_⟩
   · rintro⟨c1,c2⟩;rw[iw.mpr c1,iw.mpr c2]at p6;exact p6.elim
   · cases c:ifB (Nat.beq (HT.sIx vs.length 0 l) 0) (Nat.beq (HT.sIx vs.length vs.length u) vs.length) false with
     | true=>rw[c]at p6;exact p6.elim
     | false=>rw[c]at p6;exact Post.Ou s3 p6 hp ((ru.drop _).take _)
 | _=>exact p5.elim
theorem yP{e:Expr}{lo hi:Option Expr}{x:Ev.X}{xl xh:Option Ev.X}{pos p2:Pos}(he:PE X e (tE Pg cl E d x))(hl:PO X lo (tO xl Pg cl E d))(hh:PO X hi (tO xh Pg cl E d)):PE X (.Subscript e (.Slice lo hi none p2) pos) (tE Pg cl E d (.slice x xl xh)):=
 PE.of (yI (Ck.or abi) he hl hh) fun _ _ _ q=>Ws q
theorem kI{a b:Expr}{x y:Ev.X}{pos:Pos}(ha:PE X a (tE Pg cl E d x))(hb:PE X b (tE Pg cl E d y))(hs:Cj b:=by exact fun _ _=>rfl):PE X (.Subscript a b pos) (tE Pg cl E d (.pr .ix [x,y])):=
 PE.of (uE Rh ha hb hs) fun _ _ _ q=>uh ae4 q
theorem fO{es:List Expr}{xs:List Ev.X}{x1 pos}(h:PA X es (tA Pg cl E d xs)):PE X (.Tuple es x1 pos) (tE Pg cl E d (.pr .tup xs)):=PE.of (t_ h) fun _ _ _ q=>Cw ad6 q
theorem pK{es:List Expr}{xs:List Ev.X}{pos}(h:PA X es (tA Pg cl E d xs)):PE X (.List es pos) (tE Pg cl E d (.pr .lst xs)):=PE.of (qP h) fun _ _ _ q=>Cw ad7 q
theorem Y6{K:ak}{p:Pr}{r:V->List V->Hp->VK->Prop}(o:OpM cl p r){a:Ev.X}{as:List Ev.X}{Q:VK}(x:tE Pg cl E d (.lm p a as) σ H Q):tBM K "list" r (tE Pg cl E d a) (tA Pg cl E d as) σ H Q:=by
 obtain⟨ρ,τ,h,n,s,rs,q⟩:=x.step;refine ev.then s rs (show Post cl ρ H E ((evs Pg n d (.x a) τ h).bind fun r h=>r.toW fun w=>h.at w fun _ o=>o.onL fun _=>(evs Pg n d (.a as) τ h).bind fun r h=>r.toL fun ws=>ofW (oM p (w::ws) h)) (VP Q) from q) fun a1 h1 ρ1 H1 b1 s1 p1=>?_;obtain⟨w1,rfl,p2⟩:=bK p1;refine⟨w1,rfl,fun v1 rv1=>?_⟩;obtain⟨k,ob,ad,rfl,rfl,e1,g1,x1,p3⟩:=at_of s1 rv1 p2;obtain⟨xs,rfl,p4⟩:=Ie p3;obtain⟨vs,ru,qh⟩:=x1;refine⟨.inl ⟨rfl,_,SqL.of qh⟩,?_⟩;refine ev.then s1 (rs.mono b1.1) p4 fun a2 h2 ρ2 H2 b2 s2 p5=>?_;obtain⟨ws,rfl,p6⟩:=nH p5;exact⟨ws,rfl,fun us ru'=>o E ρ2 h2 H2 _ _ ws us Q s2 (rv1.mono b2.1) ru' p6⟩
theorem X_{p:Pr}{r:V->List V->Hp->VK->Prop}{o e:Expr}{es:List Expr}{x y:Ev.X}{ys:List Ev.X}{name:Str}{id:String}{apos cpos:Pos}(z:OpM cl p r)(slot:Slot "list" name id)(hty:typeOf (.builtin id)=pure (.type "method_descriptor"))(hm:MtM X id r)
 (ho:PE X o (tE Pg cl E d x)) (ha:PA X (e::es) (tA Pg cl E d (y::ys))) (hbase:attributeBase o name X.env (eval o X.env)=eval o X.env:=by rfl)
 (hfew:((backTo cpos (starEach (e::es) X.env)).all (fun x=> !x.1)&&(backToKw cpos (keywordEach [] X.env)).all (fun x=>x.1.isSome)
   && decide ((e::es).length+([]:List Keyword).length+(if([]:List Keyword).isEmpty then 0 else 1)<30))=true:=by rfl)
 (hline:(apos.endLine==cpos.line)=true:=by rfl) (hs:starEach (e::es) X.env=(false,eval e X.env)::starEach es X.env:=by rfl) (hplain:(backTo cpos (starEach es X.env)).any (·.1)=false:=by rfl):
 PE X (.Call (.Attribute o name apos) (e::es) [] cpos) (tE Pg cl E d (.lm p x (y::ys))):=PE.of (GX PySem.F.plainAttrs_list slot hty hm ho ha hbase hfew hline hs hplain) fun _ _ _ q=>Y6 z q
theorem yQ{p:Pr}{r:List V->Hp->VK->Prop}{x:Str}{e:Expr}{es:List Expr}{y:Ev.X}{ys:List Ev.X}{id:String}{pos q:Pos}(z:OpN cl p r)(hc:jb X (.builtin id) r)(hg:Gl X x)(hm:X.mg x=none)(hv:bootBuiltins x=some (.builtin id))(ha:PA X (e::es) (tA Pg cl E d (y::ys)))(hn:x ≠ "__name__":=by decide)(hdb:(x==("__debug__":Str))=false:=by decide)
 (he:starEach (e::es) X.env=(false,eval e X.env)::starEach es X.env:=by rfl) (hpl:(backTo pos (starEach es X.env)).any (·.1)=false:=by rfl):PE X (.Call (.Name x q) (e::es) [] pos) (tE Pg cl E d (.pr p (y::ys))):=
 PE.of (bu hc hg hm hv ha hn hdb he hpl) fun _ _ _ q=>Cw z q
theorem RV{p:Pr}{r:List V->Hp->VK->Prop}{x:Str}{e:Expr}{es:List Expr}{y:Ev.X}{ys:List Ev.X}{T:String}{pos q:Pos}(z:OpN cl p r)(hc:jb X (.type T) r)(hg:Gl X x)(hm:X.mg x=none)(hv:bootBuiltins x=some (.type T))(ha:PA X (e::es) (tA Pg cl E d (y::ys)))(hn:x ≠ "__name__":=by decide)(hdb:(x==("__debug__":Str))=false:=by decide)
 (he:starEach (e::es) X.env=(false,eval e X.env)::starEach es X.env:=by rfl) (hpl:(backTo pos (starEach es X.env)).any (·.1)=false:=by rfl):PE X (.Call (.Name x q) (e::es) [] pos) (tE Pg cl E d (.pr p (y::ys))):=
 PE.of (pG hc hg hm hv ha hn hdb he hpl) fun _ _ _ q=>Cw z q
end
section
mutual
def vars:Tg->List Nat
 | .nm i=>[i]
 | .tup ts=>uP ts
def uP:List Tg->List Nat
 | []=>[]
 | t::ts=>vars t++uP ts
end
def Off(vs:List Nat)(σ σ':L2.St):Prop:=σ'.length=σ.length/\∀ i,i ∉ vs->σ'[i]? =σ[i]?
theorem Off.refl{vs:List Nat}{σ:L2.St}:Off vs σ σ:=⟨rfl,fun _ _=>rfl⟩
theorem Off.trans{vs us:List Nat}{σ σ' ace:L2.St}(a:Off vs σ σ')(b:Off us σ' ace):Off (vs++us) σ ace:=⟨b.1.trans a.1,fun i hi=>by
 rw[List.mem_append]at hi
 exact(b.2 i fun z=>hi (.inr z)).trans (a.2 i fun z=>hi (.inl z))⟩
def tG(cl:Cn)(t:Tg):TG:=fun v σ H Q=>∃ ρ h w τ n τ',Sim cl ρ h H/\RW ρ w v/\RS ρ τ σ/\cY h n t w τ=some τ'/\∀ σ',RS ρ τ' σ'->Off (vars t) σ σ'->Q σ' H
def tGs(cl:Cn)(ts:List Tg):TGs:=fun vs σ H Q=>∃ ρ h ws τ n τ',Sim cl ρ h H/\RWs ρ ws vs/\RS ρ τ σ/\bindL (cY h n) ts ws τ=some τ'/\∀ σ',RS ρ τ' σ'->Off (uP ts) σ σ'->Q σ' H
variable{Pg:List Fn}{cl:Cn}{E:XK}{d:Nat}{X:Cx}{σ:L2.St}{H:Hp}
theorem PG.of{e:Expr}{t t':TG}(h:PG X e t)(f:∀ v σ H Q,t' v σ H Q->t v σ H Q):PG X e t':=fun pins s σ H v u Q I r q=>h pins s σ H v u Q I r (f v σ H Q q)
theorem PGs.of{e:List Expr}{t t':TGs}(h:PGs X e t)(f:∀ v σ H Q,t' v σ H Q->t v σ H Q):PGs X e t':=fun pins s σ H v u Q I r q=>h pins s σ H v u Q I r (f v σ H Q q)
theorem yR{i:Nat}{v:V}{Q:L2.St->Hp->Prop}(x:tG cl (.nm i) v σ H Q):GP i v σ H Q:=by
 obtain⟨ρ,h,w,τ,n,τ',s,r,rs,e,q⟩:=x
 cases n with
 | zero=>cases e
 | succ n=>
   have e:some (setAt τ (some w) i)=some τ':=e;cases e;refine q _ (rs.set r i) ⟨List.length_set,fun j hj=>?_⟩;have ne:i ≠ j:=fun z=>hj (by simp[vars,z]);rw[List.getElem?_set_ne ne]
theorem Y7{i:Nat}{x:Str}{pos:Pos}(hN:X.N.Nodup)(hi:X.N[i]? =some x)(hx:Loc X.env.scope x)(hf:X.fn x=true\/X.env.scope.names.lookup x=some .local:=by first | exact .inl rfl | exact .inr rfl | assumption):PG X (.Name x pos) (tG cl (.nm i)):=PG.of (mO hN hi hx hf) fun _ _ _ _ q=>yR q
theorem gq:PGs X [] (tGs cl []):=PGs.of Yu fun vs σ H Q x=>by
 obtain⟨ρ,h,ws,τ,n,τ',s,r,rs,e,q⟩:=x
 cases r with
 | nil=>
   have e:some τ=some τ':=e;cases e
   exact⟨rfl,q σ rs Off.refl⟩
 | cons _ _=>cases e
theorem aU{e:Expr}{es:List Expr}{t:Tg}{ts:List Tg}(h1:PG X e (tG cl t))(h2:PGs X es (tGs cl ts))(hs:(assignEach (e::es) X.env).map (·.2)=assign e X.env::(assignEach es X.env).map (·.2):=by rfl):PGs X (e::es) (tGs cl (t::ts)):=
 PGs.of (VJ h1 h2 hs) fun vs σ H Q x=>by
 obtain⟨ρ,h,ws,τ,n,τ',s,r,rs,e,q⟩:=x
 cases r with
 | nil=>cases e
 | @cons w v ws vs r1 rt=>
   have e:Option.rec none (fun τ=>bindL (cY h n) ts ws τ) (cY h n t w τ)=some τ':=e
   cases e1:cY h n t w τ with
   | none=>rw[e1]at e;cases e
   | some τ1=>
     rw[e1]at e;refine⟨v,vs,rfl,ρ,h,w,τ,n,τ1,s,r1,rs,e1,fun σ1 rs1 o1=>?_⟩;exact⟨ρ,h,ws,τ1,n,τ',s,rt,rs1,e,fun σ2 rs2 o2=>q σ2 rs2 (by have:=o1.trans o2;simpa [uP] using this)⟩
theorem jk{es:List Expr}{k:Nat}{ts:List Tg}{n:Nat}{pos:Pos}(hc:X.calm=true)(h:PGs X es (tGs cl ts))(hl:ts.length=n:=by rfl)
 (hn:(assignEach es X.env).length=n:=by rfl) (hst:(assignEach es X.env).findIdx? (·.1)=none:=by rfl):PG X (.Tuple es k pos) (tG cl (.tup ts)):=PG.of (aa6 hc h hn hst) fun v σ H Q x=>by
 obtain⟨ρ,h,w,τ,m,τ',s,r,rs,e,q⟩:=x
 cases m with
 | zero=>cases e
 | succ m=>
   cases r with
   | @ref j a qa=>
     have e:Option.rec none (fun o=>O.rec (fun xs=>bindL (cY h m) ts xs τ) (fun _=>none) (fun _ _=>none) (fun _=>none) (fun _=>none) (fun _=>none) o) (h.get j)=some τ':=e
     cases hg:h.get j with
     | none=>rw[hg]at e;cases e
     | some o=>
       rw[hg]at e;have x1:=s.at qa hg
       cases o with
       | tup xs=>
         have e:bindL (cY h m) ts xs τ=some τ':=e;obtain⟨vs,rv,qh⟩:=x1
         have len:∀(ts:List Tg) (xs:List W) (τ τ':Sg),bindL (cY h m) ts xs τ=some τ'->xs.length=ts.length:=by
          intro ts
          induction ts with
          | nil=>intro xs τ τ' e;cases xs with
            | nil=>rfl
            | cons _ _=>cases e
          | cons t ts ih=>intro xs τ τ' e;cases xs with
            | nil=>cases e
            | cons y ys=>
              have e:Option.rec none (fun τ=>bindL (cY h m) ts ys τ) (cY h m t y τ)=some τ':=e
              cases e1:cY h m t y τ with
              | none=>rw[e1]at e;cases e
              | some τ1=>rw[e1]at e;exact congrArg (· + 1) (ih ys τ1 τ' e)
         refine⟨a,vs,rfl,SqT.of qh,by rw[<- rv.length,len ts xs τ τ' e,hl],?_⟩
         exact⟨ρ,h,xs,τ,m,τ',s,rv,rs,e,fun σ' rs' o'=>q σ' rs' (by simpa [vars] using o')⟩
       | _=>cases e
   | _=>cases e
theorem RX{α:Type}(τ:Sg)(w:W)(i j:Nat):bh (setAt τ (some w) i) j=none->bh τ j=none/\(j=i->τ.length<=j):=by
 rw[oN,oO,oO];intro h
 by_cases z:i=j
 · subst z
   by_cases l:i<τ.length
   · rw[List.getElem?_set_self l]at h;cases h
   · refine⟨?_,fun _=>Nat.not_lt.mp l⟩;rw[List.getElem?_eq_none (Nat.not_lt.mp l)];rfl
 · rw[List.getElem?_set_ne z]at h;exact⟨h,fun q=>absurd q.symm z⟩
theorem bind_none{h:Hs}:∀(n:Nat) {t:Tg} {w:W} {τ τ':Sg},cY h n t w τ=some τ'->τ'.length=τ.length/\∀ i,bh τ' i=none->bh τ i=none/\(i ∈ vars t->τ.length<=i)
 | 0,_,_,_,_,e=>nomatch e
 | n+1,t,w,τ,τ',e=>by
   have lst:∀(ts:List Tg) (ws:List W) (τ τ':Sg),bindL (cY h n) ts ws τ=some τ'->τ'.length=τ.length/\∀ i,bh τ' i=none->bh τ i=none/\(i ∈ uP ts->τ.length<=i):=by
    intro ts
    induction ts with
    | nil=>
      intro ws τ τ' e
      cases ws with
      | nil=>cases e;exact⟨rfl,fun i hi=>⟨hi,fun z=>by simp[uP]at z⟩⟩
      | cons _ _=>cases e
    | cons t ts ih=>
      intro ws τ τ' e
      cases ws with
      | nil=>cases e
      | cons y ys=>
        have e:Option.rec none (fun τ=>bindL (cY h n) ts ys τ) (cY h n t y τ)=some τ':=e
        cases e1:cY h n t y τ with
        | none=>rw[e1]at e;cases e
        | some τ1=>
          rw[e1]at e;obtain⟨l1,a1⟩:=bind_none n e1;obtain⟨l2,a2⟩:=ih ys τ1 τ' e;refine⟨l2.trans l1,fun i hi=>?_⟩;obtain⟨b1,b2⟩:=a2 i hi;obtain⟨c1,c2⟩:=a1 i b1;refine⟨c1,fun z=>?_⟩;simp only[uP,List.mem_append]at z
          rcases z with z | z
          · exact c2 z
          · rw[<- l1];exact b2 z
   cases t with
   | nm i=>
     have e:some (setAt τ (some w) i)=some τ':=e;cases e;refine⟨by rw[oN,List.length_set],fun j hj=>?_⟩;obtain⟨a,b⟩:=RX (α:=Unit) τ w i j hj
     exact⟨a,fun z=>b (by simpa [vars] using z)⟩
   | tup ts=>
     cases w with
     | ref k=>
       have e:Option.rec none (fun o=>O.rec (fun xs=>bindL (cY h n) ts xs τ) (fun _=>none) (fun _ _=>none) (fun _=>none) (fun _=>none) (fun _=>none) o) (h.get k)=some τ':=e
       cases hg:h.get k with
       | none=>rw[hg]at e;cases e
       | some o=>
         rw[hg]at e
         cases o with
         | tup xs=>
           obtain⟨a,b⟩:=lst ts xs τ τ' e
           exact⟨a,fun i hi=>by simpa [vars] using b i hi⟩
         | _=>cases e
     | _=>cases e
theorem Mf{h:Hs}{n:Nat}{t:Tg}{w:W}{τ τ':Sg}{ρ:List Addr}{σ σ' σ0:L2.St}(e:cY h n t w τ=some τ')(rs:RS ρ τ σ)(o:Off (vars t) σ σ')(ag:Ag σ0 τ σ):Ag σ0 τ' σ':=fun i hi=>by
 obtain⟨l,a⟩:=bind_none n e;obtain⟨b1,b2⟩:=a i hi;have len:τ.length=σ.length:=Paired.length rs
 by_cases z:i ∈ vars t
 · have h1:=b2 z;rw[<- ag i b1,List.getElem?_eq_none (by rw[o.1];omega),List.getElem?_eq_none (by omega)]
 · rw[o.2 i z];exact ag i b1
section
variable{σ0:L2.St}
theorem Im{t:Tg}{e:Ev.X}{D:Ends}(x:tS Pg cl E d σ0 (.asg t e) D σ H):Ni (tE Pg cl E d e) (tG cl t) D σ H:=by
 obtain⟨ρ,τ,h,n,s,rs,ag,q⟩:=x.step;refine ev.then s rs (show Post cl ρ H E ((evs Pg n d (.x e) τ h).bind fun r h=>r.toW fun w=>Opt (cY h 9 t w τ) fun τ=>.ok (.fl (.nx τ)) h) (SPo σ0 D) from q) fun a1 h1 ρ1 H1 b1 s1 p1=>?_;obtain⟨w,rfl,p2⟩:=bK p1;obtain⟨τ',e1,p3⟩:=gQ p2;refine⟨w,rfl,fun v rv=>⟨ρ1,h1,w,τ,9,τ',s1,rv,rs.mono b1.1,e1,fun σ' rs' o1=>?_⟩⟩;obtain⟨f,ef,qf⟩:=p3.now s1;cases ef;exact qf σ' rs' (Mf e1 rs o1 ag)
theorem RZ{i:Nat}{x:Str}{e:Expr}{y:Ev.X}{pos pos':Pos}(hN:X.N.Nodup)(hi:X.N[i]? =some x)(hx:Loc X.env.scope x)(he:PE X e (tE Pg cl E d y))(hs:swapsWith e (some (.Name x pos')) pos.line X.env=pure false:=by rfl)(hf:X.fn x=true\/X.env.scope.names.lookup x=some .local:=by first | exact .inl rfl | exact .inr rfl | assumption):
 PS X (.Assign [.Name x pos'] e pos) (tS Pg cl E d σ0 (.asg (.nm i) y)):=PS.of (lM hN hi hx he hs hf) fun D σ H q=>by
 obtain⟨ρ,τ,h,n,s,rs,p⟩:=Im q;exact⟨ρ,τ,h,n,s,rs,p.mono fun a h ρ H _ _ ⟨w,e,g⟩=>⟨w,e,fun v rv=>yR (g v rv)⟩⟩
theorem qX{tg e:Expr}{t:Tg}{y:Ev.X}{pos:Pos}(he:PE X e (tE Pg cl E d y))(hg:PG X tg (tG cl t))(hs:swapsWithSole [tg] e pos.line X.env=pure false:=by rfl)(hw:swappedStores [tg] e X.env=pure none:=by rfl)
 (h1:(assignEach [tg] X.env).map (·.2)= [assign tg X.env]:=by rfl):PS X (.Assign [tg] e pos) (tS Pg cl E d σ0 (.asg t y)):=PS.of (aa7 he hg hs hw h1) fun _ _ _ q=>Im q
theorem jw{e:Expr}{y:Ev.X}{pos:Pos}(he:PE X e (tE Pg cl E d y))(hs:swapsWith e none pos.line X.env=pure false:=by rfl):PS X (.Expr e pos) (tS Pg cl E d σ0 (.expr y)):=PS.of (gn he hs) fun D σ H x=>by
 obtain⟨ρ,τ,h,n,s,rs,ag,q⟩:=x.step;refine ev.then s rs (show Post cl ρ H E ((evs Pg n d (.x y) τ h).bind fun r h=>r.toW fun _=>.ok (.fl (.nx τ)) h) (SPo σ0 D) from q) fun a1 h1 ρ1 H1 b1 s1 p1=>?_;obtain⟨w,rfl,p2⟩:=bK p1;refine⟨w,rfl,fun v rv=>?_⟩;obtain⟨f,ef,qf⟩:=p2.now s1;cases ef;exact qf σ (rs.mono b1.1) ag
theorem aQ{e:Expr}{y:Ev.X}{pos:Pos}(he:PE X e (tE Pg cl E d y)):PS X (.Return (some e) pos) (tS Pg cl E d σ0 (.ret y)):=PS.of (dw he) fun D σ H x=>by
 obtain⟨ρ,τ,h,n,s,rs,ag,q⟩:=x.step;refine ev.then s rs (show Post cl ρ H E ((evs Pg n d (.x y) τ h).bind fun r h=>r.toW fun w=>.ok (.fl (.rt w)) h) (SPo σ0 D) from q) fun a1 h1 ρ1 H1 b1 s1 p1=>?_;obtain⟨w,rfl,p2⟩:=bK p1;obtain⟨f,ef,qf⟩:=p2.now s1;cases ef;exact⟨w,rfl,qf⟩
theorem dI{c:Expr}{a b:List Stmt}{x:Ev.X}{sa sb:List S}{pos:Pos}(hc:PT X c (tT Pg cl E d x))(ha:PSs X a (tSs Pg cl E d σ0 sa))(hb:PSs X b (tSs Pg cl E d σ0 sb)):PS X (.If c a b pos) (tS Pg cl E d σ0 (.ife x sa sb)):=PS.of (nq hc ha hb) fun D σ H z=>by
 obtain⟨ρ,τ,h,n,s,rs,ag,q⟩:=z.step;refine ev.then s rs (show Post cl ρ H E ((evs Pg n d (.x x) τ h).bind fun r h=>r.toW fun w=>w.onB (evs Pg n d (.ss sb) τ h) (evs Pg n d (.ss sa) τ h)) (SPo σ0 D) from q) fun a1 h1 ρ1 H1 b1 s1 p1=>?_;obtain⟨w,rfl,p2⟩:=bK p1;refine⟨w,rfl,fun v rv=>?_⟩
 rcases wF p2 with ⟨rfl,p3⟩ | ⟨rfl,p3⟩
 · cases rv;exact⟨true,rfl,cg ⟨ρ1,τ,h1,n,s1,rs.mono b1.1,ag,p3⟩⟩
 · cases rv;exact⟨false,rfl,a_ ⟨ρ1,τ,h1,n,s1,rs.mono b1.1,ag,p3⟩⟩
theorem au:PSs X [] (tSs Pg cl E d σ0 []):=PSs.of iz fun D σ H x=>by
 obtain⟨ρ,τ,h,n,s,rs,ag,q⟩:=x.step;obtain⟨f,ef,qf⟩:=Post.now s (show Post cl ρ H E (.ok (.fl (.nx τ)) h) (SPo σ0 D) from q);cases ef;exact qf σ rs ag
theorem aj{st:Stmt}{rest:List Stmt}{a:S}{as:List S}(h1:PS X st (tS Pg cl E d σ0 a))(h2:PSs X rest (tSs Pg cl E d σ0 as)):PSs X (st::rest) (tSs Pg cl E d σ0 (a::as)):=PSs.of (aR h1 h2) fun D σ H x=>by
 obtain⟨ρ,τ,h,n,s,rs,ag,q⟩:=x.step;refine evS.then s rs ag (show Post cl ρ H E ((evs Pg n d (.s a) τ h).bind fun r h=>r.toF fun f=>Fl.rec (fun τ=>evs Pg n d (.ss as) τ h) (fun w=>.ok (.fl (.rt w)) h) (fun τ=>.ok (.fl (.bk τ)) h) (fun τ=>.ok (.fl (.ct τ)) h) f) (SPo σ0 D) from q) fun a1 h1 ρ1 H1 b1 s1 p1=>?_;obtain⟨f,rfl,p2⟩:=z8 p1;refine⟨f,rfl,?_⟩
 cases f with
 | nx τ1=>exact fun σ1 rs1 ag1=>⟨ρ1,τ1,h1,n,s1,rs1,ag1,p2⟩
 | rt w=>
   obtain⟨f,ef,qf⟩:=Post.now s1 (show Post cl ρ1 H1 E (.ok (.fl (.rt w)) h1) (SPo σ0 D) from p2)
   cases ef;exact qf
 | bk τ1=>
   obtain⟨f,ef,qf⟩:=Post.now s1 (show Post cl ρ1 H1 E (.ok (.fl (.bk τ1)) h1) (SPo σ0 D) from p2)
   cases ef;exact qf
 | ct τ1=>
   obtain⟨f,ef,qf⟩:=Post.now s1 (show Post cl ρ1 H1 E (.ok (.fl (.ct τ1)) h1) (SPo σ0 D) from p2);cases ef;exact qf
end
inductive jG (K:ak)(ρ:List Addr):Iv->It->Prop
 | lst {n a}:ρ[n]? =some a->jG K ρ (.lst n) (Itl K a)
 | tup {n a}:ρ[n]? =some a->jG K ρ (.tup n) (Itt K a)
 | rng (lo n):jG K ρ (.rng lo n) (Itr lo n)
 | zip {n m a b}:ρ[n]? =some a->ρ[m]? =some b->jG K ρ (.zip n m) (Itz K a b)
 | dwn (lo n):jG K ρ (.dwn lo n) (Itd lo n)
 | enu {n a}:ρ[n]? =some a->jG K ρ (.enu n) (Ite K a)
theorem jG.mono{K:ak}{ρ ρ':List Addr}(e:ρ <+:ρ'){v:Iv}{J:It}(x:jG K ρ v J):jG K ρ' v J:=by
 cases x with
 | lst h=>exact .lst (dM e h)
 | tup h=>exact .tup (dM e h)
 | rng lo n=>exact .rng lo n
 | zip h h'=>exact .zip (dM e h) (dM e h')
 | dwn lo n=>exact .dwn lo n
 | enu h=>exact .enu (dM e h)
theorem Mg{K:ak}{ρ:List Addr}{h:Hs}{v:Iv}{J:It}{i:Nat}{fin:R A}{go:W->Hs->R A}{P:A->Hs->List Addr->Hp->Prop}(s:Sim cl ρ h H)(x:jG K ρ v J)(p:Post cl ρ H E (v.next i h fin go) P):
 (J.stop i H/\Post cl ρ H E fin P)\/(J.go i H/\∃ w h',∀ y H',J.yld i H y H'->∃ ρ',Bt cl ρ H ρ' H'/\Sim cl ρ' h' H'/\RW ρ' w y/\Post cl ρ' H' E (go w h') P):=by
 have here:∀ {w:W} {v':V},RW ρ w v'->Post cl ρ H E (go w h) P->(∀ y H',J.yld i H y H'->H'=H/\y=v')->∃ w h',∀ y H',J.yld i H y H'->∃ ρ',Bt cl ρ H ρ' H'/\Sim cl ρ' h' H'/\RW ρ' w y/\Post cl ρ' H' E (go w h') P:=fun {w v'} rw p f=>⟨w,h,fun y H' z=>by
  obtain⟨rfl,rfl⟩:=f y H' z
  exact⟨ρ,Bt.refl,s,rw,p⟩⟩
 cases x with
 | @lst n a e=>
   obtain⟨o,ho,p1⟩:=gQ (show Post cl ρ H E (Opt (h.get n) fun o=>o.onS fun xs=>Option.rec fin (fun w=>go w h) (nth xs i)) P from p);have x1:=s.at e ho
   cases o with
   | lst xs=>
     obtain⟨vs,rv,q⟩:=x1;have p2:Post cl ρ H E (Option.rec fin (fun w=>go w h) (nth xs i)) P:=p1;rw[pH]at p2;have hl:=rv.length
     cases hx:xs[i]? with
     | none=>
       rw[hx]at p2
       exact .inl ⟨⟨vs,SqL.of q,by have:=List.getElem?_eq_none_iff.mp hx;omega⟩,p2⟩
     | some w=>
       rw[hx]at p2;obtain⟨v',ev,rw⟩:=rv.get hx
       exact .inr ⟨⟨vs,v',SqL.of q,ev⟩,here rw p2 fun y H' z=>⟨z.1,by
        have:=z.2 vs (SqL.of q);rw[ev]at this
        exact(Option.some.inj this).symm⟩⟩
   | _=>exact p1.elim
 | @tup n a e=>
   obtain⟨o,ho,p1⟩:=gQ (show Post cl ρ H E (Opt (h.get n) fun o=>o.onT fun xs=>Option.rec fin (fun w=>go w h) (nth xs i)) P from p);have x1:=s.at e ho
   cases o with
   | tup xs=>
     obtain⟨vs,rv,q⟩:=x1;have p2:Post cl ρ H E (Option.rec fin (fun w=>go w h) (nth xs i)) P:=p1;rw[pH]at p2;have hl:=rv.length
     cases hx:xs[i]? with
     | none=>
       rw[hx]at p2
       exact .inl ⟨⟨vs,SqT.of q,by have:=List.getElem?_eq_none_iff.mp hx;omega⟩,p2⟩
     | some w=>
       rw[hx]at p2;obtain⟨v',ev,rw⟩:=rv.get hx
       exact .inr ⟨⟨vs,v',SqT.of q,ev⟩,here rw p2 fun y H' z=>⟨z.1,by
        have:=z.2 vs (SqT.of q);rw[ev]at this
        exact(Option.some.inj this).symm⟩⟩
   | _=>exact p1.elim
 | rng lo n=>
   have p1:Post cl ρ H E (Bool.rec fin (go (.int (lo + .ofNat i)) h) (Nat.ble (i+1) n)) P:=p;rw[ble_eq]at p1
   by_cases c:i+1<=n
   · rw[decide_eq_true c]at p1;exact .inr ⟨c,here (.int _) p1 fun y H' z=>z⟩
   · rw[decide_eq_false c]at p1
     exact .inl ⟨by show n<=i;omega,p1⟩
 | dwn lo n=>
   have p1:Post cl ρ H E (Bool.rec fin (go (.int (lo - .ofNat i)) h) (Nat.ble (i+1) n)) P:=p;rw[ble_eq]at p1
   by_cases c:i+1<=n
   · rw[decide_eq_true c]at p1;exact .inr ⟨c,here (.int _) p1 fun y H' z=>z⟩
   · rw[decide_eq_false c]at p1
     exact .inl ⟨by show n<=i;omega,p1⟩
 | @enu n a ea=>
   obtain⟨o,ho,p1⟩:=gQ (show Post cl ρ H E (Opt (h.get n) fun o=>o.onS fun xs=>Option.rec fin (fun x=>go (.ref h.n) (h.push (.tup [.int (.ofNat i),x]))) (nth xs i)) P from p);have x1:=s.at ea ho
   cases o with
   | lst xs=>
     obtain⟨vs,rv,q⟩:=x1;have p3:Post cl ρ H E (Option.rec fin (fun x=>go (.ref h.n) (h.push (.tup [.int (.ofNat i),x]))) (nth xs i)) P:=p1;rw[pH]at p3;have hl:=rv.length
     cases hx:xs[i]? with
     | none=>
       rw[hx]at p3
       exact .inl ⟨⟨vs,SqL.of q,by have:=List.getElem?_eq_none_iff.mp hx;omega⟩,p3⟩
     | some x=>
       rw[hx]at p3;obtain⟨x',ex,rx⟩:=rv.get hx;refine .inr ⟨⟨vs,x',SqL.of q,ex⟩,.ref h.n,h.push (.tup [.int (.ofNat i),x]),fun v H' ⟨T,x2,hT,hv,hH,f1⟩=>?_⟩;have e1:=f1 vs (SqL.of q);rw[ex]at e1;cases e1;subst hv hH;have pe:=List.prefix_append ρ [T];have s2:Sim cl (ρ ++ [T]) (h.push (.tup [.int (.ofNat i),x])) (upd H T (.tup [.int i,x'])):=s.push hT ⟨[.int i,x'],.cons (.int _) (.cons (rx.mono pe) .nil),az⟩
       exact⟨ρ ++ [T],Bt.new hT,s2,.ref (by rw[<- s.len,List.getElem?_append_right (aH _),Nat.sub_self];rfl),p3.later (Bt.new hT)⟩
   | _=>exact p1.elim
 | @zip n m a b ea eb=>
   obtain⟨o,ho,p1⟩:=gQ (show Post cl ρ H E (Opt (h.get n) fun o=>o.onS fun xs=>Opt (h.get m) fun o=>o.onS fun ys=>Option.rec fin (fun x=>Option.rec fin (fun y=>go (.ref h.n) (h.push (.tup [x,y]))) (nth ys i)) (nth xs i)) P from p);have x1:=s.at ea ho
   cases o with
   | lst xs=>
     obtain⟨vs,rv,q⟩:=x1;obtain⟨o2,ho2,p2⟩:=gQ (show Post cl ρ H E (Opt (h.get m) fun o=>o.onS fun ys=>Option.rec fin (fun x=>Option.rec fin (fun y=>go (.ref h.n) (h.push (.tup [x,y]))) (nth ys i)) (nth xs i)) P from p1);have x2:=s.at eb ho2
     cases o2 with
     | lst ys=>
       obtain⟨us,ru,q2⟩:=x2;have p3:Post cl ρ H E (Option.rec fin (fun x=>Option.rec fin (fun y=>go (.ref h.n) (h.push (.tup [x,y]))) (nth ys i)) (nth xs i)) P:=p2;rw[pH,pH]at p3;have hl:=rv.length;have hl2:=ru.length
       cases hx:xs[i]? with
       | none=>
         rw[hx]at p3
         exact .inl ⟨⟨vs,us,SqL.of q,SqL.of q2,.inl (by have:=List.getElem?_eq_none_iff.mp hx;omega)⟩,p3⟩
       | some x=>
         rw[hx]at p3
         cases hy:ys[i]? with
         | none=>
           have p4:Post cl ρ H E (Option.rec fin (fun y=>go (.ref h.n) (h.push (.tup [x,y]))) ys[i]?) P:=p3;rw[hy]at p4
           exact .inl ⟨⟨vs,us,SqL.of q,SqL.of q2,.inr (by have:=List.getElem?_eq_none_iff.mp hy;omega)⟩,p4⟩
         | some y=>
           have p4:Post cl ρ H E (Option.rec fin (fun y=>go (.ref h.n) (h.push (.tup [x,y]))) ys[i]?) P:=p3;rw[hy]at p4;obtain⟨x',ex,rx⟩:=rv.get hx;obtain⟨y',ey,ry⟩:=ru.get hy;refine .inr ⟨⟨vs,us,x',y',SqL.of q,SqL.of q2,ex,ey⟩,.ref h.n,h.push (.tup [x,y]),fun v H' ⟨T,x2,y2,hT,hv,hH,f1,f2⟩=>?_⟩;have e1:=f1 vs (SqL.of q);have e2:=f2 us (SqL.of q2);rw[ex]at e1;rw[ey]at e2;cases e1;cases e2;subst hv hH;have pe:=List.prefix_append ρ [T];have s2:Sim cl (ρ ++ [T]) (h.push (.tup [x,y])) (upd H T (.tup [x',y'])):=s.push hT ⟨[x',y'],.cons (rx.mono pe) (.cons (ry.mono pe) .nil),az⟩
           exact⟨ρ ++ [T],Bt.new hT,s2,.ref (by rw[<- s.len,List.getElem?_append_right (aH _),Nat.sub_self];rfl),p4.later (Bt.new hT)⟩
     | _=>exact p2.elim
   | _=>exact p1.elim
def DI(Pg:List Fn)(cl:Cn)(E:XK)(d:Nat)(K:ak)(i:I)(wi:TI):Prop:=∀(σ:L2.St) (H:Hp) (R:It->Hp->Prop),ev Pg cl E d (.i i) σ H (fun r _ ρ1 H1=>∃ v,r= .iv v/\∀ J,jG K ρ1 v J->R J H1)->wi σ H R
theorem PI.or{tg l:Expr}{w w':TI}(h:PI X tg l w)(h':PI X tg l w'):PI X tg l (fun σ H R=>w σ H R\/w' σ H R):=fun pins s σ H R I q=>q.elim (h pins s σ H R I) (h' pins s σ H R I)
theorem wG{K:ak}{e:Ev.X}:DI Pg cl E d K (.seq e) (fun σ H R=>Nq K (tE Pg cl E d e) σ H R\/VL K (tE Pg cl E d e) σ H R):=fun σ H R x=>by
 obtain⟨ρ,τ,h,n,s,rs,q⟩:=x.step;have q1:Post cl ρ H E ((evs Pg n d (.x e) τ h).bind fun r h=>r.toW fun w=>h.at w fun n o=>(O.casesOn (motive:=fun _=>Ev.R A) o (fun _=>.ok (.iv (.tup n)) h) (fun _=>.ok (.iv (.lst n)) h) (fun _ _=>.no) (fun _=>.no) (fun _=>.no) (fun _=>.no))) (fun r _ ρ1 H1=>∃ v,r= .iv v/\∀ J,jG K ρ1 v J->R J H1):=q;have q2:=q1.bind
 cases er:evs Pg n d (.x e) τ h with
 | no=>rw[er]at q2;exact q2.elim
 | ex C fs h1=>exact .inl ⟨ρ,τ,h,n,s,rs,by rw[er]at q2 ⊢;exact q2⟩
 | ok a h1=>
   rw[er]at q1;have q3:Post cl ρ H E (a.toW fun w=>h1.at w fun n o=>(O.casesOn (motive:=fun _=>Ev.R A) o (fun _=>.ok (.iv (.tup n)) h1) (fun _=>.ok (.iv (.lst n)) h1) (fun _ _=>.no) (fun _=>.no) (fun _=>.no) (fun _=>.no))) (fun r _ ρ1 H1=>∃ v,r= .iv v/\∀ J,jG K ρ1 v J->R J H1):=q1;obtain⟨w,rfl,q4⟩:=bK q3;obtain⟨k,rfl,q5⟩:=RL q4;obtain⟨o,ho,q6⟩:=gQ q5
   cases o with
   | lst xs=>
     refine .inl ⟨ρ,τ,h,n,s,rs,?_⟩;rw[er];intro ρ1 H1 b1 s1;refine⟨_,rfl,fun v rv=>?_⟩
     cases rv with
     | @ref _ a ea=>
       obtain⟨vs,rv,qh⟩:=s1.at ea ho;obtain⟨v,ev,g⟩:=(show Post cl ρ H E (.ok (A.iv (.lst k)) h1) _ from q6) ρ1 H1 b1 s1;cases ev
       exact⟨a,rfl,⟨vs,SqL.of qh⟩,g _ (.lst ea)⟩
   | tup xs=>
     refine .inr ⟨ρ,τ,h,n,s,rs,?_⟩;rw[er];intro ρ1 H1 b1 s1;refine⟨_,rfl,fun v rv=>?_⟩
     cases rv with
     | @ref _ a ea=>
       obtain⟨vs,rv,qh⟩:=s1.at ea ho;obtain⟨v,ev,g⟩:=(show Post cl ρ H E (.ok (A.iv (.tup k)) h1) _ from q6) ρ1 H1 b1 s1;cases ev
       exact⟨a,rfl,⟨vs,SqT.of qh⟩,g _ (.tup ea)⟩
   | _=>exact q6.elim
theorem wH{ρ:List Addr}{H:Hp}{i:Int}{k:R A}{P:A->Hs->List Addr->Hp->Prop}(p:Post cl ρ H E (within i k) P):(-(2 ^ 62)<=i/\i<2 ^ 62)/\Post cl ρ H E k P:=by
 obtain⟨c,p⟩:=jX p;obtain⟨c2,p⟩:=jX p;rw[nG]at c c2;have c:=of_decide_eq_true c;have c2:=of_decide_eq_true c2;exact⟨⟨by omega,by omega⟩,p⟩
theorem Y8{ρ:List Addr}{H:Hp}{ws:List W}{vs:List V}{f:W->R A}{P:A->Hs->List Addr->Hp->Prop}(r:RWs ρ ws vs)(p:Post cl ρ H E (Oq ws f) P):∃ w v,ws= [w]/\vs= [v]/\RW ρ w v/\Post cl ρ H E (f w) P:=by
 cases r with
 | nil=>exact p.elim
 | cons r1 t=>cases t with
   | nil=>exact⟨_,_,rfl,rfl,r1,p⟩
   | cons _ _=>exact p.elim
theorem Mh{ρ:List Addr}{H:Hp}{ws:List W}{vs:List V}{f:W->W->R A}{P:A->Hs->List Addr->Hp->Prop}(r:RWs ρ ws vs)(p:Post cl ρ H E (Cu ws f) P):∃ w v w' v',ws= [w,w']/\vs= [v,v']/\RW ρ w v/\RW ρ w' v'/\Post cl ρ H E (f w w') P:=by
 cases r with
 | nil=>exact p.elim
 | cons r1 t=>cases t with
   | nil=>exact p.elim
   | cons r2 t=>cases t with
     | nil=>exact⟨_,_,_,_,rfl,rfl,r1,r2,p⟩
     | cons _ _=>exact p.elim
theorem oU{K:ak}{as:List Ev.X}:DI Pg cl E d K (.pU as) (L2.GQ (tA Pg cl E d as)):=fun σ H R x=>by
 obtain⟨ρ,τ,h,n,s,rs,q⟩:=x.step;refine ev.then s rs (show Post cl ρ H E ((evs Pg n d (.a as) τ h).bind fun r h=>r.toL fun ws=>Oq ws fun w=>w.onI fun j=>within j (.ok (A.iv (.rng 0 j.toNat)) h)) (fun r _ ρ1 H1=>∃ v,r= .iv v/\∀ J,jG K ρ1 v J->R J H1) from q) fun a1 h1 ρ1 H1 b1 s1 p1=>?_;obtain⟨ws,rfl,p2⟩:=nH p1;refine⟨ws,rfl,fun vs rv=>?_⟩;obtain⟨w,v,rfl,rfl,r1,p3⟩:=Y8 rv p2;obtain⟨j,rfl,p4⟩:=z9 p3;obtain⟨c,p5⟩:=wH p4;cases r1;obtain⟨v,ev,g⟩:=p5.now s1;cases ev;exact⟨j,rfl,c.1,c.2,g _ (.rng _ _)⟩
theorem Y9{K:ak}{as:List Ev.X}:DI Pg cl E d K (.abW as) (L2.Xx (tA Pg cl E d as)):=fun σ H R x=>by
 obtain⟨ρ,τ,h,n,s,rs,q⟩:=x.step;refine ev.then s rs (show Post cl ρ H E ((evs Pg n d (.a as) τ h).bind fun r h=>r.toL fun ws=>Cu ws fun v w=>v.onI fun i=>w.onI fun j=>within i (within j (.ok (A.iv (.rng i (j - i).toNat)) h))) (fun r _ ρ1 H1=>∃ v,r= .iv v/\∀ J,jG K ρ1 v J->R J H1) from q) fun a1 h1 ρ1 H1 b1 s1 p1=>?_;obtain⟨ws,rfl,p2⟩:=nH p1;refine⟨ws,rfl,fun vs rv=>?_⟩;obtain⟨w,v,w',v',rfl,rfl,r1,r2,p3⟩:=Mh rv p2;obtain⟨i,rfl,p4⟩:=z9 p3;obtain⟨j,rfl,p5⟩:=z9 p4;obtain⟨c,p6⟩:=wH p5;obtain⟨c2,p7⟩:=wH p6;cases r1;cases r2;obtain⟨v,ev,g⟩:=p7.now s1;cases ev;exact⟨i,j,rfl,⟨c.1,c.2,c2.1,c2.2⟩,g _ (.rng _ _)⟩
section
variable{σ0:L2.St}
theorem R0{K:ak}{as:List Ev.X}:DI Pg cl E d K (.zip as) (L2.abH K (tA Pg cl E d as)):=fun σ H R x=>by
 obtain⟨ρ,τ,h,n,s,rs,q⟩:=x.step;refine ev.then s rs (show Post cl ρ H E ((evs Pg n d (.a as) τ h).bind fun r h=>r.toL fun ws=>Cu ws fun v w=>h.at v fun n o=>o.onL fun _=>h.at w fun m o=>o.onL fun _=>.ok (.iv (.zip n m)) h) _ from q) fun a1 h1 ρ1 H1 b1 s1 p1=>?_;obtain⟨ws,rfl,p2⟩:=nH p1;refine⟨ws,rfl,fun vs rv=>?_⟩;obtain⟨u,v,u',v',rfl,rfl,r1,r2,p3⟩:=Mh rv p2;obtain⟨k,o,a,rfl,rfl,ea,ho,x1,p4⟩:=at_of s1 r1 p3;obtain⟨xs,rfl,p5⟩:=Ie p4;obtain⟨k2,o2,b,rfl,rfl,eb,ho2,x2,p6⟩:=at_of s1 r2 p5;obtain⟨ys,rfl,p7⟩:=Ie p6;obtain⟨v,e,f⟩:=p7.now s1;cases e;obtain⟨us,_,q1⟩:=x1;obtain⟨ws,_,q2⟩:=x2;exact⟨a,b,rfl,⟨us,SqL.of q1⟩,⟨ws,SqL.of q2⟩,f _ (.zip ea eb)⟩
theorem acf{K:ak}{i:I}{t:Tg}{b:List S}{wi:TI}{D:Ends}(di:DI Pg cl E d K i wi)(x:tS Pg cl E d σ0 (.for_ i t b) D σ H):Hx wi (tG cl t) (tSs Pg cl E d σ0 b) D σ H:=by
 obtain⟨ρ,τ,h,n,s,rs,ag,q⟩:=x.step;refine di σ H _ (ev.then s rs (show Post cl ρ H E ((evs Pg n d (.i i) τ h).bind fun r h=>r.toV fun v=>evs Pg n d (.lp v 0 t b) τ h) (SPo σ0 D) from q) fun a1 h1 ρ1 H1 b1 s1 p1=>?_);obtain⟨v,rfl,p2⟩:=Ib p1;refine⟨v,rfl,fun J hJ=>?_⟩;refine⟨fun i m σ H=>∃ ρ τ h,Sim cl ρ h H/\RS ρ τ σ/\Ag σ0 τ σ/\jG K ρ v J/\Post cl ρ H E (evs Pg m d (.lp v i t b) τ h) (SPo σ0 D),⟨n,ρ1,τ,h1,s1,rs.mono b1.1,ag,hJ,p2⟩,?_⟩;rintro i m σ2 H2 ⟨ρ2,τ2,h2,s2,rs2,ag2,j2,p3⟩
 cases m with
 | zero=>exact p3.elim
 | succ m=>
   have p4:Post cl ρ2 H2 E (v.next i h2 (.ok (.fl (.nx τ2)) h2) fun w h2=>Opt (cY h2 9 t w τ2) fun τ=>(evs Pg m d (.ss b) τ h2).bind fun r h=>r.toF fun f=>Oo h f fun τ=>evs Pg m d (.lp v (i+1) t b) τ h) (SPo σ0 D):=p3
   rcases Mg s2 j2 p4 with ⟨st,p5⟩ | ⟨go,w,h2',yl⟩
   · obtain⟨f,ef,qf⟩:=p5.now s2;cases ef;exact .inl ⟨st,qf σ2 rs2 ag2⟩
   · refine .inr ⟨go,fun σ' H'=>∃ ρ τ h,Sim cl ρ h H'/\RS ρ τ σ'/\Ag σ0 τ σ'/\jG K ρ v J/\Post cl ρ H' E (evs Pg m d (.lp v (i+1) t b) τ h) (SPo σ0 D),fun σ' H' z=>⟨m,Nat.lt_succ_self m,z⟩,fun y H' yy=>?_⟩;obtain⟨Io,bb,s2',rw,p5⟩:=yl y H' yy;obtain⟨τ3,e3,p6⟩:=gQ p5;have acg:=rs2.mono bb.1;have j2:=j2.mono bb.1;refine⟨Io,h2',w,τ2,9,τ3,s2',rw,acg,e3,fun σ3 rs3 o3=>?_⟩;refine evS.then s2' rs3 (Mf e3 acg o3 ag2) p6 fun a4 h4 ρ4 H4 b4 s4 p7=>?_;obtain⟨f,rfl,p8⟩:=z8 p7;refine⟨f,rfl,?_⟩
     cases f with
     | nx τ4=>exact fun σ4 rs4 ag4=>⟨ρ4,τ4,h4,s4,rs4,ag4,j2.mono b4.1,p8⟩
     | ct τ4=>exact fun σ4 rs4 ag4=>⟨ρ4,τ4,h4,s4,rs4,ag4,j2.mono b4.1,p8⟩
     | rt w4=>
       obtain⟨f,ef,qf⟩:=Post.now s4 (show Post cl ρ4 H4 E (.ok (.fl (.rt w4)) h4) (SPo σ0 D) from p8)
       cases ef;exact qf
     | bk τ4=>
       obtain⟨f,ef,qf⟩:=Post.now s4 (show Post cl ρ4 H4 E (.ok (.fl (.nx τ4)) h4) (SPo σ0 D) from p8);cases ef;exact qf
theorem Aa{iter tg:Expr}{body:List Stmt}{wi:TI}{i:I}{t:Tg}{b:List S}{pos:Pos}(hp:PassesOwn (model X.prog X.w) X.A X.env X.xe)(hc:X.calm=true)(di:DI Pg cl E d X.K i wi)(hi:PI X tg iter wi)(hg:PG X tg (tG cl t))(hb:PSs X body (tSs Pg cl E d σ0 b))
 (hs:∀ x,foldedSetIterable iter X.env x=pure x:=by intro _;rfl):PS X (.For tg iter body [] pos) (tS Pg cl E d σ0 (.for_ i t b)):=PS.of (t6 hp hc hi hg hb hs) fun _ _ _ q=>acf di q
end
end
section
variable{Pg:List Fn}{cl:Cn}{E:XK}{d:Nat}{X:Cx}{σ:L2.St}{H:Hp}
def tCd(Pg:List Fn)(cl:Cn)(d:Nat):Option Ev.X->TT
 | none=>XM
 | some c=>tT Pg cl E0 d c
theorem OD:∀ {σ σ':L2.St},σ'.length=σ.length->(∀(i:Nat) (v:V),σ[i]? =some (some v)->σ'[i]? =some (some v))->Wk σ σ'
 | [],[],_,_=>trivial
 | [],_::_,h,_=>by simp at h
 | _::_,[],h,_=>by simp at h
 | none::r,b::r',h,f=>by
   show Wk r r'
   exact OD (by simpa using h) fun i v e=>by simpa using f (i+1) v (by simpa using e)
 | some a::r,b::r',h,f=>by
   have hb:=f 0 a rfl;refine⟨by simpa using hb,OD (by simpa using h) fun i v e=>by simpa using f (i+1) v (by simpa using e)⟩
theorem Off.wk{vs:List Nat}{σ σ':L2.St}(o:Off vs σ σ')(h:∀ i ∈ vs,σ[i]? =some none):Wk σ σ':=OD o.1 fun i v e=>by
 by_cases hi:i ∈ vs
 · rw[h i hi]at e;cases e
 · rw[o.2 i hi];exact e
def Inn(Pg:List Fn)(cl:Cn)(d:Nat)(e:Ev.X)(D0:Nat)(D:Addr)(m:Option G)(C:L2.St->Prop)(tin:TN):Prop:=∀(σ1:L2.St) (τ1:Sg) (h:Hs) (ρ:List Addr) (H:Hp) (n:Nat) (k:Hs->R A) (P:A->Hs->List Addr->Hp->Prop) (N:Hp->Prop),Sim cl ρ h H->RS ρ τ1 σ1->ρ[D0]? =some D->C σ1->
 Post cl ρ H E0 (inner (jV Pg d) n τ1 h e D0 m k) P->(∀ h' ρ' H',Bt cl ρ H ρ' H'->Sim cl ρ' h' H'->Post cl ρ' H' E0 (k h') P->N H')->tin σ1 H N
theorem Mi{K:ak}{v:Iv}{J:It}{t:Tg}{c:Option Ev.X}{m:Option G}{e:Ev.X}{D0:Nat}{D:Addr}{C:L2.St->Prop}{tin:TN}(hin:Inn Pg cl d e D0 D m C tin){ρ:List Addr}{h:Hs}{τ:Sg}{n:Nat}{P:A->Hs->List Addr->Hp->Prop}{Q:Hp->Prop}
 (s:Sim cl ρ h H) (rs:RS ρ τ σ) (hJ:jG K ρ v J) (hD:ρ[D0]? =some D) (hv:∀ i ∈ vars t,σ[i]? =some none) (hC:∀ σ1,Off (vars t) σ σ1->C σ1) (p:Post cl ρ H E0 (evs Pg n d (.cl v 0 t c m e D0) τ h) P)
 (hQ:∀ r h' ρ' H',Bt cl ρ H ρ' H'->Sim cl ρ' h' H'->P r h' ρ' H'->Q H'):xQ J (tG cl t) (tCd Pg cl d c) tin σ H Q:=by
 refine⟨fun i m' H'=>∃ ρ' h',Bt cl ρ H ρ' H'/\Sim cl ρ' h' H'/\Post cl ρ' H' E0 (evs Pg m' d (.cl v i t c m e D0) τ h') P,⟨n,ρ,h,Bt.refl,s,p⟩,?_⟩;rintro i m' H2 ⟨ρ2,h20,b2,s20,p2⟩
 cases m' with
 | zero=>exact p2.elim
 | succ m'=>
   have p3:Post cl ρ2 H2 E0 (v.next i h20 (.ok .u h20) fun w h2=>Opt (cY h2 9 t w τ) fun τ1=>
    test (jV Pg d) m' τ1 h2 c (fun h=>evs Pg m' d (.cl v (i+1) t c m e D0) τ h) (fun h=>inner (jV Pg d) m' τ1 h e D0 m fun h=>evs Pg m' d (.cl v (i+1) t c m e D0) τ h)) P:=p2
   rcases Mg s20 (hJ.mono b2.1) p3 with ⟨st,p4⟩ | ⟨go,w,h2,yl⟩
   · exact .inl ⟨st,hQ _ _ _ _ b2 s20 (p4.now s20)⟩
   · refine .inr ⟨go,fun H'=>∃ ρ' h',Bt cl ρ H ρ' H'/\Sim cl ρ' h' H'/\Post cl ρ' H' E0 (evs Pg m' d (.cl v (i+1) t c m e D0) τ h') P,fun H' z=>⟨m',Nat.lt_succ_self m',z⟩,fun y H' yy=>?_⟩;obtain⟨Io,bb,s2,rw,p4⟩:=yl y H' yy;obtain⟨τ1,e1,p5⟩:=gQ p4;have b2:=b2.trans bb;refine⟨Io,h2,w,τ,9,τ1,s2,rw,rs.mono b2.1,e1,fun σ1 rs1 o1=>⟨o1.wk hv,?_⟩⟩
     have fin:∀ {ρ3:List Addr} {h3:Hs} {H3:Hp},Bt cl Io H' ρ3 H3->Sim cl ρ3 h3 H3->Post cl ρ3 H3 E0 (inner (jV Pg d) m' τ1 h3 e D0 m fun h=>evs Pg m' d (.cl v (i+1) t c m e D0) τ h) P->
      tin σ1 H3 fun H'=>∃ ρ' h',Bt cl ρ H ρ' H'/\Sim cl ρ' h' H'/\Post cl ρ' H' E0 (evs Pg m' d (.cl v (i+1) t c m e D0) τ h') P:=fun {ρ3 h3 H3} b3 s3 q3=>
      hin σ1 τ1 h3 ρ3 H3 m' _ P _ s3 (rs1.mono b3.1) (dM (b2.1.trans b3.1) hD) (hC σ1 o1) q3 fun h' ρ' H' b' s' q'=>⟨ρ',h',(b2.trans b3).trans b',s',q'⟩
     cases c with
     | none=>exact fin Bt.refl s2 p5
     | some c=>
       refine ev.then s2 rs1 (show Post cl Io H' E0 ((evs Pg m' d (.x c) τ1 h2).bind fun r h=>r.toW fun w=>w.onB (evs Pg m' d (.cl v (i+1) t (some c) m e D0) τ h) (inner (jV Pg d) m' τ1 h e D0 m fun h=>evs Pg m' d (.cl v (i+1) t (some c) m e D0) τ h)) P from p5) fun a3 h3 ρ3 H3 b3 s3 p6=>?_;obtain⟨w3,rfl,p7⟩:=bK p6;refine⟨w3,rfl,fun v3 rv3=>?_⟩
       rcases wF p7 with ⟨rfl,p8⟩ | ⟨rfl,p8⟩
       · cases rv3;exact⟨true,rfl,cg (fin b3 s3 p8)⟩
       · cases rv3;exact⟨false,rfl,a_ ⟨ρ3,h3,b2.trans b3,s3,p8⟩⟩
theorem Ip{e:Ev.X}{D0:Nat}{D:Addr}{C:L2.St->Prop}:Inn Pg cl d e D0 D none C (zU D (tE Pg cl E0 d e)):=fun σ1 τ1 h ρ H n k P N s rs hD _ p hN=>by
 refine ev.then s rs (show Post cl ρ H E0 ((evs Pg n d (.x e) τ1 h).bind fun r h=>r.toW fun w=>(uf h (.ref D0) w).bind fun _ h=>k h) P from p) fun a1 h1 ρ1 H1 b1 s1 p1=>?_;obtain⟨w,rfl,p2⟩:=bK p1;refine⟨w,rfl,fun v rv=>?_⟩;have hD1:=dM b1.1 hD;obtain⟨o,ho,x1⟩:=s1.obj D0 D hD1;have e1:uf h1 (.ref D0) w=Opt (h1.get D0) fun o=>o.onL fun xs=>size xs (.ok .non (h1.set D0 (.lst (app xs [w])))):=rfl;rw[e1,ho]at p2
 cases o with
 | lst xs=>
   have p3:Post cl ρ1 H1 E0 ((size xs (.ok .non (h1.set D0 (.lst (app xs [w]))))).bind fun _ h=>k h) P:=p2;unfold size at p3;rw[ble_eq,len_eq]at p3
   by_cases z:xs.length<=16777215
   · rw[decide_eq_true z]at p3;obtain⟨vs,rvs,q⟩:=x1;have hl:=rvs.length;refine⟨vs,q,by rw[mU];omega,?_⟩;have s2:Sim cl ρ1 (h1.set D0 (.lst (app xs [w]))) (upd H1 D (.lst (vs ++ [v]))):=s1.put hD1 ⟨_,by rw[qW];exact rvs.append (.cons rv .nil),az⟩;refine hN _ ρ1 _ (b1.trans (Bt.put hD1)) s2 ?_;exact(show Post cl ρ1 H1 E0 (k (h1.set D0 (.lst (app xs [w])))) P from p3).later (Bt.put hD1)
   · rw[decide_eq_false z]at p3
     exact p3.elim
 | _=>exact p2.elim
theorem Y_{K:ak}{i2:I}{t2:Tg}{c2:Option Ev.X}{wi2:TI}{e:Ev.X}{D0:Nat}{D:Addr}(di:DI Pg cl E0 d K i2 wi2):Inn Pg cl d e D0 D (some (.mk i2 t2 c2)) (fun σ=>∀ i ∈ vars t2,σ[i]? =some none) (Rr wi2 (tG cl t2) (tCd Pg cl d c2) (zU D (tE Pg cl E0 d e))):=fun σ1 τ1 h ρ H n k P N s rs hD hC p hN=>by
 refine di σ1 H _ (ev.then s rs (show Post cl ρ H E0 ((evs Pg n d (.i i2) τ1 h).bind fun r h=>r.toV fun v=>(evs Pg n d (.cl v 0 t2 c2 none e D0) τ1 h).bind fun _ h=>k h) P from p) fun a1 h1 ρ1 H1 b1 s1 p1=>?_);obtain⟨v,rfl,p2⟩:=Ib p1;refine⟨v,rfl,fun J hJ=>?_⟩;refine Mi Ip (C:=fun _=>True) s1 (rs.mono b1.1) hJ (dM b1.1 hD) hC (fun _ _=>trivial) p2.bind fun r h' ρ' H' b' s' q=>?_;exact hN h' ρ' H' (b1.trans b') s' q
theorem ach{ρ:List Addr}{H:Hp}{α:Type}{r:R α}{P:α->Hs->List Addr->Hp->Prop}(p:Post cl ρ H E r.nox P):Post cl ρ H E0 r P:=by
 cases r with
 | ok a h=>exact p
 | ex C fs h=>exact p.elim
 | no=>exact p
theorem R1{ρ:List Addr}{τ:Sg}(rs:RS ρ τ σ)(nt:Nat)(idx:List Nat):RS ρ (yN nt idx τ) (sgb nt idx σ):=by
 have base:RS ρ (List.rec (motive:=fun _=>Sg) [] (fun i _ r=>bh τ i::r) idx) (idx.map fun j=>(σ[j]?).getD none):=by
  induction idx with
  | nil=>exact .nil
  | cons i idx ih=>
    refine .cons ?_ ih;show RO ρ (bh τ i) ((σ[i]?).getD none)
    cases e:bh τ i with
    | none=>exact trivial
    | some w=>
      obtain⟨v,ev,rv⟩:=rs.get e;rw[ev];exact rv
 unfold sgb
 induction nt with
 | zero=>exact base
 | succ nt ih=>exact .cons trivial ih
theorem Ir{nt:Nat}{idx:List Nat}{i:Nat}(h:i<nt):(sgb nt idx σ)[i]? =some none:=by
 unfold sgb;rw[List.getElem?_append_left (by simpa using h),List.getElem?_replicate,if_pos h]
theorem Mj{K:ak}{nt:Nat}{idx:List Nat}{it:I}{t:Tg}{c:Option Ev.X}{m:Option G}{e:Ev.X}{wi:TI}{tin:Addr->TN}{Q:VK}(di:DI Pg cl E d K it wi){C:L2.St->Prop}(hin:∀ D0 D,Inn Pg cl d e D0 D m C (tin D))(hv:∀ i ∈ vars t,i<nt)
 (hC:∀ σ σ1,Off (vars t) (sgb nt idx σ) σ1->C σ1) (x:tE Pg cl E d (.comp nt idx it t c m e) σ H Q):G3 nt idx wi (tG cl t) (tCd Pg cl d c) tin σ H Q:=by
 obtain⟨ρ,τ,h,n,s,rs,q⟩:=x.step;refine di σ H _ (ev.then s rs (show Post cl ρ H E ((evs Pg n d (.i it) τ h).bind fun r h=>r.toV fun v=>(evs Pg n d (.cl v 0 t c m e h.n) (yN nt idx τ) (h.push (.lst []))).nox.bind fun _ h'=>.ok (.w (.ref h.n)) h') (VP Q) from q) fun a1 h1 ρ1 H1 b1 s1 p1=>?_);obtain⟨v,rfl,p2⟩:=Ib p1;refine⟨v,rfl,fun J hJ D hD=>?_⟩;have s2:Sim cl (ρ1 ++ [D]) (h1.push (.lst [])) (upd H1 D (.lst [])):=s1.push hD ⟨[],.nil,az⟩;have gD:(ρ1 ++ [D])[h1.n]? =some D:=by rw[<- s1.len,List.getElem?_append_right (aH _),Nat.sub_self];rfl
 refine Mi (hin h1.n D) s2 ((R1 rs nt idx).mono (b1.1.trans (List.prefix_append _ _))) (hJ.mono (List.prefix_append _ _)) gD (fun i hi=>Ir (hv i hi)) (fun σ1 o=>hC σ σ1 o) (ach (p2.later (Bt.new hD)).bind) fun r h' ρ' H' b' s' q'=>?_;exact Post.eV s' q' (.ref (dM b'.1 gD))
theorem iH:PTs X [] (tCd Pg cl d none):=Ln
variable{N':List Str}{sc:Scope}{nt:Nat}{idx:List Nat}{elt tg iter tg2 bO:Expr}{ifs gm:List Expr}{gs:List Comprehension}{pos:Pos}{wi wi2:TI}{it it2:I}{t t2:Tg}{c c2:Option Ev.X}{e:Ev.X}
theorem jd(B:rQ X N' sc nt idx)(hc:X.calm=true)(di:DI Pg cl E d X.K it wi)(hi:PI X tg iter wi)(hg:∀ C s₀ H₀ fp,PG (blk X N' sc C s₀ H₀ fp) tg (tG cl t))(hif:∀ C s₀ H₀ fp,PTs (blk X N' sc C s₀ H₀ fp) ifs (tCd Pg cl d c))(he:∀ C s₀ H₀ fp,PE (blk X N' sc C s₀ H₀ fp) elt (tE Pg cl E0 d e))(hv:∀ i ∈ vars t,i<nt)
 (hs:∀ x,foldedSetIterable iter X.env x=pure x:=by intro _;rfl):PE X (.ListComp elt [⟨tg,iter,ifs,0⟩] sc pos) (tE Pg cl E d (.comp nt idx it t c none e)):=
 PE.of (Cq B hc hi (G4 hg hif he) hs) fun _ _ _ q=>Mj di (C:=fun _=>True) (fun _ _=>Ip) hv (fun _ _ _=>trivial) q
theorem aci(hv:∀ i ∈ vars t,i<nt)(hv2:∀ i ∈ vars t2,i<nt/\i ∉ vars t)(σ σ1:L2.St)(o:Off (vars t) (sgb nt idx σ) σ1):∀ i ∈ vars t2,σ1[i]? =some none:=fun i hi=>by
 obtain⟨h1,h2⟩:=hv2 i hi;rw[o.2 i h2];exact Ir h1
theorem Wt{σ0:L2.St}{i:Nat}{y:Str}{py spos:Pos}(hN:X.N.Nodup)(hi':X.N[i]? =some y)(hy:Loc X.env.scope y)(B:rQ X N' sc nt idx)(hc:X.calm=true)(di:DI Pg cl E d X.K it wi)(hi:PI X tg iter wi)(hg:∀ C s₀ H₀ fp,PG (blk X N' sc C s₀ H₀ fp) tg (tG cl t))(hif:∀ C s₀ H₀ fp,PTs (blk X N' sc C s₀ H₀ fp) ifs (tCd Pg cl d c))
 (di2:DI Pg cl E0 d X.K it2 wi2) (hi2:∀ C s₀ H₀ fp,PI (blk X N' sc C s₀ H₀ fp) tg2 bO wi2) (hg2:∀ C s₀ H₀ fp,PG (blk X N' sc C s₀ H₀ fp) tg2 (tG cl t2)) (Wc:∀ C s₀ H₀ fp,PTs (blk X N' sc C s₀ H₀ fp) gm (tCd Pg cl d c2))
 (he:∀ C s₀ H₀ fp,PE (blk X N' sc C s₀ H₀ fp) elt (tE Pg cl E0 d e)) (hv:∀ i ∈ vars t,i<nt) (hv2:∀ i ∈ vars t2,i<nt/\i ∉ vars t)
 (hsw:swapsWith (.ListComp elt [⟨tg,iter,ifs,0⟩,⟨tg2,bO,gm,0⟩] sc pos) (some (.Name y py)) spos.line X.env=pure true:=by rfl) (hs:∀ x,foldedSetIterable iter X.env x=pure x:=by intro _;rfl) (hs2:∀ C s₀ H₀ fp x,foldedSetIterable bO (blk X N' sc C s₀ H₀ fp).env x=pure x:=by intro _ _ _ _ _;rfl)
 (hf:X.fn y=true\/X.env.scope.names.lookup y=some .local:=by first | exact .inl rfl | exact .inr rfl | assumption):
 PS X (.Assign [.Name y py] (.ListComp elt [⟨tg,iter,ifs,0⟩,⟨tg2,bO,gm,0⟩] sc pos) spos) (tS Pg cl E d σ0 (.asg (.nm i) (.comp nt idx it t c (some (.mk it2 t2 c2)) e))):=
 PS.of (Lw hN hi' hy B hc hi (adY hc hg hif hi2 hg2 Wc he hs2) hsw hs hf) fun D σ H q=>by
 obtain⟨ρ,τ,h,n,s,rs,p⟩:=Im q;exact Mj di (fun _ _=>Y_ di2) hv (aci hv hv2) ⟨ρ,τ,h,n,s,rs,p.mono fun a h ρ H _ _ ⟨w,e,g⟩=>⟨w,e,fun v rv=>yR (g v rv)⟩⟩
end
section
variable{Pg:List Fn}{cl:Cn}{E:XK}{d:Nat}{X:Cx}{σ:L2.St}{H:Hp}
def spF(Pg:List Fn)(cl:Cn)(d f:Nat):Sp:=fun vs H Q E=>∃ ρ ws h n,Sim cl ρ h H/\RWs ρ ws vs/\Post cl ρ H E (evs Pg n d (.call f ws) [] h) (VP Q)
theorem call_of{f:Nat}{as:List Ev.X}{Q:VK}(x:tE Pg cl E d (.call f as) σ H Q):zL (spF Pg cl d f) [] E (tA Pg cl E d as) σ H Q:=by
 obtain⟨ρ,τ,h,n,s,rs,q⟩:=x.step;refine ev.then s rs (show Post cl ρ H E ((evs Pg n d (.a as) τ h).bind fun a h=>a.toL fun ws=>evs Pg n d (.call f ws) [] h) (VP Q) from q) fun a1 h1 ρ1 H1 b1 s1 p1=>?_;obtain⟨ws,rfl,p2⟩:=nH p1;exact⟨ws,rfl,fun vs rv=>⟨ρ1,ws,h1,n,s1,by rw[List.append_nil];exact rv,p2⟩⟩
theorem yS{f:Nat}{ws:List W}{h:Hs}{n:Nat}{ρ:List Addr}{P:A->Hs->List Addr->Hp->Prop}(p:Post cl ρ H E (evs Pg n d (.call f ws) [] h) P):∃ n' d' F,d=d'+1/\Pg[f]? =some F/\Post cl ρ H E (body (evs Pg n') d' h ws F) P:=by
 cases n with
 | zero=>exact p.elim
 | succ n=>
   cases d with
   | zero=>exact p.elim
   | succ d=>
     obtain⟨F,e,q⟩:=gQ (show Post cl ρ H E (Opt (nth Pg f) (body (evs Pg n) d h ws)) P from p);rw[pH]at e;exact⟨n,d,F,rfl,e,q⟩
theorem Ml{np nn:Nat}{b:List S}{ws:List W}{h:Hs}{n:Nat}{ρ:List Addr}{P:A->Hs->List Addr->Hp->Prop}(p:Post cl ρ H E (body (evs Pg n) d h ws (.mk np nn b)) P):ws.length=np/\Post cl ρ H E ((evs Pg n d (.ss b) (frame nn ws) h).bind fun r h=>r.toF fun f=>G7 h f) P:=by
 obtain⟨e,q⟩:=jX (show Post cl ρ H E (ifB (Nat.beq (len ws) np) ((evs Pg n d (.ss b) (frame nn ws) h).bind fun r h=>r.toF fun f=>G7 h f) .no) P from p);rw[len_eq]at e;exact⟨iw.mp e,q⟩
theorem Wu{ρ:List Addr}{ws:List W}{vs:List V}(r:RWs ρ ws vs)(N:List Str):RS ρ (frame N.length ws) (L2.start N vs):=by
 unfold frame L2.start;rw[qW,len_eq,r.length]
 have rep:∀ k:Nat,RS ρ (Nat.rec (motive:=fun _=>Sg) [] (fun _ r=>none::r) k) (List.replicate k none):=fun k=>by
  induction k with
  | zero=>exact .nil
  | succ k ih=>exact .cons trivial ih
 have app':∀ {a b:Sg} {u w:L2.St},RS ρ a u->RS ρ b w->RS ρ (a++b) (u++w):=by
  intro a b u w r1 r2
  induction r1 with
  | nil=>exact r2
  | cons x _ ih=>exact .cons x ih
 refine app' ?_ (rep _)
 have go:∀ {ws:List W} {vs:List V},RWs ρ ws vs->RS ρ (List.rec (motive:=fun _=>Sg) [] (fun w _ r=>some w::r) ws) (vs.map some):=by
  intro ws vs r
  induction r with
  | nil=>exact .nil
  | cons r1 _ ih=>exact .cons r1 ih
 exact go r
theorem cj{P:Program}{w:World}{K:ak}{mg:Str->Option Value}{base:Heap}{k i:Nat}{x qual:Str}{st:Stmt}{f:Addr}{fd:FuncData}{N ps:List Str}{b:List S}(F:Fun K x qual st f fd)(Sc:aC N ps (aa st))(hp:Pg[i]? =some (.mk ps.length N.length b))
 (hbody:∀(σ0:L2.St) (cdv:Value) (A:Around) (outer:List Env) (s:Shared) (H:Hp) (E:XK),aX k (A.deeper (envOfC qual (aa st) s.heap.objs.size f cdv))->Passes (CXE P w) (iB (CXE P w) P w K mg base N qual (aa st) f cdv A outer s H E) E->
   PSs (iB (CXE P w) P w K mg base N qual (aa st) f cdv A outer s H E) (bG st) (tSs Pg cl E d σ0 b)):aP P w K mg base (CXE P w) (k+1) f fd ps (spF Pg cl (d+1) i):=by
 obtain⟨oc,od,kV,doc,pm,an,cdv,ct,osl,rfl,lk,hcd⟩:=F.ex
 have ae5:∀ vs H Q E,spF Pg cl (d+1) i vs H Q E->vs.length=ps.length:=fun vs H Q E ⟨ρ,ws,h,n,s,r,p⟩=>by
  obtain⟨n',d',F',e1,e2,q⟩:=yS p;rw[hp]at e2;cases e2;rw[<- r.length];exact(Ml q).1
 refine NK lk hcd Sc ae5 fun A outer s H vs Q E hr hsp=>?_;obtain⟨ρ,ws,h,n,s1,r,p⟩:=hsp;obtain⟨n',d',F',e1,e2,q⟩:=yS p;rw[hp]at e2;cases e2;cases e1;obtain⟨_,q2⟩:=Ml q;refine⟨_,hbody (L2.start N vs) cdv A outer s H E hr (qT ⟨rfl,rfl,rfl⟩ rfl (fun _ _ _ z=>z)),ρ,frame N.length ws,h,n',s1,Wu r N,fun _ _=>rfl,q2.bind.mono fun a h1 ρ1 H1 b1 s2 p2=>?_⟩;obtain⟨fl,rfl,p3⟩:=z8 p2;refine⟨fl,rfl,?_⟩
 cases fl with
 | nx τ=>exact fun σ' _ _=>Post.eV s2 (show Post cl ρ1 H1 E (.ok (.w .non) h1) (VP Q) from p3) .non
 | rt w=>exact fun v rv=>Post.eV s2 (show Post cl ρ1 H1 E (.ok (.w w) h1) (VP Q) from p3) rv
 | bk τ=>exact p3.elim
 | ct τ=>exact p3.elim
theorem mV{k f:Nat}{fa:Addr}{fd:FuncData}{ps:List Str}{x:Str}{e:Expr}{es:List Expr}{y:Ev.X}{ys:List Ev.X}{p pos:Pos}(F:aP X.prog X.w X.K X.mg X.base (CXE X.prog X.w) k fa fd ps (spF Pg cl d f))(hr:aX k X.A)(hg:Gl X x)(hm:X.mg x=some (.ref fa))(hk:PySem.W.keepIn X.K (.ref fa)=true)(hb:Binds X.K fd ps [])
 (hx:Passes (CXE X.prog X.w) X E) (ha:PA X (e::es) (tA Pg cl E d (y::ys))) (hdb:(x==("__debug__":Str))=false:=by decide) (he:starEach (e::es) X.env=(false,eval e X.env)::starEach es X.env:=by rfl) (hpl:(backTo pos (starEach es X.env)).any (·.1)=false:=by rfl):
 PE X (.Call (.Name x p) (e::es) [] pos) (tE Pg cl E d (.call f (y::ys))):=PE.of (xO F hr hg hm hk hb .nil hx ha hdb he hpl) fun _ _ _ q=>call_of q
theorem acj{C:Nat}{o:Ev.X}{f:List Nat}{K:ak}{Q:VK}(c:Cls K (cl C))(na:bM K (cl C) (nm f))(x:tE Pg cl E d (.fld C o f) σ H Q):abb K (tE Pg cl E d o) (nm f) σ H Q:=by
 obtain⟨ρ,τ,h,n,s,rs,q⟩:=x.step;refine ev.then s rs (show Post cl ρ H E ((evs Pg n d (.x o) τ h).bind fun r h=>r.toW fun w=>h.at w fun _ o=>o.onI fun C' fs=>ifB (Nat.beq C C') (Opt (fget fs f) fun w=>.ok (.w w) h) .no) (VP Q) from q) fun a1 h1 ρ1 H1 b1 s1 p1=>?_;obtain⟨w,rfl,p2⟩:=bK p1;refine⟨w,rfl,fun v rv=>?_⟩;obtain⟨k,ob,a,rfl,rfl,e1,g1,x1,p3⟩:=at_of s1 rv p2;obtain⟨C',fs,rfl,p4⟩:=Cv p3;obtain⟨ec,p5⟩:=jX p4;obtain⟨w2,ew,p6⟩:=gQ p5;have ec:=iw.mp ec;subst ec;obtain⟨dx,gs,fr,qh⟩:=x1;obtain⟨u,eu,ru⟩:=fr.get ew;exact⟨a,_,dx,gs,u,rfl,qh,c,na,eu,Post.eV s1 p6 ru⟩
theorem fP{C:Nat}{e:Expr}{o:Ev.X}{f:Str}{fc:List Nat}{pos:Pos}(c:Cls X.K (cl C))(na:bM X.K (cl C) f)(he:PE X e (tE Pg cl E d o))(ef:f=nm fc:=by decide +kernel)(hb:attributeBase e f X.env (eval e X.env)=eval e X.env:=by rfl):PE X (.Attribute e f pos) (tE Pg cl E d (.fld C o fc)):=by
 subst ef;exact PE.of (abd he hb) fun _ _ _ q=>acj c na q
theorem FR.put{ρ:List Addr}{f:List Nat}{w:W}{v:V}(r:RW ρ w v):∀ {fs:Fs} {gs:List (Str × V)},FR ρ fs gs->FR ρ (Oh f w fs) (jc (nm f) v gs)
 | _,_,.nil=>.cons ⟨rfl,r⟩ .nil
 | p::fs,(x,u)::gs,.cons z t=>by
   obtain⟨e1,r1⟩:=z;have e1:x=nm p.1:=e1;show FR ρ (ifB (codes p.1 f) ((f,w)::fs) (p::Oh f w fs)) (if x=nm f then(x,v)::gs else(x,u)::jc (nm f) v gs)
   cases c:codes p.1 f with
   | true=>
     have ec:=bQ.mp c;rw[if_pos (by rw[e1,ec])]
     exact .cons ⟨by show x=nm f;rw[e1,ec],r⟩ t
   | false=>
     rw[if_neg (fun z=>by rw[e1]at z;rw[bQ.mpr (pI z)]at c;cases c)];exact .cons ⟨e1,r1⟩ (FR.put r t)
theorem FR.length{ρ:List Addr}{fs:Fs}{gs:List (Str × V)}(h:FR ρ fs gs):fs.length=gs.length:=Paired.length h
theorem Iu{σ0:L2.St}{C:Nat}{o value:Expr}{xo xv:Ev.X}{f:Str}{fc:List Nat}{pos pos':Pos}(c:Cls X.K (cl C))(na:bM X.K (cl C) f)(ha:PE X o (tE Pg cl E d xo))(hv:PE X value (tE Pg cl E d xv))(ef:f=nm fc:=by decide +kernel)(hs:swapsWith value (some (.Attribute o f pos')) pos.line X.env=pure false:=by rfl):
 PS X (.Assign [.Attribute o f pos'] value pos) (tS Pg cl E d σ0 (.Ot C xo fc xv)):=by
 subst ef;refine PS.of (abe ha hv hs) fun D σ H x=>?_;obtain⟨ρ,τ,h,n,s,rs,ag,q⟩:=x.step;refine ev.then s rs (show Post cl ρ H E ((evs Pg n d (.x xv) τ h).bind fun r h=>r.toW fun w=>(evs Pg n d (.x xo) τ h).bind fun r h=>r.toW fun o=>h.at o fun n o=>o.onI fun C' fs=>ifB (Nat.beq C C') (ifB (Nat.ble (len fs) 900) (.ok (.fl (.nx τ)) (h.set n (.ins C (Oh fc w fs)))) .no) .no) (SPo σ0 D) from q) fun a1 h1 ρ1 H1 b1 s1 p1=>?_;obtain⟨w,rfl,p2⟩:=bK p1;refine⟨w,rfl,fun v rv=>?_⟩;refine ev.then s1 (rs.mono b1.1) p2 fun a2 h2 ρ2 H2 b2 s2 p3=>?_;obtain⟨w2,rfl,p4⟩:=bK p3;refine⟨w2,rfl,fun v2 rv2=>?_⟩;obtain⟨k,ob,a,rfl,rfl,e1,g1,x1,p5⟩:=at_of s2 rv2 p4;obtain⟨C',fs,rfl,p6⟩:=Cv p5;obtain⟨ec,p7⟩:=jX p6;obtain⟨el,p8⟩:=jX p7;have ec:=iw.mp ec;subst ec;rw[ble_eq,len_eq]at el;have el:=of_decide_eq_true el;obtain⟨dx,gs,fr,qh⟩:=x1;have hl:=fr.length;refine⟨a,_,dx,gs,rfl,qh,c,na,by omega,?_⟩;obtain⟨fl,efl,qf⟩:=p8 ρ2 (upd H2 a (.ins (cl C) dx (jc (nm fc) v gs))) (Bt.put e1) (s2.put e1 ⟨dx,_,fr.put (rv.mono b2.1),az⟩);cases efl;exact qf σ ((rs.mono b1.1).mono b2.1) ag
theorem Iw{C f:Nat}{m:List Nat}{o:Ev.X}{as:List Ev.X}{Q:VK}(x:tE Pg cl E d (.meth C m f o as) σ H Q):NB (cl C) (nm m) (spF Pg cl d f) [] E (tE Pg cl E d o) (tA Pg cl E d as) σ H Q:=by
 obtain⟨ρ,τ,h,n,s,rs,q⟩:=x.step
 refine ev.then s rs (show Post cl ρ H E ((evs Pg n d (.x o) τ h).bind fun r h=>r.toW fun w=>h.at w fun _ o=>o.onI fun C' fs=>
  ifB (Nat.beq C C') (Option.rec ((evs Pg n d (.a as) τ h).bind fun a h=>a.toL fun ws=>evs Pg n d (.call f (w::ws)) [] h) (fun _=>.no) (fget fs m)) .no) (VP Q) from q) fun a1 h1 ρ1 H1 b1 s1 p1=>?_
 obtain⟨w,rfl,p2⟩:=bK p1;refine⟨w,rfl,fun v rv=>?_⟩;obtain⟨k,ob,a,rfl,rfl,e1,g1,x1,p3⟩:=at_of s1 rv p2;obtain⟨C',fs,rfl,p4⟩:=Cv p3;obtain⟨ec,p5⟩:=jX p4;have ec:=iw.mp ec;subst ec;obtain⟨dx,gs,fr,qh⟩:=x1
 cases eg:fget fs m with
 | some z=>rw[eg]at p5;exact p5.elim
 | none=>
   rw[eg]at p5;refine⟨a,dx,gs,rfl,qh,fr.abX eg,?_⟩;refine ev.then s1 (rs.mono b1.1) p5 fun a2 h2 ρ2 H2 b2 s2 p6=>?_;obtain⟨ws,rfl,p7⟩:=nH p6;exact⟨ws,rfl,fun vs rs'=>⟨ρ2,_,h2,n,s2,by rw[List.append_nil];exact .cons (rv.mono b2.1) rs',p7⟩⟩
theorem ack{Q:List V->Hp->Prop}(z:tA Pg cl E d [] σ H Q):Q [] H:=by
 obtain⟨ρ1,τ1,h1,n1,s1,_,p1⟩:=z.step;obtain⟨ws,e,q⟩:=Post.now s1 (show Post cl ρ1 H E (.ok (.ws []) h1) (LP Q) from p1);cases e;exact q [] .nil
theorem Sim.other{ρ:List Addr}{h:Hs}{p:Addr}{u:HO}(s:Sim cl ρ h H)(e:H p=none):Sim cl ρ h (upd H p u) where
 len:=s.len
 nd:=s.nd
 obj:=fun n a hn=>by
  obtain⟨o,q,y⟩:=s.obj n a hn;refine⟨o,q,y.keep (List.prefix_refl _) ?_⟩;obtain⟨w,hw⟩:=y.som;exact aB (aV hw e)
 tb:=s.tb.upd (by rw[e];trivial)
theorem Bt.other{ρ:List Addr}{p:Addr}{u:HO}(e:H p=none):Bt cl ρ H ρ (upd H p u):=⟨List.prefix_refl _,fun b v q nb=>by
 have q':upd H p u b=some v:=by rw[aB (aV q e)];exact q
 exact⟨nb,fun _=>q',v,q'⟩⟩
theorem Za{C f:Nat}{as:List Ev.X}{Q:VK}(x:tE Pg cl E d (.make C f as) σ H Q):Xz (cl C) (spF Pg cl d f) [] E (tA Pg cl E d as) σ H Q:=by
 obtain⟨ρ,τ,h,n,s,rs,q⟩:=x.step;refine ev.then s rs (show Post cl ρ H E ((evs Pg n d (.a as) τ h).bind fun a h=>a.toL fun ws=>(evs Pg n d (.call f (.ref h.n::ws)) [] (h.push (.ins C []))).bind fun r h'=>r.toW fun w=>ifB (zY w) (.ok (.w (.ref h.n)) h') .no) (VP Q) from q) fun a1 h1 ρ1 H1 b1 s1 p1=>?_;obtain⟨ws,rfl,p2⟩:=nH p1;refine⟨ws,rfl,fun vs rv x dx hx hdx ne=>?_⟩;have hx':upd H1 dx (.own x) x=none:=by rw[aB (Ne.symm ne)];exact hx
 have s2:Sim cl (ρ1 ++ [x]) (h1.push (.ins C [])) (upd (upd H1 dx (.own x)) x (.ins (cl C) dx [])):=(s1.other hdx).push hx' ⟨dx,[],.nil,az⟩;have gx:(ρ1 ++ [x])[h1.n]? =some x:=by rw[<- s1.len,List.getElem?_append_right (aH _),Nat.sub_self];rfl
 refine⟨ρ1 ++ [x],.ref h1.n::ws,_,n,s2,by rw[List.append_nil];exact .cons (.ref gx) (rv.mono (List.prefix_append _ _)),?_⟩;refine(p2.later ((Bt.other hdx).trans (Bt.new hx'))).bind.mono fun a h3 ρ3 H3 b3 s3 p3=>?_;obtain⟨w,rfl,p4⟩:=bK p3;obtain⟨en,p5⟩:=jX p4;refine⟨w,rfl,fun v rv'=>⟨?_,Post.eV s3 p5 (.ref (dM b3.1 gx))⟩⟩;rw[Ih rv']at en;exact of_decide_eq_true en
def spX(C:Addr)(c:List Nat):Sp:=fun vs H Q _=>∃ e,vs= [.ref e]/\H e=some (XO e C none)/\∀ dx,H dx=none->dx ≠ e->Q .non (upd (upd H dx (.xd [(nm o9,.str ⟨c.toArray⟩)])) e (XO e C (some dx)))
theorem R3{σ0:L2.St}{C:Nat}{c:List Nat}{D:Ends}(x:tS Pg cl E d σ0 (.raise C c) D σ H):Ry (cl C) (spX (cl C) c) E Nz D σ H:=by
 obtain⟨ρ,τ,h,n,s,rs,ag,q⟩:=x.step;have q:Post cl ρ H E (.ex C [(o9,.str c)] h) (SPo σ0 D):=q;refine⟨Nat.zero_le _,fun e he=>⟨e,rfl,az,fun dx hdx ne=>⟨rfl,some dx,az,?_⟩⟩⟩;have Wv:H dx=none:=by rwa[aB ne]at hdx
 have eq:(fun b=>if b=e then none else upd (upd (upd H e (XO e (cl C) none)) dx (.xd [(nm o9,.str ⟨c.toArray⟩)])) e (XO e (cl C) (some dx)) b)=upd H dx (.xd [(nm o9,.str ⟨c.toArray⟩)]):=by
  funext b
  by_cases z:b=e
  · subst z;show(if b=b then none else _)=_;rw[if_pos rfl,aB (Ne.symm ne),he]
  · show(if b=e then none else _)=_;rw[if_neg z,aB z]
    by_cases z2:b=dx
    · subst z2;rw[az,az]
    · rw[aB z2,aB z2,aB z]
 rw[eq];exact q ρ _ dx _ (Bt.other Wv) (s.other Wv) (.cons ⟨rfl,.str c⟩ .nil) (s.new Wv) az
end
section
variable{Pg:List Fn}{cl:Cn}{E:XK}{d:Nat}{X:Cx}{σ:L2.St}{H:Hp}{pins:List (Addr × Obj)}{s:Shared}
structure OJ (cl:Cn)(X:Cx)(c:Addr):Prop where
 on:cl.on=true
 code:X.env.code= .ref c
 hd:PySem.W.CodeHd X.base c cl.P
 bm:X.base.BuiltinsAt X.mg cl.P
 q:X.env.qual ++ "<lambda>" =cl.q
def Ww(cl:Cn)(H H1:Hp):Prop:=H1=H\/∃ ps c',H cl.P ≠ none/\H c'=none/\H1=upd (upd H cl.P (.tbl ps)) c' (.ext fun h=>h.CodeRec (.ref c') cl.q)
theorem Fy{pos:Pos}:∀ {l r:List Value} {cv:Value},TriplesOk l->codeAmong pos (l++r)=some cv->codeAmong pos l=some cv\/codeAmong pos r=some cv:=by
 intro l r cv ht h
 fun_induction TriplesOk l with
 | case1=>exact .inr h
 | case2 a t b u c rest ih=>
   simp only[List.cons_append,codeAmong]at h ⊢
   split at h
   · next z=>rw[if_pos z];exact .inl h
   · next z=>rw[if_neg z];exact ih ht h
 | case3=>exact ht.elim
theorem K3:∀ {l r:List Value},TriplesOk l->TriplesOk r->TriplesOk (l++r):=by
 intro l r ht h
 fun_induction TriplesOk l with
 | case1=>exact h
 | case2 a t b u c rest ih=>simp only[List.cons_append,TriplesOk];exact ih ht
 | case3=>exact ht.elim
theorem acn{c:Addr}{params:Arguments}{body:Expr}{scope:Scope}{pos:Pos}(L:OJ cl X c)(I:Inv X pins σ H s)(t:Tb cl H)(hdef:defaultsOf params X.env=([],[]))(hfr:∀ y ∈ scope.names,y.2= .free->X.env.kindOf y.1=some .cell\/X.env.kindOf y.1=some .free){Ee:Value->Shared->Prop}:
 wpAny (model X.prog X.w) X.A (eval (.Lambda params body scope pos) X.env) (fun u s1=>∃ f c' pm ctv H1,u= .ref f/\Ww cl H H1/\Inv X pins σ H1 s1/\Tb cl H1/\H1 f=none/\s.heap.objs.size<=f/\s1.heap.get? f=some (PySem.W.kla_obj "<lambda>" cl.q params body scope (gk X.env.cells scope.names []) pm c' ctv)/\H1 c'=some (.ext fun h=>h.CodeRec (.ref c') cl.q)) Ee s:=by
 obtain⟨ps,hP,htr,hcs⟩:=t L.on;have hPo:s.heap.get? cl.P=some (PySem.W.tabObj ps):=I.hok _ _ hP;have hcl:closureFor scope X.env=pure (gk X.env.cells scope.names []):=pR fun y hy e=>I.ok.has y.1 (hfr y hy e);have hg:s.heap.Ns mainGlobals X.mg:=I.mod.glob.keeps I.bk;have C:=L.hd.keeps I.bk;have hb:s.heap.BuiltinsAt X.mg cl.P:=let ⟨bm,o,a1,a2,a3,a4,a5,a6⟩:=L.bm;⟨bm,o,a1,a2,a3,a4,I.bk _ _ a5,a6⟩;refine PySem.W.kla_eval hdef ?_;rw[L.q]
 cases hf:codeAmong pos ps.toList with
 | some cv=>
   obtain⟨c',rfl,hc'⟩:=hcs pos cv hf;refine PySem.W.kla_makeFunctionHit hcl I.ok.glob hg L.code C hPo htr hf hb fun ctv h' tk hk hsz=>?_;have hkk:∀ b o,s.heap.get? b=some o->(h'.push (PySem.W.kla_obj "<lambda>" cl.q params body scope (gk X.env.cells scope.names []) ((X.mg "__name__").getD .none) c' ctv)).get? b=some o:=fun b o e=>Heap.get?_push_of_some _ (hk b o e)
   refine⟨h'.objs.size,c',_,ctv,H,rfl,.inl rfl,I.kept hkk,t,I.hok.fresh hsz,hsz,Heap.get?_push_size _ rfl,hc'⟩
 | none=>
   have hgP:mainGlobals ≠ cl.P:=fun z=>by
    obtain⟨o,es,ep,e,hd,_⟩:=hg;rw[z,hPo]at e;cases e;cases hd
   refine PySem.W.kla_makeFunction hcl I.ok.glob hg L.code C hPo htr hf hgP hb fun c' ctv h' tk hx hge hlt hrec htb=>?_;have fc:H c'=none:=I.hok.fresh hge;have neP:∀ {b:Addr},H b=none->b ≠ cl.P:=fun {b} e z=>by rw[z,hP]at e;cases e
   have Wx:cl.P ≠ c':=Ne.symm (neP fc);generalize hfo:PySem.W.kla_obj "<lambda>" cl.q params body scope (gk X.env.cells scope.names []) ((X.mg "__name__").getD .none) c' ctv=fo;have kk:∀ b o,b ≠ cl.P->s.heap.get? b=some o->(h'.push fo).get? b=some o:=fun b o hb e=>Heap.get?_push_of_some _ (hx b o hb e);have hP1:(h'.push fo).get? cl.P=some (PySem.W.tabObj (ps ++ #[rawInt pos.line,rawInt pos.col,.ref c'])):=Heap.get?_push_of_some _ htb;have Yb:(h'.push fo).CodeRec (.ref c') cl.q:=hrec.push _;have h1P:upd (upd H cl.P (.tbl (ps ++ #[rawInt pos.line,rawInt pos.col,.ref c']))) c' (.ext fun h=>h.CodeRec (.ref c') cl.q) cl.P=some (.tbl (ps ++ #[rawInt pos.line,rawInt pos.col,.ref c'])):=by rw[aB Wx,az]
   have h1o:∀ {b:Addr},b ≠ cl.P->b ≠ c'->upd (upd H cl.P (.tbl (ps ++ #[rawInt pos.line,rawInt pos.col,.ref c']))) c' (.ext fun h=>h.CodeRec (.ref c') cl.q) b=H b:=fun {b} z1 z2=>by rw[aB z2,aB z1]
   have old:∀ {b:Addr} {u:HO},H b=some u->b ≠ c':=fun {b u} e z=>by rw[z,fc]at e;cases e
   have ltc:∀ {b:Addr} {o:Obj},s.heap.get? b=some o->b ≠ c':=fun {b o} e z=>by
    have:=Heap.lt_size e;rw[z]at this;exact absurd this (Nat.not_lt.mpr hge)
   have hun:Un X.fs [] H (upd (upd H cl.P (.tbl (ps ++ #[rawInt pos.line,rawInt pos.col,.ref c']))) c' (.ext fun h=>h.CodeRec (.ref c') cl.q)) s.heap (h'.push fo):=by
    refine⟨fun b o e n _ _=>kk b o (neP n) e,fun b o e n _ _=>⟨o.slots,kk b o (neP n) e⟩,fun b o e n _=>?_,fun b o e _=>?_,fun b xs e=>?_,fun b o u e=>?_,fun b qs e=>?_⟩
    · rw[h1o (neP n) (ltc e)];exact n
    · by_cases z:b=cl.P
      · subst z;exact⟨_,hP1⟩
      · exact⟨o,kk b o z e⟩
    · rw[h1o (fun z=>by rw[z,hP]at e;cases e) (old e)];exact e
    · rw[h1o (fun z=>by rw[z,hP]at e;cases e) (old e)];exact e
    · by_cases z:b=cl.P
      · subst z;rw[hP]at e;cases e;exact⟨_,h1P⟩
      · exact⟨#[],by rw[h1o z (old e),e];simp⟩
   have hok:HOk X.prog X.w (upd (upd H cl.P (.tbl (ps ++ #[rawInt pos.line,rawInt pos.col,.ref c']))) c' (.ext fun h=>h.CodeRec (.ref c') cl.q)) (h'.push fo):=fun a o e=>by
    by_cases zc:a=c'
    · subst zc;rw[az]at e;cases e;obtain⟨c2,oc,vs,t2,e2,g2,r2⟩:=id Yb;cases e2;refine⟨Yb,⟨oc,g2⟩,fun h1 h2 φ st=>?_⟩;obtain⟨c2,oc,vs,t2,e2,g2,r2⟩:=φ;cases e2;exact⟨_,oc,vs,t2,rfl,st _ g2,r2⟩
    · by_cases zP:a=cl.P
      · subst zP;rw[h1P]at e;cases e;exact hP1
      · rw[h1o zP zc]at e;refine(I.hok a o e).stay (fun b u hb q=>kk b u ?_ q) (fun b q=>?_) fun b xs q=>?_
        · rcases hb with rfl | hb
          · exact zP
          · intro z;rw[z,hP]at hb;cases hb
        · rw[h1o (fun z=>by rw[z,hP]at q;cases q) (old q)];exact q
        · rw[h1o (fun z=>by rw[z,hP]at q;cases q) (old q)];exact q
   have I1:=I.un (t':=tk) hun hok;refine⟨h'.objs.size,c',_,ctv,_,rfl,.inr ⟨_,c',by rw[hP];simp,fc,rfl⟩,I1,fun _=>⟨_,h1P,?_,fun pos' cv e=>?_⟩,?_,Nat.le_of_lt (Nat.lt_of_le_of_lt hge hlt),by rw[<- hfo];exact Heap.get?_push_size _ rfl,az⟩
   · rw[Array.toList_append];exact K3 htr trivial
   · rw[Array.toList_append]at e
     rcases Fy htr e with e | e
     · obtain⟨c2,e1,e2⟩:=hcs pos' cv e;exact⟨c2,e1,by rw[h1o (fun z=>by rw[z,hP]at e2;cases e2) (old e2)];exact e2⟩
     · have e:(if((pos.line:Int)==pos'.line&&(pos.col:Int)==pos'.col)=true then some (Value.ref c') else codeAmong pos' [])=some cv:=e
       split at e
       · cases e;exact⟨c',rfl,az⟩
       · cases e
   · have:H h'.objs.size=none:=I.hok.fresh (Nat.le_of_lt (Nat.lt_of_le_of_lt hge hlt));rw[h1o (neP this) (Nat.ne_of_gt hlt)];exact this
end
section
theorem ad_{CX:CXT}{P:Program}{w:World}{K:ak}{mg:Str->Option Value}{base:Heap}{k:Nat}{x qual:Str}{st:Stmt}{f:Addr}{fd:FuncData}{N ps:List Str}(F:Fun K x qual st f fd)(Sc:aC N ps (aa st))
 {A:Around} {outer:List Env} {s:Shared} {H:Hp} {args:Args} {us:List Value} {vs:List V} {Q:VK} {E:XK} (hr:aX (k+1) A) (e0:wu P w K mg base A outer s H) (hb:BindsTo s fd args (ps.zip us)) (r:Vals vs us) (hl:vs.length=ps.length)
 (hbody:∀ cdv:Value,aX k (A.deeper (envOfC qual (aa st) s.heap.objs.size f cdv))->∃ t,PSs (iB CX P w K mg base N qual (aa st) f cdv A outer s H E) (bG st) t/\t { nx:=fun _ H'=>Q .non H',rt:=Q } (L2.start N vs) H):
 codeAny (model P w) A (.call (.ref f) args) (CR CX outer P w H s Q E) s:=by
 obtain⟨oc,od,kV,doc,pm,an,cdv,ct,osl,rfl,lk,hcd⟩:=F.ex;have KX:K.In s.heap:=e0.mod.kin.keeps fun b o e=>(e0.bs b o e).1;have lim:s.heap.NoLimit:=e0.mod.nolimit.keeps fun b o e=>(e0.bs b o e).1
 have hkind:∀ y ∈ ps.zip us,(aa st).names.lookup y.1=some .local\/((aa st).names.lookup y.1=some .cell/\((cellsFrom (s.heap.objs.size+1) (aa st).names []).lookup y.1).isSome=true):=fun⟨n,v⟩ hy=>by
  rcases Sc.par n (List.of_mem_zip hy).1 with q | q
  · exact .inl q
  · exact .inr ⟨q,PySem.W.cellsFrom_some _ _ _ (.inl q)⟩
 refine codeAny_call_function hr.depth (KX _ _ lk) rfl Sc.co Sc.gen rfl (PySem.W.codeRec_of KX hcd) (hb _ _ _ _ ?_);refine wpAny_newFunctionEnv_cells Sc.kind hkind fun env he s1 x=>?_;subst he;refine⟨lim.keeps x.toInCall.keep,codeAny_func ?_⟩;obtain⟨t,ht,hq⟩:=hbody cdv (hr.deeper _);have I:Inv (iB CX P w K mg base N qual (aa st) f cdv A outer s H E) [] (L2.start N vs) H s1:=Ep Sc hr.hd e0 hl r x;refine wpAny_mono (ht [] s1 (L2.start N vs) H _ I hq) (fun fl s' hs=>?_) fun e s' hs=>hs
 have fin:∀ {σ':L2.St} {H':Hp} {v:V} {u:Value},Inv (iB CX P w K mg base N qual (aa st) f cdv A outer s H E) [] σ' H' s'->RelV v u->Q v H'->CE outer P w H s Q u s':=
  fun {σ' H' v u} J rv q=>⟨v,H',J.os,J.bare,J.base,J.hok,rv,q⟩
 cases fl with
 | ret u=>
   obtain⟨v,σ',H',J,rv,q⟩:=hs
   exact fin J rv q
 | next=>
   obtain⟨σ',H',J,q⟩:=hs
   exact fin (v:=V.non) (u:=Value.none) J rfl q
 | brk=>
   obtain⟨_,_,_,q⟩:=hs
   exact False.elim q
 | cont=>
   obtain⟨_,_,_,q⟩:=hs;exact False.elim q
variable{Pg:List Fn}{cl:Cn}{E:XK}{d:Nat}{X:Cx}{σ:L2.St}{H:Hp}{pins:List (Addr × Obj)}{s:Shared}
def CQ(X:Cx)(N':List Str)(sc:Scope)(q:Str)(f c':Addr)(clos:List (Str × Addr))(s:Shared)(H:Hp)(E:XK):Cx where
 prog:=X.prog
 w:=X.w
 K:=X.K
 mg:=X.mg
 base:=X.base
 A:=X.A.deeper (PySem.W.envX q sc s.heap.objs.size f (.ref c') clos)
 N:=N'
 s₀:=s
 H₀:=H
 env:=PySem.W.envX q sc s.heap.objs.size f (.ref c') clos
 outer:=X.stack
 stack:=PySem.W.envX q sc s.heap.objs.size f (.ref c') clos::X.stack
 ex:=[]
 calm:=true
 fn:=fun _=>false
 pn:=[]
 xe:=fun e s'=>wpAny (model X.prog X.w) (X.A.deeper (PySem.W.envX q sc s.heap.objs.size f (.ref c') clos)) (leaving (PySem.W.envX q sc s.heap.objs.size f (.ref c') clos) e) (fun _ s''=>CXE X.prog X.w X.stack H s E e s'') (fun e' s''=>CXE X.prog X.w X.stack H s E e' s'')  s'
def Cells(N':List Str)(clos:List (Str × Addr))(σY:L2.St)(h:Heap):Prop:=∀(i:Nat) (x:Str) (v:V),N'[i]? =some x->σY[i]? =some (some v)->∃ u c,RelV v u/\clos.lookup x=some c/\h.IsCell c (some u)
structure O1 (N':List Str)(sc:Scope):Prop where
 kind:sc.kind= .function
 co:sc.isCoroutine=false
 gen:sc.isGenerator=false
 free:∀ y ∈ sc.names,y.2 ≠ .cell
 isf:∀ x ∈ N',sc.names.lookup x=some .free
theorem Wy{N':List Str}{params:Arguments}{body:Expr}{sc:Scope}{q:Str}{f c':Addr}{clos:List (Str × Addr)}{pm ctv:Value}{σY:L2.St}{t:TE}{Q:VK}(S:O1 N' sc)(I:Inv X pins σ H s)(hc:X.calm=true)(hroom:X.A.depth<recursionLimit)
 (ho:s.heap.get? f=some (PySem.W.kla_obj "<lambda>" q params body sc clos pm c' ctv)) (hcd:s.heap.CodeRec (.ref c') q) (hbind:bindArgs (PySem.W.kla_fn "<lambda>" q params body sc clos pm (.ref c') ctv) ⟨[],[]⟩ =pure [])
 (hinj:∀ x y c,clos.lookup x=some c->clos.lookup y=some c->x=y) (hhas:∀ x,sc.names.lookup x=some .free->∃ c,clos.lookup x=some c) (hcell:∀ x c,clos.lookup x=some c->(∃ v,s.heap.IsCell c v)/\H c=none) (hcs:Cells N' clos σY s.heap) (hlen:σY.length=N'.length)
 (hp:PE (CQ X N' sc q f c' clos s H E) body t) (h:t σY H Q):codeAny (model X.prog X.w) X.A (.call (.ref f) ⟨[],[]⟩) (CR (CXE X.prog X.w) X.stack X.prog X.w H s Q E) s:=by
 refine PySem.W.kla_callFunE hroom ho rfl S.co S.gen rfl hcd ?_;rw[hbind];refine wpAny_pure (wpAny_newFunctionEnv S.free (by intro y hy;simp at hy) (fun h₁ hns hsb=>⟨I.nolimit.fresh _ hsb,?_⟩) S.kind);show codeAny _ _ (.expr body (PySem.W.envX q sc s.heap.objs.size f (.ref c') clos)) _ _;have hk₁:∀ b o,s.heap.get? b=some o->h₁.get? b=some o:=fun b o e=>hsb.extBut b o (Nat.ne_of_lt (Heap.lt_size e)) (Heap.get?_push_of_some _ e);have noA:∀ b:Addr,b ∉ (CQ X N' sc q f c' clos s H E).ex:=fun b z=>absurd (show b ∈ ([]:List Addr) from z) (by simp);have fresh:H s.heap.objs.size=none:=I.hok.fresh (aH _)
 have IY:Inv (CQ X N' sc q f c' clos s H E) [] σY H { s with heap:=h₁,toks:=s.toks+([]:List (Str × Value)).length }:=by
  refine⟨⟨I.ok.mod,S.kind,rfl,rfl,aH _,hinj,fun x hx=>?_,fun x c z=>absurd (show false=true from z) (by decide),fun _=>I.ok.hd hc,Around.frames_deeper I.ok.frames,.inr ⟨rfl,rfl⟩,fun b z=>absurd z (noA b),I.bs,Nat.le_trans I.ok.bsz I.sz,fun b _ _=>noA b,fun b z=>absurd z (noA b),I.stack,I.oH⟩,
   rfl,I.bare,Un.kept hk₁,⟨_,hns,fun i x v h1 h2 h3=>?_⟩,fun x c e=>?_,fresh,fun x c e=>(hcell x c e).2,fun p hp=>absurd (show p ∈ ([]:List (Addr × Obj)) from hp) (by simp),I.hok.kept hk₁,hlen⟩
  · have hx:sc.names.lookup x=some .cell\/sc.names.lookup x=some .free:=hx
    rcases hx with z | z
    · exact absurd rfl (S.free _ (PySem.mem_of_lookup z))
    · exact hhas x z
  · obtain⟨u,c,ru,ec,hc'⟩:=hcs i x v h1 h2;refine⟨u,ru,.inr ⟨.inr (S.isf x (List.mem_of_getElem? h1)),c,ec,?_⟩⟩;obtain⟨o,ho',hd⟩:=hc';exact⟨o,hk₁ _ _ ho',hd⟩
  · obtain⟨⟨v,o,ho',hd⟩,_⟩:=hcell x c e;exact⟨v,o,hk₁ _ _ ho',hd⟩
 refine PySem.W.kla_codeExpr (wpAny_mono (hp [] _ σY H Q IY h) (fun v s' ⟨x,H',J,rv,q⟩=>?_) fun e s' z=>z);exact⟨x,H',J.os,J.bare,J.base,J.hok,rv,q⟩
theorem Own.lam{N':List Str}{sc:Scope}{q:Str}{f c':Addr}{clos:List (Str × Addr)}:Own (CQ X N' sc q f c' clos s H E):=⟨rfl,rfl,rfl⟩
def ae6(i:Nat)(f c':Addr)(q:Str)(σY:L2.St)(t:TE):TE:=fun σ H Q=>σ[i]? =some (some (.ref f))/\H c'=some (.ext fun h=>h.CodeRec (.ref c') q)/\t σY H Q
theorem Wz{i:Nat}{x:Str}{p pos:Pos}{N':List Str}{params:Arguments}{body:Expr}{sc:Scope}{q:Str}{f c':Addr}{clos:List (Str × Addr)}{pm ctv:Value}{σY:L2.St}{t:TE}(S:O1 N' sc)(hc:X.calm=true)(hroom:X.A.depth<recursionLimit)(hx:Passes (CXE X.prog X.w) X E)(hex:X.ex= [])
 (ho:X.s₀.heap.get? f=some (PySem.W.kla_obj "<lambda>" q params body sc clos pm c' ctv)) (fn:X.H₀ f=none) (ff:f ∉ X.fs) (hbind:bindArgs (PySem.W.kla_fn "<lambda>" q params body sc clos pm (.ref c') ctv) ⟨[],[]⟩ =pure [])
 (hinj:∀ x y c,clos.lookup x=some c->clos.lookup y=some c->x=y) (hhas:∀ x,sc.names.lookup x=some .free->∃ c,clos.lookup x=some c) (hcell:∀ x c,clos.lookup x=some c->(∃ v,X.s₀.heap.IsCell c v)/\X.H₀ c=none/\c ∉ X.fs) (hcs:Cells N' clos σY X.s₀.heap) (hlen:σY.length=N'.length)
 (hp:∀ s H,PE (CQ X N' sc q f c' clos s H E) body t) (hN:X.N[i]? =some x) (hv:Vis X.env.scope x) (hd:(x==("__debug__":Str))=false:=by decide) (hcd:(x==("__classdict__":Str))=false:=by decide):
 PE X (.Call (.Name x p) [] [] pos) (ae6 i f c' q σY t):=by
 intro pins s σ H Q I h;obtain⟨hσ,hC,ht⟩:=h;have keep:∀ b o,X.s₀.heap.get? b=some o->X.H₀ b=none->b ∉ X.fs->s.heap.get? b=some o:=fun b o e n nf=>I.base.keep b o e n nf (by rw[hex];simp);have Iz:∀ x c v,clos.lookup x=some c->X.s₀.heap.IsCell c v->s.heap.IsCell c v:=fun x c v e ⟨o,e1,e2⟩=>⟨o,keep c o e1 (hcell x c e).2.1 (hcell x c e).2.2,e2⟩;refine wpAny_Call_Name_kw (thn (zF (X:=X) (i:=i) hN hv hd hcd pins s σ H (fun y H1=>y= .ref f/\H1=H) I ⟨.ref f,hσ,rfl,rfl⟩) fun u s1 ⟨y,H1,I1,ry,ey,eH⟩=>?_);subst ey eH;obtain rfl:u=Value.ref f:=ry;have keep:∀ b o,X.s₀.heap.get? b=some o->X.H₀ b=none->b ∉ X.fs->s1.heap.get? b=some o:=fun b o e n nf=>I1.base.keep b o e n nf (by rw[hex];simp);have Iz:∀ x c v,clos.lookup x=some c->X.s₀.heap.IsCell c v->s1.heap.IsCell c v:=fun x c v e ⟨o,e1,e2⟩=>⟨o,keep c o e1 (hcell x c e).2.1 (hcell x c e).2.2,e2⟩;have ho1:=keep f _ ho fn ff;refine PySem.W.callWith_F0 ⟨_,_,_,_,ho1⟩ ?_;refine wpAny_call (codeAny_mono (Wy S I1 hc hroom ho1 (I1.hok _ _ hC).1 hbind hinj hhas (fun x c e=>?_) (fun i x v h1 h2=>?_) hlen (hp s1 H1) ht) fun r s' hq=>?_)
 · obtain⟨⟨v,hv'⟩,n,nf⟩:=hcell x c e;refine⟨⟨v,Iz x c v e hv'⟩,?_⟩;obtain⟨o,e1,_⟩:=hv';exact I1.base.free c o e1 n (by rw[hex];simp)
 · obtain⟨u,c,ru,ec,hcc⟩:=hcs i x v h1 h2;exact⟨u,c,ru,ec,Iz x c _ ec hcc⟩
 · cases r with
   | error e=>exact hx pins σ H1 s1 e s' I1 hq
   | ok fl=>
     cases fl with
     | ret u=>exact I1.after hq
     | next=>exact False.elim hq
     | brk=>exact False.elim hq
     | cont=>exact False.elim hq
theorem Ww.sim{H1:Hp}{ρ:List Addr}{h:Hs}(l:Ww cl H H1)(on:cl.on=true)(t:Tb cl H1)(s:Sim cl ρ h H):Sim cl ρ h H1/\Bt cl ρ H ρ H1:=by
 rcases l with rfl | ⟨ps,c',hP,hc,rfl⟩
 · exact⟨s,Bt.refl⟩
 · obtain⟨qs,hQ,_⟩:=s.tb on;have Wx:cl.P ≠ c':=fun z=>by rw[z,hc]at hQ;cases hQ
   have eq:∀ {a:Addr} {o:O},OA cl ρ H a o->upd (upd H cl.P (.tbl ps)) c' (.ext fun h=>h.CodeRec (.ref c') cl.q) a=H a:=fun {a o} x=>by
    have n1:a ≠ c':=fun z=>by
     obtain⟨u,hu⟩:=x.som;rw[z,hc]at hu;cases hu
    have n2:a ≠ cl.P:=fun z=>by
     have:=x.pl;rw[z,hQ]at this;exact this
    rw[aB n1,aB n2]
   refine⟨⟨s.len,s.nd,fun n a e=>?_,t⟩,List.prefix_refl _,fun b u q nb=>?_⟩
   · obtain⟨o,ho,x⟩:=s.obj n a e;exact⟨o,ho,x.keep (List.prefix_refl _) (eq x)⟩
   · have n1:b ≠ c':=aV q hc;refine⟨nb,fun z=>by rw[aB n1,aB (z on)];exact q,?_⟩
     by_cases z:b=cl.P
     · subst z;exact⟨_,by rw[aB Wx,az]⟩
     · exact⟨u,by rw[aB n1,aB z];exact q⟩
end
section
variable{Pg:List Fn}{cl:Cn}{E:XK}{d:Nat}{X:Cx}{σ:L2.St}{H:Hp}{pins:List (Addr × Obj)}{s:Shared}
abbrev aea(X:Cx)(NT:List Str)(tn:Str)(st:Stmt)(ft:Addr)(cdv:Value)(s1:Shared)(H1:Hp)(E2:XK)(E':Value->Shared->Prop)(pn:List (Addr × Obj)):Cx:=
 rR (iB (CXE X.prog X.w) X.prog X.w X.K X.mg X.base NT tn (aa st) ft cdv X.A X.stack s1 H1 E2) E' pn
theorem IV:(2:Nat)<=sizeLine:=by rw[mU];decide
theorem R4(I:Inv X pins σ H s)(hfn:∀ x,X.fn x=true){x:Str}{c:Addr}(e:X.env.cells.lookup x=some c):c ∉ frs X.stack:=fun z=>by
 rcases List.mem_cons.mp (I.v9 c z) with z | z
 · exact I.cne x c e z
 · obtain⟨_,o,ho,_⟩:=I.ok.jT.mem z;exact absurd (Heap.lt_size ho) (Nat.not_lt.mpr (I.ok.cab x c (hfn x) e))
theorem Mm{k nx:Nat}{c S ft:Addr}{fdT:FuncData}{st:Stmt}{NT N':List Str}{tn an en cx:Str}{idx:List Nat}{params:Arguments}{body:Expr}{sc:Scope}{a:Ev.X}{O3 p pos:Pos}{t1 t2 w1 w2:Str}
 {q1 q2 q3 q4 q5 q6 q7 q8 q9 q10 q11 q12 q13:Pos} {j1 j2} {x1 x2}
 (L:OJ cl X c) (hfn:∀ x,X.fn x=true) (hr:aX (k+1) X.A) (Ft:Fun X.K tn tn st ft fdT) (ScT:aC [an,en] [an] (aa st)) (bT:Binds X.K fdT [an] []) (hg:Gl X tn) (mgT:X.mg tn=some (.ref ft)) (kpT:PySem.W.keepIn X.K (.ref ft)=true)
 (hst:bG st= [.Try [.Return (some (.Tuple [.Constant (.str t1) j1 q1,.Call (.Name an q2) [] [] q3] x1 q4)) q5] [.ExceptHandler (some (.Name cx q6)) (some en) [.Return (some (.Tuple [.Constant (.str t2) j2 q7,.Attribute (.Name en q8) w1 q9] x2 q10)) q11] q12] [] [] q13])
 (h1:t1=nm z6) (h2:t2=nm noT) (h3:w1=nm o9) (hen:(aa st).names.lookup en=some .local) (han:Vis (aa st) an) (hgS:(aa st).names.lookup cx=some .globalImplicit) (mgS:X.mg cx=some (.ref S)) (cS:iD X.K S) (hcx:(cx==("__debug__":Str))=false)
 (hd1:(an==("__debug__":Str))=false) (hd2:(an==("__classdict__":Str))=false) (hd3:(en==("__debug__":Str))=false) (hd4:(en==("__classdict__":Str))=false)
 (hX:∀ C,C<nx->iD X.K (cl C)/\qU X.K (cl C) S/\bM X.K (cl C) w1)
 (B:rQ X N' sc 0 idx) (hco:sc.isCoroutine=false) (hgen:sc.isGenerator=false) (hdef:defaultsOf params X.env=([],[])) (hbind:∀ q clos pm c' ctv,bindArgs (PySem.W.kla_fn "<lambda>" q params body sc clos pm (.ref c') ctv) ⟨[],[]⟩ =pure [])
 (hp:∀ cdv s1 H1 E2 E' pn f c' clos s H E3,PE (CQ (aea X [an,en] tn st ft cdv s1 H1 E2 E' pn) N' sc cl.q f c' clos s H E3) body (tE Pg cl E3 d a))
 (hdb:(tn==("__debug__":Str))=false:=by decide) (he:starEach [Expr.Lambda params body sc O3] X.env=(false,eval (.Lambda params body sc O3) X.env)::starEach [] X.env:=by rfl) (hpl:(backTo pos (starEach [] X.env)).any (·.1)=false:=by rfl):
 PE X (.Call (.Name tn p) [.Lambda params body sc O3] [] pos) (tE Pg cl E (d+2) (.told nx idx a)):=by
 subst h1 h2 h3;intro pins s σ H Q I h;obtain⟨ρ,τ,hh,n,sm,rs,pz⟩:=h.step;have pz:Post cl ρ H E (R.rec (motive:=fun _=>R A) (fun r h=>r.toW fun w=>ofW (.alloc h (.tup [.str z6,w]))) (fun C fs h=>ifB (Nat.ble (C+1) nx) (Opt (fget fs o9) fun w=>ofW (.alloc h (.tup [.str noT,w]))) .no) .no (evs Pg n d (.x a) (yN 0 idx τ) hh)) (VP Q):=pz;have hfr:∀ y ∈ sc.names,y.2= .free->X.env.kindOf y.1=some .cell\/X.env.kindOf y.1=some .free:=B.fr;refine wpAny_Call_Name_kw (kE I hg mgT ?_ hdb);refine PySem.W.callWith_K (h₀:=X.base) I.ok.mod.kin kpT ?_ he hpl;rw[he];show wpAny _ _ (spliced ((false,eval (.Lambda params body sc O3) X.env)::backTo pos (starEach [] X.env))) _ _ s;refine Calls.spliced_cons (thn (acn L I sm.tb hdef hfr) fun u s1 ⟨f,c',pm,ctv,H1,eu,lh,I1,t1,fn,fge,fo,hC⟩=>?_);subst eu;refine Calls.spliced_nil ⟨I1.kIn,?_⟩;obtain⟨sm1,bt1⟩:=lh.sim L.on t1 sm;have hcl:∀ y ∈ sc.names,y.2= .free->∃ c,X.env.cells.lookup y.1=some c:=fun y hy e=>I1.ok.has y.1 (hfr y hy e)
 have sub:∀ x c,(gk X.env.cells sc.names []).lookup x=some c->X.env.cells.lookup x=some c:=fun x c h=>by
  rcases qR hcl h with z | z
  · exact z
  · simp at z
 have ae7:O1 N' sc:=⟨B.kind,hco,hgen,B.HS,fun x hx=>by
  obtain⟨i,hi⟩:=List.getElem?_of_mem hx
  have hlt:i<idx.length:=by
   have:=(aZ hi).1;have:=B.len;omega
  obtain⟨j,hj⟩:∃ j,idx[i]? =some j:=⟨idx[i],by simp[hlt]⟩;refine(B.ix (j,x) (List.mem_of_getElem? (i:=i) ?_)).2;rw[List.drop_zero,List.getElem?_zip_eq_some]
  exact⟨hj,hi⟩⟩
 have ffs:f ∉ frs X.stack:=fun z=>by
  obtain⟨_,o',ho',_⟩:=I.stack.mem z;exact absurd (Heap.lt_size ho') (Nat.not_lt.mpr fge)
 have hcs:Cells N' (gk X.env.cells sc.names []) (sgb 0 idx σ) s1.heap:=fun i x v h1 h2=>by
  unfold sgb at h2;rw[List.replicate_zero,List.nil_append,List.getElem?_map]at h2
  cases ej:idx[i]? with
  | none=>rw[ej]at h2;cases h2
  | some j=>
    rw[ej]at h2;have h2':(σ[j]?).getD none=some v:=by simpa using h2
    have hz:(j,x) ∈ idx.zip (N'.drop 0):=by
     refine List.mem_of_getElem? (i:=i) ?_;rw[List.drop_zero,List.getElem?_zip_eq_some];exact⟨ej,h1⟩
    obtain⟨q1,q2⟩:=B.ix _ hz
    have hs:σ[j]? =some (some v):=by
     cases e:σ[j]? with
     | none=>rw[e]at h2';cases h2'
     | some o=>rw[e]at h2';exact congrArg some h2'
    have hkx:=B.fr (x,.free) (dg q2) rfl;obtain⟨mX,_,hl⟩:=I1.loc
    obtain⟨u,ru,lk⟩:=hl j x v q1 hs (by
     rcases hkx with z | z
     · exact .inr (.inl z)
     · exact .inr (.inr z))
    rcases lk with ⟨z,_⟩ | ⟨_,c,hc,hcell⟩
    · exfalso
      rcases hkx with y | y
      · rw[z]at y;cases y
      · rw[z]at y;cases y
    · exact⟨u,c,ru,qG hc (.inl (dg q2)),hcell⟩
 have hlen:(sgb 0 idx σ).length=N'.length:=by
  unfold sgb;rw[List.replicate_zero,List.nil_append,List.length_map,<- B.len,Nat.zero_add]
 refine wpAny_call (codeAny_mono (ad_ (CX:=CXE X.prog X.w) (Q:=Q) (E:=E0) (us:=[.ref f]) (vs:=[.ref f]) Ft ScT hr I1.env0 (bT s1 [.ref f] I1.kIn rfl) (.cons rfl .nil) rfl fun cdv hr2=>?_) fun r s' hq=>?_)
 · rw[hst];have O2:Own (iB (CXE X.prog X.w) X.prog X.w X.K X.mg X.base [an,en] tn (aa st) ft cdv X.A X.stack s1 H1 E0):=⟨rfl,rfl,rfl⟩
   refine⟨_,aO (abF (i:=1) O2 ScT.nd rfl hen hgS mgS cS (fun e oe=>aO (dw (t_ (aq m_ (aq (YL (i:=1) rfl (Or.inl hen) rfl hd3 hd4) aD)))))
    (fun E' pn E2 hpass=>aO (dw (t_ (aq m_ (aq (Wz (i:=0) (E:=E2) (σY:=sgb 0 idx σ) (t:=tE Pg cl E2 d a) ae7 rfl hr2.depth hpass rfl fo fn ffs (hbind _ _ _ _ _)
      (fun x y c h1 h2=>I1.ok.inj x y c (sub x c h1) (sub y c h2)) (fun x hx=>?_) (fun x c e=>⟨I1.cell x c (sub x c e),I1.gO x c (sub x c e),R4 I1 hfn (sub x c e)⟩) hcs hlen (fun s H=>hp _ _ _ _ _ _ _ _ _ _ _ _) rfl han hd1 hd2) aD))))) hcx),?_⟩
   · obtain⟨c,hc⟩:=hcl (x,.free) (dg hx) rfl;exact⟨c,qG hc (.inl (dg hx))⟩
   refine⟨rfl,hC,ρ,yN 0 idx τ,hh,n,sm1,R1 rs 0 idx,?_⟩
   cases er:evs Pg n d (.x a) (yN 0 idx τ) hh with
   | no=>rw[er]at pz;exact pz.elim
   | ok r0 h3=>
     rw[er]at pz;obtain⟨w,rfl,p2⟩:=bK (show Post cl ρ H E (r0.toW fun w=>ofW (.alloc h3 (.tup [.str z6,w]))) (VP Q) from pz);intro ρ' H' b' s';refine⟨w,rfl,fun v rv=>⟨IV,fun p hp=>?_⟩⟩
     exact Post.Ou s' (p2.later (bt1.trans b')) hp (.cons (.str z6) (.cons rv .nil))
   | ex C fs h3=>
     rw[er]at pz;obtain⟨cC,p2⟩:=jX (show Post cl ρ H E (ifB (Nat.ble (C+1) nx) (Opt (fget fs o9) fun w=>ofW (.alloc h3 (.tup [.str noT,w]))) .no) (VP Q) from pz);obtain⟨w,ew,p3⟩:=gQ p2;rw[ble_eq]at cC;obtain⟨k1,k2,k3⟩:=hX C (of_decide_eq_true cC);intro ρ' H' dx gs b' s' fr nd hx;refine⟨cl C,rfl,k1,k2,fun e oe e1 e2 ⟨vs,e3⟩ hn=>?_⟩;obtain⟨v,ev,rv⟩:=fr.get ew;refine⟨rfl,cl C,dx,gs,v,e1,e2,⟨vs,e3⟩,k1,k3,hx,ev,IV,fun p hp=>?_⟩;exact Post.Ou s' (p3.later (bt1.trans b')) hp (.cons (.str noT) (.cons rv .nil))
 · cases r with
   | error e=>exact(uI hq).elim
   | ok fl=>
     cases fl with
     | ret u=>exact I1.after hq
     | next=>exact False.elim hq
     | brk=>exact False.elim hq
     | cont=>exact False.elim hq
end
def Ab(P:Addr)(H:Hp):Prop:=H P=some (.tbl #[])/\∀ b,b ≠ P->H b=none\/∃ o xs,H b=some (.frz o (.lst xs))
theorem R5{P:Program}{w:World}{K:ak}{mg mb:Str->Option Value}{CX:CXT}{k:Nat}{fa a T c:Addr}{fd:FuncData}{x:Str}{sp:Sp}{s₁:Shared}{vs:List Value}{ns:List Int}
 (KX:K.In s₁.heap) (hns:s₁.heap.Ns mainGlobals mg) (hb:s₁.heap.Ns builtinsNs mb) (hbb:∀ x:Str,x ≠ "__name__"->mb x=bootBuiltins x) (hlim:s₁.heap.NoLimit) (hg:s₁.gens= #[])
 (ha:s₁.heap.get? a=some { cls:=.type "list",data:=.seq vs.toArray }) (hi:IntsAre vs ns) (hl:ns.length<=sizeLine) (hr:aX k callerA)
 (hT:s₁.heap.get? T=some (PySem.W.tabObj #[])) (hKT:K.lookup T=none) (hcT:PySem.W.codeHdIn K c T=true) (hbm:s₁.heap.BuiltinsAt mg T)
 (F:∀ base:Heap,K.In base->base.Ns mainGlobals mg->base.BuiltinsAt mg T->aP P w K mg base CX k fa fd [x] sp) (hbind:∀(s:Shared) (u:Value),BindsTo s fd ⟨[u],[]⟩ [(x,u)])
 (hsp:∀ H:Hp,Ab T H->SqL K H a (ns.map V.int)->sp [.ref a] H (fun v _=>v= .bl true) fun _ _ _=>False)
 (hCX:∀ H e s',CX [] H s₁ (fun _ _ _=>False) e s'->False):
 codeAny (model P w) callerA (.call (.ref fa) ⟨[.ref a],[]⟩) (fun r s'=>r= .ok (.ret (.bool true))/\OldK s₁.heap s'.heap/\s'.os=s₁.os/\AllBare s'.gens) s₁:=by
 have rv:=Er hi;have lenV:=hi.length;have aT:a ≠ T:=fun z=>by rw[z,hT]at ha;cases ha
 have core:∀ H:Hp,Ab T H->SqL K H a (ns.map V.int)->HOk P w H s₁.heap->(∀ b,H b ≠ none->b=a\/b=T)->(H a ≠ none->K.lookup a=none)->
  codeAny (model P w) callerA (.call (.ref fa) ⟨[.ref a],[]⟩) (fun r s'=>r= .ok (.ret (.bool true))/\OldK s₁.heap s'.heap/\s'.os=s₁.os/\AllBare s'.gens) s₁:=by
  intro H hO hS hok hA hK;have CV:∀ {b:Addr} {o:Obj},s₁.heap.get? b=some o->H b=none->(sH s₁.heap H).get? b=some o:=fun e n=>VH e n
  have noA:∀ {b:Addr} {o:Obj},s₁.heap.get? b=some o->(∀ vs n,o.data ≠ .seq vs n)->(∀ vs,o.data ≠ .fields vs)->H b=none:=fun {b o} e d1 d2=>by
   cases q:H b with
   | none=>rfl
   | some u=>
     rcases hA b (by rw[q];simp) with e' | e'
     · subst e';rw[ha]at e;cases e;exact absurd rfl (d1 _ _)
     · subst e';rw[hT]at e;cases e;exact absurd rfl (d2 _)
  have nsK:∀ {b:Addr} {m:Str->Option Value},s₁.heap.Ns b m->(sH s₁.heap H).Ns b m:=fun {b m} ⟨o,es,ep,e,d,r⟩=>⟨o,es,ep,CV e (noA e (fun _ _ z=>by rw[d]at z;cases z) fun _ z=>by rw[d]at z;cases z),d,r⟩
  have hKb:K.In (sH s₁.heap H):=fun b o e=>CV (KX b o e) (by
   cases q:H b with
   | none=>rfl
   | some u=>
     rcases hA b (by rw[q];simp) with e' | e'
     · subst e';rw[hK (by rw[q];simp)]at e;cases e
     · subst e'
       rw[hKT]at e;cases e)
  have ae8:(sH s₁.heap H).BuiltinsAt mg T:=let ⟨bm,o,a1,a2,a3,a4,a5,a6,a7,a8⟩:=hbm
   ⟨bm,o,a1,a2,a3,a4,CV a5 (noA a5 (fun _ _ z=>by rw[a8]at z;cases z) fun _ z=>by rw[a8]at z;cases z),a6,a7,a8⟩
  have hM:Mod K mg (sH s₁.heap H):=⟨hKb,nsK hns,⟨mb,nsK hb,hbb⟩,let ⟨mc,h1,h2⟩:=hlim;⟨mc,nsK h1,h2⟩⟩;have e0:wu P w K mg (sH s₁.heap H) callerA [] s₁ H:=⟨rfl,hM,fun b o e=>Ys e,Nat.le_of_eq (Q7 _ _),trivial,fun b hb=>absurd (show b ∈ ([]:List Addr) from hb) (by simp),hok,.of_eq hg⟩;refine codeAny_mono ((F _ hKb (nsK hns) ae8).run callerA [] s₁ H ⟨[.ref a],[]⟩ [.ref a] [.ref a] _ _ hr e0 (hbind s₁ (.ref a)) (.cons rfl .nil) (hsp H hO hS)) fun r s' h=>?_
  cases r with
  | error e=>exact(hCX H e s' h).elim
  | ok fl=>
    cases fl with
    | next=>exact False.elim h
    | brk=>exact False.elim h
    | cont=>exact False.elim h
    | ret u=>
      obtain⟨v,H',os,bare,un,hok',r',q⟩:=h;have q':v= .bl true:=q;subst q';obtain rfl:u=Value.bool true:=r';obtain⟨ps,hP'⟩:=un.jR T #[] hO.1;have hTs:s'.heap.get? T=some (PySem.W.tabObj (#[]++ps)):=hok' T _ hP'
      have keep:∀ b o,b ≠ T->s₁.heap.get? b=some o->s'.heap.get? b=some o:=fun b o hb e=>by
       cases q:H b with
       | none=>exact un.keep b o e q (by intro z;exact absurd (show b ∈ ([]:List Addr) from z) (by simp)) (by simp)
       | some u=>
         rcases hO.2 b hb with z | ⟨ob,xs,z⟩
         · rw[q]at z;cases z
         · have z2:=un.jQ b ob _ z;obtain⟨e1,_⟩:=hok b _ z;obtain⟨e2,_⟩:=hok' b _ z2;rw[e]at e1;cases e1;exact e2
      have hd:=PySem.W.codeHd_of_K KX hcT;refine⟨rfl,⟨fun b o e=>?_,fun b o e=>?_⟩,os,bare⟩
      · by_cases hb:b=T
        · subst hb;rw[hT]at e;cases e;exact .inr (.inl ⟨(hd.tab hT).isCodeTable,rfl,#[],ps,rfl,hTs⟩)
        · exact .inl (keep b o hb e)
      · by_cases hb:b=T
        · subst hb;exact⟨_,hTs⟩
        · exact⟨o,keep b o hb e⟩
 cases hk:K.lookup a with
 | some o=>
   have e:=KX a o hk;rw[ha]at e;cases e;refine core (fun b=>if b=T then some (.tbl #[]) else none) ⟨if_pos rfl,fun b hb=>.inl (if_neg hb)⟩ (.inr ⟨_,vs.toArray,_,hk,rfl,rfl,rfl,by rw[List.size_toArray,lenV];exact hl,by simpa using rv⟩) (fun b u z=>?_) (fun b z=>?_) fun z=>absurd (if_neg aT) z
   · by_cases hb:b=T
     · have z':=(if_pos hb).symm.trans z;cases z';subst hb;exact hT
     · have z':=(if_neg hb).symm.trans z;cases z'
   · by_cases hb:b=T
     · exact .inr hb
     · exact absurd (if_neg hb) z
 | none=>
   refine core (fun b=>if b=T then some (.tbl #[]) else if b=a then some (.frz { cls:=.type "list",data:=.seq vs.toArray } (.lst (ns.map V.int))) else none) ⟨if_pos rfl,fun b hb=>?_⟩ (.inl (.inr ⟨{ cls:=.type "list",data:=.seq vs.toArray },by show(if a=T then _ else _)=_;rw[if_neg aT,if_pos rfl]⟩)) (fun b u z=>?_) (fun b z=>?_) fun _=>hk
   · by_cases hba:b=a
     · exact .inr ⟨_,_,by show(if b=T then _ else _)=_;rw[if_neg hb,if_pos hba]⟩
     · exact .inl (by show(if b=T then _ else _)=_;rw[if_neg hb,if_neg hba])
   · have z:(if b=T then some (HO.tbl #[]) else if b=a then some (.frz { cls:=.type "list",data:=.seq vs.toArray } (.lst (ns.map V.int))) else none)=some u:=z
     by_cases hb:b=T
     · rw[if_pos hb]at z;cases z;subst hb;exact hT
     · rw[if_neg hb]at z
       by_cases hba:b=a
       · rw[if_pos hba]at z;cases z;subst hba;exact⟨ha,by rw[List.length_map];exact hl,vs,_,rv,ha⟩
       · rw[if_neg hba]at z;cases z
   · by_cases hb:b=T
     · exact .inr hb
     · by_cases hba:b=a
       · exact .inl hba
       · exact absurd (by show(if b=T then _ else _)=_;rw[if_neg hb,if_neg hba]) z
theorem aeb{l:PySem.W.OpenLaw}{n k:Nat}{q:Program}{loose:List Str}{XP:(Str->Option Value)->Heap->Prop}{YP:World->Heap->Prop}{d:DefRec}{K:Params->ak}{CX:World->CXT}{sp:World->Sp}{x:Str}{T c:Addr}
 (hn:l.most=some n) (hn2:n<=sizeLine) (hdf:d.params.defaults= []) (hr:aX k callerA)
 (hY:∀(w:World) (h:Heap),YP w h->(K w.params).In h/\h.get? T=some (PySem.W.tabObj #[])) (hK:∀ P:Params,(K P).lookup T=none/\PySem.W.codeHdIn (K P) c T=true)
 (F:∀(w:World) (mg:Str->Option Value) (fa:Addr) (h:Heap),(K w.params).In h->h.Ns mainGlobals mg->mg d.name=some (.ref fa)->
   ∃ fd:FuncData,(∀(s:Shared) (u:Value),BindsTo s fd ⟨[u],[]⟩ [(x,u)])/\
     ∀ base:Heap,(K w.params).In base->base.Ns mainGlobals mg->base.BuiltinsAt mg T->aP l.prog w (K w.params) mg base (CX w) k fa fd [x] (sp w))
 (hsp:∀(w:World) (H:Hp) (a:Addr) (ns:List Int),ns.length<=n->Ab T H->SqL (K w.params) H a (ns.map V.int)->sp w [.ref a] H (fun v _=>v= .bl true) fun _ _ _=>False)
 (hCX:∀(w:World) (H:Hp) (s:Shared) (e:Value) (s':Shared),CX w [] H s (fun _ _ _=>False) e s'->False):
 PySem.W.WalkO q loose XP YP l.row.toRowW d [] (fun f vs=>PySem.call f vs):=by
 refine Att.KJ hn hdf fun w s₀ s₁ mg mb fa o pm cd doc a vs ns G Y ho hd hcd hmg hobj hints hlen hg=>?_;obtain⟨KX,hT⟩:=hY w _ Y;obtain⟨fd,hb,hF⟩:=F w mg fa _ KX G.T.g hmg;obtain⟨bm,ob,b1,b2,b3,b4,b5,b6⟩:=G.T.bmain
 have hbm:s₁.heap.BuiltinsAt mg T:=by
  refine⟨bm,ob,b1,b2,fun z=>?_,fun z=>?_,b3,b4,b5,b6⟩
  · obtain⟨o,es,ep,e,hd,_⟩:=G.T.g;rw[z,e]at b3;cases b3;rw[hd]at b6;cases b6
  · rw[z,hT]at b3;cases b3;cases b4
 exact R5 KX G.T.g G.T.b G.T.builtins G.T.nolimit hg hobj hints (Nat.le_trans hlen hn2) hr hT (hK _).1 (hK _).2 hbm hF hb (fun H hO hS=>hsp w H a ns hlen hO hS) fun H e s'=>hCX w H s₁ e s'
section
variable{Pg:List Fn}{cl:Cn}{E:XK}{d:Nat}{X:Cx}{σ:L2.St}{H:Hp}
theorem uo{K:ak}{tg l:Expr}{e:Ev.X}(hK:X.K=K)(he:PE X l (tE Pg cl E d e)):PI X tg l (fun σ H R=>Nq K (tE Pg cl E d e) σ H R\/VL K (tE Pg cl E d e) σ H R):=by
 subst hK;exact PI.or (oJ he) (aa8 he)
theorem yU{c a b:Expr}{x y z:Ev.X}{pos}(hc:PT X c (tT Pg cl E d x))(ha:PE X a (tE Pg cl E d y))(hb:PE X b (tE Pg cl E d z)):PE X (.IfExp c a b pos) (tE Pg cl E d (.ite x y z)):=PE.of (Hv hc ha hb) fun _ _ _ q=>ab_ q
theorem bf{P:Program}{w:World}{K:ak}{mg:Str->Option Value}{base:Heap}{k i:Nat}{f:Addr}{fd:FuncData}{ps:List Str}:aP P w K mg base (CXE P w) k f fd ps (spF Pg cl 0 i):=by
 have no:∀ vs H Q E,¬ spF Pg cl 0 i vs H Q E:=fun vs H Q E ⟨ρ,ws,h,n,s,r,p⟩=>by
  obtain⟨_,_,_,e,_⟩:=yS p;cases e
 exact⟨fun vs H Q E z=>(no vs H Q E z).elim,fun _ _ _ _ _ _ _ _ _ _ _ _ _ z=>(no _ _ _ _ z).elim⟩
theorem uQ{N':List Str}{sc:Scope}{C:Addr}{s₀:Shared}{H₀:Hp}{fp:List Addr}:Passes (CXE X.prog X.w) (blk X N' sc C s₀ H₀ fp) E0:=fun _ _ _ _ _ _ _ h=>(uI h).elim
theorem fG{C k f:Nat}{fa:Addr}{m:Str}{mc:List Nat}{fd:FuncData}{ps:List Str}{o e:Expr}{es:List Expr}{xo y:Ev.X}{ys:List Ev.X}{apos pos:Pos}{pl:Sem Bool}(c:Cls X.K (cl C))(hm:Meth X.K (cl C) m fa)(F:aP X.prog X.w X.K X.mg X.base (CXE X.prog X.w) k fa fd ps (spF Pg cl d f))(hr:aX k X.A)(hb:Binds X.K fd ps [])
 (hx:Passes (CXE X.prog X.w) X E) (he:PE X o (tE Pg cl E d xo)) (ha:PA X (e::es) (tA Pg cl E d (y::ys))) (ef:m=nm mc:=by decide +kernel)
 (hst:starEach (e::es) X.env=(false,eval e X.env)::starEach es X.env:=by rfl) (hpl:(backTo pos (starEach es X.env)).any (·.1)=false:=by rfl)
 (ht:eval (.Call (.Attribute o m apos) (e::es) [] pos) X.env=(do
   let ov <- eval o X.env
   standAt apos.atName
   let (f,first) <- holding [ov] (getMethod ov m pl)
   callWith pos f first (backTo pos (starEach (e::es) X.env)) (backToKw pos (keywordEach [] X.env))):=by rfl):
 PE X (.Call (.Attribute o m apos) (e::es) [] pos) (tE Pg cl E d (.meth C mc f xo (y::ys))):=by
 subst ef;exact PE.of (L2.Yw he c hm F hr hb .nil hx ha hst hpl ht) fun _ _ _ q=>Iw q
theorem gZ{C k f:Nat}{fa:Addr}{m:Str}{mc:List Nat}{fd:FuncData}{ps:List Str}{o:Expr}{xo:Ev.X}{apos pos:Pos}{pl:Sem Bool}(c:Cls X.K (cl C))(hm:Meth X.K (cl C) m fa)(F:aP X.prog X.w X.K X.mg X.base (CXE X.prog X.w) k fa fd ps (spF Pg cl d f))(hr:aX k X.A)(hb:Binds X.K fd ps [])
 (hx:Passes (CXE X.prog X.w) X E) (he:PE X o (tE Pg cl E d xo)) (ef:m=nm mc:=by decide +kernel)
 (ht:eval (.Call (.Attribute o m apos) [] [] pos) X.env=(do
   let ov <- eval o X.env
   standAt apos.atName
   let (f,first) <- holding [ov] (getMethod ov m pl)
   callWith pos f first (backTo pos (starEach [] X.env)) (backToKw pos (keywordEach [] X.env))):=by rfl):
 PE X (.Call (.Attribute o m apos) [] [] pos) (tE Pg cl E d (.meth C mc f xo [])):=by
 subst ef;refine PE.of (L2.V4 he c hm F hr hb .nil hx ht) fun σ H Q q=>?_;obtain⟨ρ,τ,h,n,s,rs,p⟩:=Iw q;refine⟨ρ,τ,h,n,s,rs,p.mono fun a h ρ H _ _ ⟨w,e,g⟩=>⟨w,e,fun v rv=>?_⟩⟩;obtain⟨a,dx,fs,e1,e2,e3,z⟩:=g v rv;exact⟨a,dx,fs,e1,e2,e3,ack z⟩
theorem Zb{C k f:Nat}{fa:Addr}{x:Str}{fd:FuncData}{ps:List Str}{e:Expr}{es:List Expr}{y:Ev.X}{ys:List Ev.X}{p pos:Pos}(M:Mk X.K (cl C) fa)(F:aP X.prog X.w X.K X.mg X.base (CXE X.prog X.w) k fa fd ps (spF Pg cl d f))(hr:aX (k+1) X.A)(hg:Gl X x)(hm:X.mg x=some (.ref (cl C)))(hb:Binds X.K fd ps [])(hx:Passes (CXE X.prog X.w) X E)
 (ha:PA X (e::es) (tA Pg cl E d (y::ys))) (hdb:(x==("__debug__":Str))=false:=by decide) (he:starEach (e::es) X.env=(false,eval e X.env)::starEach es X.env:=by rfl) (hpl:(backTo pos (starEach es X.env)).any (·.1)=false:=by rfl):
 PE X (.Call (.Name x p) (e::es) [] pos) (tE Pg cl E d (.make C f (y::ys))):=PE.of (Yx M F hr hg hm hb .nil hx ha hdb he hpl) fun _ _ _ q=>Za q
theorem mH{σ0:L2.St}{C k:Nat}{cc:List Nat}{fa:Addr}{fd:FuncData}{ps:List Str}{x:Str}{p cpos pos:Pos}(O:Own X)(hxe:X.xe=yM X E)(hc:X.calm=true)(M:XMk X.K (cl C) fa)(F:aP X.prog X.w X.K X.mg X.base CX0 k fa fd ps (spX (cl C) cc))(hr:aX (k+1) X.A)(hb:Binds X.K fd ps [])
 (hg:Gl X x) (hm:X.mg x=some (.ref (cl C))) (hdb:(x==("__debug__":Str))=false:=by decide):PS X (.Raise (some (.Call (.Name x p) [] [] cpos)) none pos) (tS Pg cl E d σ0 (.raise C cc)):=PS.of (Rz O hxe hc M F hr hb hg hm hdb) fun _ _ _ q=>R3 q
end
section
variable{Pg:List Fn}{cl:Cn}{E:XK}{d:Nat}{X:Cx}{σ:L2.St}{H:Hp}
def KTup(K:ak)(a:Addr)(ns:List Int):Prop:=∀ H,SqT K H a (ns.map V.int)
inductive yV (K:ak):List DictEntry->List (List Nat × List Int)->Prop
 | nil:yV K [] []
 | cons {hs c t a ns es tb}:KTup K a ns->yV K es tb->yV K (⟨hs,.str (nm c) t,.ref a⟩::es) ((c,ns)::tb)
structure O4 (K:ak)(w:World)(da:Addr)(tb:List (List Nat × List Int)):Prop where
 ex:∃(es:List DictEntry) (n:Nat),K.lookup da=some ⟨.type "dict",none,.dict es.toArray n,#[]⟩/\PySem.W.KeysLit w.params es/\yV K es tb
 ns:(da==sysModules)=false
theorem yV.look{K:ak}{c:List Nat}:∀ {es:List DictEntry} {tb:List (List Nat × List Int)},yV K es tb->
 (∃ a,(es.find? fun e=>Value.isStrOf (nm c) e.key).map (·.val)=some (.ref a)/\KTup K a (tabOf tb c))\/((es.find? fun e=>Value.isStrOf (nm c) e.key).map (·.val)=none/\tabOf tb c= [])
 | _,_,.nil=>.inr ⟨rfl,rfl⟩
 | _,_,@yV.cons _ hs c' t a ns es tb k r=>by
   rw[List.find?_cons]
   cases z:codes c' c with
   | true=>
     have e:=bQ.mp z;have e1:Value.isStrOf (nm c) (Value.str (nm c') t)=true:=by rw[e];simp[Value.isStrOf]
     have e2:tabOf ((c',ns)::tb) c=ns:=by show ifB (codes c' c) ns (tabOf tb c)=ns;rw[z];rfl
     rw[e1,e2]
     exact .inl ⟨a,rfl,k⟩
   | false=>
     have e1:Value.isStrOf (nm c) (Value.str (nm c') t)=false:=by
      show(nm c'==nm c)=false;exact beq_eq_false_iff_ne.mpr fun q=>by rw[bQ.mpr (pI q)]at z;cases z
     have e2:tabOf ((c',ns)::tb) c=tabOf tb c:=by show ifB (codes c' c) ns (tabOf tb c)=_;rw[z];rfl
     rw[e1,e2];exact r.look
def O5(K:ak)(tb:List (List Nat × List Int))(t:TE):TE:=fun σ H Q=>t σ H fun v H2=>∃ c,v= .str (nm c)/\∀ p,H2 p=none->∀ a,(a=p/\tabOf tb c= []\/KTup K a (tabOf tb c))->Q (.ref a) (upd H2 p (.tup []))
theorem Zc{x:Str}{da:Addr}{tb:List (List Nat × List Int)}{k:Expr}{t:TE}{p apos cpos tpos:Pos}{x1:Nat}(T:O4 X.K X.w da tb)(hg:Gl X x)(hm:X.mg x=some (.ref da))(hk:PE X k t)(hxd:(x==("__debug__":Str))=false:=by decide)
 (hbase:attributeBase (.Name x p) "get" X.env (eval (.Name x p) X.env)=eval (.Name x p) X.env:=by rfl)
 (hfew:((backTo cpos (starEach [k,.Tuple [] x1 tpos] X.env)).all (fun x=> !x.1)&&(backToKw cpos (keywordEach [] X.env)).all (fun x=>x.1.isSome)
   && decide (([k,.Tuple [] x1 tpos]:List Expr).length+([]:List Keyword).length+(if([]:List Keyword).isEmpty then 0 else 1)<30))=true:=by rfl)
 (hline:(apos.endLine==cpos.line)=true:=by rfl) (hs:starEach [k,.Tuple [] x1 tpos] X.env=(false,eval k X.env)::starEach [.Tuple [] x1 tpos] X.env:=by rfl) (hs2:starEach [Expr.Tuple [] x1 tpos] X.env=(false,eval (.Tuple [] x1 tpos) X.env)::starEach [] X.env:=by rfl) (hplain:(backTo cpos (starEach [Expr.Tuple [] x1 tpos] X.env)).any (·.1)=false:=by rfl):
 PE X (.Call (.Attribute (.Name x p) "get" apos) [k,.Tuple [] x1 tpos] [] cpos) (O5 X.K tb t):=by
 intro pins s σ H Q I h;obtain⟨⟨es,n,lk,kl,en⟩,ns⟩:=T;refine wpAny_Call_method_late hbase hfew hline rfl (kE I hg hm ?_ hxd);have hob:=I.kIn _ _ lk;refine⟨"dict","dict.get",PySem.F.plainAttrs_dict,PySem.F.slot_dict_get,PySem.F.type_dict_get,⟨_,hob,rfl⟩,fun a e=>by cases e;exact⟨_,hob,rfl⟩,?_⟩;rw[hs];refine Calls.callWith_builtin (by show(false||(backTo cpos (starEach [Expr.Tuple [] x1 tpos] X.env)).any (·.1))=false;rw[hplain] <;> rfl) (Calls.evalArgs_plain ?_);show wpAny _ _ (spliced ((false,eval k X.env)::backTo cpos (starEach [Expr.Tuple [] x1 tpos] X.env))) _ _ s;refine Calls.spliced_cons (thn (hk pins s σ H _ I h) fun u s1 ⟨v,H1,I1,rv,c,ev,q⟩=>?_);subst ev;obtain⟨tk,rfl⟩:=rv;rw[hs2];show wpAny _ _ (spliced ((false,eval (.Tuple [] x1 tpos) X.env)::backTo cpos (starEach [] X.env))) _ _ s1;refine Calls.spliced_cons (thn (t_ (X:=X) (x1:=x1) (pos:=tpos) aD pins s1 σ H1 (fun y H2=>∃ q',y= .ref q'/\H1 q'=none/\H2=upd H1 q' (.tup [])) I1 ⟨Nat.zero_le _,fun p hp=>⟨p,rfl,hp,rfl⟩⟩) fun u2 s2 ⟨y,H2,I2,ry,q',ey,hq',eH⟩=>?_);subst ey eH;obtain rfl:u2=Value.ref q':=ry;refine Calls.spliced_nil ?_;have mo:=PySem.W.mapOf_K (prog:=X.prog) (w:=X.w) I2.kIn lk (by simpa using kl);refine call_meetsIn PySem.F.slot_dict_get ⟨_,I2.kIn _ _ lk,rfl⟩ PySem.F.entry_dict_get (PySem.F.args_dict_get_3 _ _ _) (meets_dict_get_default (strKind X.prog X.w) da (strKind_is X.prog X.w (nm c) tk) ns (.ref q')) ⟨_,mo,?_⟩
 have fe:findBy Value.isStrOf es.toArray (nm c)=(es.find? fun e=>Value.isStrOf (nm c) e.key).map (·.val):=by
  unfold findBy;rw[List.find?_toArray]
 rcases en.look (c:=c) with ⟨a,e1,e2⟩ | ⟨e1,e2⟩
 · refine⟨.ref a,_,I2.tok _,?_,q q' hq' a (.inr e2)⟩;show(findBy Value.isStrOf es.toArray (nm c)).getD (.ref q')= .ref a;rw[fe,e1];rfl
 · refine⟨.ref q',_,I2.tok _,?_,q q' hq' q' (.inl ⟨rfl,e2⟩)⟩;show(findBy Value.isStrOf es.toArray (nm c)).getD (.ref q')= .ref q';rw[fe,e1];rfl
theorem Zd(i:Int)(ns:List Int):uL i ns=inV (.int i) (ns.map V.int):=by
 induction ns with
 | nil=>rfl
 | cons n ns ih=>
   show ifB (ieq n i) true (uL i ns)=(eqV (.int n) (.int i)||inV (.int i) (ns.map V.int));rw[ih,show eqV (.int n) (.int i)=(n==i) from rfl,G_];cases ieq n i <;> rfl
theorem R6(ns:List Int):(ns.map V.int).all lZ=true:=by
 induction ns with
 | nil=>rfl
 | cons n ns ih=>exact ih
theorem aec{K:ak}{tb:List (List Nat × List Int)}:Op2 cl (.tab tb) (fun x y H2 Q=>∃ c,y= .str (nm c)/\∀ p,H2 p=none->∀ a,(a=p/\tabOf tb c= []\/KTup K a (tabOf tb c))->rIn K true x (.ref a) (upd H2 p (.tup [])) Q):=fun E ρ h H w1 w2 v1 v2 Q s r1 r2 p=>by
 obtain⟨i,rfl,p1⟩:=oI (show Post cl ρ H E (ofW (abS tb h w1 w2)) (VP Q) from p);cases r1
 cases r2 with
 | str c=>
   refine⟨c,rfl,fun q hq a ha=>?_⟩;have p2:Post cl ρ H E (ofW (.yes (!uL i (tabOf tb c)) h)) (VP Q):=p1
   have fin:Q (.bl (!inV (.int i) ((tabOf tb c).map V.int))) (upd H q (.tup [])):=by
    rw[<- Zd];exact Post.yes (s.other hq) (p2.later (Bt.other hq)) rfl
   rcases ha with ⟨rfl,e⟩ | ha
   · rw[e]at fin;exact⟨a,[],rfl,.inr (SqT.of az),rfl,rfl,fin⟩
   · exact⟨a,_,rfl,.inr (ha _),rfl,R6 _,fin⟩
 | _=>exact p1.elim
theorem tab_of{K:ak}{tb:List (List Nat × List Int)}{a k:Ev.X}{Q:VK}(x:tE Pg cl E d (.pr (.tab tb) [a,k]) σ H Q):tOp (rIn K true) (tE Pg cl E d a) (O5 K tb (tE Pg cl E d k)) σ H Q:=uh aec x
theorem aco{x:Str}{da:Addr}{tb:List (List Nat × List Int)}{a k:Expr}{xa xk:Ev.X}{p apos cpos tpos pos:Pos}{x1:Nat}(T:O4 X.K X.w da tb)(hg:Gl X x)(hm:X.mg x=some (.ref da))(ha:PE X a (tE Pg cl E d xa))(hk:PE X (.Call (.Attribute (.Name x p) "get" apos) [k,.Tuple [] x1 tpos] [] cpos) (O5 X.K tb (tE Pg cl E d xk)))
 (hmk:behindInMarks .NotIn (.Call (.Attribute (.Name x p) "get" apos) [k,.Tuple [] x1 tpos] [] cpos)=false):PT X (.Compare a [.NotIn] [.Call (.Attribute (.Name x p) "get" apos) [k,.Tuple [] x1 tpos] [] cpos] pos) (tT Pg cl E d (.pr (.tab tb) [xa,xk])):=PT.of (mQ qQ ha hk hmk) fun _ _ _ q=>tab_of q
end
theorem qI:("word":Str)=nm o9:=by decide +kernel
def spS(K:ak):Sp:=fun vs H Q _=>∃ e C y,vs= [.ref e,y]/\H e=some (XO e C none)/\iD K C/\bM K C "word"/\∀ dx,H dx=none->dx ≠ e->Q .non (upd (upd H dx (.xd [("word",y)])) e (XO e C (some dx)))
section
variable{Pg:List Fn}{cl:Cn}{E:XK}{d:Nat}{X:Cx}{σ:L2.St}{H:Hp}
def xV(n:Nat):Sp:=fun vs H Q _=>∃(x y:V) (dx dy:PyData),vs= [x,y]/\Rep H x dx/\Rep H y dy/\dy.depth<n/\∀ H',bN H H'->Q (.bl (PySem.Spec.same dx dy)) H'
theorem Sim.same{ρ:List Addr}{h:Hs}{H':Hp}(s:Sim cl ρ h H)(e:bN H H'):Sim cl ρ h H'/\Bt cl ρ H ρ H':=by
 refine⟨⟨s.len,s.nd,fun n a q=>?_,fun on=>?_⟩,List.prefix_refl _,fun b u q nb=>⟨nb,fun _=>e b u q,u,e b u q⟩⟩
 · obtain⟨o,ho,x⟩:=s.obj n a q;obtain⟨u,hu⟩:=x.som;exact⟨o,ho,x.keep (List.prefix_refl _) ((e a u hu).trans hu.symm)⟩
 · obtain⟨ps,h1,h2,h3⟩:=s.tb on;refine⟨ps,e _ _ h1,h2,fun pos cv z=>?_⟩;obtain⟨c',e1,e2⟩:=h3 pos cv z;exact⟨c',e1,e _ _ e2⟩
theorem acp:OpN cl .same (fun vs H Q=>xV 13 vs H Q E0):=fun E ρ h H ws vs Q s r p=>by
 obtain⟨w,v,w',v',rfl,rfl,r1,r2,p1⟩:=X6 r (show Post cl ρ H E (ofW (jE ws (XR h))) (VP Q) from p);obtain⟨x,ex,p2⟩:=oR p1;obtain⟨y,ey,p3⟩:=oR p2;obtain⟨a1,a2,a3⟩:=um s 12 r1 ex;obtain⟨b1,b2,b3⟩:=um s 12 r2 ey;refine⟨v,v',pd x,pd y,rfl,a1,b1,by omega,fun H' e=>?_⟩;obtain⟨s',bt⟩:=s.same e;exact Post.yes s' (p3.later bt) (L_ x y).symm
theorem Ze{k:Nat}{fa:Addr}{fd:FuncData}{ps:List Str}{st:Stmt}{x:Str}{e:Expr}{es:List Expr}{y:Ev.X}{ys:List Ev.X}{p pos:Pos}(D:Df X.K X.mg x st ps fa fd)(F:aP X.prog X.w X.K X.mg X.base CX0 k fa fd ps (xV 13))(hr:aX k X.A)(hg:Gl X x)(ha:PA X (e::es) (tA Pg cl E d (y::ys)))(hdb:(x==("__debug__":Str))=false:=by decide)
 (he:starEach (e::es) X.env=(false,eval e X.env)::starEach es X.env:=by rfl) (hpl:(backTo pos (starEach es X.env)).any (·.1)=false:=by rfl):
 PE X (.Call (.Name x p) (e::es) [] pos) (tE Pg cl E d (.pr .same (y::ys))):=PE.of (qm D F hr hg ha hdb he hpl) fun σ H Q q=>by
 obtain⟨ρ,τ,h,n,s,rs,z⟩:=Cw acp q;exact⟨ρ,τ,h,n,s,rs,z.mono fun a h ρ H _ _ ⟨ws,e,g⟩=>⟨ws,e,fun vs rv=>by show xV 13 (vs ++ []) H Q E0;rw[List.append_nil];exact g vs rv⟩⟩
end
end Ev
namespace Ev
open PySem L2
section
variable{Pg:List Fn}{cl:Cn}{E:XK}{d:Nat}{X:Cx}{σ σ0:L2.St}{H:Hp}
def never:S:=.expr (.pr .neg [])
theorem acq{a:S}{as:List S}{D:Ends}(x:tSs Pg cl E d σ0 (a::as) D σ H):Nh (tS Pg cl E d σ0 a) (tSs Pg cl E d σ0 as) D σ H:=by
 obtain⟨ρ,τ,h,n,s,rs,ag,q⟩:=x.step;refine evS.then s rs ag (show Post cl ρ H E ((evs Pg n d (.s a) τ h).bind fun r h=>r.toF fun f=>Fl.rec (fun τ=>evs Pg n d (.ss as) τ h) (fun w=>.ok (.fl (.rt w)) h) (fun τ=>.ok (.fl (.bk τ)) h) (fun τ=>.ok (.fl (.ct τ)) h) f) (SPo σ0 D) from q) fun a1 h1 ρ1 H1 b1 s1 p1=>?_;obtain⟨f,rfl,p2⟩:=z8 p1;refine⟨f,rfl,?_⟩
 cases f with
 | nx τ1=>exact fun σ1 rs1 ag1=>⟨ρ1,τ1,h1,n,s1,rs1,ag1,p2⟩
 | rt w=>
   obtain⟨f,ef,qf⟩:=Post.now s1 (show Post cl ρ1 H1 E (.ok (.fl (.rt w)) h1) (SPo σ0 D) from p2)
   cases ef;exact qf
 | bk τ1=>
   obtain⟨f,ef,qf⟩:=Post.now s1 (show Post cl ρ1 H1 E (.ok (.fl (.bk τ1)) h1) (SPo σ0 D) from p2)
   cases ef;exact qf
 | ct τ1=>
   obtain⟨f,ef,qf⟩:=Post.now s1 (show Post cl ρ1 H1 E (.ok (.fl (.ct τ1)) h1) (SPo σ0 D) from p2);cases ef;exact qf
theorem nil_of{D:Ends}(x:tSs Pg cl E d σ0 [] D σ H):D.nx σ H:=by
 obtain⟨ρ,τ,h,n,s,rs,ag,q⟩:=x.step;obtain⟨f,ef,qf⟩:=Post.now s (show Post cl ρ H E (.ok (.fl (.nx τ)) h) (SPo σ0 D) from q);cases ef;exact qf σ rs ag
def tSx(Pg:List Fn)(cl:Cn)(E:XK)(d:Nat)(σ0:L2.St)(as:List S)(u:TS):TS:=fun D σ H=>tSs Pg cl E d σ0 as { D with nx:=u D } σ H
theorem WD{st:Stmt}{rest:List Stmt}{a:S}{as:List S}{u:TS}(h1:PS X st (tS Pg cl E d σ0 a))(h2:PSs X rest (tSx Pg cl E d σ0 as u)):PSs X (st::rest) (tSx Pg cl E d σ0 (a::as) u):=
 PSs.of (aR h1 h2) fun D σ H x=>acq (D:={ D with nx:=u D }) x
theorem Zf{rest:List Stmt}{u:TS}(h2:PSs X rest u):PSs X rest (tSx Pg cl E d σ0 [] u):=PSs.of h2 fun D σ H x=>nil_of (D:={ D with nx:=u D }) x
def tSt(Pg:List Fn)(cl:Cn)(E:XK)(d:Nat)(as:List S)(u:TS):TS:=fun D σ H=>tSx Pg cl E d σ as u D σ H
theorem acr{b:List Stmt}{a:List S}{u:TS}(h:∀ σ0,PSs X b (tSx Pg cl E d σ0 a u)):PSs X b (tSt Pg cl E d a u):=fun pins s σ H D I q=>h σ pins s σ H D I q
theorem RS.of{ρ:List Addr}:∀ {τ:Sg} {σ:L2.St},τ.length=σ.length->(∀ i w,bh τ i=some w->∃ v,σ[i]? =some (some v)/\RW ρ w v)->RS ρ τ σ
 | [],[],_,_=>.nil
 | [],_::_,e,_=>by simp at e
 | _::_,[],e,_=>by simp at e
 | o::τ,p::σ,e,h=>by
   refine .cons ?_ (RS.of (by simpa using e) fun i w q=>by simpa using h (i+1) w q)
   cases o with
   | none=>cases p <;> trivial
   | some w=>
     obtain⟨v,e1,r⟩:=h 0 w rfl;simp at e1;subst e1;exact r
theorem RS.len{ρ:List Addr}{τ:Sg}{σ:L2.St}(h:RS ρ τ σ):τ.length=σ.length:=Paired.length h
theorem Sim.none(t:Tb cl H):Sim cl [] (.mk 0 .lf) H:=⟨rfl,by simp,fun n a h=>by simp at h,t⟩
theorem Sim.adopt{ρ:List Addr}{h:Hs}{p:Addr}{o:O}(s:Sim cl ρ h H)(e:p ∉ ρ)(x:OA cl (ρ ++ [p]) H p o):Sim cl (ρ ++ [p]) (h.push o) H where
 len:=by rw[List.length_append,Hs.z7,s.len];rfl
 nd:=List.nodup_append.mpr ⟨s.nd,by simp,fun a ha b hb z=>by
  simp only[List.mem_singleton]at hb
  exact e (by rw[<- hb,<- z];exact ha)⟩
 obj:=fun n a hn=>by
  rw[Hs.uN]
  by_cases hlt:n<ρ.length
  · rw[List.getElem?_append_left hlt]at hn;obtain⟨o',q,y⟩:=s.obj n a hn;exact⟨o',by rw[if_neg (by rw[<- s.len];omega)];exact q,y.keep (List.prefix_append _ _) rfl⟩
  · have hn':n=ρ.length:=by
     have:=(aZ hn).1;rw[List.length_append]at this;simp at this;omega
    subst hn';rw[List.getElem?_append_right (aH _),Nat.sub_self]at hn;simp at hn;subst hn;exact⟨o,by rw[if_pos s.len],x⟩
 tb:=s.tb
theorem Mp{a:Addr}{u:HO}(t:Tb cl H)(e:H a=some u)(n:∀ ps,u ≠ .tbl ps):cl.on=true->a ≠ cl.P:=fun on z=>by
 obtain⟨ps,q,_⟩:=t on;rw[<- z,e]at q;exact n ps (Option.some.inj q)
def goes(r:R A)(f:Sg->Hs->Bool):Bool:=match r with
 | .ok (.fl (.nx τ)) h=>f τ h
 | _=>false
theorem Mq{r:R A}{f:Sg->Hs->Bool}(e:goes r f=true):∃ τ h,r= .ok (.fl (.nx τ)) h/\f τ h=true:=by
 unfold goes at e
 split at e
 · exact⟨_,_,rfl,e⟩
 · cases e
theorem stage{as:List S}{u:TS}{D:Ends}{ρ:List Addr}{τ τ':Sg}{h h':Hs}{n:Nat}(s:Sim cl ρ h H)(rs:RS ρ τ σ)(run:evs Pg n d (.ss as) τ h= .ok (.fl (.nx τ')) h')
 (k:∀ ρ' H' σ',Bt cl ρ H ρ' H'->Sim cl ρ' h' H'->RS ρ' τ' σ'->Ag σ τ' σ'->u D σ' H'):tSt Pg cl E d as u D σ H:=
 ⟨ρ,τ,h,n,s,rs,fun _ _=>rfl,by rw[run];exact fun ρ' H' b s'=>⟨_,rfl,fun σ' rs' ag=>k ρ' H' σ' b s' rs' ag⟩⟩
theorem Bt.kept{ρ ρ':List Addr}{H':Hp}{a:Addr}{u:HO}(b:Bt cl ρ H ρ' H')(t:Tb cl H)(n:∀ ps,u ≠ .tbl ps)(h:a ∉ ρ)(e:H a=some u):H' a=some u:=(b.2 a u e h).2.1 (Mp t e n)
theorem IW{α:Type}{xs:List α}{i:Nat}{x:α}(h:xs[i]? =some x):xs.set i x=xs:=by
 apply List.ext_getElem?;intro j;rw[List.getElem?_set]
 by_cases e:i=j
 · subst e;rw[if_pos rfl,h,if_pos (aZ h).1]
 · rw[if_neg e]
def Ac(K:ak)(T:Addr):Sp:=fun vs H Q _=>∃(a:Addr) (ns:List Int),vs= [.ref a]/\Ab T H/\SqL K H a (ns.map V.int)/\ns.length<=63/\∀ H',Q (.bl true) H'
theorem Zg{T:Addr}(h:Ab T H)(e:cl.P=T):Tb cl H:=fun _=>⟨#[],by rw[e];exact h.1,trivial,fun pos cv z=>by simp[codeAmong]at z⟩
theorem rw_ints(ρ:List Addr):∀ ns:List Int,RWs ρ (ns.map W.int) (ns.map V.int)
 | []=>.nil
 | n::ns=>.cons (.int n) (rw_ints ρ ns)
theorem acs{ρ:List Addr}{τ:Sg}{σ:L2.St}{i n:Nat}{a:Addr}(rs:RS ρ τ σ)(e:bh τ i=some (.ref n))(h:ρ[n]? =some a):σ[i]? =some (some (.ref a)):=by
 obtain⟨v,e1,r⟩:=rs.get e;have:=r.inj (.ref (ρ:=ρ) h);rw[e1,this]
theorem acu{ρ:List Addr}{τ:Sg}{σ:L2.St}{i:Nat}{w:W}(ρ':List Addr)(rs:RS ρ τ σ)(e:bh τ i=some w)(h:∀ n,w ≠ .ref n):∃ v,σ[i]? =some (some v)/\RW ρ' w v:=by
 obtain⟨v,e1,r⟩:=rs.get e;refine⟨v,e1,?_⟩
 cases r with
 | non=>exact .non
 | bl b=>exact .bl b
 | int i=>exact .int i
 | str c=>exact .str c
 | ref h'=>exact absurd rfl (h _)
theorem ao{x p}{es:List Expr}{a:Ev.X}{as:List Ev.X}(ha:PE X (.Name x p) (tE Pg cl E d a))(hr:PA X es (tA Pg cl E d as)):PA X (.Name x p::es) (tA Pg cl E d (a::as)):=ju ha hr rfl
theorem aN{x k p}{es:List Expr}{a:Ev.X}{as:List Ev.X}(ha:PE X (.Constant x k p) (tE Pg cl E d a))(hr:PA X es (tA Pg cl E d as)):PA X (.Constant x k p::es) (tA Pg cl E d (a::as)):=ju ha hr rfl
theorem oV{x k p}{es:List Expr}{a:Ev.X}{as:List Ev.X}(ha:PE X (.Tuple x k p) (tE Pg cl E d a))(hr:PA X es (tA Pg cl E d as)):PA X (.Tuple x k p::es) (tA Pg cl E d (a::as)):=ju ha hr rfl
theorem Zh{x p}{es:List Expr}{a:Ev.X}{as:List Ev.X}(ha:PE X (.List x p) (tE Pg cl E d a))(hr:PA X es (tA Pg cl E d as)):PA X (.List x p::es) (tA Pg cl E d (a::as)):=ju ha hr rfl
theorem g8{x o y p}{es:List Expr}{a:Ev.X}{as:List Ev.X}(ha:PE X (.BinOp x o y p) (tE Pg cl E d a))(hr:PA X es (tA Pg cl E d as)):PA X (.BinOp x o y p::es) (tA Pg cl E d (a::as)):=ju ha hr rfl
theorem oW{f x k p}{es:List Expr}{a:Ev.X}{as:List Ev.X}(ha:PE X (.Call f x k p) (tE Pg cl E d a))(hr:PA X es (tA Pg cl E d as)):PA X (.Call f x k p::es) (tA Pg cl E d (a::as)):=ju ha hr rfl
theorem qY{x i p}{es:List Expr}{a:Ev.X}{as:List Ev.X}(ha:PE X (.Subscript x i p) (tE Pg cl E d a))(hr:PA X es (tA Pg cl E d as)):PA X (.Subscript x i p::es) (tA Pg cl E d (a::as)):=ju ha hr rfl
theorem I9{x f p}{es:List Expr}{a:Ev.X}{as:List Ev.X}(ha:PE X (.Attribute x f p) (tE Pg cl E d a))(hr:PA X es (tA Pg cl E d as)):PA X (.Attribute x f p::es) (tA Pg cl E d (a::as)):=ju ha hr rfl
theorem Ad{o x p}{es:List Expr}{a:Ev.X}{as:List Ev.X}(ha:PE X (.UnaryOp o x p) (tE Pg cl E d a))(hr:PA X es (tA Pg cl E d as)):PA X (.UnaryOp o x p::es) (tA Pg cl E d (a::as)):=ju ha hr rfl
end
structure QE (X:Cx)(e:Expr)(t:TE):Prop where
 h:PE X e t
structure QA (X:Cx)(e:List Expr)(t:TA):Prop where
 h:PA X e t
structure QS (X:Cx)(e:Stmt)(t:TS):Prop where
 h:PS X e t
structure QSs (X:Cx)(e:List Stmt)(t:TS):Prop where
 h:PSs X e t
section
variable{Pg:List Fn}{cl:Cn}{E:XK}{d:Nat}{X:Cx}{σ0:L2.St}
theorem R7{es:List Expr}{xs:List Ev.X}{pos}(h:QA X es (tA Pg cl E d xs)):QE X (.List es pos) (tE Pg cl E d (.pr .lst xs)):=⟨pK h.h⟩
theorem R8:QA X [] (tA Pg cl E d []):=⟨aA⟩
theorem kJ{s:Str}(c:List Nat){n:Int}{j1 j2 x}{p1 p2 pos:Pos}{es:List Expr}{as:List Ev.X}(hr:QA X es (tA Pg cl E d as))(e:s= ⟨c.toArray⟩:=by decide +kernel):
 QA X (.Tuple [.Constant (.str s) j1 p1,.Constant (.int n) j2 p2] x pos::es) (tA Pg cl E d (.pr .tup [.cst (.str c),.cst (.int n)]::as)):=⟨oV (fO (aN (cu c e) (aN aL aA))) hr.h⟩
theorem aed{op:Operator}{p:Pr}{r:R2}{a b:Expr}{x y:Ev.X}{pos:Pos}(z:Op2 cl p r)(o:OpR X (binaryOp op) r)(ha:QE X a (tE Pg cl E d x))(hb:QE X b (tE Pg cl E d y)):QE X (.BinOp a op b pos) (tE Pg cl E d (.pr p [x,y])):=⟨aW z o ha.h hb.h⟩
theorem R9{i:Nat}{x:Str}{e:Expr}{y:Ev.X}{pos pos':Pos}(hN:X.N.Nodup)(hi:X.N[i]? =some x)(hx:Loc X.env.scope x)(he:QE X e (tE Pg cl E d y))(hs:swapsWith e (some (.Name x pos')) pos.line X.env=pure false:=by rfl)(hf:X.fn x=true\/X.env.scope.names.lookup x=some .local:=by first | exact .inl rfl | exact .inr rfl | assumption):
 QS X (.Assign [.Name x pos'] e pos) (tS Pg cl E d σ0 (.asg (.nm i) y)):=⟨RZ hN hi hx he.h hs hf⟩
theorem jY{st:Stmt}{rest:List Stmt}{a:S}{as:List S}{u:TS}(h1:QS X st (tS Pg cl E d σ0 a))(h2:QSs X rest (tSx Pg cl E d σ0 as u)):QSs X (st::rest) (tSx Pg cl E d σ0 (a::as) u):=⟨WD h1.h h2.h⟩
theorem uq{rest:List Stmt}{u:TS}(h2:QSs X rest u):QSs X rest (tSx Pg cl E d σ0 [] u):=⟨Zf h2.h⟩
theorem Mr:QSs X [] xM:=⟨iz⟩
theorem wI{b:List Stmt}{a:List S}{u:TS}(h:∀ σ0,QSs X b (tSx Pg cl E d σ0 a u)):QSs X b (tSt Pg cl E d a u):=⟨acr fun σ0=>(h σ0).h⟩
theorem WK{st:Stmt}{rest:List Stmt}{t u:TS}(h1:PS X st t)(h2:QSs X rest u):QSs X (st::rest) (Nh t u):=⟨aR h1 h2.h⟩
theorem acv{tg iter:Expr}{body:List Stmt}{wi:TI}{g:TG}{tb:TS}{pos:Pos}(hp:PassesOwn (model X.prog X.w) X.A X.env X.xe)(hc:X.calm=true)(hi:PI X tg iter wi)(hg:PG X tg g)(hb:QSs X body tb)
 (hs:∀ x,foldedSetIterable iter X.env x=pure x:=by intro _;rfl):PS X (.For tg iter body [] pos) (Hx wi g tb):=t6 hp hc hi hg hb.h hs
end
end Ev
namespace Ev
open PySem PyProof.Rows L2
def qZ(a:Addr)(n:Nat)(h:Heap):Prop:=∃(o:Obj) (es:Array (Int × Value)) (ep:Nat) (t:SetTable),h.get? a=some o/\o.ExactSet/\o.data= .set es ep t/\t.fits es.size=true/\es.size=n/\n<scanBound
theorem EY{a:Addr}{n:Nat}(h1 h2:Heap)(x:qZ a n h1)(k:∀ o,h1.get? a=some o->h2.get? a=some o):qZ a n h2:=by
 obtain⟨o,es,ep,t,e,r⟩:=x;exact⟨o,es,ep,t,k o e,r⟩
theorem E_:∀ {ns:List Int} {us:List Value},Vals (ns.map V.int) us->IntsAre us ns
 | [],[],_=>.nil
 | [],_::_,h=>by cases h
 | _::_,[],h=>by cases h
 | n::ns,u::us,h=>by
   cases h with
   | cons h1 h2=>
     obtain⟨t,rfl⟩:=h1;exact .cons n t (E_ h2)
def unlike(ns:List Int):Nat:=(firstMet (fun i=>ns.getD i 0) ns.length).length
section
variable{X:Cx}
theorem Fb:jb X (.builtin "len") (fun xs H Q=>∃ a n,xs= [.ref a]/\H a=some (.ext (qZ a n))/\Q (.int n) H):=by
 intro pins s σ H xs us Q I r h;obtain⟨a,n,rfl,he,q⟩:=h;obtain⟨u,rfl,rx⟩:=vals1 r;cases rx;obtain⟨⟨o,es,ep,t,ho,hex,hd,hf,rfl,hb⟩,_⟩:=I.hok a _ he;have h4:((es.size:Int)<2 ^ 63):=by unfold scanBound at hb;omega
 exact call_len_set ho hex hd hf h4 ⟨.int es.size,H,I.tok _,⟨s.toks+1,rfl⟩,q⟩
theorem R_(hh:X.A.handled=none):jb X (.type "set") (fun xs H Q=>∃ p ns,xs= [.ref p]/\SqL X.K H p (ns.map V.int)/\ns.length<=1000/\∀ l,H l=none->Q (.ref l) (upd H l (.ext (qZ l (unlike ns))))):=by
 intro pins s σ H xs us Q I r h;obtain⟨p,ns,rfl,hq,hn,q⟩:=h;obtain⟨u,rfl,rx⟩:=vals1 r;cases rx;obtain⟨its,r',pl,hz⟩:=I.list hq;have hlen:=r'.length;rw[List.length_map]at hlen;refine call_set_list (items:=its.toArray) (ns:=ns) hh pl.isList (by simpa using E_ r') (by simp;unfold scanBound;omega) fun h' tk hS kp=>?_;obtain⟨o,es,ep,t,e1,e2,e3,_,_,e4,e5,e6⟩:=hS;have e7:es.size=unlike ns:=by rw[e6];unfold unlike;rw[List.size_toArray,<- hlen]
 exact⟨.ref s.heap.objs.size,_,I.laid (t':=tk) (fun b o e=>kp b o (Heap.lt_size e) e) (aH _) (show bA X.prog X.w _ h' _ (.ext (qZ s.heap.objs.size (unlike ns))) from ⟨⟨o,es,ep,t,e1,e2,e3,e5,e7,by rw[<- e7];exact e4⟩,⟨o,e1⟩,fun h1 h2=>EY h1 h2⟩),rfl,q _ (I.hok.fresh (aH _))⟩
variable{Pg:List Fn}{cl:Cn}{E:XK}{d:Nat}
theorem I_{ρ:List Addr}:∀ {xs:List W} {vs:List V} {ns:List Int},RWs ρ xs vs->xT xs=some ns->vs=ns.map V.int
 | [],_,_,.nil,e=>by cases e;rfl
 | x::xs,_,ns,.cons r rs,e=>by
   have e:W.elim x none (fun _=>none) (fun i=>Option.rec none (fun r=>some (i::r)) (xT xs)) (fun _=>none) (fun _=>none)=some ns:=e
   cases r with
   | int i=>
     cases z:xT xs with
     | none=>rw[z]at e;cases e
     | some r=>rw[z]at e;cases e;rw[I_ rs z];rfl
   | non=>cases e
   | bl b=>cases e
   | str c=>cases e
   | ref h=>cases e
theorem Ja(x:Int):∀ acc:List Int,uL x acc=acc.any (· == x)
 | []=>rfl
 | y::acc=>by
   show ifB (ieq y x) true (uL x acc)=((y==x)||acc.any (· == x));rw[jW,Ja x acc]
   by_cases z:y=x
   · subst z;simp[ifB]
   · have:(y==x)=false:=by simpa using z
     rw[decide_eq_false z,this];rfl
theorem Yc:∀(l acc:List Int),dd l acc=l.foldl step_dedup acc
 | [],_=>rfl
 | x::l,acc=>by
   show dd l (ifB (uL x acc) acc (app acc [x]))=l.foldl step_dedup (step_dedup acc x);rw[Yc l,Ja,qW];unfold step_dedup;cases acc.any (· == x) <;> rfl
theorem Sd(ns:List Int):unlike ns=(dd ns []).length:=by
 unfold unlike firstMet;rw[Yc]
 have:(List.range ns.length).map (fun i=>ns.getD i 0)=ns:=by
  apply List.ext_getElem?;intro i
  by_cases h:i<ns.length
  · simp[h]
  · simp[h]
 rw[this]
theorem WL{K:ak}:Op1 cl .H_ (fun x H Q=>∃ p ns,x= .ref p/\SqL K H p (ns.map V.int)/\ns.length<=1000/\∀ l,H l=none->Q (.int (unlike ns)) (upd H l (.ext (qZ l (unlike ns))))):=fun E ρ h H w1 v1 Q s r1 p=>by
 have p:Post cl ρ H E (ofW (pLs h w1)) (VP Q):=p;obtain⟨n,o,a,rfl,rfl,e1,g1,x1,p⟩:=oAt s r1 p;obtain⟨xs,rfl,p⟩:=oL p;obtain⟨hl,p⟩:=oIf p;obtain⟨ns,hn,p⟩:=oR p;obtain⟨us,ru,q⟩:=x1;have hlen:=ru.length;rw[I_ ru hn]at q hlen;rw[List.length_map]at hlen;have hl':xs.length<=1000:=by rw[len_eq]at hl;exact Nat.le_of_ble_eq_true hl
 refine⟨a,ns,rfl,SqL.of q,by omega,fun l hl=>?_⟩;have z:=Post.eV (s.other (u:=.ext (qZ l (unlike ns))) hl) (p.later (Bt.other hl)) (.int _);rw[len_eq,<- Sd]at z;exact z
theorem Sh{a:Expr}{x:Ev.X}{p q pos1 pos:Pos}(hh:X.A.handled=none)(hg:Gl X "len")(hm:X.mg "len" =none)(hg2:Gl X "set")(hm2:X.mg "set" =none)(ha:PE X a (tE Pg cl E d x))
 (he:starEach [a] X.env=(false,eval a X.env)::starEach [] X.env:=by rfl):
 PE X (.Call (.Name "len" p) [.Call (.Name "set" q) [a] [] pos1] [] pos) (tE Pg cl E d (.pr .H_ [x])):=by
 refine PE.of (bu Fb hg hm boot_len (aq (pG (R_ hh) hg2 hm2 rfl (aq ha aD he) (by decide) (by decide) he rfl) aD rfl) (by decide) (by decide) rfl rfl) fun σ H Q z=>?_;obtain⟨ρ,τ,h,n,s,rs,p⟩:=pJ (WL (K:=X.K)) z;refine⟨ρ,τ,h,n,s,rs,p.mono fun a h ρ H _ _ ⟨w,e,g⟩=>⟨w,e,fun v rv=>?_⟩⟩;obtain⟨p',ns,rfl,q1,q2,q3⟩:=g v rv;exact⟨p',ns,rfl,q1,q2,fun l hl=>⟨l,_,rfl,az,q3 l hl⟩⟩
end
def Ae(r:Addr)(lo hi:Int)(h:Heap):Prop:=∃ t u v,IsRange h r lo hi 1 t u v
def wJ(n:Nat)(lo:Int):List V:=(List.range n).map fun(k:Nat)=>V.int (lo+k)
theorem O6{n:Nat}(h:n<=3000):n<sizeLine:=Nat.lt_of_le_of_lt h (by decide)
theorem Ms:∀ {xs:List V} {us:List Value},xs.length=us.length->(∀(i:Nat) (x:V) (u:Value),xs[i]? =some x->us[i]? =some u->RelV x u)->Vals xs us
 | [],[],_,_=>.nil
 | [],_::_,e,_=>by simp at e
 | _::_,[],e,_=>by simp at e
 | x::xs,u::us,e,h=>.cons (h 0 x u rfl rfl) (Ms (by simpa using e) fun i x u a b=>h (i+1) x u (by simpa using a) (by simpa using b))
section
variable{X:Cx}
theorem O7:jb X (.type "range") (fun xs H Q=>∃ i j,xs= [.int i,.int j]/\∀ l,H l=none->Q (.ref l) (upd H l (.ext (Ae l i j)))):=by
 intro pins s σ H xs us Q I r h;obtain⟨i,j,rfl,q⟩:=h;obtain⟨u1,u2,rfl,⟨t,rfl⟩,⟨t',rfl⟩⟩:=vals2 r;refine call_range_2 ?_;exact⟨.ref s.heap.objs.size,_,I.laid (t':=_) (fun b o e=>Heap.get?_push_of_some _ e) (aH _) (show bA X.prog X.w _ _ _ (.ext (Ae s.heap.objs.size i j)) from ⟨⟨_,_,_,IsRange.new ..⟩,⟨_,IsRange.new ..⟩,fun h1 h2 ⟨t,u,v,e⟩ k=>⟨t,u,v,k _ e⟩⟩),rfl,q _ (I.hok.fresh (aH _))⟩
theorem O8(hh:X.A.handled=none):jb X (.type "list") (fun xs H Q=>∃ p lo hi,xs= [.ref p]/\H p=some (.ext (Ae p lo hi))/\-1000<lo/\lo<1000/\-1000<hi/\hi<1000/\∀ l,H l=none->Q (.ref l) (upd H l (.lst (wJ (hi - lo).toNat lo)))):=by
 intro pins s σ H xs us Q I r h;obtain⟨p,lo,hi,rfl,he,h1,h2,h3,h4,q⟩:=h;obtain⟨u,rfl,rx⟩:=vals1 r;cases rx;obtain⟨⟨t,u,v,hr⟩,_⟩:=I.hok p _ he;refine call_list_range (n:=(hi - lo).toNat) hh hr (small_one (by omega) (by omega) (by omega) (by omega)) (by rw[rangeSize_one];split <;> omega) (by omega) fun h' tk acc c kp e it=>?_;refine⟨.ref s.heap.objs.size,_,I.laid (t':=tk) (fun b o e=>kp b o e) (aH _) (show bA X.prog X.w _ h' _ (.lst (wJ (hi - lo).toNat lo)) from ?_),rfl,q _ (I.hok.fresh (aH _))⟩;have hlen:(wJ (hi - lo).toNat lo).length=acc.toList.length:=by have:=it.1;simp[wJ];omega
 refine⟨?_,acc.toList,c,Ms hlen fun i x u a b=>?_,by simpa using e⟩
 · refine Nat.le_of_lt (O6 ?_);simp[wJ];omega
 · rw[Array.getElem?_toList]at b;obtain⟨t,rfl⟩:=it.2 i u b
   have hi:i<(hi - lo).toNat:=by
    have:=(Array.getElem?_eq_some_iff.mp b).1;rw[it.1]at this;exact this
   simp[wJ,hi]at a;subst a;exact⟨t,by simp⟩
variable{Pg:List Fn}{cl:Cn}{E:XK}{d:Nat}
end
end Ev
namespace Ev
open PySem PySem.Spec PySem.SeqAt PyProof.Rows L2
section
variable{Pg:List Fn}{cl:Cn}{E:XK}{d:Nat}{X:Cx}{σ σ0:L2.St}{H:Hp}
def lF(r:R A):Bool:=match r with
 | .ok (.fl (.rt (.bl b))) _=>b
 | _=>false
theorem Zi{r:R A}(e:lF r=true):∃ h,r= .ok (.fl (.rt (.bl true))) h:=by
 unfold lF at e
 split at e
 · subst e;exact⟨_,rfl⟩
 · cases e
theorem acw{as:List S}{u:TS}{D:Ends}{ρ:List Addr}{τ:Sg}{h h':Hs}{n:Nat}(s:Sim cl ρ h H)(rs:RS ρ τ σ)(run:evs Pg n d (.ss as) τ h= .ok (.fl (.rt (.bl true))) h')(k:∀ H',D.rt (.bl true) H'):tSt Pg cl E d as u D σ H:=
 ⟨ρ,τ,h,n,s,rs,fun _ _=>rfl,by rw[run];exact fun ρ' H' b s'=>⟨_,rfl,fun v rv=>by cases rv;exact k H'⟩⟩
def frm(n:Nat)(kv:List (Nat × W)):Sg:=kv.foldr (fun p τ=>setAt τ (some p.2) p.1) (List.replicate n none)
theorem Mt{n:Nat}:∀ {kv:List (Nat × W)},(frm n kv).length=n
 | []=>List.length_replicate
 | p::kv=>by
   show(setAt (frm n kv) (some p.2) p.1).length=n;rw[oN,List.length_set];exact Mt
theorem Mu{n i:Nat}{w:W}:∀ {kv:List (Nat × W)},bh (frm n kv) i=some w->∃ p ∈ kv,p=(i,w)
 | [],e=>by
   exfalso;rw[oO]at e;rw[show frm n [] =List.replicate n none from rfl,List.getElem?_replicate]at e
   split at e <;> cases e
 | p::kv,e=>by
   have e':bh (setAt (frm n kv) (some p.2) p.1) i=some w:=e
   by_cases z:p.1=i
   · refine⟨p,by simp,?_⟩;rw[oN,oO,z,List.getElem?_set]at e';rw[if_pos rfl]at e'
     split at e'
     · have:p.2=w:=by simpa using e'
       rw[<- z,<- this]
     · cases e'
   · rw[oN,oO,List.getElem?_set_ne z,<- oO]at e';obtain⟨q,hq,e2⟩:=Mu e';exact⟨q,List.mem_cons_of_mem _ hq,e2⟩
theorem Jb{n:Nat}{kv:List (Nat × W)}{ρ:List Addr}(hn:σ.length=n)(hk:∀ i w,(i,w) ∈ kv->∃ v,σ[i]? =some (some v)/\RW ρ w v):RS ρ (frm n kv) σ:=RS.of (by rw[Mt,hn]) fun i w e=>by
 obtain⟨p,hp,rfl⟩:=Mu e;exact hk i w hp
theorem acy{n i:Nat}{r:Addr}(hn:σ.length=n)(hr:σ[i]? =some (some (.ref r))):RS [r] (frm n [(i,.ref 0)]) σ:=Jb hn fun j w e=>by
 have e:(j,w)=(i,.ref 0):=by simpa using e
 cases e;exact⟨_,hr,.ref rfl⟩
theorem Zj{r:Addr}{ns:List Int}(t:Tb cl H)(h:H r=some (.lst (ns.map V.int))):Sim cl [r] ((Hs.mk 0 .lf).push (.lst (ns.map W.int))) H:=(Sim.none t).adopt (o:=.lst (ns.map W.int)) (by simp) ⟨_,rw_ints _ ns,h⟩
end
section
variable{P:Program}{w:World}{K:ak}{mg:Str->Option Value}{base:Heap}
theorem Sq{i:Int}(h1: -(2 ^ 20)<i)(h2:i<2 ^ 20):L2.Sml i:=by
 unfold L2.Sml;exact cR (show i.natAbs<2 ^ 20 by omega) (Nat.pow_le_pow_right (by decide) (by decide))
def below(n:Nat):List Int:=(List.range n).map Int.ofNat
theorem Ss{r:Int}{n:Nat}(h:0<=r/\r<(n:Int)):r ∈ below n:=List.mem_map.mpr ⟨r.toNat,List.mem_range.mpr (by omega),by show((r.toNat:Nat):Int)=r;omega⟩
def rowsOf:List Nat->List (List Int)
 | []=>[[]]
 | n::ns=>(below n).flatMap fun r=>(rowsOf ns).map fun l=>r::l
theorem Jc:∀ {ns:List Int} {ls:List Nat},L2.Drawn ns (ls.map Int.ofNat)->ns ∈ rowsOf ls
 | _,[],.nil=>by simp[rowsOf]
 | _,n::ls,.cons h t=>List.mem_flatMap.mpr ⟨_,Ss h,List.mem_map.mpr ⟨_,Jc t,rfl⟩⟩
end
section
variable{Pg:List Fn}{cl:Cn}{E:XK}{d:Nat}{X:Cx}{σ σ0:L2.St}{H:Hp}
def nM(row:List Int):Hs:=(Hs.mk 0 .lf).push (.lst (row.map W.int))
def ends(n:Nat)(r:R A):Bool:=goes r fun τ _=>Nat.beq τ.length n&&(bh τ 0).isNone
def ok0(n i:Nat)(kv:List (Nat × W))(row:List Int)(τ:Sg)(h:Hs):Bool:=Nat.beq τ.length n&&(bh τ 0).isNone&&decide (bh τ i=some (.ref 0))&&kv.all (fun p=>decide (bh τ p.1=some p.2))&&decide (h.get 0=some (.lst (row.map W.int)))
def again(Pg:List Fn)(m d i:Nat)(tl:List S)(row:List Int)(τ:Sg)(h:Hs):R A:=evs Pg m d (.ss tl) (setAt τ (some (.ref h.n)) i) (h.push (.lst (row.map W.int)))
end
section
variable{Pg:List Fn}{cl:Cn}{E:XK}{d:Nat}{X:Cx}{σ σ0:L2.St}{H:Hp}
def post(i:Nat)(r:R A):Option (Nat × Option W × Option O):=R.rec (fun a h=>A.rec (fun _=>none) (fun _=>none) (fun _=>none) (fun f=>Fl.rec (fun τ=>some (len τ,bh τ i,h.get 0)) (fun _=>none) (fun _=>none) (fun _=>none) f) none a) (fun _ _ _=>none) none r
end
section
variable{ρ:List Addr}
abbrev KR(ρ:List Addr):List (W × W)->List (Key × V)->Prop:=Paired fun p q=>KW p.1 q.1/\RW ρ p.2 q.2
theorem O9{b:W}{v:V}(h:wC b=true)(r:RW ρ b v):∃ k,KW b k/\v=kV k:=by
 cases r with
 | int i=>exact⟨.inl i,.int i,rfl⟩
 | str c=>exact⟨.inr _,.str c,rfl⟩
 | _=>cases h
theorem Jd{a b:W}{k l:Key}(ha:KW a k)(hb:KW b l):keq a b=decide (k=l):=by
 cases ha with
 | int i=>cases hb with
   | int j=>
     show ieq i j=_;rw[jW]
     by_cases z:i=j
     · rw[decide_eq_true z,z];simp
     · rw[decide_eq_false z,decide_eq_false (fun q=>z (Sum.inl.inj q))]
   | str c=>show false=_;simp
 | str x=>cases hb with
   | int j=>show false=_;simp
   | str y=>
     show codes x y=_
     cases c:codes x y with
     | true=>rw[bQ.mp c];simp
     | false=>
       refine(decide_eq_false fun q=>?_).symm;have e:=pI (show nm x=nm y from Sum.inr.inj q);rw[bQ.mpr e]at c;cases c
theorem yW{b:W}{k:Key}(hb:KW b k):∀ {kvs:List (W × W)} {gs:List (Key × V)},KR ρ kvs gs->(∀ w,qp kvs b=some w->∃ v,nD gs k=some v/\RW ρ w v)/\isS (qp kvs b)=(nD gs k).isSome
 | _,_,.nil=>⟨fun w e=>(by have e:(none:Option W)=some w:=e;cases e),rfl⟩
 | p::kvs,q::gs,.cons r t=>by
   obtain⟨ih1,ih2⟩:=yW hb t;have e:qp (p::kvs) b=ifB (keq p.1 b) (some p.2) (qp kvs b):=rfl;rw[e,Jd r.1 hb]
   by_cases z:q.1=k
   · rw[decide_eq_true z,uF z];exact⟨fun w h=>(by have h:some p.2=some w:=h;cases h;exact⟨_,rfl,r.2⟩),rfl⟩
   · rw[decide_eq_false z,uG z];exact⟨ih1,ih2⟩
theorem Je{b w:W}{k:Key}{v:V}(hb:KW b k)(rw':RW ρ w v):∀ {kvs:List (W × W)} {gs:List (Key × V)},KR ρ kvs gs->KR ρ (G5 kvs b w) (gs.map fun kv=>if kv.1=k then(kv.1,v) else kv)
 | _,_,.nil=>.nil
 | p::kvs,q::gs,.cons r t=>by
   have e:G5 (p::kvs) b w=ifB (keq p.1 b) (p.1,w) p::G5 kvs b w:=rfl;rw[e,Jd r.1 hb,List.map_cons];refine .cons ?_ (Je hb rw' t)
   by_cases z:q.1=k
   · rw[decide_eq_true z,if_pos z];exact⟨r.1,rw'⟩
   · rw[decide_eq_false z,if_neg z];exact r
theorem KR.snoc{p:W × W}{q:Key × V}(r:KW p.1 q.1/\RW ρ p.2 q.2):∀ {kvs:List (W × W)} {gs:List (Key × V)},KR ρ kvs gs->KR ρ (kvs ++ [p]) (gs ++ [q])
 | _,_,.nil=>.cons r .nil
 | _,_,.cons h t=>.cons h (KR.snoc r t)
theorem WM{b w:W}{k:Key}{v:V}(hb:KW b k)(rw':RW ρ w v){kvs:List (W × W)}{gs:List (Key × V)}(h:KR ρ kvs gs):KR ρ (G6 kvs b w) (putK gs k v):=by
 unfold G6 putK;rw[(yW hb h).2,yK]
 cases (nD gs k).isSome with
 | true=>rw[if_pos rfl];exact Je hb rw' h
 | false=>rw[if_neg (by simp),qW];exact KR.snoc ⟨hb,rw'⟩ h
theorem acz{cl:Cn}{E:XK}{H:Hp}{β:Type}{o:O}{f:List (W × W)->R β}{P:β->Hs->List Addr->Hp->Prop}(p:Post cl ρ H E (o.onD f) P):∃ xs,o= .dk xs/\Post cl ρ H E (f xs) P:=by
 cases o with
 | dk xs=>exact⟨xs,rfl,p⟩
 | _=>exact p.elim
end
section
variable{Pg:List Fn}{cl:Cn}{E:XK}{d:Nat}{X:Cx}{σ σ0:L2.St}{H:Hp}
def rDG:R2:=fun x y H Q=>∃ a v,x= .ref a/\Cp H a y (some v)/\Q v H
theorem Zk(hu:X.A.units+1<cLine):IxR X rDG:=by
 intro value slice pins s σ H x y v u Q I rx ry h hs;obtain⟨a,w,rfl,g,q⟩:=h;cases rx;exact tail_any (KN I g) PySem.F.slot_dict_getitem.lookup (Ro hu I g ry fun w' s3 I3 rw'=>⟨w,H,I3,rw',q⟩) hs
theorem acA:Op2 cl .Om rDG:=fun E ρ h H w1 w2 v1 v2 Q s r1 r2 p=>by
 obtain⟨n,o,a,rfl,rfl,e1,g1,x1,p⟩:=oAt s r1 (show Post cl ρ H E (ofW (XX h w1 w2)) (VP Q) from p)
 cases o with
 | dk kvs=>
   obtain⟨gs,kr,hH⟩:=x1;have p:Post cl ρ H E (ofW (ifB (wC w2) (Opt (qp kvs w2) fun w=>.ok w h) .no)) (VP Q):=p
   cases c:wC w2 with
   | false=>rw[c]at p;exact p.elim
   | true=>
     rw[c]at p;obtain⟨k,kw,rfl⟩:=O9 c r2;obtain⟨f,_⟩:=yW kw kr;have p:Post cl ρ H E (ofW (Opt (qp kvs w2) fun w=>.ok w h)) (VP Q):=p
     cases e:qp kvs w2 with
     | none=>rw[e]at p;exact p.elim
     | some w=>
       rw[e]at p;obtain⟨v,ev,rv⟩:=f w e
       exact⟨a,v,rfl,ev ▸ Cp.k hH,Post.eV s p rv⟩
 | _=>exact p.elim
theorem Mv{a b:Expr}{x y:Ev.X}{pos:Pos}(hu:X.A.units+1<cLine)(ha:PE X a (tE Pg cl E d x))(hb:PE X b (tE Pg cl E d y))(hs:Cj b:=by exact fun _ _=>rfl):PE X (.Subscript a b pos) (tE Pg cl E d (.pr .Om [x,y])):=
 PE.of (uE (Zk hu) ha hb hs) fun _ _ _ q=>uh acA q
theorem Zm{pos:Pos}:PE X (.Dict [] [] pos) (tE Pg cl E d (.pr .abT [])):=PE.of Wb fun σ H Q x=>by
 obtain⟨ρ,τ,h,n,s,rs,q⟩:=x.step;intro p hp;have q:Post cl ρ H E (ofW (.alloc h (.dk []))) (VP Q):=q;exact q.new s hp ⟨[],.nil,az⟩
theorem Zn{o k v:Ev.X}{D:Ends}(x:tS Pg cl E d σ0 (.dput o k v) D σ H):XF (tE Pg cl E d o) (tE Pg cl E d k) (tE Pg cl E d v) D σ H:=by
 obtain⟨ρ,τ,h,n,s,rs,ag,q⟩:=x.step;refine ev.then s rs (show Post cl ρ H E ((evs Pg n d (.x v) τ h).bind fun r h=>r.toW fun w=>(evs Pg n d (.x o) τ h).bind fun r h=>r.toW fun a=>(evs Pg n d (.x k) τ h).bind fun r h=>r.toW fun b=>h.at a fun n o=>o.onD fun kvs=>ifB (wC b) (ifB (Nat.ble (len kvs) 1000000) (.ok (.fl (.nx τ)) (h.set n (.dk (G6 kvs b w)))) .no) .no) (SPo σ0 D) from q) fun a1 h1 ρ1 H1 b1 s1 p1=>?_;obtain⟨w,rfl,p2⟩:=bK p1;refine⟨w,rfl,fun wv rwv=>?_⟩;refine ev.then s1 (rs.mono b1.1) p2 fun a2 h2 ρ2 H2 b2 s2 p3=>?_;obtain⟨a,rfl,p4⟩:=bK p3;refine⟨a,rfl,fun av rav=>?_⟩;refine ev.then s2 (rs.mono (b1.1.trans b2.1)) p4 fun a3 h3 ρ3 H3 b3 s3 p5=>?_;obtain⟨b,rfl,p6⟩:=bK p5;refine⟨b,rfl,fun bv rbv=>?_⟩;obtain⟨m,ob,ad,rfl,rfl,e1,g1,x1,p7⟩:=at_of s3 (rav.mono b3.1) p6;obtain⟨kvs,rfl,p8⟩:=acz p7;obtain⟨ck,p9⟩:=jX p8;obtain⟨cl1,p10⟩:=jX p9;obtain⟨gs,kr,hH⟩:=x1;obtain⟨key,kw,rfl⟩:=O9 ck rbv;have hl:kvs.length=gs.length:=Paired.length kr
 have hlt:gs.length<sizeLine:=by
  rw[ble_eq,len_eq]at cl1;have:=of_decide_eq_true cl1;rw[mU];omega
 have kr2:=WM kw ((rwv.mono b2.1).mono b3.1) kr;refine⟨ad,_,rfl,HQ.k hH hlt,?_⟩;obtain⟨f,ef,qf⟩:=p10 ρ3 (upd H3 ad (.dK (putK gs key wv))) (Bt.put e1) (s3.put e1 ⟨_,kr2,az⟩);cases ef;exact qf σ (rs.mono (b1.1.trans (b2.1.trans b3.1))) ag
theorem Mw{o i value:Expr}{xo xi xv:Ev.X}{pos pos':Pos}(hu:X.A.units+1<cLine)(ho:PE X o (tE Pg cl E d xo))(hi:PE X i (tE Pg cl E d xi))(hv:PE X value (tE Pg cl E d xv))(hs:swapsWith value (some (.Subscript o i pos')) pos.line X.env=pure false:=by rfl):
 PS X (.Assign [.Subscript o i pos'] value pos) (tS Pg cl E d σ0 (.dput xo xi xv)):=PS.of (Yz hu ho hi hv hs) fun _ _ _ q=>Zn q
end
end Ev
namespace L2
theorem aX.u1{k:Nat}{A:PySem.Around}(r:aX k A):A.units+1<PySem.cLine:=by have:=r.un;omega
end L2
namespace Ev
open PySem PySem.Spec PySem.SeqAt PyProof.Rows L2
section
variable{Pg:List Fn}{cl:Cn}{E:XK}{d:Nat}{X:Cx}{σ0:L2.St}
theorem Zo:QSs X [] (tSs Pg cl E d σ0 []):=⟨au⟩
theorem yX{st:Stmt}{rest:List Stmt}{a:S}{as:List S}(h1:QS X st (tS Pg cl E d σ0 a))(h2:QSs X rest (tSs Pg cl E d σ0 as)):QSs X (st::rest) (tSs Pg cl E d σ0 (a::as)):=⟨aj h1.h h2.h⟩
theorem acB{P:Program}{w:World}{K:ak}{mg:Str->Option Value}{base:Heap}{k i:Nat}{x qual:Str}{st:Stmt}{f:Addr}{fd:FuncData}{N ps:List Str}{b:List S}(F:Fun K x qual st f fd)(Sc:aC N ps (aa st))(hp:Pg[i]? =some (.mk ps.length N.length b))
 (hbody:∀(σ0:L2.St) (cdv:Value) (A:Around) (outer:List Env) (s:Shared) (H:Hp) (E:XK),aX k (A.deeper (envOfC qual (aa st) s.heap.objs.size f cdv))->Passes (CXE P w) (iB (CXE P w) P w K mg base N qual (aa st) f cdv A outer s H E) E->
   QSs (iB (CXE P w) P w K mg base N qual (aa st) f cdv A outer s H E) (bG st) (tSs Pg cl E d σ0 b)):aP P w K mg base (CXE P w) (k+1) f fd ps (spF Pg cl (d+1) i):=
 cj F Sc hp fun σ0 cdv A outer s H E hr hq=>(hbody σ0 cdv A outer s H E hr hq).h
end
section
def heapOf(os:List O):Hs:=os.foldl (fun h o=>h.push o) (.mk 0 .lf)
def wm(m:List Nat)(a c:W):Bool:=W.elim c (W.elim a true (fun _=>false) (fun _=>false) (fun _=>false) (fun _=>false)) (fun x=>W.elim a false (fun y=>Bool.rec (Bool.rec true false y) y x) (fun _=>false) (fun _=>false) (fun _=>false))
 (fun i=>W.elim a false (fun _=>false) (fun j=>ieq j i) (fun _=>false) (fun _=>false)) (fun x=>W.elim a false (fun _=>false) (fun _=>false) (fun y=>codes y x) (fun _=>false))
 (fun k=>W.elim a false (fun _=>false) (fun _=>false) (fun _=>false) (fun n=>Option.rec false (fun j=>Nat.beq j n) (nth m k)))
def wms(m:List Nat)(xs:List W):List W->Bool:=List.rec (fun ys=>List.rec true (fun _ _ _=>false) ys) (fun x _ ih ys=>List.rec false (fun y r _=>ifB (wm m x y) (ih r) false) ys) xs
def fms(m:List Nat)(xs:Fs):Fs->Bool:=List.rec (fun ys=>List.rec true (fun _ _ _=>false) ys) (fun x _ ih ys=>List.rec false (fun y r _=>ifB (codes x.1 y.1) (ifB (wm m x.2 y.2) (ih r) false) false) ys) xs
def dms(m:List Nat)(xs:List (W × W)):List (W × W)->Bool:=List.rec (fun ys=>List.rec true (fun _ _ _=>false) ys) (fun x _ ih ys=>List.rec false (fun y r _=>ifB (keq x.1 y.1) (ifB (wm m x.2 y.2) (ih r) false) false) ys) xs
def om(m:List Nat)(o c:O):Bool:=O.rec (fun ys=>O.rec (fun xs=>wms m xs ys) (fun _=>false) (fun _ _=>false) (fun _=>false) (fun _=>false) (fun _=>false) o) (fun ys=>O.rec (fun _=>false) (fun xs=>wms m xs ys) (fun _ _=>false) (fun _=>false) (fun _=>false) (fun _=>false) o)
 (fun C gs=>O.rec (fun _=>false) (fun _=>false) (fun C' fs=>ifB (Nat.beq C' C) (fms m fs gs) false) (fun _=>false) (fun _=>false) (fun _=>false) o) (fun ys=>O.rec (fun _=>false) (fun _=>false) (fun _ _=>false) (fun xs=>dms m xs ys) (fun _=>false) (fun _=>false) o) (fun _=>false) (fun _=>false) c
def oms(m:List Nat)(h:Hs)(os:List O):List Nat->Bool:=List.rec (fun ns=>List.rec true (fun _ _ _=>false) ns) (fun c _ ih ns=>List.rec false (fun n r _=>ifB (Nat.ble (n+1) h.n) (ifB (Option.rec false (fun o=>om m o c) (h.get n)) (ih r) false) false) ns) os
def uM(n:Nat)(ns:List Nat):Bool:=List.rec true (fun x _ r=>ifB (Nat.beq x n) false r) ns
def wK(ns:List Nat):Bool:=List.rec true (fun x t r=>ifB (uM x t) r false) ns
def Yd(o:O):List W:=O.rec (fun xs=>xs) (fun xs=>xs) (fun _ fs=>List.rec [] (fun p _ r=>p.2::r) fs) (fun kvs=>List.rec [] (fun p _ r=>p.2::r) kvs) (fun _=>[]) (fun _=>[]) o
def ae9(xs:List W):List W->List (W × W):=List.rec (fun _=>[]) (fun x _ ih ys=>List.rec [] (fun y r _=>(x,y)::ih r) ys) xs
def setM(m:List (Option Nat))(n:Nat):Nat->List (Option Nat):=List.rec (fun _=>[]) (fun x r ih k=>Nat.rec (some n::r) (fun k _=>x::ih k) k) m
def grow(h:Hs)(os:List O)(f:Nat):List (W × W)->List (Option Nat)->List (Option Nat):=Nat.rec (fun _ m=>m) (fun _ ih todo m=>List.rec m (fun p rest _=>
 W.elim p.2 (ih rest m) (fun _=>ih rest m) (fun _=>ih rest m) (fun _=>ih rest m) fun k=>W.elim p.1 (ih rest m) (fun _=>ih rest m) (fun _=>ih rest m) (fun _=>ih rest m) fun n=>
  Option.rec m (fun x=>Option.rec (Option.rec m (fun c=>Option.rec m (fun o=>ih (app (ae9 (Yd o) (Yd c)) rest) (setM m n k)) (h.get n)) (nth os k)) (fun _=>ih rest m) x) (nth m k)) todo) f
def WN(m:List (Option Nat)):Option (List Nat):=List.rec (some []) (fun x _ r=>Option.rec none (fun n=>Option.rec none (fun l=>some (n::l)) r) x) m
def roots(τ:Sg)(kv:List (Nat × W)):List (W × W):=List.rec [] (fun p _ r=>Option.rec r (fun a=>(a,p.2)::r) (bh τ p.1)) kv
def kvm(m:List Nat)(τ:Sg)(kv:List (Nat × W)):Bool:=List.rec true (fun p _ r=>ifB (Option.rec false (fun a=>wm m a p.2) (bh τ p.1)) r false) kv
def bZ(n i f:Nat)(kv:List (Nat × W))(os:List O)(τ:Sg)(h:Hs):Bool:=ifB (Nat.beq (len τ) n) (ifB (Option.rec true (fun _=>false) (bh τ i)) (Option.rec false (fun m=>ifB (wK m) (ifB (kvm m τ kv) (oms m h os m) false) false) (WN (grow h os f (roots τ kv) (os.map fun _=>none)))) false) false
def WQ(n i f:Nat)(kv:List (Nat × W))(os:List O)(r:R A):Bool:=R.rec (fun a h=>A.rec (fun _=>false) (fun _=>false) (fun _=>false) (fun fl=>Fl.rec (fun τ=>bZ n i f kv os τ h) (fun _=>false) (fun _=>false) (fun τ=>bZ n i f kv os τ h) fl) false a) (fun _ _ _=>false) false r
end
section
variable{Pg:List Fn}{cl:Cn}{E:XK}{d:Nat}{X:Cx}{σ σ0:L2.St}{H:Hp}{ρ:List Addr}{h:Hs}{m:List Nat}
theorem gR{b c:Bool}(e:ifB b c false=true):b=true/\c=true:=by cases b with | true=>exact⟨rfl,e⟩ | false=>cases e
def rho(ρ:List Addr)(m:List Nat):List Addr:=m.map fun n=>ρ.getD n 0
theorem Mx{k n:Nat}{a:Addr}(e:m[k]? =some n)(ea:ρ[n]? =some a):(rho ρ m)[k]? =some a:=by
 unfold rho;rw[List.getElem?_map,e];simp[List.getD,ea]
theorem Hf{a c:W}{v:V}(e:wm m a c=true)(r:RW ρ a v):RW (rho ρ m) c v:=by
 cases c with
 | non=>cases r <;> first | exact .non | cases e
 | bl x=>
   cases r with
   | bl y=>cases x <;> cases y <;> first | exact .bl _ | cases e
   | _=>cases e
 | int i=>
   cases r with
   | int j=>
     have e:ieq j i=true:=e;rw[jW]at e
     rw[of_decide_eq_true e];exact .int _
   | _=>cases e
 | str x=>
   cases r with
   | str y=>
     have e:codes y x=true:=e
     rw[bQ.mp e];exact .str _
   | _=>cases e
 | ref k=>
   cases r with
   | @ref n a q=>
     have e:Option.rec false (fun j=>Nat.beq j n) (nth m k)=true:=e;rw[pH]at e
     cases z:m[k]? with
     | none=>rw[z]at e;cases e
     | some j=>
       rw[z]at e;have e2:j=n:=Nat.eq_of_beq_eq_true e;subst e2
       exact .ref (Mx z q)
   | _=>cases e
theorem Jf:∀ {xs ys:List W} {vs:List V},wms m xs ys=true->RWs ρ xs vs->RWs (rho ρ m) ys vs
 | [],[],_,_,.nil=>.nil
 | [],_::_,_,e,_=>nomatch e
 | _::_,[],_,e,_=>nomatch e
 | x::xs,y::ys,_,e,.cons r t=>by
   obtain⟨e1,e2⟩:=gR (show ifB (wm m x y) (wms m xs ys) false=true from e);exact .cons (Hf e1 r) (Jf e2 t)
theorem Su:∀ {xs ys:Fs} {gs:List (Str × V)},fms m xs ys=true->FR ρ xs gs->FR (rho ρ m) ys gs
 | [],[],_,_,.nil=>.nil
 | [],_::_,_,e,_=>nomatch e
 | _::_,[],_,e,_=>nomatch e
 | x::xs,y::ys,_,e,.cons r t=>by
   obtain⟨e0,e'⟩:=gR (show ifB (codes x.1 y.1) (ifB (wm m x.2 y.2) (fms m xs ys) false) false=true from e);obtain⟨e1,e2⟩:=gR e';exact .cons ⟨by rw[r.1,bQ.mp e0],Hf e1 r.2⟩ (Su e2 t)
theorem acC{a b:W}{k:Key}(e:keq a b=true)(h:KW a k):KW b k:=by
 cases h with
 | int i=>
   cases b with
   | int j=>
     have e:ieq i j=true:=e;rw[jW]at e
     rw[of_decide_eq_true e];exact .int _
   | _=>cases e
 | str c=>
   cases b with
   | str y=>
     have e:codes c y=true:=e
     rw[bQ.mp e];exact .str _
   | _=>cases e
theorem Sv:∀ {xs ys:List (W × W)} {gs:List (Key × V)},dms m xs ys=true->KR ρ xs gs->KR (rho ρ m) ys gs
 | [],[],_,_,.nil=>.nil
 | [],_::_,_,e,_=>nomatch e
 | _::_,[],_,e,_=>nomatch e
 | x::xs,y::ys,_,e,.cons r t=>by
   obtain⟨e0,e'⟩:=gR (show ifB (keq x.1 y.1) (ifB (wm m x.2 y.2) (dms m xs ys) false) false=true from e);obtain⟨e1,e2⟩:=gR e';exact .cons ⟨acC e0 r.1,Hf e1 r.2⟩ (Sv e2 t)
theorem aee{a:Addr}{o c:O}(e:om m o c=true)(x:OA cl ρ H a o):OA cl (rho ρ m) H a c:=by
 cases c with
 | tup ys=>
   cases o with
   | tup xs=>obtain⟨vs,r,q⟩:=x;exact⟨vs,Jf e r,q⟩
   | _=>cases e
 | lst ys=>
   cases o with
   | lst xs=>obtain⟨vs,r,q⟩:=x;exact⟨vs,Jf e r,q⟩
   | _=>cases e
 | ins C gs=>
   cases o with
   | ins C' fs=>
     obtain⟨e1,e2⟩:=gR (show ifB (Nat.beq C' C) (fms m fs gs) false=true from e);have e1:C'=C:=Nat.eq_of_beq_eq_true e1;subst e1;obtain⟨dx,us,r,q⟩:=x
     exact⟨dx,us,Su e2 r,q⟩
   | _=>cases e
 | dk ys=>
   cases o with
   | dk xs=>obtain⟨gs,r,q⟩:=x;exact⟨gs,Sv e r,q⟩
   | _=>cases e
 | dt ys=>cases e
 | scr ys=>cases e
theorem Jg{m0:List Nat}:∀ {os:List O} {ns:List Nat},oms m0 h os ns=true->os.length=ns.length/\∀(k:Nat) (c:O) (n:Nat),os[k]? =some c->ns[k]? =some n->n<h.n/\∃ o,h.get n=some o/\om m0 o c=true
 | [],[],_=>⟨rfl,fun k c n e=>by simp at e⟩
 | [],_::_,e=>nomatch e
 | _::_,[],e=>nomatch e
 | c::os,n::ns,e=>by
   obtain⟨e0,e⟩:=gR (show ifB (Nat.ble (n+1) h.n) (ifB (Option.rec false (fun o=>om m0 o c) (h.get n)) (oms m0 h os ns) false) false=true from e);obtain⟨e1,e2⟩:=gR e;have e0:n+1<=h.n:=Nat.le_of_ble_eq_true e0;obtain⟨l,f⟩:=Jg e2;refine⟨by simp[l],fun k c' n' ec en=>?_⟩
   cases k with
   | zero=>
     simp at ec en;subst ec en
     cases z:h.get n with
     | none=>rw[z]at e1;cases e1
     | some o=>rw[z]at e1;exact⟨e0,o,rfl,e1⟩
   | succ k=>exact f k c' n' (by simpa using ec) (by simpa using en)
theorem Jh{n:Nat}:∀ {ns:List Nat},uM n ns=true->n ∉ ns
 | [],_=>by simp
 | x::ns,e=>by
   have e:ifB (Nat.beq x n) false (uM n ns)=true:=e
   cases z:Nat.beq x n with
   | true=>rw[z]at e;cases e
   | false=>
     rw[z]at e;intro q
     rcases List.mem_cons.mp q with q | q
     · subst q;simp at z
     · exact Jh e q
theorem Ji:∀ {ns:List Nat},wK ns=true->ns.Nodup
 | [],_=>by simp
 | x::ns,e=>by
   obtain⟨e1,e2⟩:=gR (show ifB (uM x ns) (wK ns) false=true from e);exact List.nodup_cons.mpr ⟨Jh e1,Ji e2⟩
theorem sO(os:List O)(o:O):heapOf (os ++ [o])=(heapOf os).push o:=by unfold heapOf;rw[List.foldl_append];rfl
theorem jx:∀(os:List O),(heapOf os).n=os.length/\∀ k,(heapOf os).get k=os[k]?:=by
 intro os;generalize e:os.length=n
 induction n generalizing os with
 | zero=>
   have:os= []:=List.length_eq_zero_iff.mp e;subst this
   exact⟨rfl,fun k=>by cases k <;> rfl⟩
 | succ n ih=>
   obtain⟨xs,x,rfl⟩:∃ xs x,os=xs ++ [x]:=⟨os.dropLast,os.getLast (by intro z;rw[z]at e;cases e),(List.dropLast_concat_getLast _).symm⟩;have l:xs.length=n:=by simpa using e
   obtain⟨h1,h2⟩:=ih xs l;rw[sO];refine⟨by rw[Hs.z7,h1],fun k=>?_⟩;rw[Hs.uN,h1]
   by_cases z:k=n
   · subst z;rw[if_pos rfl,List.getElem?_append_right (by omega),l,Nat.sub_self];rfl
   · rw[if_neg z,h2]
     by_cases q:k<n
     · rw[List.getElem?_append_left (by omega)]
     · rw[List.getElem?_eq_none (by omega),List.getElem?_eq_none (by rw[List.length_append,l];simp;omega)]
theorem Zq{os:List O}(s:Sim cl ρ h H)(nd:m.Nodup)(e:oms m h os m=true):Sim cl (rho ρ m) (heapOf os) H:=by
 obtain⟨l,f⟩:=Jg e;obtain⟨g1,g2⟩:=jx os
 have WR:∀ k n,m[k]? =some n->∃ a,ρ[n]? =some a:=fun k n en=>by
  have hk:k<os.length:=by rw[l];exact(aZ en).1
  obtain⟨hn,_⟩:=f k os[k] n (List.getElem?_eq_getElem hk) en;rw[<- s.len]at hn;exact⟨ρ[n],List.getElem?_eq_getElem hn⟩
 refine⟨by rw[g1,l];simp[rho],?_,fun k a ek=>?_,s.tb⟩
 · unfold rho;refine List.pairwise_map.mpr (List.Pairwise.imp_of_mem (fun {x y} hx hy ne e=>ne ?_) nd);obtain⟨k,ek⟩:=List.getElem?_of_mem hx;obtain⟨j,ej⟩:=List.getElem?_of_mem hy;obtain⟨a,ea⟩:=WR k x ek;obtain⟨b,eb⟩:=WR j y ej;simp only[List.getD,ea,eb,Option.getD_some]at e;subst e;exact(List.getElem?_inj (aZ ea).1 s.nd).mp (ea.trans eb.symm)
 · have hk:k<m.length:=by
    have:=(aZ ek).1;simpa [rho] using this
   obtain⟨b,eb⟩:=WR k m[k] (List.getElem?_eq_getElem hk);have e1:=Mx (m:=m) (List.getElem?_eq_getElem hk) eb;rw[ek]at e1;cases e1;have hk':k<os.length:=by omega
   obtain⟨_,o,ho,eo⟩:=f k os[k] m[k] (List.getElem?_eq_getElem hk') (List.getElem?_eq_getElem hk);exact⟨os[k],by rw[g2];exact List.getElem?_eq_getElem hk',aee eo (s.at eb ho)⟩
theorem Sw{τ:Sg}:∀ {kv:List (Nat × W)},kvm m τ kv=true->∀ i w,(i,w) ∈ kv->∃ a,bh τ i=some a/\wm m a w=true
 | [],_,i,w,q=>by simp at q
 | p::kv,e,i,w,q=>by
   obtain⟨e1,e2⟩:=gR (show ifB (Option.rec false (fun a=>wm m a p.2) (bh τ p.1)) (kvm m τ kv) false=true from e)
   rcases List.mem_cons.mp q with q | q
   · subst q
     cases z:bh τ i with
     | none=>rw[show bh τ (i,w).1=bh τ i from rfl,z]at e1;cases e1
     | some a=>rw[show bh τ (i,w).1=bh τ i from rfl,z]at e1;exact⟨a,rfl,e1⟩
   · exact Sw e2 i w q
structure CS (cl:Cn)(n i:Nat)(kv:List (Nat × W))(os:List O)(r:Addr)(row:List V)(σ:L2.St)(H:Hp):Prop where
 len:σ.length=n
 at_:σ[i]? =some (some (.ref r))
 row:H r=some (.lst row)
 sim:∃ ρ,Sim cl ρ (heapOf os) H/\RS ρ (frm n kv) σ/\r ∉ ρ
theorem CW{n i f:Nat}{kv:List (Nat × W)}{os:List O}{τ:Sg}(e:bZ n i f kv os τ h=true):τ.length=n/\bh τ i=none/\∃ m:List Nat,m.Nodup/\kvm m τ kv=true/\oms m h os m=true:=by
 obtain⟨e1,e⟩:=gR (show ifB (Nat.beq (Ev.len τ) n) (ifB (Option.rec true (fun _=>false) (bh τ i)) (Option.rec false (fun m=>ifB (wK m) (ifB (kvm m τ kv) (oms m h os m) false) false) (WN (grow h os f (roots τ kv) (os.map fun _=>none)))) false) false=true from e);obtain⟨e2,e⟩:=gR e;rw[len_eq]at e1;refine⟨Nat.eq_of_beq_eq_true e1,?_,?_⟩
 · cases z:bh τ i with
   | none=>rfl
   | some _=>rw[z]at e2;cases e2
 · cases z:WN (grow h os f (roots τ kv) (os.map fun _=>none)) with
   | none=>rw[z]at e;cases e
   | some m=>
     rw[z]at e;obtain⟨e3,e⟩:=gR (show ifB (wK m) (ifB (kvm m τ kv) (oms m h os m) false) false=true from e);obtain⟨e4,e5⟩:=gR e;exact⟨m,Ji e3,e4,e5⟩
theorem O_{n i f:Nat}{kv:List (Nat × W)}{os:List O}{τ:Sg}{r:Addr}{row:List V}{H':Hp}{ρ':List Addr}{σ':L2.St}(e:bZ n i f kv os τ h=true)(s:Sim cl ρ' h H')(rs:RS ρ' τ σ')(ha:σ'[i]? =some (some (.ref r)))(hr:H' r=some (.lst row))(nr:r ∉ ρ'):CS cl n i kv os r row σ' H':=by
 obtain⟨e1,e2,m,nd,e3,e4⟩:=CW e;have sc:=Zq s nd e4;refine⟨by rw[<- rs.len];exact e1,ha,hr,rho ρ' m,sc,Jb (by rw[<- rs.len];exact e1) fun j w hj=>?_,fun z=>?_⟩
 · obtain⟨a,ea,em⟩:=Sw e3 j w hj;obtain⟨v,ev,rv⟩:=rs.get ea;exact⟨v,ev,Hf em rv⟩
 · unfold rho at z;obtain⟨x,hx,ex⟩:=List.mem_map.mp z;obtain⟨k,ek⟩:=List.getElem?_of_mem hx;obtain⟨l,fo⟩:=Jg e4;have hk:k<os.length:=by rw[l];exact(aZ ek).1
   obtain⟨hx',_⟩:=fo k os[k] x (List.getElem?_eq_getElem hk) ek;rw[<- s.len]at hx';have q:ρ'[x]? =some ρ'[x]:=List.getElem?_eq_getElem hx';simp only[List.getD,q,Option.getD_some]at ex;exact nr (by rw[<- ex];exact List.mem_of_getElem? q)
theorem bL{n i m f:Nat}{kv kv':List (Nat × W)}{os os':List O}{tl:List S}{u:TS}{D:Ends}{r:Addr}{row:List V}(c:CS cl n i kv os r row σ H)(run:goes (evs Pg m d (.ss tl) (frm n kv) (heapOf os)) (bZ n i f kv' os')=true)
 (k:∀ σ' H',CS cl n i kv' os' r row σ' H'->u D σ' H'):tSt Pg cl E d tl u D σ H:=by
 obtain⟨ρ,s,rs,nr⟩:=c.sim;obtain⟨τ,h',e,e2⟩:=Mq run;obtain⟨_,z,_⟩:=CW e2;exact stage s rs e fun ρ' H' σ' b s' rs' ag=>k σ' H' (O_ e2 s' rs' ((ag i z).trans c.at_) (b.kept s.tb (fun _ z=>by cases z) nr c.row) (b.2 r _ c.row nr).1)
theorem iI{n i m:Nat}{kv:List (Nat × W)}{os:List O}{tl:List S}{u:TS}{D:Ends}{r:Addr}{row:List Int}(c:CS cl n i kv os r (row.map V.int) σ H)
 (run:lF (evs Pg m d (.ss tl) (frm n ((i,.ref os.length)::kv)) (heapOf (os ++ [.lst (row.map W.int)])))=true) (k:∀ H',D.rt (.bl true) H'):tSt Pg cl E d tl u D σ H:=by
 obtain⟨ρ,s,rs,nr⟩:=c.sim;obtain⟨h',e⟩:=Zi run;have s2:=s.adopt (o:=.lst (row.map W.int)) nr ⟨_,rw_ints _ row,c.row⟩;rw[<- sO]at s2;have hl:ρ.length=os.length:=by rw[s.len,(jx os).1]
 have z:=(rs.mono (List.prefix_append ρ [r])).set (w:=.ref os.length) (v:=.ref r) (.ref (by rw[<- hl,List.getElem?_append_right (aH _),Nat.sub_self];rfl)) i;rw[IW c.at_]at z;exact acw s2 z e k
end
section
variable{Pg:List Fn}{cl:Cn}{E:XK}{d:Nat}{X:Cx}{σ σ0:L2.St}{H:Hp}{ρ:List Addr}{h:Hs}
theorem acD{n i m f:Nat}{kv:List (Nat × W)}{os:List O}{τ:Sg}{b:List S}{D:Ends}(s:Sim cl ρ h H)(rs:RS ρ τ σ)(run:WQ n i f kv os (evs Pg m d (.ss b) τ h)=true)
 (k:∀ ρ' H' σ' τ' h',Bt cl ρ H ρ' H'->Sim cl ρ' h' H'->RS ρ' τ' σ'->Ag σ τ' σ'->bZ n i f kv os τ' h'=true->D.nx σ' H'/\D.ct σ' H'):tSt Pg cl E d b xM D σ H:=by
 refine⟨ρ,τ,h,m,s,rs,fun _ _=>rfl,?_⟩;generalize evs Pg m d (.ss b) τ h=r at run
 cases r with
 | ok a h'=>
   cases a with
   | fl fl=>
     cases fl with
     | nx τ'=>exact fun ρ' H' bt s'=>⟨_,rfl,fun σ' rs' ag=>(k ρ' H' σ' τ' h' bt s' rs' ag run).1⟩
     | ct τ'=>exact fun ρ' H' bt s'=>⟨_,rfl,fun σ' rs' ag=>(k ρ' H' σ' τ' h' bt s' rs' ag run).2⟩
     | _=>cases run
   | _=>cases run
 | _=>cases run
def mJ(n i f nn:Nat)(kv:List (Nat × W))(os:List O)(r:R A):Bool:=R.rec (fun a h=>A.rec (fun _=>false) (fun ws=>List.rec false (fun w t _=>List.rec (ifB (wm [] w (.int (Int.ofNat nn))) (ifB (Nat.ble nn 100000) (bZ n i f kv os (frm n kv) h) false) false) (fun _ _ _=>false) t) ws) (fun _=>false) (fun _=>false) false a) (fun _ _ _=>false) false r
theorem Zr{n i f nn:Nat}{kv:List (Nat × W)}{os:List O}{r:R A}(e:mJ n i f nn kv os r=true):∃ h',r= .ok (.ws [.int (Int.ofNat nn)]) h'/\nn<=100000/\bZ n i f kv os (frm n kv) h'=true:=by
 cases r with
 | ok a h'=>
   cases a with
   | ws ws=>
     match ws,e with
     | [],e=>cases e
     | [w],e=>
       obtain⟨e1,e⟩:=gR (show ifB (wm [] w (.int (Int.ofNat nn))) (ifB (Nat.ble nn 100000) (bZ n i f kv os (frm n kv) h') false) false=true from e);obtain⟨e2,e3⟩:=gR e
       have ew:w= .int (Int.ofNat nn):=by
        cases w with
        | int j=>
          have e1:ieq j (Int.ofNat nn)=true:=e1;rw[jW]at e1
          rw[of_decide_eq_true e1]
        | _=>cases e1
       subst ew
       exact⟨h',rfl,Nat.le_of_ble_eq_true e2,e3⟩
     | _::_::_,e=>cases e
   | _=>cases e
 | _=>cases e
theorem dN{n i m0:Nat}{row:List Int}{kv:List (Nat × W)}{tl0:List S}{u:TS}{D:Ends}{r:Addr}(hn:σ.length=n)(hr:σ[i]? =some (some (.ref r)))(hH:H r=some (.lst (row.map V.int)))(t:Tb cl H)
 (flat:kv.all (fun p=>match p.2 with | .ref _=>false | _=>true)=true)
 (ae_:goes (evs Pg m0 d (.ss tl0) (frm n [(i,.ref 0)]) (nM row)) (ok0 n i kv row)=true)
 (k:∀ σ' H',CS cl n i kv [] r (row.map V.int) σ' H'->u D σ' H'):tSt Pg cl E d tl0 u D σ H:=by
 obtain⟨τ1,g1,e1,f1⟩:=Mq ae_;unfold ok0 at f1;simp only[Bool.and_eq_true,decide_eq_true_eq]at f1;obtain⟨⟨⟨⟨a1,a2⟩,a3⟩,a4⟩,a6⟩:=f1;refine stage (Zj t hH) (acy hn hr) e1 fun ρ1 H4 σ4 b1 s4 rs1 ag1=>?_;have rr:ρ1[0]? =some r:=dM b1.1 rfl;have c2:σ4[i]? =some (some (.ref r)):=acs rs1 a3 rr;have cl4:σ4.length=n:=by rw[<- rs1.len];exact Nat.eq_of_beq_eq_true a1
 have afa:H4 r=some (.lst (row.map V.int)):=by
  obtain⟨vs,r',e⟩:=s4.at rr a6;rw[e,r'.inj (rw_ints _ row)]
 refine k σ4 H4 ⟨cl4,c2,afa,[],Sim.none s4.tb,Jb cl4 fun j w hj=>?_,by simp⟩;have z1:=List.all_eq_true.mp a4 _ hj;have z2:=List.all_eq_true.mp flat _ hj;exact acu _ rs1 (of_decide_eq_true z1) fun q z=>by rw[z]at z2;cases z2
end
section
variable{Pg:List Fn}{cl:Cn}{E:XK}{d:Nat}{X:Cx}{H H' H'':Hp}{ρ:List Addr}
def bU(cl:Cn)(H H':Hp):Prop:=(∀ b u,H b=some u->((cl.on=true->b ≠ cl.P)->H' b=some u)/\∃ u',H' b=some u')/\(Tb cl H->Tb cl H')
theorem bU.trans(a:bU cl H H')(b:bU cl H' H''):bU cl H H'':=⟨fun c u e=>by
 obtain⟨h1,u',h2⟩:=a.1 c u e;obtain⟨h3,h4⟩:=b.1 c u' h2;refine⟨fun n=>?_,h4⟩;have:=h1 n;rw[h2]at this;cases this
 exact h3 n,fun t=>b.2 (a.2 t)⟩
theorem bU.of(s:bN H H'):bU cl H H':=⟨fun b u e=>⟨fun _=>s b u e,u,s b u e⟩,fun t on=>by
 obtain⟨ps,h1,h2,h3⟩:=t on;refine⟨ps,s _ _ h1,h2,fun pos cv e=>?_⟩;obtain⟨c',e1,e2⟩:=h3 pos cv e
 exact⟨c',e1,s _ _ e2⟩⟩
theorem bU.at(s:bU cl H H')(t:Tb cl H){b:Addr}{u:HO}(n:∀ ps,u ≠ .tbl ps)(e:H b=some u):H' b=some u:=(s.1 b u e).1 (Mp t e n)
theorem bU.free(s:bU cl H H'){b:Addr}(e:H' b=none):H b=none:=by
 cases z:H b with
 | none=>rfl
 | some u=>
   obtain⟨_,u',q⟩:=s.1 b u z;rw[e]at q;cases q
theorem Mz{os:List O}(t:Tb cl H)(l:ρ.length=os.length)(nd:ρ.Nodup)(h:∀(k:Nat) (a:Addr) (o:O),ρ[k]? =some a->os[k]? =some o->OA cl ρ H a o):Sim cl ρ (heapOf os) H:=by
 obtain⟨g1,g2⟩:=jx os;refine⟨by rw[g1,l],nd,fun k a e=>?_,t⟩;have hk:k<os.length:=by rw[<- l];exact(aZ e).1
 exact⟨os[k],by rw[g2];exact List.getElem?_eq_getElem hk,h k a _ e (List.getElem?_eq_getElem hk)⟩
def qu(os:List O)(h:Hs):Bool:=(List.range os.length).all fun k=>decide (h.get k=os[k]?)
theorem WT{os:List O}{h:Hs}(e:qu os h=true){k:Nat}(hk:k<os.length):h.get k=os[k]?:=of_decide_eq_true (List.all_eq_true.mp e k (List.mem_range.mpr hk))
theorem WW{os:List O}{h':Hs}{ρ':List Addr}(s:Sim cl ρ (heapOf os) H)(b:Bt cl ρ H ρ' H')(s':Sim cl ρ' h' H')(k:qu os h'=true)(flat:∀ a ∈ ρ,∃ u,H a=some u/\∀ ps,u ≠ .tbl ps)
 (same:∀(j:Nat) (a:Addr) (o:O),ρ[j]? =some a->os[j]? =some o->OA cl ρ' H' a o->H' a=H a):bU cl H H':=by
 obtain⟨g1,_⟩:=jx os;refine⟨fun c u e=>?_,fun _=>s'.tb⟩
 by_cases z:c ∈ ρ
 · obtain⟨j,hj⟩:=List.getElem?_of_mem z;have hjl:j<os.length:=by rw[<- g1,<- s.len];exact(aZ hj).1
   have x:=s'.at (dM b.1 hj) ((WT k hjl).trans (List.getElem?_eq_getElem hjl));have q:=same j c _ hj (List.getElem?_eq_getElem hjl) x;exact⟨fun _=>q.trans e,u,q.trans e⟩
 · obtain⟨_,h2,h3⟩:=b.2 c u e z;exact⟨h2,h3⟩
end
section
variable{Pg:List Fn}{cl:Cn}{E:XK}{d:Nat}{X:Cx}{H H' H'':Hp}{ρ:List Addr}
def PsA(H:Hp)(a:Addr)(bs:List Addr)(ps:List (Int × Int)):Prop:=H a=some (.lst (bs.map V.ref))/\Paired (fun b (p:Int × Int)=>H b=some (.tup [.int p.1,.int p.2])) bs ps
def psO(ps:List (Int × Int)):List O:=.lst ((List.range ps.length).map fun k=>.ref (k+1))::ps.map fun p=>.tup [.int p.1,.int p.2]
theorem Paired.CZ{α β:Type}{R:α->β->Prop}:∀ {xs:List α} {ys:List β} {i:Nat} {a:α} {b:β},Paired R xs ys->xs[i]? =some a->ys[i]? =some b->R a b
 | _,_,_,_,_,.nil,e,_=>by simp at e
 | _,_,0,_,_,.cons r _,e,e'=>by simp at e e';subst e;subst e';exact r
 | _,_,i+1,a,b,.cons _ t,e,e'=>Paired.CZ (i:=i) (a:=a) (b:=b) t (by simpa using e) (by simpa using e')
theorem PsA.nd{a:Addr}{bs:List Addr}{ps:List (Int × Int)}(h:PsA H a bs ps)(n:ps.Nodup):(a::bs).Nodup:=by
 obtain⟨h1,h2⟩:=h;rw[List.nodup_cons]
 constructor
 · intro m;obtain⟨i,hi⟩:=List.getElem?_of_mem m;have hl:i<ps.length:=by rw[<- h2.length];exact(aZ hi).1
   have:=Paired.CZ h2 hi (List.getElem?_eq_getElem hl);rw[h1]at this;cases this
 · clear h1
   induction h2 with
   | nil=>exact List.nodup_nil
   | @cons b p bs ps r t ih=>
     rw[List.nodup_cons]at n ⊢;refine⟨fun m=>n.1 ?_,ih n.2⟩;obtain⟨i,hi⟩:=List.getElem?_of_mem m;have hl:i<ps.length:=by rw[<- t.length];exact(aZ hi).1
     have q:=Paired.CZ t hi (List.getElem?_eq_getElem hl);rw[r]at q
     have:p=ps[i]:=by
      injection q with q;injection q with q;injection q with q1 q2;injection q1 with q1;injection q2 with q2;injection q2 with q2;exact Prod.ext q1 q2
     rw[this];exact List.getElem_mem hl
theorem Jj(ρ:List Addr):∀(bs:List Addr) (k:Nat),(∀ i b,bs[i]? =some b->ρ[k+i]? =some b)->RWs ρ ((List.range' k bs.length).map W.ref) (bs.map V.ref)
 | [],_,_=>.nil
 | b::bs,k,h=>.cons (.ref (by simpa using h 0 b rfl)) (Jj ρ bs (k+1) fun i c e=>by
    have:=h (i+1) c (by simpa using e)
    rw[<- this];congr 1;omega)
theorem PsA.sim{a:Addr}{bs:List Addr}{ps:List (Int × Int)}(h:PsA H a bs ps)(n:ps.Nodup)(t:Tb cl H):Sim cl (a::bs) (heapOf (psO ps)) H:=by
 refine Mz t (by simp[psO,h.2.length]) (h.nd n) fun k c o hk ho=>?_
 cases k with
 | zero=>
   simp at hk;subst hk;simp[psO]at ho;subst ho;refine⟨_,?_,h.1⟩;have:=Jj (a::bs) bs 1 fun i b e=>by rw[Nat.add_comm];simpa using e
   rw[h.2.length]at this;rw[List.range'_eq_map_range,List.map_map]at this
   simpa [Function.comp_def,Nat.add_comm] using this
 | succ k=>
   have hk':bs[k]? =some c:=by simpa using hk
   have ho':(ps.map fun p=>O.tup [.int p.1,.int p.2])[k]? =some o:=by simpa [psO] using ho
   rw[List.getElem?_map]at ho'
   cases e:ps[k]? with
   | none=>rw[e]at ho';cases ho'
   | some p=>
     rw[e]at ho';cases Option.some.inj ho';have w1:=Paired.CZ h.2 hk' e;exact⟨_,.cons (.int _) (.cons (.int _) .nil),w1⟩
theorem PsA.call{a:Addr}{bs:List Addr}{ps:List (Int × Int)}(h:PsA H a bs ps)(n:ps.Nodup)(t:Tb cl H){f k:Nat}{m:Int}{r:W}{h':Hs}{Q:VK}
 (e:evs Pg k d (.call f [.int m,.ref 0]) [] (heapOf (psO ps))= .ok (.w r) h') (kq:qu (psO ps) h'=true)
 (q:∀ ρ' H' v,(a::bs) <+:ρ'->(∀ x ∈ ρ',x ∉ a::bs->H x=none)->Sim cl ρ' h' H'->bU cl H H'->RW ρ' r v->Q v H'):spF Pg cl d f [.int m,.ref a] H Q E:=by
 have s:=h.sim n t;refine⟨a::bs,[.int m,.ref 0],heapOf (psO ps),k,s,.cons (.int m) (.cons (.ref rfl) .nil),?_⟩;rw[e];intro ρ' H' b s';refine⟨r,rfl,fun v hv=>q ρ' H' v b.1 (fun x hx hn=>?_) s' ?_ hv⟩
 · cases z:H x with
   | none=>rfl
   | some u=>exact((b.2 x u z hn).1 hx).elim
 · refine WW s b s' kq (fun c hc=>?_) fun j c o hj ho x=>?_
   · rcases List.mem_cons.mp hc with rfl | m
     · exact⟨_,h.1,fun _ z=>by cases z⟩
     · obtain⟨i,hi⟩:=List.getElem?_of_mem m;have hl:i<ps.length:=by rw[<- h.2.length];exact(aZ hi).1
       have w1:=Paired.CZ h.2 hi (List.getElem?_eq_getElem hl);exact⟨_,w1,fun _ z=>by cases z⟩
   · have y:=s.at hj ((jx (psO ps)).2 j |>.trans ho)
     have up:∀ xs vs,RWs (a::bs) xs vs->∀ vs',RWs ρ' xs vs'->vs=vs':=fun xs vs u=>by
      induction u with
      | nil=>intro vs' u';cases u';rfl
      | cons r1 _ ih=>
        intro vs' u'
        cases u' with
        | cons r2 t2=>
          rw[ih _ t2];congr 1
          cases r1 <;> cases r2 <;> first | rfl | skip
          rename_i e1 _ e2;rw[dM b.1 e1]at e2;rw[Option.some.inj e2]
     have:(∃ xs,o= .tup xs)\/∃ xs,o= .lst xs:=by
      cases j with
      | zero=>simp[psO]at ho;exact .inr ⟨_,ho.symm⟩
      | succ j=>
        have ho':(ps.map fun p=>O.tup [.int p.1,.int p.2])[j]? =some o:=by simpa [psO] using ho
        rw[List.getElem?_map]at ho'
        cases e:ps[j]? with
        | none=>rw[e]at ho';cases ho'
        | some p=>rw[e]at ho';cases Option.some.inj ho';exact .inl ⟨_,rfl⟩
     rcases this with ⟨xs,rfl⟩ | ⟨xs,rfl⟩
     · obtain⟨v1,u1,w1⟩:=y;obtain⟨v2,u2,w2⟩:=x;rw[w1,w2,up _ _ u1 _ u2]
     · obtain⟨v1,u1,w1⟩:=y;obtain⟨v2,u2,w2⟩:=x;rw[w1,w2,up _ _ u1 _ u2]
end
def aG:Nat->List Int->List (List (Int × Int))
 | _,[]=>[[]]
 | 0,_::_=>[]
 | n+1,x::t=>t.flatMap fun p=>(aG n (t.filter fun y=> !decide (y=p))).map fun rest=>(x,p)::rest
def Lp(H₀ H:Hp)(a:Addr)(ps:List (Int × Int)):Prop:=∃ bs:List Addr,PsA H a bs ps/\∀ b ∈ bs,H₀ b=none
theorem Lp.keep{H₀ H H':Hp}{a:Addr}{ps:List (Int × Int)}(h:Lp H₀ H a ps)(ha:∀ u,H a=some u->H' a=some u)(ht:∀ b xs,H b=some (.tup xs)->H' b=some (.tup xs)):Lp H₀ H' a ps:=by
 obtain⟨bs,⟨e,r⟩,n⟩:=h;exact⟨bs,⟨ha _ e,Paired.lC r fun _ _ q=>ht _ _ q⟩,n⟩
theorem Lp.same{H₀ H H':Hp}{a:Addr}{ps:List (Int × Int)}(h:Lp H₀ H a ps)(s:bN H H'):Lp H₀ H' a ps:=h.keep (fun _ e=>s _ _ e) fun _ _ e=>s _ _ e
theorem Lp.old{H₀ H₁ H:Hp}{a:Addr}{ps:List (Int × Int)}(h:Lp H₁ H a ps)(s:∀ b,H₁ b=none->H₀ b=none):Lp H₀ H a ps:=by
 obtain⟨bs,p,n⟩:=h;exact⟨bs,p,fun b hb=>s b (n b hb)⟩
theorem bN.free{H H':Hp}(s:bN H H')(b:Addr)(e:H' b=none):H b=none:=by
 cases z:H b with
 | none=>rfl
 | some u=>rw[s b u z]at e;cases e
theorem Lp.put{H₀ H:Hp}{a F:Addr}{o:HO}{ps xs}(h:Lp H₀ H a ps)(ne:a ≠ F)(hF:H F=some (.lst xs)):Lp H₀ (upd H F o) a ps:=h.keep (fun _ e=>by rw[aB ne];exact e) fun b ys e=>by rw[aB (Xu e hF (fun z=>by cases z))];exact e
abbrev LAs(H₀ H:Hp):List Addr->List (List (Int × Int))->Prop:=Paired (Lp H₀ H)
theorem Paired.Pa{α β:Type}{R:α->β->Prop}{a:α}{b:β}(r:R a b):∀ {xs:List α} {ys:List β},Paired R xs ys->Paired R (xs ++ [a]) (ys ++ [b])
 | _,_,.nil=>.cons r .nil
 | _,_,.cons h t=>.cons h (Paired.Pa r t)
theorem Paired.yZ{α β:Type}{R:α->β->Prop}:∀ {xs:List α} {ys:List β} {i:Nat} {a:α},Paired R xs ys->xs[i]? =some a->∃ b,ys[i]? =some b/\R a b
 | _,_,_,_,.nil,e=>by simp at e
 | _,_,0,_,.cons r _,e=>by simp at e;subst e;exact⟨_,rfl,r⟩
 | _,_,i+1,a,.cons _ t,e=>by
   obtain⟨b,h1,h2⟩:=Paired.yZ (i:=i) (a:=a) t (by simpa using e);exact⟨b,by simpa using h1,h2⟩
def Af(n:Nat):Sp:=fun vs H Q _=>∃(a:Addr) (ns:List Int),vs= [.ref a]/\H a=some (.lst (ns.map V.int))/\ns.length<n/\ns.length<=20/\(aG n ns).length<=100000/\
 ∀(r:Addr) (as:List Addr) (H':Hp),H r=none->bN H H'->H' r=some (.lst (as.map V.ref))->LAs H H' as (aG n ns)->(∀ x ∈ as,H x=none/\x ≠ r)->Q (.ref r) H'
theorem acE{x:Int}{t:List Int}{n:Nat}{p:Int}(h:p ∈ t):(aG n (t.filter fun y=> !decide (y=p))).length<=(aG (n+1) (x::t)).length:=by
 show _<=(t.flatMap fun p=>(aG n (t.filter fun y=> !decide (y=p))).map fun rest=>(x,p)::rest).length;generalize ht:t=s at h ⊢
 have:∀ l:List Int,p ∈ l->(aG n (s.filter fun y=> !decide (y=p))).length<=(l.flatMap fun p=>(aG n (s.filter fun y=> !decide (y=p))).map fun rest=>(x,p)::rest).length:=by
  intro l
  induction l with
  | nil=>intro h;simp at h
  | cons q l ih=>
    intro h;rw[List.flatMap_cons,List.length_append,List.length_map]
    rcases List.mem_cons.mp h with e | e
    · rw[e];omega
    · have:=ih e;omega
 exact this s h
theorem Sx{α β:Type}(f:α->List β)(l:List α)(i:Nat):((l.take i).flatMap f).length<=(l.flatMap f).length:=by
 have:l.flatMap f=(l.take i).flatMap f++(l.drop i).flatMap f:=by rw[<- List.flatMap_append,List.take_append_drop]
 rw[this,List.length_append];omega
theorem LAs.put{H₀ H:Hp}{F:Addr}{o:HO}{xs:List V}(hF:H F=some (.lst xs)):∀ {as:List Addr} {pss:List (List (Int × Int))},LAs H₀ H as pss->(∀ z ∈ as,z ≠ F)->LAs H₀ (upd H F o) as pss
 | _,_,.nil,_=>.nil
 | a::as,_::_,.cons r t,h=>.cons (r.put (h a (by simp)) hF) (LAs.put hF t fun z hz=>h z (List.mem_cons_of_mem _ hz))
theorem LAs.same{H₀ H H':Hp}{as:List Addr}{pss:List (List (Int × Int))}(h:LAs H₀ H as pss)(s:bN H H'):LAs H₀ H' as pss:=Paired.lC h fun _ _ r=>r.same s
theorem LAs.old{H₀ H₁ H:Hp}{as:List Addr}{pss:List (List (Int × Int))}(h:LAs H₁ H as pss)(s:∀ b,H₁ b=none->H₀ b=none):LAs H₀ H as pss:=Paired.lC h fun _ _ r=>r.old s
theorem pairs_len:∀ {n:Nat} {ns:List Int} {ps:List (Int × Int)},ps ∈ aG n ns->ps.length<=ns.length
 | _,[],ps,h=>by
   have:ps= []:=by simpa [aG] using h
   rw[this];simp
 | 0,_::_,ps,h=>by simp[aG]at h
 | n+1,x::t,ps,h=>by
   obtain⟨p,hp,h⟩:=List.mem_flatMap.mp (show ps ∈ t.flatMap fun p=>(aG n (t.filter fun y=> !decide (y=p))).map fun rest=>(x,p)::rest from h);obtain⟨r,hr,rfl⟩:=List.mem_map.mp h;have h1:=pairs_len hr;have h2:=List.length_filter_le (fun y=> !decide (y=p)) t;simp only[List.length_cons];omega
theorem Lp.Ah{cl:Cn}{H₀ H H':Hp}{a:Addr}{ps:List (Int × Int)}(h:Lp H₀ H a ps)(s:bU cl H H')(t:Tb cl H):Lp H₀ H' a ps:=by
 obtain⟨bs,⟨e,r⟩,n⟩:=h;exact⟨bs,⟨s.at t (fun _ z=>by cases z) e,Paired.lC r fun _ _ q=>s.at t (fun _ z=>by cases z) q⟩,n⟩
theorem LAs.Ah{cl:Cn}{H₀ H H':Hp}{as:List Addr}{pss:List (List (Int × Int))}(h:LAs H₀ H as pss)(s:bU cl H H')(t:Tb cl H):LAs H₀ H' as pss:=Paired.lC h fun _ _ r=>r.Ah s t
theorem bU.put{cl:Cn}{H H':Hp}{D:Addr}{xs ys:List V}(s:bU cl H H')(t:Tb cl H')(n:H D=none)(e:H' D=some (.lst xs)):bU cl H (upd H' D (.lst ys)):=⟨fun b u q=>by
 have nb:b ≠ D:=aV q n
 rw[aB nb];exact s.1 b u q,fun _ on=>by
 obtain⟨ps,h1,h2,h3⟩:=t on;refine⟨ps,by rw[aB (fun z=>by rw[z,e]at h1;cases h1)];exact h1,h2,fun pos cv q=>?_⟩;obtain⟨c',e1,e2⟩:=h3 pos cv q
 exact⟨c',e1,by rw[aB (fun z=>by rw[z,e]at e2;cases e2)];exact e2⟩⟩
abbrev C_:=Nat->Option (List (Int × Int) × List Int)
def Dc(cl:Cn)(tbl:C_):Sp:=fun vs H Q _=>∃ m ps adds,vs= [.int (m:Nat)]/\tbl m=some (ps,adds)/\Tb cl H/\
 ∀(r a b:Addr) (bs:List Addr) (H':Hp),(a::bs ++ [b,r]).Nodup->(∀ x ∈ a::bs ++ [b,r],H x=none)->bU cl H H'->H' r=some (.tup [.ref a,.ref b])->PsA H' a bs ps->H' b=some (.lst (adds.map V.int))->Q (.ref r) H'
def plO(n:Nat)(ps:List (Int × Int))(adds:List Int):List O:=(.lst ((List.range' (n+1) ps.length).map W.ref)::ps.map fun p=>.tup [.int p.1,.int p.2]) ++ [.lst (adds.map W.int),.tup [.ref n,.ref (n+1+ps.length)]]
def Pb:C_
 | 7=>some ([(1,3),(2,6),(4,5)],[2,4,1])
 | 9=>some ([(1,2),(3,7),(4,6),(5,8)],[5,4,2,7])
 | 11=>some ([(1,2),(3,6),(4,8),(5,10),(7,9)],[3,9,1,4,5])
 | _=>none
def q_(h:Hs)(os:List O):Hs:=os.foldl (fun h o=>h.push o) h
theorem yC:∀(os:List O) (h:Hs),(q_ h os).n=h.n+os.length/\∀ k,(q_ h os).get k=if k<h.n then h.get k else if k<h.n+os.length then os[k - h.n]? else h.get k
 | [],h=>⟨rfl,fun k=>by
   show h.get k=_
   by_cases c:k<h.n
   · rw[if_pos c]
   · rw[if_neg c,if_neg (by simpa using c)]⟩
 | o::os,h=>by
   obtain⟨g1,g2⟩:=yC os (h.push o);have e:q_ h (o::os)=q_ (h.push o) os:=rfl;rw[Hs.z7]at g1 g2;rw[e];refine⟨by rw[g1,List.length_cons];omega,fun k=>?_⟩;rw[g2 k,Hs.uN]
   by_cases c:k<h.n
   · rw[if_pos (show k<h.n+1 by omega),if_neg (show ¬ k=h.n by omega),if_pos c]
   · rw[if_neg c]
     by_cases c2:k=h.n
     · subst c2;rw[if_pos (Nat.lt_succ_self _),if_pos rfl,if_pos (by rw[List.length_cons];omega),Nat.sub_self];rfl
     · rw[if_neg (show ¬ k<h.n+1 by omega),if_neg c2,List.length_cons]
       by_cases c3:k<h.n+1+os.length
       · rw[if_pos c3,if_pos (show k<h.n+(os.length+1) by omega),show k - h.n=(k - (h.n+1))+1 by omega];simp
       · rw[if_neg c3,if_neg (show ¬ k<h.n+(os.length+1) by omega)]
theorem Jk{ρ:List Addr}:∀(xs:List Int),RWs ρ (xs.map W.int) (xs.map V.int)
 | []=>.nil
 | _::xs=>.cons (.int _) (Jk xs)
def pPl(tbl:C_)(h:Hs)(w:W):R W:=w.onI fun i=>Int.rec (fun m=>Opt (tbl m) fun t=>.ok (.ref (h.n+t.1.length+2)) (q_ h (plO h.n t.1 t.2))) (fun _=>.no) i
def Pr.plan(tbl:C_):Pr:=⟨fun ws h=>iG ws (pPl tbl h)⟩
variable{Pg:List Fn}{cl:Cn}{E:XK}{d:Nat}{X:Cx}
theorem acF{tbl:C_}:OpN cl (.plan tbl) (fun vs H Q=>Dc cl tbl vs H Q E0):=fun E ρ h H ws vs Q s r p=>by
 obtain⟨w,v,rfl,rfl,r1,p⟩:=Ow r (show Post cl ρ H E (ofW (iG ws (pPl tbl h))) (VP Q) from p);obtain⟨i,rfl,p⟩:=oI p;cases r1
 cases i with
 | negSucc _=>exact p.elim
 | ofNat m=>
   obtain⟨⟨ps,adds⟩,e,p⟩:=oR (show Post cl ρ H E (ofW (Opt (tbl m) fun t=>.ok (.ref (h.n+t.1.length+2)) (q_ h (plO h.n t.1 t.2)))) (VP Q) from p);refine⟨m,ps,adds,rfl,e,s.tb,fun r a b bs H' nd fr sm hr pa hb=>?_⟩;have bl:bs.length=ps.length:=pa.2.length;obtain⟨g1,g2⟩:=yC (plO h.n ps adds) h;have ol:(plO h.n ps adds).length=ps.length+3:=by simp[plO]
   have sl:=s.len
   have gN:∀ k,(ρ++(a::bs ++ [b,r]))[h.n+k]? =(a::bs ++ [b,r])[k]?:=fun k=>by
    rw[List.getElem?_append_right (by omega)];congr 1;omega
   have B:Bt cl ρ H (ρ++(a::bs ++ [b,r])) H':=⟨List.prefix_append _ _,fun c u q n=>⟨fun z=>(List.mem_append.mp z).elim n fun z=>by
    exact absurd q (by rw[fr c z];intro y;cases y),sm.1 c u q⟩⟩
   have S:Sim cl (ρ++(a::bs ++ [b,r])) (q_ h (plO h.n ps adds)) H':=by
    refine⟨?_,?_,fun k c hk=>?_,sm.2 s.tb⟩
    · rw[g1,ol,List.length_append,sl];simp[bl]
    · refine List.nodup_append.mpr ⟨s.nd,nd,fun c hc e he z=>?_⟩;subst z;obtain⟨j,hj⟩:=List.getElem?_of_mem hc;obtain⟨o,_,x⟩:=s.obj j c hj;obtain⟨u,hu⟩:=x.som;rw[fr c he]at hu;cases hu
    · by_cases c1:k<h.n
      · rw[List.getElem?_append_left (by omega)]at hk;obtain⟨o,ho,x⟩:=s.obj k c hk;refine⟨o,by rw[g2,if_pos c1];exact ho,x.keep (List.prefix_append _ _) ?_⟩;obtain⟨u,hu⟩:=x.som
        have np:cl.on=true->c ≠ cl.P:=fun on z=>by
         obtain⟨ps',h1,_⟩:=s.tb on;have y:=x.pl;rw[z,h1]at y;exact y.elim
        rw[hu];exact(sm.1 c u hu).1 np
      · obtain⟨j,rfl⟩:∃ j,k=h.n+j:=⟨k - h.n,by omega⟩;rw[gN]at hk
        have hj:j<ps.length+3:=by
         have:=(aZ hk).1;simp[bl]at this;omega
        rw[g2,if_neg c1,if_pos (by omega),Nat.add_sub_cancel_left]
        cases j with
        | zero=>
          have:a=c:=by simpa using hk
          subst this;refine⟨_,rfl,bs.map V.ref,?_,pa.1⟩
          have:=Jj (ρ++(a::bs ++ [b,r])) bs (h.n+1) fun i b' e=>by
           rw[show h.n+1+i=h.n+(i+1) by omega,gN,List.cons_append,List.getElem?_cons_succ,List.getElem?_append_left (aZ e).1];exact e
          rw[bl]at this
          exact this
        | succ j=>
          rw[List.cons_append,List.getElem?_cons_succ]at hk;have e0:(plO h.n ps adds)[j+1]? =((ps.map fun p=>O.tup [.int p.1,.int p.2]) ++ [.lst (adds.map W.int),.tup [.ref h.n,.ref (h.n+1+ps.length)]])[j]?:=rfl;rw[e0]
          by_cases c2:j<ps.length
          · rw[List.getElem?_append_left (by omega)]at hk;rw[List.getElem?_append_left (by simpa using c2)];have q:=Paired.CZ pa.2 hk (List.getElem?_eq_getElem c2);refine⟨.tup [.int ps[j].1,.int ps[j].2],by simp[c2],_,.cons (.int _) (.cons (.int _) .nil),q⟩
          · rw[List.getElem?_append_right (by omega),bl]at hk;rw[List.getElem?_append_right (by simpa using c2),List.length_map]
            obtain hz | hz:j - ps.length=0\/j - ps.length=1:=by omega
            · rw[hz]at hk ⊢;have:b=c:=by simpa using hk
              subst this;exact⟨_,rfl,adds.map V.int,Jk adds,hb⟩
            · rw[hz]at hk ⊢;have:r=c:=by simpa using hk
              subst this;refine⟨_,rfl,_,.cons (.ref ?_) (.cons (.ref ?_) .nil),hr⟩
              · rw[<- Nat.add_zero h.n,gN];rfl
              · rw[show h.n+1+ps.length=h.n+(ps.length+1) by omega,gN,List.cons_append,List.getElem?_cons_succ,List.getElem?_append_right (by omega),bl,Nat.sub_self];rfl
   obtain⟨w,e2,q⟩:=p _ _ B S;cases e2;refine q _ (.ref ?_);show(ρ++(a::bs ++ [b,r]))[h.n+ps.length+2]? =some r;rw[show h.n+ps.length+2=h.n+(ps.length+1+1) by omega,gN,List.cons_append,List.getElem?_cons_succ,List.getElem?_append_right (by omega),bl,show ps.length+1 - ps.length=1 by omega];rfl
theorem Zt{k:Nat}{fa:Addr}{fd:FuncData}{ps:List Str}{x:Str}{e:Expr}{es:List Expr}{y:Ev.X}{ys:List Ev.X}{p pos:Pos}{tbl:C_}(F:aP X.prog X.w X.K X.mg X.base CX0 k fa fd ps (Dc cl tbl))(hr:aX k X.A)(hg:Gl X x)(hm:X.mg x=some (.ref fa))(hk:PySem.W.keepIn X.K (.ref fa)=true)(hb:Binds X.K fd ps [])
 (ha:PA X (e::es) (tA Pg cl E d (y::ys))) (hdb:(x==("__debug__":Str))=false:=by decide) (he:starEach (e::es) X.env=(false,eval e X.env)::starEach es X.env:=by rfl) (hpl:(backTo pos (starEach es X.env)).any (·.1)=false:=by rfl):
 PE X (.Call (.Name x p) (e::es) [] pos) (tE Pg cl E d (.pr (.plan tbl) (y::ys))):=PE.of (xO F hr hg hm hk hb .nil ql ha hdb he hpl) fun σ H Q z=>by
 have o:OpN cl (.plan tbl) (fun vs H Q=>Dc cl tbl (vs ++ []) H Q E0):=fun E ρ h H ws vs Q s r p=>by
  show Dc cl tbl (vs ++ []) H Q E0;rw[List.append_nil];exact acF E ρ h H ws vs Q s r p
 exact Cw o z
end Ev
namespace Ev
open PySem L2
section
variable{Pg:List Fn}{cl:Cn}{E:XK}{d:Nat}{X:Cx}{σ0:L2.St}
theorem fsc{N P:List Str}{sc:Scope}(h4:N.Nodup:=by decide +kernel)(h6:∀ x ∈ P,sc.names.lookup x=some .local\/sc.names.lookup x=some .cell:=by decide +kernel)(h7:∀ y ∈ sc.names,y.2 ≠ .free:=by decide +kernel)(h1:sc.kind= .function:=by rfl)(h2:sc.isCoroutine=false:=by rfl)(h3:sc.isGenerator=false:=by rfl)(h5:N.take P.length=P:=by rfl):aC N P sc:=⟨h1,h2,h3,h4,h5,h6,h7⟩
theorem dv(i:Nat){x:Str}{pos:Pos}(hN:X.N[i]? =some x:=by rfl)(hv:Vis X.env.scope x:=by first | exact Or.inl rfl | exact Or.inr (Or.inl rfl) | exact Or.inr (Or.inr rfl))(hd:(x==("__debug__":Str))=false:=by decide)
 (hcd:(x==("__classdict__":Str))=false:=by decide):PE X (.Name x pos) (tE Pg cl E d (.var i)):=abZ hN hv hd hcd
theorem bx(i:Nat){x:Str}{pos:Pos}(hN:X.N.Nodup)(hi:X.N[i]? =some x:=by rfl)(hx:Loc X.env.scope x:=by first | exact Or.inl rfl | exact Or.inr rfl)(hf:X.fn x=true\/X.env.scope.names.lookup x=some .local:=by first | exact .inl rfl | exact .inr rfl | assumption):PG X (.Name x pos) (tG cl (.nm i)):=Y7 hN hi hx hf
theorem gU(i:Nat){x:Str}{e:Expr}{y:Ev.X}{pos pos':Pos}(hN:X.N.Nodup)(he:PE X e (tE Pg cl E d y))(hi:X.N[i]? =some x:=by rfl)(hx:Loc X.env.scope x:=by first | exact Or.inl rfl | exact Or.inr rfl)(hs:swapsWith e (some (.Name x pos')) pos.line X.env=pure false:=by rfl)(hf:X.fn x=true\/X.env.scope.names.lookup x=some .local:=by first | exact .inl rfl | exact .inr rfl | assumption):
 PS X (.Assign [.Name x pos'] e pos) (tS Pg cl E d σ0 (.asg (.nm i) y)):=RZ hN hi hx he hs hf
theorem gW{k k' f:Nat}{fa:Addr}{fd:FuncData}{ps:List Str}{x:Str}{st:Stmt}{e:Expr}{es:List Expr}{y:Ev.X}{ys:List Ev.X}{p pos:Pos}(F:aP X.prog X.w X.K X.mg X.base (CXE X.prog X.w) k fa fd ps (spF Pg cl d f))(D:Df X.K X.mg x st ps fa fd)(hr:aX k' X.A)
 (hx:Passes (CXE X.prog X.w) X E) (ha:PA X (e::es) (tA Pg cl E d (y::ys))) (hk:k<=k':=by omega) (hg:Gl X x:=by rfl) (hdb:(x==("__debug__":Str))=false:=by decide) (he:starEach (e::es) X.env=(false,eval e X.env)::starEach es X.env:=by rfl) (hpl:(backTo pos (starEach es X.env)).any (·.1)=false:=by rfl):
 PE X (.Call (.Name x p) (e::es) [] pos) (tE Pg cl E d (.call f (y::ys))):=mV F (hr.mono hk) hg D.mg D.fn.kp D.bd hx ha hdb he hpl
end
def Qn(ps:List Str)(P:List Value->Prop):Prop:=match ps with
 | []=>P []
 | _::ps=>∀ v,Qn ps fun us=>P (v::us)
theorem Sy:∀ {ps:List Str} {P:List Value->Prop},Qn ps P->∀ us:List Value,us.length=ps.length->P us
 | [],_,h,[],_=>h
 | [],_,_,_::_,e=>by simp at e
 | _::_,_,_,[],e=>by simp at e
 | _::_,_,h,v::us,e=>Sy (h v) us (by simpa using e)
section
variable{K:ak}{x q m:Str}{st:Stmt}{f C:Addr}{fd:FuncData}{ps:List Str}{h:Heap}{mg:Str->Option Value}
theorem fbn(F:Fun K x q st f fd)(b:∀ kV doc pm an cdv ct,Qn ps fun us=>bindArgs (PySem.W.fnOf x q (fD st) (bG st) (aa st) .none kV doc pm an cdv ct) ⟨us,[]⟩ =pure (ps.zip us):=by(repeat intro _);exact rfl):Binds K fd ps []:=
 F.binds fun kV doc pm an cdv ct us hl=>Sy (b kV doc pm an cdv ct) us hl
structure DK (K:ak)(x:Str)(st:Stmt)(f:Addr)(fd:FuncData):Prop where
 F:Fun K x x st f fd
 a:PySem.W.nsIn K mainGlobals x=some (some (.ref f))
theorem DK.df(D:DK K x st f fd)(X:K.In h)(G:h.Ns mainGlobals mg)(b:∀ kV doc pm an cdv ct,Qn ps fun us=>bindArgs (PySem.W.fnOf x x (fD st) (bG st) (aa st) .none kV doc pm an cdv ct) ⟨us,[]⟩ =pure (ps.zip us):=by(repeat intro _);exact rfl):Df K mg x st ps f fd:=⟨D.F,fbn D.F b,PySem.W.mg_of X G D.a⟩
theorem cZ{oc:Value}{od an:Option Addr}{osl:Array (Option Value)}{kV doc pm cdv ct:Value}(a:PySem.W.nsIn K mainGlobals x=some (some (.ref f)))(l:K.lookup f=some ⟨oc,od,.func (PySem.W.fnOf x x (fD st) (bG st) (aa st) .none kV doc pm an cdv ct),osl⟩)
 (c:PySem.W.codeIn K cdv x=true) (k:PySem.W.keepIn K (.ref f)=true):∃ fd,DK K x st f fd:=⟨_,zR l c k,a⟩
structure MK (K:ak)(C:Addr)(m q:Str)(st:Stmt)(f:Addr)(fd:FuncData):Prop where
 F:Fun K m q st f fd
 a:PySem.W.findIn K (.ref C) m=some (some (.ref f))
 n:PySem.W.isFn K (.ref f)=true
theorem MK.mt(D:MK K C m q st f fd):Meth K C m f:=⟨D.a,D.n,D.F.kp⟩
theorem nP{oc:Value}{od an:Option Addr}{osl:Array (Option Value)}{kV doc pm cdv ct:Value}(a:PySem.W.findIn K (.ref C) m=some (some (.ref f)))(l:K.lookup f=some ⟨oc,od,.func (PySem.W.fnOf m q (fD st) (bG st) (aa st) .none kV doc pm an cdv ct),osl⟩)
 (c:PySem.W.codeIn K cdv q=true) (k:PySem.W.keepIn K (.ref f)=true) (n:PySem.W.isFn K (.ref f)=true):∃ fd,MK K C m q st f fd:=⟨_,zR l c k,a,n⟩
structure IK (K:ak)(C:Addr)(m q:Str)(st:Stmt)(f:Addr)(fd:FuncData):Prop where
 F:Fun K m q st f fd
 a:PySem.W.findIn K (.ref C) m=some (some (.ref f))
 n:PySem.W.typeIn K (.ref f)=some (.type "function")
theorem uR{oc:Value}{od an:Option Addr}{osl:Array (Option Value)}{kV doc pm cdv ct:Value}(a:PySem.W.findIn K (.ref C) m=some (some (.ref f)))(l:K.lookup f=some ⟨oc,od,.func (PySem.W.fnOf m q (fD st) (bG st) (aa st) .none kV doc pm an cdv ct),osl⟩)
 (c:PySem.W.codeIn K cdv q=true) (k:PySem.W.keepIn K (.ref f)=true) (n:PySem.W.typeIn K (.ref f)=some (.type "function")):∃ fd,IK K C m q st f fd:=⟨_,zR l c k,a,n⟩
section
variable{n q':Str}{N S:Addr}{bs sub:List Value}{sn:List Str}{ab:Bool}{col:Option Bool}{dd:Option Addr}{k0 k1 k2 k3 k5:Option Value}
theorem aef(o:K.lookup C=some (excClassObj n q' C N bs bmV true sn sub ab col dd k0 k1 k2 k3 k5 "ValueError.__new__"))(a:PySem.W.findIn K (.ref C) "__setattr__" =some (some (.builtin "object.__setattr__")))(g:PySem.W.findIn K (.ref C) "__getattribute__" =some (some (.builtin "BaseException.__getattribute__")))(e:PySem.W.findIn K (.ref C) "__getattr__" =some none):iD K C:=
 ⟨⟨n,q',N,bs,[],sn,sub,ab,col,dd,k0,k1,k2,k3,k5,o⟩,a,g,e⟩
structure XK1 (K:ak)(C S:Addr):Prop where
 X:iD K C
 k:PySem.W.keepIn K (.ref C)=true
 w:bM K C "word"
 s:qU K C S
theorem xW{cd:ClassData}(o:K.lookup C=some (excClassObj n q' C N bs (.ref S::bmV) true sn sub ab col dd k0 k1 k2 k3 k5 "ValueError.__new__"))(a:PySem.W.findIn K (.ref C) "__setattr__" =some (some (.builtin "object.__setattr__")))(g:PySem.W.findIn K (.ref C) "__getattribute__" =some (some (.builtin "BaseException.__getattribute__")))(e:PySem.W.findIn K (.ref C) "__getattr__" =some none)
 (k:PySem.W.keepIn K (.ref C)=true) (w:PySem.W.findIn K (.ref C) "word" =some none) (i:PySem.W.clsIn K C=some cd) (j:cd.mro.contains (.ref S)=true):XK1 K C S:=
 ⟨⟨⟨n,q',N,bs,[S],sn,sub,ab,col,dd,k0,k1,k2,k3,k5,o⟩,a,g,e⟩,k,w,cd,i,j⟩
end
end
end Ev
namespace Ev
open PySem PyProof.Rows L2
section
def afb(i:Int)(xs:List Int):Nat:=List.rec 0 (fun x _ r=>ifB (ieq x i) (r+1) r) xs
def acG(h:Hs)(a b:W):R W:=h.at a fun _ o=>o.onL fun xs=>Opt (xT xs) fun ns=>b.onI fun i=>.ok (.int (.ofNat (afb i ns))) h
def Pr.count:Pr:=⟨fun ws h=>jE ws (acG h)⟩
end
end Ev
namespace Ev
open PySem PySem.Spec PySem.SeqAt PyProof.Rows L2
section
variable{Pg:List Fn}{cl:Cn}{E:XK}{d:Nat}{X:Cx}{σ σ0:L2.St}{H H0:Hp}{ρ:List Addr}{h:Hs}
def Far(r:Addr)(H0 H:Hp)(ρ:List Addr):Prop:=∀ a u,a ≠ r->(∀ ps,u ≠ .tbl ps)->H0 a=some u->a ∉ ρ/\H a=some u
structure CT (cl:Cn)(n i:Nat)(kv:List (Nat × W))(os:List O)(r:Addr)(row:List V)(σ0:L2.St)(H0:Hp)(σ:L2.St)(H:Hp):Prop where
 len:σ.length=n
 z:σ[0]? =σ0[0]?
 at_:σ[i]? =some (some (.ref r))
 row:H r=some (.lst row)
 sim:∃ ρ,Sim cl ρ (heapOf os) H/\RS ρ (frm n kv) σ/\r ∉ ρ/\Far r H0 H ρ
theorem CT.in{n i:Nat}{kv:List (Nat × W)}{os:List O}{r:Addr}{row:List Int}(c:CT cl n i kv os r (row.map V.int) σ0 H0 σ H):∃ ρ,Sim cl (ρ ++ [r]) (heapOf (os ++ [.lst (row.map W.int)])) H/\RS (ρ ++ [r]) (frm n ((i,.ref os.length)::kv)) σ/\(ρ ++ [r])[os.length]? =some r/\Far r H0 H (ρ ++ [r]):=by
 obtain⟨ρ,s,rs,nr,fa⟩:=c.sim;have s2:=s.adopt (o:=.lst (row.map W.int)) nr ⟨_,rw_ints _ row,c.row⟩;rw[<- sO]at s2;have hl:ρ.length=os.length:=by rw[s.len,(jx os).1]
 have g:(ρ ++ [r])[os.length]? =some r:=by rw[<- hl,List.getElem?_append_right (aH _),Nat.sub_self];rfl
 have z:=(rs.mono (List.prefix_append ρ [r])).set (w:=.ref os.length) (v:=.ref r) (.ref g) i;rw[IW c.at_]at z;refine⟨ρ,s2,z,g,fun a u na nu eu=>?_⟩;obtain⟨n1,q⟩:=fa a u na nu eu;exact⟨fun y=>(List.mem_append.mp y).elim n1 fun y=>na (by simpa using y),q⟩
end
section
variable{Pg:List Fn}{cl:Cn}{E:XK}{d:Nat}{X:Cx}{σ σ0:L2.St}{H H':Hp}{ρ ρ' ρ2:List Addr}{h h2:Hs}
def KVs(ρ:List Addr)(kv:List (Nat × W))(σ:L2.St):Prop:=∀ j w,(j,w) ∈ kv->∃ v,σ[j]? =some (some v)/\RW ρ w v
structure C2 (cl:Cn)(n i:Nat)(kv:List (Nat × W))(os:List O)(kw:List (Nat × W))(ot:List O)(r:Addr)(row:List V)(σ:L2.St)(H:Hp):Prop where
 len:σ.length=n
 at_:σ[i]? =some (some (.ref r))
 row:H r=some (.lst row)
 sim:∃ ρ ρ2,Sim cl ρ (heapOf os) H/\KVs ρ kv σ/\r ∉ ρ/\Sim cl ρ2 (heapOf ot) H/\KVs ρ2 kw σ/\r ∉ ρ2/\∀ a ∈ ρ2,a ∉ ρ
end
theorem Dd(l:Addr)(y0 y1:Value)(n:Nat)(dd:Option Addr)(sl:Array (Option Value))(x:Value)(e0 e1:Bool)(hit:e0=true\/e1=true):
 Meets (Builtin.«tuple.index» ⟨[.ref l,x],[]⟩)
  (fun A R s=>s.heap.get? l=some { cls:=.type "tuple",dict:=dd,data:=.seq #[y0,y1] n,slots:=sl }/\EqAt A.in1 s y0 x e0/\EqAt A.in1 s y1 x e1/\R (.ok (.ret (.int (if e0 then 0 else 1) s.toks))) { s with toks:=s.toks+1 }):=
 .of_wp fun prog w A R s h=>by
  obtain⟨hp,g,d,tk,os⟩:=s;obtain⟨hl,he0,he1,h⟩:=h
  wp_walk using wpAny_loadPart' hl
  have hs:([:min #[y0,y1].size #[y0,y1].size]:Std.Legacy.Range).size=2:=by simp[Std.Legacy.Range.size]
  show wpAny (model prog w) A.in1 (forIn ([:min #[y0,y1].size #[y0,y1].size]:Std.Legacy.Range) ((none,()):Option PySem.Fin × Unit) fun(i:Nat) (_:Option PySem.Fin × Unit)=>match #[y0,y1][i]? with
   | some y=>do
     let b <- eqBool y x
     if b=true then do
      let v <- retInt (i:Int)
      pure (ForInStep.done (some v,()))
      else pure (ForInStep.yield (none,()))
   | _=>pure (ForInStep.yield (none,()))) _ _ _
  rw[Std.Legacy.Range.forIn_eq_forIn_range',hs];show wpAny (model prog w) A.in1 (forIn [0,1] _ _) _ _ _;rw[List.forIn_cons];refine wpAny_bind ?_;refine wpAny_bind (he0 prog w _ _ ?_)
  cases e0 with
  | true=>
    wp_walk
    exact⟨_,rfl,h⟩
  | false=>
    rw[if_neg (by decide)];refine wpAny_pure ?_;refine wpAny_bind ?_;refine wpAny_bind (he1 prog w _ _ ?_)
    cases e1 with
    | false=>simp at hit
    | true=>
      wp_walk
      exact⟨_,rfl,h⟩
section
def acH(tx:List (List Nat))(h:Hs)(a:W):R W:=Opt (eqF a a) fun _=>Opt (H9 a (tx.map W.str)) fun c=>.yes (!c) h
def Pr.ntx(tx:List (List Nat)):Pr:=⟨fun ws h=>iG ws (acH tx h)⟩
def acI(c0 c1:List Nat)(h:Hs)(a:W):R W:=W.elim a .no (fun _=>.no) (fun _=>.no) (fun c=>ifB (codes c0 c) (.ok (.int 0) h) (ifB (codes c1 c) (.ok (.int 1) h) .no)) (fun _=>.no)
def Pr.tix(c0 c1:List Nat):Pr:=⟨fun ws h=>iG ws (acI c0 c1 h)⟩
end
def TxK(K:ak)(g:Addr)(c0 c1:List Nat):Prop:=∃(t0 t1:Tok) (z:Nat) (sl:Array (Option Value)),K.lookup g=some ⟨.type "tuple",none,.seq #[.str (nm c0) t0,.str (nm c1) t1] z,sl⟩
theorem TxK.sq{K:ak}{g:Addr}{c0 c1:List Nat}(T:TxK K g c0 c1)(H:Hp):SqT K H g [.str (nm c0),.str (nm c1)]:=by
 obtain⟨t0,t1,z,sl,lk⟩:=T;exact .inr ⟨_,_,_,lk,rfl,rfl,(show 2<=sizeLine by decide),.cons ⟨_,rfl⟩ (.cons ⟨_,rfl⟩ .nil)⟩
section
variable{Pg:List Fn}{cl:Cn}{E:XK}{d:Nat}{X:Cx}{σ:L2.St}{H:Hp}
theorem aeg{K:ak}{g:Addr}{c0 c1:List Nat}(T:TxK K g c0 c1):Op1 cl (.ntx [c0,c1]) (fun x H Q=>rIn K true x (.ref g) H Q):=fun E ρ h H w1 v1 Q s r1 p=>by
 obtain⟨b,h0,p3⟩:=oR (show Post cl ρ H E (ofW (acH [c0,c1] h w1)) (VP Q) from p);obtain⟨c,hc,p4⟩:=oR p3;obtain⟨f1,_,_⟩:=Ii r1 r1 h0;obtain⟨g1,g2⟩:=CG r1 (vs:=[.str (nm c0),.str (nm c1)]) (.cons (.str c0) (.cons (.str c1) .nil)) hc;exact⟨g,_,rfl,.inr (T.sq H),f1,g1,Post.yes s p4 (by rw[g2];rfl)⟩
theorem acJ{K:ak}{g:Addr}{c0 c1:List Nat}(T:TxK K g c0 c1){a:Ev.X}{Q:VK}(x:tE Pg cl E d (.pr (.ntx [c0,c1]) [a]) σ H Q):tOp (rIn K true) (tE Pg cl E d a) (tC (.ref g)) σ H Q:=pJ (aeg T) x
theorem acK{x:Str}{g:Addr}{c0 c1:List Nat}{a:Expr}{xa:Ev.X}{p pos:Pos}(T:TxK X.K g c0 c1)(hg:Gl X x)(hm:X.mg x=some (.ref g))(ha:PE X a (tE Pg cl E d xa))(hmk:behindInMarks .NotIn (.Name x p)=false:=by rfl)(hd:(x==("__debug__":Str))=false:=by decide):
 PT X (.Compare a [.NotIn] [.Name x p] pos) (tT Pg cl E d (.pr (.ntx [c0,c1]) [xa])):=PT.of (mQ qQ ha (BW (v:=.ref g) hg hm rfl hd) hmk) fun _ _ _ q=>acJ T q
def afc(c0 c1:List Nat)(t:TE):TE:=fun σ H Q=>t σ H fun v H2=>(v= .str (nm c0)/\Q (.int 0) H2)\/(v= .str (nm c1)/\nm c0 ≠ nm c1/\Q (.int 1) H2)
theorem acL{x:Str}{g:Addr}{c0 c1:List Nat}{k:Expr}{t:TE}{p apos cpos:Pos}(T:TxK X.K g c0 c1)(hg:Gl X x)(hm:X.mg x=some (.ref g))(hk:PE X k t)(hxd:(x==("__debug__":Str))=false:=by decide)
 (hbase:attributeBase (.Name x p) "index" X.env (eval (.Name x p) X.env)=eval (.Name x p) X.env:=by rfl)
 (hfew:((backTo cpos (starEach [k] X.env)).all (fun x=> !x.1)&&(backToKw cpos (keywordEach [] X.env)).all (fun x=>x.1.isSome)
   && decide (([k]:List Expr).length+([]:List Keyword).length+(if([]:List Keyword).isEmpty then 0 else 1)<30))=true:=by rfl)
 (hline:(apos.endLine==cpos.line)=true:=by rfl) (hs:starEach [k] X.env=(false,eval k X.env)::starEach [] X.env:=by rfl):
 PE X (.Call (.Attribute (.Name x p) "index" apos) [k] [] cpos) (afc c0 c1 t):=by
 intro pins s σ H Q I h;obtain⟨t0,t1,z,sl,lk⟩:=T;refine wpAny_Call_method_late hbase hfew hline rfl (kE I hg hm ?_ hxd);have hob:=I.kIn _ _ lk;refine⟨"tuple","tuple.index",PySem.F.plainAttrs_tuple,PySem.F.slot_tuple_index,PySem.F.type_tuple_index,⟨_,hob,rfl⟩,fun a e=>by cases e;exact⟨_,hob,rfl⟩,?_⟩;rw[hs];refine Calls.callWith_builtin rfl (Calls.evalArgs_plain ?_);show wpAny _ _ (spliced ((false,eval k X.env)::backTo cpos (starEach [] X.env))) _ _ s;refine Calls.spliced_cons (thn (hk pins s σ H _ I h) fun u s1 ⟨v,H1,I1,rv,q⟩=>?_);refine Calls.spliced_nil ?_
 have key:∀(c:List Nat),v= .str (nm c)->(eqV (.str (nm c0)) (.str (nm c))=true\/eqV (.str (nm c1)) (.str (nm c))=true)->(∀ j:Int,j=(if eqV (.str (nm c0)) (.str (nm c)) then 0 else 1)->Q (.int j) H1)->wpAny (model X.prog X.w) X.A (call (.builtin "tuple.index") (.ref g::[u])) (EP X pins σ Q) X.xe s1:=fun c ev hit qq=>by
  subst ev;refine call_meets PySem.F.slot_tuple_index ⟨_,I1.kIn _ _ lk,rfl⟩ PySem.F.entry_tuple_index (PySem.F.args_tuple_index_2 _ _) (Dd g _ _ z none sl u _ _ hit) ⟨I1.kIn _ _ lk,HJ (y:=.str (nm c0)) ⟨_,rfl⟩ rv rfl rfl,HJ (y:=.str (nm c1)) ⟨_,rfl⟩ rv rfl rfl,?_⟩;exact⟨.int _,_,I1.tok _,⟨_,rfl⟩,qq _ rfl⟩
 have self:∀ c:List Nat,eqV (.str (nm c)) (.str (nm c))=true:=fun c=>by show(nm c==nm c)=true;exact beq_self_eq_true _
 rcases q with ⟨ev,q⟩ | ⟨ev,ne,q⟩
 · exact key c0 ev (.inl (self c0)) fun j ej=>by rw[ej,if_pos (self c0)];exact q
 · have nz:eqV (.str (nm c0)) (.str (nm c1))=false:=by show(nm c0==nm c1)=false;exact beq_eq_false_iff_ne.mpr ne
   exact key c1 ev (.inr (self c1)) fun j ej=>by rw[ej,if_neg (by rw[nz];decide)];exact q
theorem aeh{c0 c1:List Nat}:Op1 cl (.tix c0 c1) (fun v H2 Q=>(v= .str (nm c0)/\Q (.int 0) H2)\/(v= .str (nm c1)/\nm c0 ≠ nm c1/\Q (.int 1) H2)):=fun E ρ h H w1 v1 Q s r1 p=>by
 have p:Post cl ρ H E (ofW (acI c0 c1 h w1)) (VP Q):=p
 cases r1 with
 | str c=>
   have p:Post cl ρ H E (ofW (ifB (codes c0 c) (.ok (.int 0) h) (ifB (codes c1 c) (.ok (.int 1) h) .no))) (VP Q):=p
   cases z:codes c0 c with
   | true=>
     rw[z]at p;rw[bQ.mp z]
     exact .inl ⟨rfl,Post.eV s p (.int 0)⟩
   | false=>
     rw[z]at p;have p:Post cl ρ H E (ofW (ifB (codes c1 c) (.ok (.int 1) h) .no)) (VP Q):=p;obtain⟨e,p3⟩:=oIf p;have e2:=bQ.mp e;subst e2
     exact .inr ⟨rfl,(fun q=>by rw[bQ.mpr (pI q)]at z;cases z),Post.eV s p3 (.int 1)⟩
 | _=>exact p.elim
theorem acM{x:Str}{g:Addr}{c0 c1:List Nat}{k:Expr}{xk:Ev.X}{p apos cpos:Pos}(T:TxK X.K g c0 c1)(hg:Gl X x)(hm:X.mg x=some (.ref g))(hk:PE X k (tE Pg cl E d xk))(hxd:(x==("__debug__":Str))=false:=by decide)
 (hbase:attributeBase (.Name x p) "index" X.env (eval (.Name x p) X.env)=eval (.Name x p) X.env:=by rfl)
 (hfew:((backTo cpos (starEach [k] X.env)).all (fun x=> !x.1)&&(backToKw cpos (keywordEach [] X.env)).all (fun x=>x.1.isSome)
   && decide (([k]:List Expr).length+([]:List Keyword).length+(if([]:List Keyword).isEmpty then 0 else 1)<30))=true:=by rfl)
 (hline:(apos.endLine==cpos.line)=true:=by rfl) (hs:starEach [k] X.env=(false,eval k X.env)::starEach [] X.env:=by rfl):
 PE X (.Call (.Attribute (.Name x p) "index" apos) [k] [] cpos) (tE Pg cl E d (.pr (.tix c0 c1) [xk])):=PE.of (acL T hg hm hk hxd hbase hfew hline hs) fun _ _ _ q=>pJ aeh q
end
section
variable{Pg:List Fn}{cl:Cn}{E:XK}{d:Nat}{X:Cx}{σ:L2.St}{H:Hp}{ρ:List Addr}
abbrev afd(Pg:List Fn)(cl:Cn)(E:XK)(d:Nat)(cs:List (List Nat))(es:List Ev.X):List (TE × TE):=List.zipWith (fun c e=>(tE Pg cl E d (.cst (.str c)),tE Pg cl E d e)) cs es
end
end Ev
namespace Ev
open PySem L2
section
variable{Pg:List Fn}{cl:Cn}{E:XK}{d:Nat}{X:Cx}
structure QPs (X:Cx)(pos:Pos)(keys:List (Option Expr))(values:List Expr)(Pg:List Fn)(cl:Cn)(E:XK)(d:Nat)(cs:List (List Nat))(es:List Ev.X):Prop where
 h:PPs X pos keys values (afd Pg cl E d cs es)
end
end Ev
namespace L2
open PySem PySem.Spec PySem.SeqAt PyProof.Rows
def Jl(X:Cx)(N':List Str)(sc:Scope)(y:Str)(C:Addr)(s₀:Shared)(H₀:Hp)(fp:List Addr):Cx:=
 { X with N:=N',s₀:=s₀,H₀:=H₀,env:=compEnvC sc ((y,C+1)::gk X.env.cells sc.names []) C X.env,outer:=X.stack,ex:=fp,fn:=fun x=>x==y,pn:=[],xe:=fun _ _=>False }
structure afz (X:Cx)(N':List Str)(sc:Scope)(nt:Nat)(idx:List Nat)(y:Str):Prop where
 kind:sc.kind= .function
 cf:∀ n acc,cellsFrom n sc.names acc=(y,n)::acc
 pc:∀ h,pushCells h sc.names=h.push { cls:=.type "cell",data:=.cell none }
 nc:∀ z ∈ sc.names,z.2= .cell->z.1=y
 nf:∀ z ∈ sc.names,z.2= .free->z.1 ≠ y
 loc:∀ y ∈ sc.names,y.2= .local->sc.names.lookup y.1=some .local
 fr:∀ y ∈ sc.names,y.2= .free->X.env.kindOf y.1=some .cell\/X.env.kindOf y.1=some .free
 len:nt+idx.length=N'.length
 ix:∀ p ∈ idx.zip (N'.drop nt),X.N[p.1]? =some p.2/\sc.names.lookup p.2=some .free
section
variable{X:Cx}{N':List Str}{sc:Scope}{yc:Str}{nt:Nat}{idx:List Nat}{elt tg iter:Expr}{ifs:List Expr}{gs:List Comprehension}{pos:Pos}{wi:TI}{g:TG}{tif:TT}{tin:Addr->TN}
structure afw (X:Cx)(N':List Str)(sc:Scope)(yc:Str)(elt tg iter:Expr)(ifs:List Expr)(gs:List Comprehension)(pos:Pos)(g:TG)(tif:TT)(tin:Addr->TN):Prop where
 ok:∀(C:Addr) (s₀:Shared) (H₀:Hp) (fp:List Addr) (D it:Addr),∃ inner:Sem Unit,
  compTurn (.ListComp elt (⟨tg,iter,ifs,0⟩::gs) sc pos) 0 (.ref it) (.ref D) (Jl X N' sc yc C s₀ H₀ fp).env=jU (.ListComp elt (⟨tg,iter,ifs,0⟩::gs) sc pos) 0 (.ref it) (.ref D) (Jl X N' sc yc C s₀ H₀ fp).env tg ifs iter.pos inner/\
  PG (Jl X N' sc yc C s₀ H₀ fp) tg g/\PTs (Jl X N' sc yc C s₀ H₀ fp) ifs tif/\PN (Jl X N' sc yc C s₀ H₀ fp) inner (tin D)
end
end L2
namespace Ev
section
def okQ{α:Type}(r:R α)(Q:α->Hs->Prop):Prop:=R.rec Q (fun _ _ _=>False) False r
def aF(Q:Fl->Hs->Prop)(a:A)(h:Hs):Prop:=A.rec (fun _=>False) (fun _=>False) (fun _=>False) (fun w=>Q w h) False a
def w1(s:S)(K:Ks)(n:Nat)(τ:Sg)(h:Hs)(Q:Fl->Hs->Prop):Prop:=okQ (s.f K n τ h) (aF Q)
end
mutual
def Rd(h:Hs)(A:Nat->Prop):D->W->Prop
 | .non,w=>w= .non
 | .bl b,w=>w= .bl b
 | .int i,w=>w= .int i
 | .str c,w=>w= .str c
 | .lst ds,w=>∃ p ws,w= .ref p/\p<h.n/\A p/\h.get p=some (.lst ws)/\Rds h A ds ws
 | .tup ds,w=>∃ p ws,w= .ref p/\p<h.n/\A p/\h.get p=some (.tup ws)/\Rds h A ds ws
def Rds(h:Hs)(A:Nat->Prop):List D->List W->Prop
 | [],ws=>ws= []
 | d::ds,ws=>∃ w r,ws=w::r/\Rd h A d w/\Rds h A ds r
end
mutual
theorem Rd.to{h h':Hs}{A A':Nat->Prop}(n:h.n<=h'.n)(x:∀ k,k<h.n->A k->h'.get k=h.get k/\A' k):∀(d:D) (w:W),Rd h A d w->Rd h' A' d w
 | .non,_,z | .bl _,_,z | .int _,_,z | .str _,_,z=>by simpa [Rd] using z
 | .lst ds,w,z=>by
   simp only[Rd]at z ⊢;obtain⟨p,ws,e,l,a,g,r⟩:=z
   exact⟨p,ws,e,cR l n,(x p l a).2,(x p l a).1.trans g,Rds.to n x ds ws r⟩
 | .tup ds,w,z=>by
   simp only[Rd]at z ⊢;obtain⟨p,ws,e,l,a,g,r⟩:=z;exact⟨p,ws,e,cR l n,(x p l a).2,(x p l a).1.trans g,Rds.to n x ds ws r⟩
theorem Rds.to{h h':Hs}{A A':Nat->Prop}(n:h.n<=h'.n)(x:∀ k,k<h.n->A k->h'.get k=h.get k/\A' k):∀(ds:List D) (ws:List W),Rds h A ds ws->Rds h' A' ds ws
 | [],_,z=>by simpa [Rds] using z
 | d::ds,ws,z=>by
   simp only[Rds]at z ⊢;obtain⟨w,r,e,a,b⟩:=z;exact⟨w,r,e,Rd.to n x d w a,Rds.to n x ds r b⟩
end
mutual
def De:D->Nat
 | .lst ds | .tup ds=>Hg ds+1
 | _=>1
def Hg:List D->Nat
 | []=>0
 | d::ds=>max (De d) (Hg ds)
end
section
mutual
def okD:D->Bool
 | .str c=>okC c
 | .lst ds | .tup ds=>Ph ds
 | _=>true
def Ph:List D->Bool
 | []=>true
 | d::ds=>okD d&&Ph ds
end
end
mutual
theorem acN{h:Hs}{A:Nat->Prop}:∀(d:D) (w:W) (k:Nat),Rd h A d w->De d<=k->okD d=true->toD h k w=some d
 | .non,w,0,z,l,_ | .bl _,w,0,z,l,_ | .int _,w,0,z,l,_ | .str _,w,0,z,l,_=>by simp[De]at l
 | .lst _,w,0,z,l,_ | .tup _,w,0,z,l,_=>by simp[De]at l
 | .non,w,k+1,z,_,_=>by simp only[Rd]at z;subst z;rfl
 | .bl _,w,k+1,z,_,_=>by simp only[Rd]at z;subst z;rfl
 | .int _,w,k+1,z,_,_=>by simp only[Rd]at z;subst z;rfl
 | .str c,w,k+1,z,_,o=>by
   simp only[Rd]at z;subst z;have o:okC c=true:=by simpa [okD] using o
   show ifB (okC c) (some (D.str c)) none=_
   rw[o];rfl
 | .lst ds,w,k+1,z,l,o=>by
   simp only[Rd]at z;obtain⟨p,ws,rfl,_,_,g,r⟩:=z;have e:=Dg ds ws k r (by simpa [De] using l) (by simpa [okD] using o);show Option.rec (motive:=fun _=>Option D) none (fun o=>O.rec (motive:=fun _=>Option D) (fun xs=>Option.rec (motive:=fun _=>Option D) none (fun ds=>some (D.tup ds)) (jF (toD h k) xs)) (fun xs=>Option.rec (motive:=fun _=>Option D) none (fun ds=>some (D.lst ds)) (jF (toD h k) xs)) (fun _ _=>none) (fun _=>none) (fun _=>none) (fun _=>none) o) (h.get p)=_;rw[g];show Option.rec (motive:=fun _=>Option D) none (fun ds=>some (D.lst ds)) (jF (toD h k) ws)=_
   rw[e]
 | .tup ds,w,k+1,z,l,o=>by
   simp only[Rd]at z;obtain⟨p,ws,rfl,_,_,g,r⟩:=z;have e:=Dg ds ws k r (by simpa [De] using l) (by simpa [okD] using o);show Option.rec (motive:=fun _=>Option D) none (fun o=>O.rec (motive:=fun _=>Option D) (fun xs=>Option.rec (motive:=fun _=>Option D) none (fun ds=>some (D.tup ds)) (jF (toD h k) xs)) (fun xs=>Option.rec (motive:=fun _=>Option D) none (fun ds=>some (D.lst ds)) (jF (toD h k) xs)) (fun _ _=>none) (fun _=>none) (fun _=>none) (fun _=>none) o) (h.get p)=_;rw[g];show Option.rec (motive:=fun _=>Option D) none (fun ds=>some (D.tup ds)) (jF (toD h k) ws)=_;rw[e]
theorem Dg{h:Hs}{A:Nat->Prop}:∀(ds:List D) (ws:List W) (k:Nat),Rds h A ds ws->Hg ds<=k->Ph ds=true->jF (toD h k) ws=some ds
 | [],ws,k,z,_,_=>by simp only[Rds]at z;subst z;rfl
 | d::ds,ws,k,z,l,o=>by
   simp only[Rds]at z;obtain⟨w,r,rfl,a,b⟩:=z;simp only[Hg,Ph,Bool.and_eq_true]at l o;have e1:=acN d w k a (by omega) o.1;have e2:=Dg ds r k b (by omega) o.2;show Option.rec (motive:=fun _=>Option (List D)) none (fun d=>Option.rec (motive:=fun _=>Option (List D)) none (fun ds=>some (d::ds)) (jF (toD h k) r)) (toD h k w)=_;rw[e1];show Option.rec (motive:=fun _=>Option (List D)) none (fun ds=>some (d::ds)) (jF (toD h k) r)=_;rw[e2]
end
mutual
theorem SJ:∀ d:D,lE d d=true
 | .non=>by simp[lE]
 | .bl b=>by simp[lE]
 | .int i=>by simp[lE,jW]
 | .str c=>by simp[lE,bQ.mpr]
 | .lst ds=>by simp[lE,wL ds]
 | .tup ds=>by simp[lE,wL ds]
theorem wL:∀ ds:List D,sJ ds ds=true
 | []=>by simp[sJ]
 | d::ds=>by simp[sJ,SJ d,wL ds]
end
mutual
theorem Pj:∀ d:D,iu d d=true
 | .non=>by simp[iu]
 | .bl b=>by simp[iu]
 | .int i=>by simp[iu,jW]
 | .str c=>by simp[iu,bQ.mpr]
 | .lst ds=>by simp[iu,sS ds]
 | .tup ds=>by simp[iu,sS ds]
theorem sS:∀ ds:List D,lO ds ds=true
 | []=>by simp[lO]
 | d::ds=>by simp[lO,Pj d,sS ds]
end
end Ev
namespace Ev
open PySem PySem.Spec PySem.SeqAt PyProof.Rows L2
section
def erase(xs:List W):Nat->List W:=List.rec (fun _=>[]) (fun x r ih k=>Nat.rec r (fun k _=>x::ih k) k) xs
end
section
def Hh(ws:List W):Bool:=List.rec true (fun w _ r=>ifB (wC w) r false) ws
def Dh(a:List W):List W->Bool:=List.rec (fun b=>List.rec true (fun _ _ _=>false) b) (fun x _ ih b=>List.rec false (fun y r _=>ifB (keq x y) (ih r) false) b) a
end
section
variable{ρ:List Addr}
theorem SM:∀ {ks:List W} {vs:List V},Hh ks=true->RWs ρ ks vs->∃ k,Paired KW ks k/\vs=k.map kV
 | [],_,_,.nil=>⟨[],.nil,rfl⟩
 | w::ks,_,e,.cons r t=>by
   obtain⟨e1,e2⟩:=gR (show ifB (wC w) (Hh ks) false=true from e);obtain⟨k,h1,rfl⟩:=O9 e1 r;obtain⟨l,h2,rfl⟩:=SM e2 t;exact⟨k::l,.cons h1 h2,rfl⟩
theorem MF:∀ {a b:List W} {k l:List Key},Paired KW a k->Paired KW b l->Dh a b=decide (k=l)
 | _,_,_,_,.nil,.nil=>rfl
 | _,_,_,_,.nil,.cons _ _=>by simp[Dh]
 | _,_,_,_,.cons _ _,.nil=>by simp[Dh]
 | x::a,y::b,k::ks,l::ls,.cons r t,.cons r' t'=>by
   show ifB (keq x y) (Dh a b) false=_;rw[Jd r r',MF t t']
   by_cases c:k=l
   · subst c;by_cases c2:ks=ls <;> simp[ifB,c2]
   · rw[decide_eq_false c];simp[ifB,c]
end
section
variable{Pg:List Fn}{cl:Cn}{E:XK}{d:Nat}{X:Cx}{σ σ0:L2.St}{H:Hp}
theorem oTu{ρ:List Addr}{o:O}{f:List W->R W}{P:A->Hs->List Addr->Hp->Prop}(p:Post cl ρ H E (ofW (o.onT f)) P):∃ xs,o= .tup xs/\Post cl ρ H E (ofW (f xs)) P:=by
 cases o with
 | tup xs=>exact⟨xs,rfl,p⟩
 | _=>exact p.elim
end
section
def W.onS{β:Type}(w:W)(f:List Nat->R β):R β:=W.rec .no (fun _=>.no) (fun _=>.no) f (fun _=>.no) w
def aei(xs:List W):Option (List (List Nat)):=List.rec (some []) (fun x _ r=>W.elim x none (fun _=>none) (fun _=>none) (fun c=>Option.rec none (fun cs=>some (c::cs)) r) (fun _=>none)) xs
def acO(cs:List (List Nat)):Nat:=List.rec 0 (fun c _ r=>len c+r) cs
def aej(z:List Nat)(cs:List (List Nat)):List Nat:=(PySem.Txt.join (nm z) (cs.map nm)).cps.toList
def aek(z:List Nat)(h:Hs)(a:W):R W:=h.at a fun _ o=>o.onL fun xs=>Opt (aei xs) fun cs=>ifB (Nat.ble (acO cs+len cs*len z) 16777216) (.ok (.str (aej z cs)) h) .no
def Pr.join(z:List Nat):Pr:=⟨fun ws h=>iG ws (aek z h)⟩
end
section
def O.onC{β:Type}(o:O)(f:List Int->R β):R β:=O.rec (fun _=>.no) (fun _=>.no) (fun _ _=>.no) (fun _=>.no) (fun _=>.no) f o
def ael(ns:List Int)(k:Int):Int:=if k<(ns.length:Int) then ns.getD k.toNat 0 else if ns.length=0 then 7919*k else ns.getD (k % (ns.length:Int)).toNat 0+104729*k
def aem(h:Hs)(a b:W):R W:=h.at a fun _ o=>o.onC fun ns=>b.onI fun k=>ifB (ilt (-1) k) (ifB (Nat.ble (len ns) 63) (.ok (.int (ael ns k)) h) .no) .no
def Pr.cell:Pr:=⟨fun ws h=>jE ws (aem h)⟩
end
def Up(xs:Array Nat):Prop:=xs.toList.Pairwise (· < ·)
theorem getD_at{xs:Array Nat}{i d:Nat}(l:i<xs.size):xs.getD i d=xs.toList[i]'(by simpa using l):=by
 simp[Array.getD,l]
theorem Ye{xs:Array Nat}(u:Up xs){i j:Nat}(l:i<j)(lj:j<xs.size):xs.toList[i]'(by simp;omega)<xs.toList[j]'(by simpa using lj):=List.pairwise_iff_getElem.mp u i j _ _ l
theorem bgo{xs:Array Nat}(u:Up xs)(j:Nat):∀(fuel lo hi:Nat),lo<=hi->hi<=xs.size->hi<=lo+fuel->(∀ i (l:i<xs.size),i<lo->xs.toList[i]'(by simpa using l)<j)->(∀ i (l:i<xs.size),hi<=i->j<=xs.toList[i]'(by simpa using l))->
 SetTable.below.go xs j fuel lo hi<=xs.size/\(∀ i (l:i<xs.size),i<SetTable.below.go xs j fuel lo hi->xs.toList[i]'(by simpa using l)<j)/\(∀ i (l:i<xs.size),SetTable.below.go xs j fuel lo hi<=i->j<=xs.toList[i]'(by simpa using l))
 | 0,lo,hi,a,b,c,d,e=>by
   have:lo=hi:=by omega
   subst this
   exact⟨b,d,e⟩
 | fuel+1,lo,hi,a,b,c,d,e=>by
   unfold SetTable.below.go
   by_cases z:lo<hi
   · rw[if_pos z];have lm:(lo+hi) / 2<xs.size:=by omega
     dsimp only;rw[getD_at lm]
     by_cases y:xs.toList[(lo+hi) / 2]'(by simpa using lm)<j
     · rw[if_pos y];refine bgo u j fuel _ hi (by omega) b (by omega) (fun i l li=>?_) e
       by_cases q:i=(lo+hi) / 2
       · subst q;exact y
       · exact Nat.lt_trans (Ye u (show i<(lo+hi) / 2 by omega) lm) y
     · rw[if_neg y];refine bgo u j fuel lo _ (by omega) (by omega) (by omega) d fun i l li=>?_
       by_cases q:i=(lo+hi) / 2
       · subst q;omega
       · have:=Ye u (show(lo+hi) / 2<i by omega) l;omega
   · rw[if_neg z];have:lo=hi:=by omega
     subst this;exact⟨b,d,e⟩
theorem WX{xs:Array Nat}(u:Up xs)(j:Nat):SetTable.below xs j<=xs.size/\(∀ a ∈ xs.toList.take (SetTable.below xs j),a<j)/\∀ a ∈ xs.toList.drop (SetTable.below xs j),j<=a:=by
 have z:=bgo u j xs.size 0 xs.size (by omega) (by omega) (by omega) (fun i l h=>absurd h (by omega)) (fun i l h=>absurd h (by omega));refine⟨z.1,fun a m=>?_,fun a m=>?_⟩
 · obtain⟨i,hi,rfl⟩:=List.mem_iff_getElem.mp m;rw[List.length_take]at hi;have hi1:i<SetTable.below xs j:=by omega
   have hi2:i<xs.size:=by have:=hi;simp at this;omega
   rw[List.getElem_take];exact z.2.1 i hi2 hi1
 · obtain⟨i,hi,rfl⟩:=List.mem_iff_getElem.mp m;rw[List.length_drop]at hi;have hi2:SetTable.below xs j+i<xs.size:=by simp at hi;omega
   rw[List.getElem_drop];exact z.2.2 _ hi2 (Nat.le_add_right _ _)
theorem y_{α:Type}(xs:Array α)(p:Nat)(x:α):(SetTable.insertAt xs p x).toList=xs.toList.take p++x::xs.toList.drop p:=by
 unfold SetTable.insertAt;simp[List.take_of_length_le]
theorem acP{t:SetTable}{j:Nat}(u:Up t.place)(n:t.place[SetTable.below t.place j]? ≠ some j):Up (t.put j).1.place:=by
 show Up (SetTable.insertAt t.place (SetTable.below t.place j) j);obtain⟨a,b,c⟩:=WX u j;unfold Up;rw[y_];have u':(t.place.toList.take (SetTable.below t.place j)++t.place.toList.drop (SetTable.below t.place j)).Pairwise (· < ·):=by rw[List.take_append_drop];exact u
 obtain⟨u1,u2,u3⟩:=List.pairwise_append.mp u'
 have c':∀ y ∈ t.place.toList.drop (SetTable.below t.place j),j<y:=fun y m=>by
  have h1:=c y m;refine Nat.lt_of_le_of_ne h1 fun e=>?_;subst e
  cases hd:t.place.toList.drop (SetTable.below t.place j) with
  | nil=>rw[hd]at m;cases m
  | cons z zs=>
    have hz:t.place[SetTable.below t.place j]? =some z:=by
     rw[<- Array.getElem?_toList,<- List.head?_drop,hd];rfl
    rw[hd]at m u2
    rcases List.mem_cons.mp m with e | e
    · subst e;exact n hz
    · have h2:=(List.pairwise_cons.mp u2).1 _ e;have h3:=c z (by rw[hd];exact List.mem_cons_self ..);omega
 refine List.pairwise_append.mpr ⟨u1,List.pairwise_cons.mpr ⟨c',u2⟩,fun x mx y my=>?_⟩
 rcases List.mem_cons.mp my with e | e
 · subst e;exact b x mx
 · exact u3 x mx y e
theorem WY{t:SetTable}{j:Nat}(h:∀ i,t.slot j ≠ .live i):t.place[SetTable.below t.place j]? ≠ some j:=fun e=>by
 unfold SetTable.slot at h;dsimp only at h;rw[e]at h;simp at h
def byT(w:World):Bool:=w.params.followText "set-order"
abbrev lQ(w:World):Obj:={ cls:=.type "set",dict:=none,data:=.set #[] 0 (.fresh 0 0 (!byT w)) }
section
variable{prog:Program}{w:World}{A:Around}{E:Value->Shared->Prop}{s:Shared}
theorem W0(a:Value){Q:Value->Shared->Prop}(h:Q (.ref s.heap.objs.size) { s with heap:=s.heap.push (lQ w) }):codeAny (model prog w) A (PySem.Code.call (PySem.Value.builtin "set.__new__") ⟨[.type "set",a],[]⟩) (PySem.wants Q E) s:=by
 refine codeAny_of_tree ?_;show wpAny _ A.in1 (do checkBuiltinCall "set.__new__" ⟨[.type "set",a],[]⟩;PySem.again (.builtin "set.__new__" ⟨[.type "set",a],[]⟩)) _ _ s;refine wpAny_bind (wpAny_of_eq (F.newCall_set_1 a) (wpAny_pure ⟨plainId_quiet F.plain_set_new _,codeAny_builtin F.entry_set_new ?_⟩));rw[Around.under_plainId F.plain_set_new _];unfold Builtin.«set.__new__» Builtin.Frozenset.newClass;have hsub:=sub_set_self;obtain⟨hp,g,d,tk,os⟩:=s;dsimp only
 wp_walk
 refine wpAny_askSetting (wpAny_pure ?_);dsimp only;simp only[newObj];exact wpAny_bind (wpAny_alloc (wpAny_pure (wpAny_pure h)))
end
section
def ixZ(i:Int)(xs:List Int):Nat:=List.rec 0 (fun x _ r=>ifB (ieq x i) 0 (r+1)) xs
def acQ(h:Hs)(a b:W):R W:=h.at a fun _ o=>o.onL fun xs=>ifB (Nat.ble (len xs) 1000) (Opt (xT xs) fun ns=>b.onI fun i=>ifB (uL i ns) (.ok (.int (.ofNat (ixZ i ns))) h) .no) .no
def Pr.index:Pr:=⟨fun ws h=>jE ws (acQ h)⟩
end
abbrev wM(m:Nat):Prop:=m=7\/m=31
def adv(t:SetTable):Nat->SetTable.Probe->SetTable.Probe
 | 0,p=>p
 | k+1,p=>adv t k (t.advance p)
theorem Di(t:SetTable):∀(a b:Nat) (p:SetTable.Probe),adv t (a+b) p=adv t b (adv t a p)
 | 0,b,p=>by rw[Nat.zero_add];rfl
 | a+1,b,p=>by rw[Nat.add_right_comm];exact Di t a b _
theorem wN(t:SetTable):∀(k:Nat) (p:SetTable.Probe),(adv t k p).dummy=p.dummy
 | 0,p=>rfl
 | k+1,p=>by
   show(adv t k (t.advance p)).dummy=_;rw[wN t k];unfold SetTable.advance;split <;> rfl
structure ur (m:Nat)(p:SetTable.Probe)(i pe:Nat):Prop where
 fj:p.j=i
 fi:p.i=i
 fpe:p.perturb=pe
 fmo:p.more=SetTable.runEnd m i - i
theorem acR(m i:Nat):SetTable.runEnd m i - i<=9:=by
 unfold SetTable.runEnd;split <;> omega
theorem MJ{t:SetTable}:∀(r:Nat) (p:SetTable.Probe),p.more=r->ur t.mask (adv t (r+1) p) (SetTable.leap t.mask p.i p.perturb).1 (SetTable.leap t.mask p.i p.perturb).2
 | 0,p,e=>by
   have:t.advance p= { p with j:=(SetTable.leap t.mask p.i p.perturb).1,more:=SetTable.runEnd t.mask (SetTable.leap t.mask p.i p.perturb).1 - (SetTable.leap t.mask p.i p.perturb).1,i:=(SetTable.leap t.mask p.i p.perturb).1,perturb:=(SetTable.leap t.mask p.i p.perturb).2 }:=by
    unfold SetTable.advance;rw[if_neg (by omega)]
   show ur t.mask (t.advance p) _ _;rw[this]
   exact⟨rfl,rfl,rfl,rfl⟩
 | r+1,p,e=>by
   have:t.advance p= { p with j:=p.j+1,more:=p.more - 1 }:=by
    unfold SetTable.advance;rw[if_pos (by omega)]
   show ur t.mask (adv t (r+1) (t.advance p)) _ _;have z:=MJ (t:=t) r (t.advance p) (by rw[this];show p.more - 1=r;omega);rw[this]at z ⊢;exact z
def lps(m:Nat):Nat->Nat × Nat->Nat × Nat
 | 0,x=>x
 | q+1,x=>lps m q (SetTable.leap m x.1 x.2)
theorem Yg{t:SetTable}:∀(q:Nat) (p:SetTable.Probe) (i pe:Nat),ur t.mask p i pe->∃ k,k<=10*q/\ur t.mask (adv t k p) (lps t.mask q (i,pe)).1 (lps t.mask q (i,pe)).2
 | 0,p,i,pe,a=>⟨0,aH _,a⟩
 | q+1,p,i,pe,a=>by
   have z:=MJ (t:=t) p.more p rfl;rw[a.fi,a.fpe]at z;obtain⟨k,lk,b⟩:=Yg q _ _ _ z;have r:=acR t.mask i;have m:=a.fmo;refine⟨p.more+1+k,by omega,?_⟩;rw[Di];exact b
theorem MN(m:Nat):∀(a b:Nat) (x:Nat × Nat),lps m (a+b) x=lps m b (lps m a x)
 | 0,b,x=>by rw[Nat.zero_add];rfl
 | a+1,b,x=>by rw[Nat.add_right_comm];exact MN m a b _
theorem SN(m:Nat):∀(q:Nat) (x:Nat × Nat),(lps m q x).2=x.2 / 32 ^ q
 | 0,x=>by rw[Nat.pow_zero,Nat.div_one];rfl
 | q+1,x=>by
   show(lps m q (SetTable.leap m x.1 x.2)).2=_;rw[SN m q];show x.2 / 32 / 32 ^ q=_;rw[Nat.div_div_eq_div_mul,Nat.pow_succ,Nat.mul_comm]
theorem SQ(m:Nat):∀(q:Nat) (x:Nat × Nat),x.1<=m->(lps m q x).1<=m
 | 0,x,h=>h
 | q+1,x,h=>SQ m q _ (by show(x.1*5+1+x.2 / 32) % (m+1)<=m;have:=Nat.mod_lt (x.1*5+1+x.2 / 32) (show 0<m+1 by omega);omega)
def lcg(m:Nat):Nat->Nat->Nat
 | 0,i=>i
 | r+1,i=>lcg m r ((i*5+1) % (m+1))
theorem MP(m:Nat):∀(r i:Nat),(lps m r (i,0))=(lcg m r i,0)
 | 0,i=>rfl
 | r+1,i=>by
   show lps m r (SetTable.leap m i 0)=_;have:SetTable.leap m i 0=((i*5+1) % (m+1),0):=by unfold SetTable.leap;simp
   rw[this,MP m r];rfl
theorem afe:∀ a,a<8->∀ e,e<8->∃ r,r<8/\lcg 7 r a=e:=by decide +kernel
theorem aen:∀ a,a<32->∀ e,e<32->∃ r,r<32/\lcg 31 r a=e:=by decide +kernel
theorem Zu{m:Nat}(h:wM m){a e:Nat}(la:a<=m)(le:e<=m):∃ r,r<=m/\lcg m r a=e:=by
 rcases h with rfl | rfl
 · obtain⟨r,l,z⟩:=afe a (by omega) e (by omega);exact⟨r,by omega,z⟩
 · obtain⟨r,l,z⟩:=aen a (by omega) e (by omega);exact⟨r,by omega,z⟩
theorem MT{m:Nat}(h:wM m){i pe e:Nat}(li:i<=m)(lp:pe<2 ^ 64)(le:e<=m):∃ q,q<=13+m/\(lps m q (i,pe)).1=e:=by
 have z:(lps m 13 (i,pe)).2=0:=by
  rw[SN];exact Nat.div_eq_of_lt (cR lp (by decide))
 have l:=SQ m 13 (i,pe) li;generalize hx:lps m 13 (i,pe)=x at z l;obtain⟨x1,x2⟩:=x;have z:x2=0:=z;subst z;obtain⟨r,lr,er⟩:=Zu h l le;refine⟨13+r,by omega,?_⟩;rw[MN,hx,MP,er]
theorem M3(h:Int):SetTable.bits h<2 ^ 64:=by
 unfold SetTable.bits;have a:=Int.emod_nonneg h (show(2 ^ 64:Int) ≠ 0 by decide);have b:=Int.emod_lt_of_pos h (show(0:Int)<2 ^ 64 by decide);omega
theorem SX{t:SetTable}(hm:wM t.mask)(h:Int){e:Nat}(le:e<=t.mask):∃ k,k<=10*(13+t.mask)/\(adv t k (t.probeStart h)).j=e:=by
 have a:ur t.mask (t.probeStart h) (SetTable.bits h % (t.mask+1)) (SetTable.bits h):=⟨rfl,rfl,rfl,rfl⟩;have li:SetTable.bits h % (t.mask+1)<=t.mask:=by have:=Nat.mod_lt (SetTable.bits h) (show 0<t.mask+1 by omega);omega
 obtain⟨q,lq,eq⟩:=MT hm li (M3 h) le;obtain⟨k,lk,b⟩:=Yg q _ _ _ a;exact⟨k,by omega,b.fj.trans eq⟩
theorem pgo{t:SetTable}{ha:Nat->Int}{h:Int}(hd:∀ j,t.slot j ≠ .dummy):∀(F k:Nat) (p:SetTable.Probe),t.slot (adv t k p).j= .empty->k<F->p.dummy=none->
 (∃ j,SetTable.probe.go t ha h F p=some (.empty j none)/\t.slot j= .empty)\/∃ m i,m<k/\t.slot (adv t m p).j= .live i/\SetTable.probe.go t ha h F p=some (.candidate (adv t m p).j i (adv t (m+1) p))
 | 0,k,p,_,l,_=>absurd l (by omega)
 | F+1,k,p,e,l,d=>by
   unfold SetTable.probe.go
   cases hs:t.slot p.j with
   | empty=>exact .inl ⟨p.j,by rw[d],hs⟩
   | dummy=>exact absurd hs (hd _)
   | live i=>
     dsimp only;have k0:k ≠ 0:=fun z=>by subst z;have e:t.slot p.j= .empty:=e;rw[hs]at e;cases e
     obtain⟨k,rfl⟩:=Nat.exists_eq_succ_of_ne_zero k0
     by_cases c:(ha i==h)=true
     · rw[if_pos c];exact .inr ⟨0,i,by omega,hs,rfl⟩
     · rw[if_neg c];have ad:(t.advance p).dummy=none:=by have:=wN t 1 p;rw[d]at this;exact this
       rcases pgo (ha:=ha) (h:=h) hd F k (t.advance p) e (by omega) ad with z | ⟨m,i',lm,z1,z2⟩
       · exact .inl z
       · exact .inr ⟨m+1,i',by omega,z1,z2⟩
theorem slot_of{t:SetTable}(u:Up t.place)(d0:t.dummies= #[])(j:Nat):(∀ i,t.slot j= .live i->t.place[i]? =some j)/\(j ∉ t.place.toList->t.slot j= .empty)/\t.slot j ≠ .dummy:=by
 unfold SetTable.slot;have hh:SetTable.has t.dummies j=false:=by rw[d0];rfl
 dsimp only
 by_cases c:(t.place[SetTable.below t.place j]? == some j)=true
 · rw[if_pos c];have c':t.place[SetTable.below t.place j]? =some j:=eq_of_beq c;refine⟨fun i e=>by cases e;exact c',fun n=>?_,fun e=>by cases e⟩;exact absurd (by rw[<- Array.getElem?_toList]at c';exact List.mem_of_getElem? c') n
 · rw[if_neg c,hh];exact⟨fun i e=>by simp at e,fun _=>by simp,by simp⟩
theorem M4{m:Nat}{ow:Array (Option Nat)}:∀(F i pe:Nat),(∃ q,q<F/\ow.getD (lps m q (i,pe)).1 (some 0)=none)->∃ j,SetTable.layClean.free m ow F i pe=some j/\ow.getD j (some 0)=none
 | 0,i,pe,⟨q,l,_⟩=>absurd l (by omega)
 | F+1,i,pe,⟨q,l,e⟩=>by
   unfold SetTable.layClean.free
   cases hf:(List.range (SetTable.runEnd m i+1 - i)).find? fun k=>(ow.getD (i+k) (some 0)).isNone with
   | some k=>
     have:=List.find?_some hf
     exact⟨i+k,rfl,by simpa using this⟩
   | none=>
     have h0:0 ∈ List.range (SetTable.runEnd m i+1 - i):=by
      rw[List.mem_range];unfold SetTable.runEnd;split <;> omega
     have n0:=List.find?_eq_none.mp hf 0 h0
     have q0:q ≠ 0:=fun z=>by
      subst z;have e:ow.getD i (some 0)=none:=e;rw[Nat.add_zero,e]at n0;exact n0 rfl
     obtain⟨q,rfl⟩:=Nat.exists_eq_succ_of_ne_zero q0;exact M4 F _ _ ⟨q,by omega,e⟩
structure Jm (m:Nat)(ow:Array (Option Nat))(k:Nat):Prop where
 size:ow.size=m+1
 cnt:ow.toList.countP Option.isSome=k
 low:∀ v,some v ∈ ow.toList->v<k
theorem S5{m:Nat}(hm:wM m){ow:Array (Option Nat)}{k:Nat}(O:Jm m ow k)(l:k<=m)(h:Int):
 ∃ j,SetTable.layClean.free m ow (SetTable.turns m) (SetTable.bits h % (m+1)) (SetTable.bits h)=some j/\Jm m (ow.setIfInBounds j (some k)) (k+1):=by
 have ex:∃ e,e<=m/\ow.getD e (some 0)=none:=by
  by_cases c:∀ x ∈ ow.toList,Option.isSome x=true
  · have:=List.countP_eq_length.mpr c;rw[O.cnt,Array.length_toList,O.size]at this;omega
  · simp only[Classical.not_forall]at c;obtain⟨x,mx,hx⟩:=c;obtain⟨e,le,rfl⟩:=List.mem_iff_getElem.mp mx;rw[Array.length_toList]at le;refine⟨e,by have:=O.size;omega,?_⟩;rw[Array.getD_eq_getD_getElem?,Array.getElem?_eq_getElem le];simpa using hx
 obtain⟨e,le,he⟩:=ex;obtain⟨q,lq,hq⟩:=MT hm (i:=SetTable.bits h % (m+1)) (by have:=Nat.mod_lt (SetTable.bits h) (show 0<m+1 by omega);omega) (M3 h) le;obtain⟨j,hj,nj⟩:=M4 (m:=m) (ow:=ow) (SetTable.turns m) (SetTable.bits h % (m+1)) (SetTable.bits h) ⟨q,by unfold SetTable.turns;omega,by rw[hq];exact he⟩
 have lj:j<ow.size:=by
  by_cases c:j<ow.size
  · exact c
  · rw[Array.getD_eq_getD_getElem?,Array.getElem?_eq_none (by omega)]at nj;cases nj
 refine⟨j,hj,by rw[Array.size_setIfInBounds];exact O.size,?_,fun v mv=>?_⟩
 · rw[Array.toList_setIfInBounds,List.countP_set (by simpa using lj),O.cnt]
   have:ow.toList[j]'(by simpa using lj)=none:=by
    rw[Array.getD_eq_getD_getElem?,Array.getElem?_eq_getElem lj]at nj;simpa using nj
   rw[this];simp
 · rw[Array.toList_setIfInBounds]at mv
   rcases List.mem_or_eq_of_mem_set mv with z | z
   · exact Nat.lt_succ_of_lt (O.low v z)
   · cases z;exact Nat.lt_succ_self _
theorem Fd{m:Nat}(hm:wM m):∀(hs:List Int) (ow:Array (Option Nat)) (k:Nat),Jm m ow k->k+hs.length<=m+1->
 ∃ ow',hs.foldl (init:=some (ow,k)) (fun acc h=>do
 let (owner,k) <- acc
 let j <- SetTable.layClean.free m owner (SetTable.turns m) (SetTable.bits h % (m+1)) (SetTable.bits h)
 pure (owner.setIfInBounds j (some k),k+1))=some (ow',k+hs.length)/\Jm m ow' (k+hs.length)
 | [],ow,k,O,l=>⟨ow,rfl,O⟩
 | h::hs,ow,k,O,l=>by
   rw[List.length_cons]at l;obtain⟨j,hj,O'⟩:=S5 hm O (by omega) h;obtain⟨ow',e,O2⟩:=Fd hm hs _ _ O' (by omega);refine⟨ow',?_,by rw[List.length_cons,show k+(hs.length+1)=k+1+hs.length by omega];exact O2⟩;rw[List.foldl_cons,List.length_cons,show k+(hs.length+1)=k+1+hs.length by omega,<- e];show hs.foldl _ (Option.bind (SetTable.layClean.free m ow (SetTable.turns m) (SetTable.bits h % (m+1)) (SetTable.bits h)) _)=_;rw[hj];rfl
theorem Zv{m f mv:Nat}{led pl:Bool}(hm:wM m)(hs:Array Int)(l:hs.size<=m+1):
 ∃ t ord,SetTable.laid m f mv led pl hs=some (t,ord)/\t.mask=m/\t.dummies= #[]/\t.led=led/\Up t.place/\t.place.size=hs.size/\ord.size=hs.size/\∀ i ∈ ord.toList,i<hs.size:=by
 have O0:Jm m (Array.replicate (m+1) none) 0:=by
  refine⟨by simp,?_,fun v mv=>?_⟩
  · rw[List.countP_eq_zero];intro a ma;rw[Array.toList_replicate]at ma;rw[List.eq_of_mem_replicate ma];simp
  · rw[Array.toList_replicate]at mv;cases List.eq_of_mem_replicate mv
 obtain⟨ow,e,O⟩:=Fd hm hs.toList _ 0 O0 (by rw[Array.length_toList];omega);rw[Array.length_toList,Nat.zero_add]at e O
 have e2:SetTable.layClean m hs=some ow:=by
  unfold SetTable.layClean;rw[<- Array.foldl_toList];exact congrArg (Option.map (·.1)) e
 have len:((List.range (m+1)).filterMap fun j=>(ow.getD j none).map ((j,·):Nat->Nat × Nat)).length=hs.size:=by
  rw[List.length_filterMap_eq_countP,<- O.cnt]
  have:ow.toList=(List.range (m+1)).map fun j=>ow.getD j none:=by
   refine List.ext_getElem (by simp[O.size]) fun i h1 h2=>?_;rw[Array.length_toList]at h1;simp[Array.getD_eq_getD_getElem?,Array.getElem?_eq_getElem h1]
  conv=>rhs;rw[this]
  rw[List.countP_map];refine List.countP_congr fun j _=>?_;simp
 unfold SetTable.laid;rw[e2];refine⟨_,_,rfl,rfl,rfl,rfl,?_,?_,?_,fun i mi=>?_⟩
 · show((List.filterMap _ _).map _).Pairwise _;rw[List.pairwise_map];refine List.Pairwise.filterMap _ ?_ (List.pairwise_lt_range (n:=_));intro a b l x hx y hy;obtain⟨_,_,rfl⟩:=Option.map_eq_some_iff.mp hx;obtain⟨_,_,rfl⟩:=Option.map_eq_some_iff.mp hy;exact l
 · simpa using len
 · simpa using len
 · have mi:i ∈ (((List.range (m+1)).filterMap fun j=>(ow.getD j none).map ((j,·):Nat->Nat × Nat)).map (·.2)):=by simpa using mi
   obtain⟨p,mp,rfl⟩:=List.mem_map.mp mi;obtain⟨j,mj,hp⟩:=List.mem_filterMap.mp mp;obtain⟨v,hv,rfl⟩:=Option.map_eq_some_iff.mp hp;refine O.low v ?_;rw[Array.getD_eq_getD_getElem?]at hv
   cases hz:ow[j]? with
   | none=>rw[hz]at hv;cases hv
   | some x=>
     rw[hz]at hv;have hv:x=some v:=hv;subst hv;rw[<- Array.getElem?_toList]at hz;exact List.mem_of_getElem? hz
theorem byv(n:Nat){v:Value}(h:carriedByValue v=true):∃ b,hashByValue n v=pure b:=by
 cases v with
 | ref a=>simp[carriedByValue]at h
 | _=>cases n <;> exact⟨_,by unfold hashByValue;rfl⟩
theorem ofc(n:Nat){v:Value}(h:carriedByValue v=true):ofAClassStatement n v=pure false:=by
 cases v with
 | ref a=>simp[carriedByValue]at h
 | _=>first | rfl | (unfold ofAClassStatement;rfl)
section
variable{prog:Program}{w:World}{K:Type}[DecidableEq K]{knd:KeyKind prog w K}{A:Around}{E:Value->Shared->Prop}{s:Shared}
theorem Jo{ks:List K}{a:Addr}{Q:Bool->Shared->Prop}(hk:IsTupleKey knd s.heap ks a)(h:∀ b,Q b s):wpAny (model prog w) A (hashByValue 8 (.ref a)) Q E s:=by
 have hT:=hk.typeIs;obtain⟨o,items,n,ho,_,hd,hi⟩:=hk;unfold hashByValue;refine wpAny_bind (wpAny_specialOf hT F.slot_tuple_hash.lookup ?_);show wpAny _ _ (seqItems? (.ref a) >>= _) _ _ s;refine wpAny_bind (wpAny_seqItems ho hd ?_);refine wpAny_bind ?_;show wpAny _ _ (forIn items _ _) _ _ s;rw[<- Array.forIn_toList];refine wpAny_forIn_list _ (fun rest r s'=>r.1=none/\s'=s/\∀ v ∈ rest,carriedByValue v=true) _ ?_ ?_ _ _ ⟨rfl,rfl,hi.byValue⟩
 · rintro v rest r s' ⟨hr,rfl,hall⟩;obtain⟨b,e⟩:=byv 7 (hall v List.mem_cons_self);rw[e];refine wpAny_bind (wpAny_pure ?_);cases b
   · simp only[Bool.not_false,if_true];exact wpAny_pure (wpAny_pure (h _))
   · simp only[Bool.not_true,Bool.false_eq_true,if_false];exact wpAny_pure ⟨rfl,rfl,fun u hu'=>hall u (List.mem_cons_of_mem _ hu')⟩
 · rintro⟨r1,r2⟩ s' ⟨hr,rfl,_⟩;simp only at hr;subst hr;exact wpAny_pure (h _)
theorem vC{ks:List K}{a:Addr}{Q:Bool->Shared->Prop}(hk:IsTupleKey knd s.heap ks a)(h:Q false s):wpAny (model prog w) A (ofAClassStatement 8 (.ref a)) Q E s:=by
 have hT:=hk.typeIs;obtain⟨o,items,n,ho,_,hd,hi⟩:=hk;unfold ofAClassStatement;refine wpAny_bind (wpAny_typeOf hT ?_);dsimp only;rw[if_pos (show("tuple" == "tuple")=true from rfl)];refine wpAny_bind (wpAny_pure ?_);simp only[Bool.not_true,Bool.false_eq_true,if_false];refine wpAny_bind (wpAny_seqItems ho hd ?_);refine wpAny_bind ?_;show wpAny _ _ (forIn items _ _) _ _ s;rw[<- Array.forIn_toList];refine wpAny_forIn_list _ (fun rest r s'=>r.1=none/\s'=s/\∀ v ∈ rest,carriedByValue v=true) _ ?_ ?_ _ _ ⟨rfl,rfl,hi.byValue⟩
 · rintro v rest r s' ⟨hr,rfl,hall⟩;rw[ofc _ (hall v List.mem_cons_self)];refine wpAny_bind (wpAny_pure ?_);simp only[Bool.false_eq_true,if_false];exact wpAny_pure ⟨rfl,rfl,fun u hu'=>hall u (List.mem_cons_of_mem _ hu')⟩
 · rintro⟨r1,r2⟩ s' ⟨hr,rfl,_⟩;simp only at hr;subst hr;exact wpAny_pure h
theorem Pk{ks:List K}{a:Addr}{ys:List Value}{Q:Bool->Shared->Prop}(hk:IsTupleKey knd s.heap ks a)(hy:∀ y ∈ ys,∃ k b,y= .ref b/\IsTupleKey knd s.heap k b)(h:Q false s):wpAny (model prog w) A (searchCouldBeSeen (.ref a) ys) Q E s:=by
 unfold searchCouldBeSeen;refine wpAny_bind ?_;refine wpAny_forIn_list _ (fun rest r s'=>r.1=none/\s'=s/\∀ y ∈ rest,∃ k b,y= .ref b/\IsTupleKey knd s.heap k b) _ ?_ ?_ _ _ ⟨rfl,rfl,hy⟩
 · rintro v rest r s' ⟨hr,rfl,hall⟩;obtain⟨k,b,rfl,hb⟩:=hall v List.mem_cons_self;have nx:∀ y ∈ rest,∃ k b,y= .ref b/\IsTupleKey knd s'.heap k b:=fun u hu'=>hall u (List.mem_cons_of_mem _ hu');dsimp only
   by_cases c:(a==b)=true
   · rw[c];simp only[Bool.true_or,if_true];exact wpAny_pure ⟨rfl,rfl,nx⟩
   · have c:(a==b)=false:=by simpa using c
     rw[c];simp only[carriedByValue,Bool.false_or,Bool.false_and,Bool.false_eq_true,if_false];refine wpAny_bind (wpAny_eqIsQuiet_tuple hk ?_);simp only[Bool.not_true,Bool.false_eq_true,if_false];refine wpAny_bind (wpAny_eqIsQuiet_tuple hb ?_);simp only[Bool.not_true,Bool.false_eq_true,if_false];refine wpAny_bind (vC hk ?_);simp only[Bool.false_eq_true,if_false];refine wpAny_bind (vC hb ?_);simp only[Bool.false_eq_true,if_false];exact wpAny_pure ⟨rfl,rfl,nx⟩
 · rintro⟨r1,r2⟩ s' ⟨hr,rfl,_⟩;simp only at hr;subst hr;exact wpAny_pure h
theorem Fe{a xa:Addr}{x:List K}{o:Obj}{es:Array (Int × Value)}{ep:Nat}{t:SetTable}(hu:A.units<cLine)(hx:IsTupleKey knd s.heap x xa)(ho:s.heap.get? a=some o)(hd:o.data= .set es ep t)(hf:t.fits es.size=true)(hm:wM t.mask)(u:Up t.place)(d0:t.dummies= #[])
 (hel:∀ e ∈ es.toList,∃ k b,e.2= .ref b/\IsTupleKey knd s.heap k b/\k ≠ x) {Q:SetFound->Shared->Prop} (h:∀ j,t.slot j= .empty->Q (.free j false) s) (hh:Int):
 ∀(F k:Nat) (st:Option SetTable.Probe),k<F->k<10*SetTable.turns t.mask->t.slot (adv t k (st.getD (t.probeStart hh))).j= .empty->(st.getD (t.probeStart hh)).dummy=none->wpAny (model prog w) A (setSearchFrom a (.ref xa) hh true F st) Q E s
 | 0,k,st,l,_,_,_=>absurd l (by omega)
 | F+1,k,st,l,l2,e,d=>by
   unfold setSearchFrom;refine wpAny_bind (wpAny_setState_of ho hd hf ?_);dsimp only
   have gw:t.gaveWay=false:=by unfold SetTable.gaveWay;rcases hm with z | z <;> rw[z] <;> rfl
   rw[gw];simp only[Bool.false_eq_true,if_false]
   rcases pgo (ha:=fun i=>(es[i]?.map (·.1)).getD 0) (h:=hh) (fun j=>(slot_of u d0 j).2.2) (10*SetTable.turns t.mask) k _ e l2 d with ⟨j,z1,z2⟩ | ⟨m,i,lm,z1,z2⟩
   · have z1:t.probe (fun i=>(es[i]?.map (·.1)).getD 0) hh (st.getD (t.probeStart hh))=some (.empty j none):=z1;show wpAny _ _ (match t.probe (fun i=>(es[i]?.map (·.1)).getD 0) hh (st.getD (t.probeStart hh)) with | some met=>_ | _=>_) _ _ s;rw[z1];exact wpAny_pure (h j z2)
   · have z2:t.probe (fun i=>(es[i]?.map (·.1)).getD 0) hh (st.getD (t.probeStart hh))=_:=z2;show wpAny _ _ (match t.probe (fun i=>(es[i]?.map (·.1)).getD 0) hh (st.getD (t.probeStart hh)) with | some met=>_ | _=>_) _ _ s;rw[z2]
     have li:i<es.size:=by
      have:=(slot_of u d0 _).1 i z1;have sz:t.place.size=es.size:=by simp only[SetTable.fits,Bool.and_eq_true,beq_iff_eq]at hf;exact hf.1
      rw[<- sz];exact(Array.getElem?_eq_some_iff.mp this).1
     have my:es[i] ∈ es.toList:=by simp
     obtain⟨k',b,ey,hb,ne⟩:=hel _ my;have hes:es[i]? =some (es[i].1,.ref b):=by rw[Array.getElem?_eq_getElem li,<- ey]
     have rest:wpAny (model prog w) A (do
      let some (_,y):=es[i]? | unsupported "internal:set-entry"
      let equal <- holding [y] (eqBool y (.ref xa))
      let (es',_,t') <- setState a
      if true&&equal then return .there none
      let some same:=t'.sameMemory t.moves t.mask | unsupported "set.changed-during-lookup:is-the-new-block-at-the-old-address"
      let still <- match (if same then t'.slot (adv t m (st.getD (t.probeStart hh))).j else .empty) with
       | .live i'=>match es'[i']? with
         | some (_,y')=>do pure (if <- isSame y' y then some i' else none)
         | none=>pure none
       | _=>pure none
      match still with
      | none=>rule "set.search.anew";setSearchFrom a (.ref xa) hh true F none
      | some i'=>if equal then return .there (some i') else setSearchFrom a (.ref xa) hh true F (some (adv t (m+1) (st.getD (t.probeStart hh))))) Q E s:=by
      rw[hes];refine wpAny_bind (wpAny_holding (wpAny_eqBool_tuple hu hb hx ?_));rw[decide_eq_false ne];refine wpAny_bind (wpAny_setState_of ho hd hf ?_);simp only[Bool.and_false,Bool.false_eq_true,if_false];have sm:t.sameMemory t.moves t.mask=some true:=by unfold SetTable.sameMemory;simp
      rw[sm];simp only[if_true];rw[z1];simp only[hes];refine wpAny_bind (wpAny_isSame_ref_self (wpAny_bind (wpAny_pure ?_)));simp only[if_true];refine Fe hu hx ho hd hf hm u d0 hel h hh F (k - (m+1)) _ (by omega) (by omega) ?_ ?_
      · show t.slot (adv t (k - (m+1)) (adv t (m+1) _)).j=_;rw[<- Di,show m+1+(k - (m+1))=k by omega];exact e
      · show(adv t (m+1) _).dummy=none;rw[wN];exact d
     dsimp only
     cases hl:t.led with
     | true=>exact rest
     | false=>
       simp only[Bool.not_false,if_true];refine wpAny_bind (Pk hx (fun y my=>?_) ?_)
       · obtain⟨e',me,rfl⟩:=List.mem_map.mp my;rw[Array.toList_filter]at me;obtain⟨k2,b2,e2,h2,_⟩:=hel e' (List.mem_filter.mp me).1;exact⟨k2,b2,e2,h2⟩
       · simp only[Bool.false_eq_true,if_false];exact rest
end
theorem S6:∀(n:Nat) (l:List Nat),l.length<n->∃ e,e<n/\e ∉ l
 | 0,l,h=>absurd h (by omega)
 | n+1,l,h=>by
   by_cases c:n ∈ l
   · obtain⟨e,le,ne⟩:=S6 n (l.erase n) (by rw[List.length_erase_of_mem c];have:=List.length_pos_of_mem c;omega);exact⟨e,by omega,fun m=>ne ((List.mem_erase_of_ne (by omega)).mpr m)⟩
   · exact⟨n,by omega,c⟩
theorem zf{t:SetTable}{n:Nat}(d0:t.dummies= #[]):t.fits n=true ↔ t.place.size=n/\n<=t.mask:=by
 simp only[SetTable.fits,SetTable.fill,d0,Bool.and_eq_true,beq_iff_eq,decide_eq_true_eq]
 constructor
 · rintro⟨a,b⟩;exact⟨a,by simpa [a] using b⟩
 · rintro⟨a,b⟩;exact⟨a,by simpa [a] using b⟩
theorem zg{t:SetTable}(d0:t.dummies= #[]):t.tooFull=decide (t.place.size*5 >= t.mask*3):=by
 simp[SetTable.tooFull,SetTable.fill,d0]
theorem Jp{prog:Program}{w:World}{K:Type}[DecidableEq K]{knd:KeyKind prog w K}{h h':Heap}{ks:List K}{a d:Addr}{o:Obj}{es ep t}(x:IsTupleKey knd h ks a)(ho:h.get? d=some o)(hd:o.data= .set es ep t)(hs:Heap.SameBut d h h'):IsTupleKey knd h' ks a:=by
 obtain⟨o',items,n,ho',hc,hd',hi⟩:=x
 have hne:a ≠ d:=by
  rintro rfl;obtain rfl:o'=o:=Option.some.inj (ho'.symm.trans ho);rw[hd]at hd';exact nomatch hd'
 exact⟨o',items,n,(hs.2 a hne).trans ho',hc,hd',hi⟩
def SetT(N:List Addr)(prog:Program)(w:World)(h:Heap)(a:Addr)(ks:List (List Key)):Prop:=∃(o:Obj) (es:Array (Int × Value)) (ep:Nat) (t:SetTable),h.get? a=some o/\o.ExactSet/\o.data= .set es ep t/\(∀ e ∈ es.toList,∃ k b,e.2= .ref b/\IsTupleKey (bW prog w) h k b/\k ∈ ks/\b ∉ N)/\es.size=ks.length/\t.fits es.size=true/\Up t.place/\t.dummies= #[]/\wM t.mask/\t.tooFull=false
section
variable{prog:Program}{w:World}{A:Around}{E:Value->Shared->Prop}{s:Shared}
theorem aeo{es:Array (Int × Value)}{t:SetTable}{ord:Array Nat}{Q:Array (Int × Value) × SetTable->Shared->Prop}(hs:(ord.filterMap (es[·]?)).size=es.size)(h:Q (ord.filterMap (es[·]?),t) s):
 wpAny (model prog w) A (do
  let some (t,order):=(some (t,ord):Option (SetTable × Array Nat)) | unsupported "internal:set-table-without-room"
  let es':=order.filterMap (es[·]?)
  if es'.size != es.size then unsupported "internal:set-table-lost-an-element"
  pure (es',t)) Q E s:=by
 dsimp only;rw[if_neg (by simp[hs])];exact wpAny_pure h
theorem Jq{a:Addr}{o:Obj}{es es':Array (Int × Value)}{ep:Nat}{t t':SetTable}{h:Heap}(ho:h.get? a=some o)(hd:o.data= .set es ep t):(h.update a (Obj.putSet es' t')).get? a=some { o with data:=.set es' (ep+1) t' }:=by
 have:=Heap.get?_update_self (Obj.putSet es' t') ho (by rw[putSet_of es' t' hd];rfl);rw[putSet_of es' t' hd]at this;exact this
theorem Zw{α:Type}{xs:Array α}{p:Nat}{x y:α}(m:y ∈ (SetTable.insertAt xs p x).toList):y ∈ xs.toList\/y=x:=by
 rw[y_]at m
 rcases List.mem_append.mp m with z | z
 · exact .inl (List.mem_of_mem_take z)
 · rcases List.mem_cons.mp z with z | z
   · exact .inr z
   · exact .inl (List.mem_of_mem_drop z)
theorem Jr{α:Type}{xs:Array α}{p:Nat}{x:α}:(SetTable.insertAt xs p x).size=xs.size+1:=by
 rw[<- Array.length_toList,y_];simp only[List.length_append,List.length_cons,List.length_take,List.length_drop,Array.length_toList];omega
theorem W2{N:List Addr}{a xa:Addr}{x:List Key}{ks:List (List Key)}{hh:Int}{Q:Bool->Shared->Prop}(hu:A.units<cLine)(hx:IsTupleKey (bW prog w) s.heap x xa)(hS:SetT N prog w s.heap a ks)(nx:x ∉ ks)(na:xa ∉ N)(room:ks.length+1<=18)
 (h:∀ h',Heap.SameBut a s.heap h'->SetT N prog w h' a (x::ks)->Q true { s with heap:=h' }):wpAny (model prog w) A (setAddHashed a (.ref xa) hh) Q E s:=by
 obtain⟨o,es,ep,t,ho,hex,hd,hel,hn,hf,u,d0,hm,Yh⟩:=hS;have hf':=(zf d0).mp hf;unfold setAddHashed setAddHashedIn;refine wpAny_holding (wpAny_bind (wpAny_setState_of ho hd hf ?_));have bs:byScan (.ref xa) es=false:=rfl;dsimp only;rw[bs];simp only[Bool.false_eq_true,if_false];obtain⟨e,le,ne⟩:=S6 (t.mask+1) t.place.toList (by rw[Array.length_toList,hf'.1];omega);obtain⟨k,lk,ek⟩:=SX hm hh (e:=e) (by omega);unfold setSearch;refine wpAny_bind (Fe hu hx ho hd hf hm u d0 (fun e me=>let ⟨k,b,e1,e2,e3,_⟩:=hel e me;⟨k,b,e1,e2,fun z=>nx (z ▸ e3)⟩) (fun j hj=>?_) hh 100000 k none ?_ ?_ ?_ rfl)
 · dsimp only;refine wpAny_bind (wpAny_setState_of ho hd hf ?_);dsimp only;have up1:Up (t.put j).1.place:=acP u (WY fun i z=>by rw[hj]at z;cases z)
   have dm1:(t.put j).1.dummies= #[]:=by
    show(if SetTable.has t.dummies j=true then _ else t.dummies)=_;rw[d0];rfl
   have sz1:(t.put j).1.place.size=es.size+1:=by
    show(SetTable.insertAt t.place _ j).size=_;rw[Jr,hf'.1]
   have mk1:(t.put j).1.mask=t.mask:=rfl;generalize hp:(t.put j).2=p;generalize ht1:(t.put j).1=t1 at up1 dm1 sz1 mk1 ⊢;have f0:es.size*5<t.mask*3:=by rw[zg d0,hf'.1]at Yh;simpa using Yh
   have bm:es.size+1<=t.mask:=by rcases hm with z | z <;> rw[z]at f0 ⊢ <;> omega
   have body:∀ t2:SetTable,t2.mask=t.mask->t2.place=t1.place->t2.dummies= #[]->wpAny (model prog w) A (do
    storeSet a (SetTable.insertAt es p (hh,.ref xa)) t2
    if(!false&&t2.tooFull)=true then setRelay a (SetTable.grown (es.size+1))
    return true) Q E s:=by
    intro t2 m2 p2 d2;have z1:(SetTable.insertAt es p (hh,Value.ref xa)).size=es.size+1:=Jr;have g1:=Jq (es':=SetTable.insertAt es p (hh,.ref xa)) (t':=t2) ho hd;have b1:=Heap.SameBut.update s.heap a (Obj.putSet (SetTable.insertAt es p (hh,.ref xa)) t2)
    have el1:∀ e ∈ (SetTable.insertAt es p (hh,Value.ref xa)).toList,∃ k b,e.2= .ref b/\IsTupleKey (bW prog w) (s.heap.update a (Obj.putSet (SetTable.insertAt es p (hh,.ref xa)) t2)) k b/\k ∈ x::ks/\b ∉ N:=fun e me=>by
     rcases Zw me with z | z
     · obtain⟨k,b,e1,e2,e3,e4⟩:=hel e z;exact⟨k,b,e1,Jp e2 ho hd b1,List.mem_cons_of_mem _ e3,e4⟩
     · subst z;exact⟨x,xa,rfl,Jp hx ho hd b1,List.mem_cons_self ..,na⟩
    have f1:t2.fits (SetTable.insertAt es p (hh,Value.ref xa)).size=true:=(zf d2).mpr ⟨by rw[p2,sz1,z1],by rw[z1,m2];exact bm⟩;refine wpAny_bind (wpAny_storeSet_of ho hd ?_ (by rw[z1,sizeLine_eq];omega))
    by_cases c:t2.tooFull=true
    · rw[c];simp only[Bool.not_false,Bool.and_true,if_true]
      have n5:es.size=4/\t.mask=7:=by
       rw[zg d2,p2,sz1,m2]at c;have c:(es.size+1)*5 >= t.mask*3:=by simpa using c
       rcases hm with z | z <;> rw[z]at c f0 ⊢ <;> omega
      rw[n5.1];unfold setRelay;refine wpAny_bind (wpAny_bind (wpAny_setState_of g1 rfl f1 ?_));have sa:SetTable.sizeAbove (SetTable.grown (4+1))=32:=by decide
      dsimp only;rw[sa,if_neg (by rw[sizeLine_eq];decide)];obtain⟨t3,ord,e3,m3,d3,_,u3,s3,o3,l3⟩:=Zv (m:=31) (f:=t2.finger) (mv:=t2.movedTo 31) (led:=t2.led) (pl:=t2.plain) (.inr rfl) ((SetTable.insertAt es p (hh,Value.ref xa)).map (·.1)) (by rw[Array.size_map,z1,n5.1];decide)
      have e3:t2.relaid ((SetTable.insertAt es p (hh,Value.ref xa)).map (·.1)) (SetTable.grown (4+1))=some (t3,ord):=by
       unfold SetTable.relaid;rw[sa];exact e3
      rw[e3];rw[Array.size_map,z1,n5.1]at s3 o3
      have sz2:(ord.filterMap ((SetTable.insertAt es p (hh,Value.ref xa))[·]?)).size=(SetTable.insertAt es p (hh,Value.ref xa)).size:=by
       rw[z1,n5.1,<- o3,<- Array.length_toList,Array.toList_filterMap,List.length_filterMap_eq_countP,<- Array.length_toList];refine List.countP_eq_length.mpr fun i mi=>?_;have:=l3 i mi;rw[Array.size_map]at this;rw[Array.getElem?_eq_getElem this];rfl
      refine wpAny_bind (aeo sz2 ?_);dsimp only;refine wpAny_storeSet_of g1 rfl (wpAny_pure ?_) (by rw[sz2,z1,sizeLine_eq];omega);have g2:=Jq (es':=ord.filterMap ((SetTable.insertAt es p (hh,Value.ref xa))[·]?)) (t':=t3) g1 rfl;have b2:=Heap.SameBut.update (s.heap.update a (Obj.putSet (SetTable.insertAt es p (hh,.ref xa)) t2)) a (Obj.putSet (ord.filterMap ((SetTable.insertAt es p (hh,Value.ref xa))[·]?)) t3);refine h _ (b1.trans b2) ⟨_,_,_,t3,g2,hex,rfl,fun e me=>?_,by rw[sz2,z1,hn];rfl,(zf d3).mpr ⟨by rw[sz2,z1,n5.1];exact s3,by rw[sz2,z1,n5.1,m3];decide⟩,u3,d3,.inr m3,by rw[zg d3,s3,m3];rfl⟩;rw[Array.toList_filterMap]at me;obtain⟨i,_,hi⟩:=List.mem_filterMap.mp me;rw[<- Array.getElem?_toList]at hi;obtain⟨k,b,e1,e2,e3⟩:=el1 e (List.mem_of_getElem? hi);exact⟨k,b,e1,Jp e2 g1 rfl b2,e3⟩
    · have c:t2.tooFull=false:=by simpa using c
      rw[c];simp only[Bool.and_false,Bool.false_eq_true,if_false];exact wpAny_pure (h _ b1 ⟨_,_,_,t2,g1,hex,rfl,el1,by rw[z1,hn];rfl,f1,by rw[p2];exact up1,d2,by rw[m2];exact hm,c⟩)
   split
   · refine wpAny_bind (Jo hx fun b=>?_);cases b
     · exact body _ mk1 rfl dm1
     · exact body _ mk1 rfl dm1
   · exact wpAny_bind (wpAny_pure (body _ mk1 rfl dm1))
 · have:t.mask<=31:=by rcases hm with z | z <;> omega
   omega
 · unfold SetTable.turns;omega
 · show t.slot (adv t k (t.probeStart hh)).j=_;rw[ek];exact(slot_of u d0 e).2.1 ne
end
theorem SetT.keep{N:List Addr}{prog:Program}{w:World}{h h':Heap}{a:Addr}{ks:List (List Key)}(x:SetT N prog w h a ks)(na:a ∉ N)(k:∀ b o,b ∉ N->h.get? b=some o->h'.get? b=some o):SetT N prog w h' a ks:=by
 obtain⟨o,es,ep,t,ho,hx,hd,hel,r⟩:=x;refine⟨o,es,ep,t,k a o na ho,hx,hd,fun e me=>?_,r⟩;obtain⟨k',b,e1,⟨o',it,n,g,z⟩,e3,e4⟩:=hel e me;exact⟨k',b,e1,⟨o',it,n,k b o' e4 g,z⟩,e3,e4⟩
def kl(val:Nat->List Key):Nat->List (List Key)
 | 0=>[]
 | i+1=>val i::kl val i
theorem Js(val:Nat->List Key):∀ i,(kl val i).length=i
 | 0=>rfl
 | i+1=>congrArg (· + 1) (Js val i)
theorem S7{val:Nat->List Key}{k:List Key}:∀ {i},k ∈ kl val i->∃ j,j<i/\k=val j
 | 0,m=>by cases m
 | i+1,m=>by
   rcases List.mem_cons.mp m with z | z
   · exact⟨i,by omega,z⟩
   · obtain⟨j,l,e⟩:=S7 z;exact⟨j,by omega,e⟩
section
variable{prog:Program}{w:World}{A:Around}{R:Result->Shared->Prop}{I:Addr}{fp wr:List Addr}{G:Array GenState->Array GenState->Prop}{n:Nat}{P:Nat->Value->Prop}{St:Nat->Shared->Prop}
theorem S8(W:WalksS prog w A.in1 I fp wr G n P St)(S:Addr)(nS:S ∉ fp)(val:Nat->List Key)(adr:Nat->Addr)(hv:∀ i v,P i v->v= .ref (adr i))(hu:A.units+1<cLine)(nb:∀ i,i<n->adr i ≠ S/\adr i ∉ wr)(dis:∀ i j,i<j->j<n->val j ≠ val i)(hb:n<=18):
 ∀(k i:Nat) (s:Shared),n=i+k->St i s->(∀ j,j<n->IsTupleKey (bW prog w) s.heap (val j) (adr j))->SetT wr prog w s.heap S (kl val i)->(∀ s',Moved (S::wr) G s s'->SetT wr prog w s'.heap S (kl val n)->R (.ok (.ret .none)) s')->codeAny (model prog w) A (.builtin "set.update.loop" ⟨[.ref S,.ref I],[]⟩) R s:=by
 have nw:S ∉ wr:=fun z=>nS (W.sub _ z);intro k
 induction k with
 | zero=>
   intro i s e st T X q;have e:i=n:=by omega
   subst e;refine codeAny_builtin F.entry_set_update_loop ?_;rw[Around.under_plainId F.plain_set_update_loop _];show wpAny _ A.in1 (pyNext (.ref I) >>= _) _ _ s;refine wpAny_bind (W.done s _ _ st fun s' m=>?_)
   exact wpAny_pure (q s' (m.mono fun b z=>List.mem_cons_of_mem _ z) (X.keep nw fun b o nb e=>m.heap b _ nb e))
 | succ k ih=>
   intro i s e st T X q;have li:i<n:=by omega
   refine codeAny_builtin F.entry_set_update_loop ?_;rw[Around.under_plainId F.plain_set_update_loop _];show wpAny _ A.in1 (pyNext (.ref I) >>= _) _ _ s;refine wpAny_bind (W.item i s _ _ li st fun v s' hP st' m=>?_);have hv':=hv i v hP;subst hv';have X':SetT wr prog w s'.heap S (kl val i):=X.keep nw fun b o nb e=>m.heap b _ nb e
   have T':∀ j,j<n->IsTupleKey (bW prog w) s'.heap (val j) (adr j):=fun j lj=>by
    obtain⟨o',it,n',g,z⟩:=T j lj;exact⟨o',it,n',m.heap _ _ (nb j lj).2 g,z⟩
   show wpAny _ A.in1 (holding [Value.ref (adr i)] (setAdd S (.ref (adr i))) >>= _) _ _ s';refine wpAny_bind (wpAny_holding ?_);unfold setAdd;refine wpAny_holding (wpAny_bind (wpAny_pyHash_tuple hu (T' i li) ?_));refine W2 (s:={ s' with toks:=s'.toks+((val i).length+1) }) hu (T' i li) X' (fun m=>?_) (nb i li).2 (by rw[Js];omega) fun h' sb X2=>?_
   · obtain⟨j,lj,ej⟩:=S7 m;exact dis j i lj li ej
   refine wpAny_pure ⟨plainId_quiet F.plain_set_update_loop _,ih (i+1) _ (by omega) (W.frame _ s' _ _ st' (Nat.le_add_right _ _) fun b hb o e=>?_) (fun j lj=>?_) X2 fun s'' m2 X3=>?_⟩
   · rw[sb.2 b fun z:b=S=>nS (z ▸ hb)];exact e
   · obtain⟨o',it,n',g,z⟩:=T' j lj;exact⟨o',it,n',(sb.2 _ (nb j lj).1).trans g,z⟩
   · refine q s'' (Moved.trans W.gtrans ((m.mono fun b z=>List.mem_cons_of_mem _ z).then_heap (Nat.le_add_right _ _) fun b o hb e=>?_) m2) X3;rw[sb.2 b fun z:b=S=>hb (z ▸ List.mem_cons_self ..)];exact e
end
section
variable{prog:Program}{w:World}{A:Around}{E:Value->Shared->Prop}{s:Shared}
theorem Pn{N:List Addr}{h:Heap}{a:Addr}(e:h.get? a=some (lQ w)):SetT N prog w h a []:=
 ⟨_,#[],0,_,e,⟨rfl,rfl,rfl⟩,rfl,fun e m=>(by cases m),rfl,rfl,.nil,rfl,.inl rfl,rfl⟩
theorem S9{l:Addr}{items:Array Value}{val:Nat->List Key}{adr:Nat->Addr}{Q:Value->Shared->Prop}(hh:A.handled=none)(hu:A.units+8<cLine)(hl:s.heap.IsList l items)(hi:∀(i:Nat) (v:Value),items[i]? =some v->v=Value.ref (adr i))(hk:∀ i,i<items.size->IsTupleKey (bW prog w) s.heap (val i) (adr i))(dis:∀ i j,i<j->j<items.size->val j ≠ val i)(hb:items.size<=18)
 (h:∀(N:List Addr) (h':Heap) (tk:Nat),SetT N prog w h' s.heap.objs.size (kl val items.size)->(∀ b o,b<s.heap.objs.size->s.heap.get? b=some o->h'.get? b=some o)->Q (.ref s.heap.objs.size) { s with heap:=h',toks:=tk }):
 wpAny (model prog w) A (PySem.call (.type "set") [.ref l]) Q E s:=by
 obtain⟨c,tl,hmro⟩:=F.called_set.mro;have hmade:=F.called_set.made;have hsub:=F.called_set.sub;refine wpAny_call (codeAny_of_tree ?_);show wpAny _ _ (callAny (.type "set") _) _ _ _;refine wpAny_pure ⟨Code.quiet_builtin _ (by decide +kernel),codeAny_builtin F.entry_type_call ?_⟩;rw[Around.under_plain (weight_type_call_type "set" [.ref l] []) rfl];have h1:=F.called_set.notType;have h2:=F.called_set.canCreate;have hct:=F.typeCall_set_1 (.ref l)
 repeat (any_goals (first | assumption | wp_step))
 refine codeAny_mono (W0 (.ref l) (E:=E) (Q:=fun ob s₁=>ob= .ref s.heap.objs.size/\s₁= { s with heap:=s.heap.push (lQ w) }) ⟨rfl,rfl⟩) fun r s₁ hr=>?_
 cases r with
 | error e=>exact hr
 | ok fl=>
   cases fl with
   | ret ob=>
     obtain⟨rfl,rfl⟩:=hr;have gS:(s.heap.push (lQ w)).get? s.heap.objs.size=some (lQ w):=Heap.get?_push_size _ rfl;have hT:Shared.TypeIs { s with heap:=s.heap.push (lQ w) } (.ref s.heap.objs.size) "set":=⟨_,gS,rfl⟩;have hli:=F.called_set.init.lookup;have hbi:=F.called_set.init.bind (.ref s.heap.objs.size)
     repeat (any_goals (first | assumption | wp_step))
     refine codeAny_mono (codeAny_call_builtin (R:=PySem.wants (fun r s₂=>r= .none/\∃ N h' tk,s₂= { s with heap:=h',toks:=tk }/\SetT N prog w h' s.heap.objs.size (kl val items.size)/\(∀ b o,b<s.heap.objs.size->s.heap.get? b=some o->h'.get? b=some o)) E) F.called_set.init.plain F.entry_set_init (check_set_init_1 hT ?_)) fun r₂ s₂ hr₂=>?_
     · obtain⟨ol,hol,hcl,nl,hdl⟩:=hl;obtain⟨ocls,odict,odata,oslots⟩:=ol;simp only at hcl hdl;subst hcl;subst hdl;have hol':(s.heap.push (lQ w)).get? l=some { cls:=.type "list",dict:=odict,data:=.seq items nl,slots:=oslots }:=Heap.get?_push_of_some _ hol;have hsls:=F.sub_list_set;have hslf:=F.sub_list_frozenset;have hne:(Value.type "list" == Value.type "dict")=false:=by decide
       have hl1:(s.heap.push (lQ w)).IsList l items:=⟨_,hol',rfl,nl,rfl⟩;unfold Builtin.«set.__init__» noKeywords Builtin.Frozenset.updateFrom;generalize hPI:pyIter=PI
       wp_walk
       subst hPI;refine wpAny_pyIter_list hl1 (wpAny_bind (wpAny_runValue ?_));have hlS:l<s.heap.objs.size:=Heap.lt_size hol;have h3:A.in1.in1.in1.handled=none:=by simp[hh]
       have nI:l ≠ (s.heap.push (lQ w)).objs.size:=by rw[Heap.size_push];exact Nat.ne_of_lt (Nat.lt_succ_of_lt hlS)
       have nS:s.heap.objs.size ∉ [(s.heap.push (lQ w)).objs.size,l]:=by rw[Heap.size_push];simp;exact Nat.ne_of_gt hlS
       have ka:∀ i,i<items.size->adr i<s.heap.objs.size:=fun i li=>let ⟨_,_,_,g,_⟩:=hk i li;Heap.lt_size g;refine S8 ((Walks.list h3 _ l nI items).toS) s.heap.objs.size nS val adr (fun i v hv=>hi i v hv) (by show A.units+1+1+1<_;omega) (fun i li=>⟨Nat.ne_of_lt (ka i li),fun z=>absurd (List.mem_singleton.mp z) (by rw[Heap.size_push];exact Nat.ne_of_lt (Nat.lt_succ_of_lt (ka i li)))⟩) dis hb items.size 0 _ (by omega) ⟨⟨_,Heap.get?_push_size _ rfl,rfl,rfl⟩,hl1.push _⟩ (fun j lj=>?_) (Pn (Heap.get?_push_of_some _ gS)) fun s' hm X'=>?_
       · obtain⟨o',it,n',g,z⟩:=hk j lj;exact⟨o',it,n',Heap.get?_push_of_some _ (Heap.get?_push_of_some _ g),z⟩
       obtain⟨h',g',d',tk',os'⟩:=s';have eg:g'=s.gens:=hm.gens;have ed:d'=s.drawn:=hm.drawn;have eo:os'=s.os:=hm.os;subst eg;subst ed;subst eo;show wpAny _ _ _ _ _ _;refine wpAny_pure ?_;show wpAny _ _ (ret Value.none) _ _ _;refine wpAny_pure ⟨rfl,_,h',tk',rfl,X',fun b o hb e=>?_⟩;refine hm.heap b o ?_ (Heap.get?_push_of_some _ (Heap.get?_push_of_some _ e));rw[Heap.size_push];simp;exact⟨Nat.ne_of_lt hb,Nat.ne_of_lt (Nat.lt_succ_of_lt hb)⟩
     · cases r₂ with
       | error e=>exact hr₂
       | ok fl₂=>
         cases fl₂ with
         | ret r=>
           obtain⟨rfl,N,h',tk,rfl,X',hk'⟩:=hr₂
           repeat (any_goals (first | assumption | wp_step))
           exact h _ _ _ X' hk'
         | _=>exact hr₂.elim
   | _=>exact hr.elim
end
section
def pTs(h:Hs)(xs:List W):(List (List W)->R W)->R W:=List.rec (fun k=>k []) (fun x _ r k=>h.at x fun _ o=>o.onT fun ks=>ifB (Hh ks) (r fun l=>k (ks::l)) .no) xs
def Jt(a:List W)(l:List (List W)):Bool:=List.rec false (fun b _ r=>ifB (Dh a b) true r) l
def ndQ(l:List (List W)):Bool:=List.rec true (fun a l r=>ifB (Jt a l) false r) l
def acS(h:Hs)(a:W):R W:=h.at a fun _ o=>o.onL fun xs=>ifB (Nat.ble (len xs) 18) (pTs h xs fun l=>ifB (ndQ l) (.ok (.int (.ofNat (len l))) h) .no) .no
def Pr.xX:Pr:=⟨fun ws h=>iG ws (acS h)⟩
end
abbrev TH(H:Hp)(a:Addr)(k:List Key):Prop:=H a=some (.tup (k.map kV))
theorem M5{a:List W}{k:List Key}(ha:Paired KW a k):∀ {l:List (List W)} {m:List (List Key)},Paired (Paired KW) l m->Jt a l=false->k ∉ m
 | _,_,.nil,_=>by simp
 | b::l,c::m,.cons r t,e=>by
   have e:ifB (Dh a b) true (Jt a l)=false:=e;rw[MF ha r]at e
   by_cases z:k=c
   · rw[decide_eq_true z]at e;cases e
   · rw[decide_eq_false z]at e;intro hm
     rcases List.mem_cons.mp hm with y | y
     · exact z y
     · exact M5 ha t e y
theorem Yi:∀ {l:List (List W)} {m:List (List Key)},Paired (Paired KW) l m->ndQ l=true->m.Nodup
 | _,_,.nil,_=>.nil
 | b::l,c::m,.cons r t,e=>by
   have e:ifB (Jt b l) false (ndQ l)=true:=e
   cases z:Jt b l with
   | true=>rw[z]at e;cases e
   | false=>rw[z]at e;exact List.nodup_cons.mpr ⟨M5 r t z,Yi t e⟩
theorem Ff{α β:Type}{R:α->β->Prop}:∀ {xs:List α} {ys:List β},Paired R xs ys->∀ {i:Nat} {y:β},ys[i]? =some y->∃ x,xs[i]? =some x/\R x y
 | _,_,.nil,i,y,e=>by cases e
 | _,_,.cons r t,0,y,e=>by cases e;exact⟨_,rfl,r⟩
 | _,_,.cons r t,i+1,y,e=>Ff t e
section
variable{X:Cx}
theorem Yj{H:Hp}:∀ {as:List Addr} {ms:List (List Key)},Paired (TH H) as ms->∀ i,i<as.length->TH H (as.getD i 0) (ms.getD i [])
 | _,_,.nil,i,l=>absurd l (by simp)
 | _,_,.cons r t,0,l=>r
 | _,_,.cons r t,i+1,l=>Yj t i (by simpa using l)
theorem Pq(hh:X.A.handled=none)(hu:X.A.units+64<cLine):jb X (.type "set") (fun xs H Q=>∃ p as ms,xs= [.ref p]/\SqL X.K H p (as.map V.ref)/\Paired (TH H) as ms/\ms.Nodup/\as.length<=18/\∀ l,H l=none->Q (.ref l) (upd H l (.ext (qZ l ms.length)))):=by
 intro pins s σ H xs us Q I r h;obtain⟨p,as,ms,rfl,hq,hp,nd,hn,q⟩:=h;obtain⟨u,rfl,rx⟩:=vals1 r;cases rx;obtain⟨its,r',pl,hz⟩:=I.list hq;have hlen:=r'.length;rw[List.length_map]at hlen;have hpl:=Paired.length hp;have sz:its.toArray.size=as.length:=by simp[hlen]
 refine S9 (items:=its.toArray) (val:=fun i=>ms.getD i []) (adr:=fun i=>as.getD i 0) hh (by omega) pl.isList (fun i v e=>?_) (fun i li=>?_) (fun i j lij lj=>?_) (by rw[sz];exact hn) fun N h' tk hS kp=>?_
 · rw[<- Array.getElem?_toList]at e;obtain⟨v',e',rv⟩:=Ff r' e;rw[List.getElem?_map]at e';obtain⟨b,hb,rfl⟩:=Option.map_eq_some_iff.mp e';cases rv;simp[hb]
 · exact zT I.hok (Yj hp i (by rw[<- sz];exact li))
 · rw[sz]at lj;have li:i<ms.length:=by omega
   have lj':j<ms.length:=by omega
   show ms.getD j [] ≠ ms.getD i [];simp only[List.getD_eq_getElem?_getD,List.getElem?_eq_getElem li,List.getElem?_eq_getElem lj',Option.getD_some];exact fun z=>Nat.ne_of_gt lij ((List.getElem_inj nd).mp z)
 · obtain⟨o,es,ep,t,e1,e2,e3,_,e4,e5,_⟩:=hS;have e7:es.size=ms.length:=by rw[e4,Js,sz,hpl]
   exact⟨.ref s.heap.objs.size,_,I.laid (t':=tk) (fun b o e=>kp b o (Heap.lt_size e) e) (aH _) (show bA X.prog X.w _ h' _ (.ext (qZ s.heap.objs.size ms.length)) from ⟨⟨o,es,ep,t,e1,e2,e3,e5,e7,by unfold scanBound;omega⟩,⟨o,e1⟩,fun h1 h2=>EY h1 h2⟩),rfl,q _ (I.hok.fresh (aH _))⟩
variable{Pg:List Fn}{cl:Cn}{E:XK}{d:Nat}
theorem Yk{ρ:List Addr}{h:Hs}{H:Hp}{Q:A->Hs->List Addr->Hp->Prop}(s:Sim cl ρ h H):∀ {xs:List W} {vs:List V} (f:List (List W)->R W),RWs ρ xs vs->Post cl ρ H E (ofW (pTs h xs f)) Q->∃ as l ms,vs=as.map V.ref/\Paired (TH H) as ms/\Paired (Paired KW) l ms/\Post cl ρ H E (ofW (f l)) Q
 | _,_,f,.nil,p=>⟨[],[],[],rfl,.nil,.nil,p⟩
 | x::xs,v::vs,f,.cons r t,p=>by
   have p:Post cl ρ H E (ofW (h.at x fun _ o=>o.onT fun ks=>ifB (Hh ks) (pTs h xs fun l=>f (ks::l)) .no)) Q:=p;obtain⟨n,o,a,rfl,rfl,e1,g1,x1,p⟩:=oAt s r p;obtain⟨ks,rfl,p⟩:=oTu p;obtain⟨hk,p⟩:=oIf p;obtain⟨us,ru,q⟩:=x1;obtain⟨k,pk,rfl⟩:=SM hk ru;obtain⟨as,l,ms,rfl,z1,z2,z3⟩:=Yk s (fun l=>f (ks::l)) t p;exact⟨a::as,ks::l,k::ms,rfl,.cons q z1,.cons pk z2,z3⟩
theorem S_{K:ak}:Op1 cl .xX (fun x H Q=>∃ p as ms,x= .ref p/\SqL K H p (as.map V.ref)/\Paired (TH H) as ms/\ms.Nodup/\as.length<=18/\∀ l,H l=none->Q (.int (ms.length:Nat)) (upd H l (.ext (qZ l ms.length)))):=fun E ρ h H w1 v1 Q s r1 p=>by
 have p:Post cl ρ H E (ofW (acS h w1)) (VP Q):=p;obtain⟨n,o,a,rfl,rfl,e1,g1,x1,p⟩:=oAt s r1 p;obtain⟨xs,rfl,p⟩:=oL p;obtain⟨hl,p⟩:=oIf p;obtain⟨us,ru,q⟩:=x1;have hlen:=ru.length;obtain⟨as,l,ms,rfl,z1,z2,p⟩:=Yk s _ ru p;obtain⟨hd,p⟩:=oIf p;rw[List.length_map]at hlen;have hl':xs.length<=18:=by rw[len_eq]at hl;exact Nat.le_of_ble_eq_true hl
 refine⟨a,as,ms,rfl,SqL.of q,z1,Yi z2 hd,by omega,fun b hb=>?_⟩;have z:=Post.eV (s.other (u:=.ext (qZ b ms.length)) hb) (p.later (Bt.other hb)) (.int _);rw[len_eq,Paired.length z2]at z;exact z
theorem Pu{a:Expr}{x:Ev.X}{p q pos1 pos:Pos}(hh:X.A.handled=none)(hu:X.A.units+64<cLine)(hg:Gl X "len")(hm:X.mg "len" =none)(hg2:Gl X "set")(hm2:X.mg "set" =none)(ha:PE X a (tE Pg cl E d x))
 (he:starEach [a] X.env=(false,eval a X.env)::starEach [] X.env:=by rfl):
 PE X (.Call (.Name "len" p) [.Call (.Name "set" q) [a] [] pos1] [] pos) (tE Pg cl E d (.pr .xX [x])):=by
 refine PE.of (bu Fb hg hm boot_len (aq (pG (Pq hh hu) hg2 hm2 rfl (aq ha aD he) (by decide) (by decide) he rfl) aD rfl) (by decide) (by decide) rfl rfl) fun σ H Q z=>?_;obtain⟨ρ,τ,h,n,s,rs,p⟩:=pJ (S_ (K:=X.K)) z;refine⟨ρ,τ,h,n,s,rs,p.mono fun a h ρ H _ _ ⟨w,e,g⟩=>⟨w,e,fun v rv=>?_⟩⟩;obtain⟨p',as,ms,rfl,q1,q2,q3,q4,q5⟩:=g v rv;exact⟨p',as,ms,rfl,q1,q2,q3,q4,fun l hl=>⟨l,_,rfl,az,q5 l hl⟩⟩
end
section
variable{Pg:List Fn}{cl:Cn}{E:XK}{d:Nat}{X:Cx}{σ σ0:L2.St}{H:Hp}
theorem oX{n i v m0 m f nn:Nat}{kv:List (Nat × W)}{os:Nat->List O}{es:List Ev.X}{b:List S}{D:Ends}{r:Addr}{row:List V}(c:CS cl n i kv (os 0) r row σ H)(hv:i ≠ v)
 (cnt:mJ n i f nn kv (os 0) (evs Pg m0 d (.a es) (frm n kv) (heapOf (os 0)))=true)
 (runs:∀ k,k<nn->WQ n i f kv (os (k+1)) (evs Pg m d (.ss b) (frm n ((v,.int (Int.ofNat k))::kv)) (heapOf (os k)))=true)
 (k:∀ σ' H',CS cl n i kv (os nn) r row σ' H'->D.nx σ' H'):Hx (L2.GQ (tA Pg cl E d es)) (tG cl (.nm v)) (tSt Pg cl E d b xM) D σ H:=by
 obtain⟨h',e,hn,e2⟩:=Zr cnt;obtain⟨ρ,s,rs,nr⟩:=c.sim;refine⟨ρ,frm n kv,heapOf (os 0),m0,s,rs,?_⟩;rw[e];intro ρ1 H1 bt s1;refine⟨_,rfl,fun vs rv=>?_⟩
 cases rv with
 | cons r1 rt=>
   cases rt;cases r1;have c1:CS cl n i kv (os 0) r row σ H1:=O_ e2 s1 (rs.mono bt.1) c.at_ (bt.kept s.tb (fun _ z=>by cases z) nr c.row) (bt.2 r _ c.row nr).1;have hle:Int.ofNat nn=((nn:Nat):Int):=rfl;refine⟨Int.ofNat nn,rfl,by rw[hle];omega,by rw[hle];omega,?_⟩;refine⟨fun j mm σ H=>j+mm=nn/\CS cl n i kv (os j) r row σ H,⟨nn,by omega,c1⟩,?_⟩;rintro j mm σ2 H2 ⟨hj,c2⟩
   by_cases hl:j<nn
   · refine .inr ⟨hl,fun σ' H'=>CS cl n i kv (os (j+1)) r row σ' H',fun σ' H' z=>⟨mm - 1,by omega,by omega,z⟩,fun x H' ⟨hH,hx⟩=>?_⟩;subst hH hx;obtain⟨ρ2,s2,rs2,nr2⟩:=c2.sim;have ex:(0:Int)+(j:Int)=Int.ofNat j:=by show _=((j:Nat):Int);omega
     rw[ex];refine⟨ρ2,heapOf (os j),.int (Int.ofNat j),frm n kv,1,frm n ((v,.int (Int.ofNat j))::kv),s2,.int _,rs2,rfl,fun σ3 rs3 o3=>?_⟩;refine acD s2 rs3 (runs j hl) fun ρ4 H4 σ4 τ4 h4 b4 s4 rs4 ag4 e4=>?_;obtain⟨_,z,_⟩:=CW e4
     have at3:σ3[i]? =some (some (.ref r)):=by
      rw[o3.2 i (by simp[vars];exact hv)];exact c2.at_
     have c4:CS cl n i kv (os (j+1)) r row σ4 H4:=O_ e4 s4 rs4 ((ag4 i z).trans at3) (b4.kept s2.tb (fun _ z=>by cases z) nr2 c2.row) (b4.2 r _ c2.row nr2).1;exact⟨c4,c4⟩
   · have ej:j=nn:=by omega
     subst ej;refine .inl ⟨aH _,k σ2 H2 c2⟩
end
section
def aep(c:Nat):O:=.tup [.int (Int.ofNat (c / 2)),.str (ifB (Nat.beq (c % 2) 0) [102,105,114,115,116] [115,101,99,111,110,100])]
def Yl(R:Nat):Nat->List (List Nat)->List O
 | _,[]=>[]
 | b,w::ws=>.lst ((List.range R).map fun i=>.ref (b+1+i))::(w.map aep++Yl R (b+R+1) ws)
def osW(p:List O)(b R:Nat)(ws:List (List Nat))(k:Nat):List O:=p ++ .lst ((List.range (2*k)).map fun i=>.ref (b+i*(R+1)))::Yl R b (ws.take (2*k))
end
end Ev
namespace My
open PySem L2 PyProof.Rows
def top(i:Nat):Stmt:=PySem.Challenge.pw_byestand_k16_whole_walked_as_guided.main.body.getD i (.Pass ⟨0,0,0,0⟩)
section
open Ev
abbrev uT:Stmt:=top 12
theorem lR:aC ["plan","at","found","table","first","second"] ["plan","at"] (aa uT):=fsc
abbrev Dj:Stmt:=top 13
theorem W3:aC ["plan","at","pair"] ["plan","at","pair"] (aa Dj):=fsc
abbrev wO:Stmt:=top 14
theorem je:aC ["plan","at","pair","table","side","first","second","number","other"] ["plan","at","pair"] (aa wO):=fsc
abbrev xY:Stmt:=top 15
theorem W4:aC ["plan","pair"] ["plan","pair"] (aa xY):=fsc
abbrev zj:Stmt:=top 16
theorem wQ:aC ["plan","at","seat","table","side"] ["plan","at","seat"] (aa zj):=fsc
abbrev Ju:Stmt:=top 17
theorem Zx:aC ["plan","at","seat"] ["plan","at","seat"] (aa Ju):=fsc
abbrev uU:Stmt:=top 18
theorem Fg:aC ["plan","seat","pair"] ["plan","seat"] (aa uU):=fsc
abbrev sU:Stmt:=top 22
theorem Jv:aC ["m"] ["m"] (aa sU):=fsc
abbrev rm:Stmt:=top 23
theorem Fz:aC ["numbers"] ["numbers"] (aa rm):=fsc
abbrev rz:Stmt:=top 24
theorem Fi:aC ["m","pairs","ways"] ["m","pairs"] (aa rz):=fsc
abbrev qw:Stmt:=top 25
theorem lU:aC ["numbers","found","partner","others","rest"] ["numbers"] (aa qw):=fsc
abbrev qx:Stmt:=top 26
theorem K4:aC ["m"] ["m"] (aa qx):=fsc
abbrev Ai:Stmt:=top 27
theorem M6:aC ["m","pairs","adds","places"] ["m","pairs","adds"] (aa Ai):=fsc
abbrev rA:Stmt:=top 28
theorem mq:aC ["m","pairs","adds","b","longer","found"] ["m","pairs","adds"] (aa rA):=fsc
abbrev pX:Stmt:=top 29
theorem Dk:aC ["m","pairs"] ["m","pairs"] (aa pX):=fsc
abbrev wR:Stmt:=top 30
theorem uV:aC ["m","pairs","adds"] ["m"] (aa wR):=fsc
abbrev qy:Stmt:=top 33
theorem sV:aC ["kind","tables","pairs","adds"] ["kind","tables"] (aa qy):=fsc
abbrev rB:Stmt:=top 36
theorem vD:aC ["_law_seed","_law_k","_law_square"] ["_law_seed","_law_k"] (aa rB):=fsc
abbrev sW:Stmt:=top 37
theorem fQ:aC ["_law_cell_here","_law_limits","_law_rest","_law_seed","_law_found","_law_limit"] ["_law_cell_here","_law_limits"] (aa sW):=fsc
abbrev sX:Stmt:=top 38
theorem Jw:aC ["_law_script","_law_k"] ["_law_script","_law_k"] (aa sX):=fsc
abbrev uW:Stmt:=top 39
theorem K5:aC ["_law_found"] ["_law_found"] (aa uW):=fsc
abbrev pq:Stmt:=top 40
theorem Jx:aC ["_law_found","_law_due"] ["_law_found","_law_due"] (aa pq):=fsc
abbrev sY:Stmt:=top 41
theorem wU:aC ["_law_asked","e"] ["_law_asked"] (aa sY):=fsc
abbrev bw:Stmt:=top 42
theorem lG:aC ["_law_number","_law_some"] ["_law_number"] (aa bw):=fsc
abbrev pY:Stmt:=top 43
theorem Dl:aC ["_law_number","_law_most"] ["_law_number","_law_most"] (aa pY):=fsc
abbrev dm:Stmt:=top 44
theorem iJ:aC ["_law_script","_law_row","_law_kind","_law_t","_law_plan","_law_ways","_law_table","_law_side","_law_word","_law_found","_law_pair","_law_at","_law_odd"] ["_law_script"] (aa dm):=fsc
abbrev mK:Stmt:=inClass (top 34) 0
theorem ym:aC ["self","kind","tables"] ["self","kind","tables"] (aa mK):=fsc
abbrev oY:Stmt:=inClass (top 34) 1
theorem Aj:aC ["self"] ["self"] (aa oY):=fsc
abbrev rC:Stmt:=inClass (top 34) 2
theorem FJ:aC ["self"] ["self"] (aa rC):=fsc
abbrev pZ:Stmt:=inClass (top 34) 3
theorem Dm:aC ["self"] ["self"] (aa pZ):=fsc
abbrev jZ:Stmt:=inClass (top 34) 4
theorem vM:aC ["self","at"] ["self","at"] (aa jZ):=fsc
abbrev j0:Stmt:=inClass (top 34) 5
theorem vN:aC ["self","table"] ["self","table"] (aa j0):=fsc
abbrev lH:Stmt:=inClass (top 34) 6
theorem wV:aC ["self","pair"] ["self","pair"] (aa lH):=fsc
abbrev p_:Stmt:=inClass (top 34) 8
theorem Dp:aC ["self","pair"] ["self","pair"] (aa p_):=fsc
abbrev rD:Stmt:=inClass (top 34) 9
theorem FN:aC ["self","at","table"] ["self","at","table"] (aa rD):=fsc
abbrev g_:Stmt:=inClass (top 34) 10
theorem cA:aC ["self","at","table","m","x","y","b"] ["self","at","table"] (aa g_):=fsc
abbrev h_:Stmt:=inClass (top 34) 11
theorem cB:aC ["self","at","table","t","half","back","ahead"] ["self","at","table"] (aa h_):=fsc
abbrev ie:Stmt:=inClass (top 2) 0
theorem rK:aC ["self","word"] ["self","word"] (aa ie):=fsc
abbrev jH:Stmt:=inClass (top 3) 0
theorem uX:aC ["self"] ["self"] (aa jH):=fsc
abbrev jJ:Stmt:=inClass (top 5) 0
theorem uY:aC ["self"] ["self"] (aa jJ):=fsc
abbrev jK:Stmt:=inClass (top 6) 0
theorem uZ:aC ["self"] ["self"] (aa jK):=fsc
abbrev jL:Stmt:=inClass (top 7) 0
theorem u5:aC ["self"] ["self"] (aa jL):=fsc
abbrev j4:Stmt:=inClass (top 8) 0
theorem vO:aC ["self"] ["self"] (aa j4):=fsc
abbrev jM:Stmt:=inClass (top 9) 0
theorem u6:aC ["self"] ["self"] (aa jM):=fsc
abbrev rE:List (List Nat × List Int):=[([115,116,114,97,105,103,104,116],[3,5,7,9]),([115,107,105,112],[4,6,8]),([115,104,97,114,101,100],[4,6,8]),([114,105,110,103],[2,3,4,5,6])]
def Px:List S:=[(.asg (.nm 2) (.pr .abT [])),
    (.for_ (.pU [(.fld 50 (.var 0) [116,97,98,108,101,115])]) (.nm 3) [(.asg (.tup [(.nm 4),(.nm 5)]) (.slice (.meth 50 [115,101,97,116] 22 (.var 0) [(.var 1),(.var 3)]) none (some (.cst (.int 2))))),
    (.dput (.var 2) (.var 4) (.pr .tup [(.var 3),(.cst (.str [102,105,114,115,116]))])),
    (.dput (.var 2) (.var 5) (.pr .tup [(.var 3),(.cst (.str [115,101,99,111,110,100]))]))]),
    (.ret (.var 2))]
def Zy:List S:=[(.expr (.meth 50 [110,101,101,100,95,114,111,117,110,100] 18 (.var 0) [(.var 1)])),
    (.expr (.meth 50 [110,101,101,100,95,112,97,105,114] 20 (.var 0) [(.var 2)])),
    (.ret (.pr .Om [(.call 0 [(.var 0),(.var 1)]),(.var 2)]))]
def Tc:List S:=[(.asg (.tup [(.nm 3),(.nm 4)]) (.pr .Om [(.call 0 [(.var 0),(.var 1)]),(.var 2)])),
    (.asg (.tup [(.nm 5),(.nm 6),(.nm 7)]) (.meth 50 [115,101,97,116] 22 (.var 0) [(.var 1),(.var 3)])),
    (.asg (.nm 8) (.ite (.pr .eq [(.var 4),(.cst (.str [102,105,114,115,116]))]) (.var 6) (.var 5))),
    (.ret (.pr .tup [(.var 3),(.var 4),(.var 8),(.var 7)]))]
def Zz:List S:=[(.expr (.meth 50 [110,101,101,100,95,112,97,105,114] 20 (.var 0) [(.var 1)])),
    (.ret (.comp 1 [0,1] (.pU [(.meth 50 [114,111,117,110,100,115] 15 (.var 0) [])]) (.nm 0) none none (.call 2 [(.var 1),(.var 0),(.var 2)])))]
def W5:List S:=[(.asg (.tup [(.nm 3),(.nm 4)]) (.var 2)),
    (.expr (.meth 50 [110,101,101,100,95,116,97,98,108,101] 19 (.var 0) [(.var 3)])),
    (.ife (.pr (.ntx [[102,105,114,115,116],[115,101,99,111,110,100]]) [(.var 4)]) [(.raise 5 [98,97,100,32,115,105,100,101])] []),
    (.ret (.pr .ix [(.meth 50 [115,101,97,116] 22 (.var 0) [(.var 1),(.var 3)]),(.pr (.tix [102,105,114,115,116] [115,101,99,111,110,100]) [(.var 4)])]))]
def acT:List S:=[(.ife (.or (.pr .lt [(.var 1),(.cst (.int 0))]) (.pr .ge [(.var 1),(.pr .sub [(.meth 50 [114,111,117,110,100,115] 15 (.var 0) []),(.cst (.int 1))])])) [(.raise 2 [110,111,32,114,111,117,110,100])] []),
    (.ret (.call 1 [(.var 0),(.pr .add [(.var 1),(.cst (.int 1))]),(.call 4 [(.var 0),(.var 1),(.var 2)])]))]
def W6:List S:=[(.asg (.nm 2) (.call 4 [(.var 0),(.cst (.int 0)),(.var 1)])),
    (.ret (.comp 1 [0,2] (.pU [(.meth 50 [114,111,117,110,100,115] 15 (.var 0) [])]) (.nm 0) none none (.call 1 [(.var 1),(.var 0),(.var 2)])))]
def K6:List S:=[(.ife (.or (.pr .lt [(.var 0),(.cst (.int 3))]) (.or (.pr .gt [(.var 0),(.cst (.int 11))]) (.pr .eq [(.pr .mod [(.var 0),(.cst (.int 2))]),(.cst (.int 0))]))) [(.raise 0 [98,97,100,32,114,105,110,103])] [])]
def Jy:List S:=[(.ret (.pr .eq [(.pr .H_ [(.var 0)]),(.pr .len [(.var 0)])]))]
def W7:List S:=[(.asg (.nm 2) (.pr .add [(.comp 2 [0] (.seq (.var 1)) (.tup [(.nm 0),(.nm 1)]) none none (.pr .mod [(.pr .sub [(.var 0),(.var 1)]),(.var 2)])),(.comp 2 [0] (.seq (.var 1)) (.tup [(.nm 0),(.nm 1)]) none none (.pr .mod [(.pr .sub [(.var 1),(.var 0)]),(.var 2)]))])),
    (.ret (.call 8 [(.var 2)]))]
def acU:List S:=[(.asg (.nm 3) (.comp 3 [0] (.zip [(.var 1),(.var 2)]) (.tup [(.nm 0),(.nm 1)]) none (some (.mk (.seq (.var 0)) (.nm 2) none)) (.pr .mod [(.pr .sub [(.var 1),(.var 2)]),(.var 3)]))),
    (.ret (.and (.call 8 [(.var 2)]) (.and (.call 8 [(.var 3)]) (.pr .uM [(.cst (.int 0)),(.var 3)]))))]
def Jz:List S:=[(.ife (.pr .eq [(.pr .len [(.var 2)]),(.pr .len [(.var 1)])]) [(.ret (.var 2))] []),
    (.for_ (.abW [(.cst (.int 1)),(.var 0)]) (.nm 3) [(.asg (.nm 4) (.pr .add [(.var 2),(.pr .lst [(.var 3)])])),
    (.ife (.pr .truth [(.call 10 [(.var 0),(.var 1),(.var 4)])]) [(.asg (.nm 5) (.call 11 [(.var 0),(.var 1),(.var 4)])),
    (.ife (.pr .Wr [(.var 5)]) [(.ret (.var 5))] [])] [])]),
    (.ret (.cst .non))]
def FQ:List S:=[(.expr (.call 7 [(.var 0)])),
    (.ret (.call 11 [(.var 0),(.var 1),(.pr .lst [])]))]
def Py:List S:=[(.ife (.pr .ne [(.var 0),(.cst (.str [114,105,110,103]))]) [(.ret (.pr .lst []))] []),
    (.asg (.tup [(.nm 2),(.nm 3)]) (.pr (.plan Pb) [(.pr .sub [(.pr .mul [(.cst (.int 2)),(.var 1)]),(.cst (.int 1))])])),
    (.ret (.comp 3 [] (.zip [(.var 2),(.var 3)]) (.tup [(.tup [(.nm 1),(.nm 2)]),(.nm 0)]) none none (.pr .tup [(.var 1),(.var 2),(.var 0)])))]
def zm:List S:=[(.ife (.pr (.tab rE) [(.var 2),(.var 1)]) [(.raise 1 [98,97,100,32,112,108,97,110])] []),
    (.Ot 50 (.var 0) [107,105,110,100] (.var 1)),
    (.Ot 50 (.var 0) [116,97,98,108,101,115] (.var 2)),
    (.Ot 50 (.var 0) [116,114,105,111,115] (.call 13 [(.var 1),(.var 2)]))]
def Dq:List S:=[(.ife (.pr .eq [(.fld 50 (.var 0) [107,105,110,100]),(.cst (.str [115,107,105,112]))]) [(.ret (.pr .sub [(.fld 50 (.var 0) [116,97,98,108,101,115]),(.cst (.int 1))]))] []),
    (.ret (.meth 50 [115,101,116,115] 16 (.var 0) []))]
def JB:List S:=[(.ife (.pr .eq [(.fld 50 (.var 0) [107,105,110,100]),(.cst (.str [114,105,110,103]))]) [(.ret (.pr .sub [(.pr .mul [(.cst (.int 2)),(.fld 50 (.var 0) [116,97,98,108,101,115])]),(.cst (.int 1))]))] []),
    (.ret (.fld 50 (.var 0) [116,97,98,108,101,115]))]
def FT:List S:=[(.ret (.pr .mul [(.cst (.int 2)),(.fld 50 (.var 0) [116,97,98,108,101,115])]))]
def wW:List S:=[(.ife (.or (.pr .lt [(.var 1),(.cst (.int 0))]) (.pr .ge [(.var 1),(.meth 50 [114,111,117,110,100,115] 15 (.var 0) [])])) [(.raise 2 [110,111,32,114,111,117,110,100])] [])]
def wX:List S:=[(.ife (.or (.pr .lt [(.var 1),(.cst (.int 0))]) (.pr .ge [(.var 1),(.fld 50 (.var 0) [116,97,98,108,101,115])])) [(.raise 3 [110,111,32,116,97,98,108,101])] [])]
def yo:List S:=[(.ife (.or (.pr .lt [(.var 1),(.cst (.int 0))]) (.pr .ge [(.var 1),(.meth 50 [112,97,105,114,115] 17 (.var 0) [])])) [(.raise 4 [110,111,32,112,97,105,114])] [])]
def FW:List S:=[(.expr (.meth 50 [110,101,101,100,95,112,97,105,114] 20 (.var 0) [(.var 1)])),
    (.ife (.or (.pr .eq [(.fld 50 (.var 0) [107,105,110,100]),(.cst (.str [114,105,110,103]))]) (.pr .lt [(.var 1),(.fld 50 (.var 0) [116,97,98,108,101,115])])) [(.ret (.cst (.int 0)))] []),
    (.ret (.cst (.int 1)))]
def JC:List S:=[(.expr (.meth 50 [110,101,101,100,95,114,111,117,110,100] 18 (.var 0) [(.var 1)])),
    (.expr (.meth 50 [110,101,101,100,95,116,97,98,108,101] 19 (.var 0) [(.var 2)])),
    (.ife (.pr .eq [(.fld 50 (.var 0) [107,105,110,100]),(.cst (.str [114,105,110,103]))]) [(.ret (.meth 50 [111,110,101,95,102,105,101,108,100,95,115,101,97,116] 23 (.var 0) [(.var 1),(.var 2)]))] []),
    (.ret (.meth 50 [116,119,111,95,102,105,101,108,100,95,115,101,97,116] 24 (.var 0) [(.var 1),(.var 2)]))]
def sZ:List S:=[(.asg (.nm 3) (.meth 50 [115,101,116,115] 16 (.var 0) [])),
    (.ife (.pr .eq [(.var 2),(.cst (.int 0))]) [(.ret (.pr .tup [(.var 3),(.var 1),(.var 1)]))] []),
    (.asg (.tup [(.nm 4),(.nm 5),(.nm 6)]) (.pr .ix [(.fld 50 (.var 0) [116,114,105,111,115]),(.pr .sub [(.var 2),(.cst (.int 1))])])),
    (.ret (.pr .tup [(.pr .mod [(.pr .add [(.var 4),(.var 1)]),(.var 3)]),(.pr .mod [(.pr .add [(.var 5),(.var 1)]),(.var 3)]),(.pr .mod [(.pr .add [(.var 6),(.var 1)]),(.var 3)])]))]
def tu:List S:=[(.asg (.nm 3) (.fld 50 (.var 0) [116,97,98,108,101,115])),
    (.asg (.nm 4) (.pr .fdiv [(.var 3),(.cst (.int 2))])),
    (.asg (.nm 5) (.ite (.and (.pr .eq [(.fld 50 (.var 0) [107,105,110,100]),(.cst (.str [115,107,105,112]))]) (.pr .ge [(.var 1),(.var 4)])) (.pr .add [(.var 1),(.cst (.int 1))]) (.var 1))),
    (.asg (.nm 6) (.ite (.and (.pr .eq [(.fld 50 (.var 0) [107,105,110,100]),(.cst (.str [115,104,97,114,101,100]))]) (.pr .ge [(.var 2),(.var 4)])) (.pr .add [(.var 1),(.cst (.int 1))]) (.var 1))),
    (.ret (.pr .tup [(.var 2),(.pr .add [(.var 3),(.pr .mod [(.pr .sub [(.var 2),(.var 5)]),(.var 3)])]),(.pr .mod [(.pr .add [(.var 2),(.var 6)]),(.var 3)])]))]
def rF:List S:=[(.asg (.nm 1) (.pr .lst [(.pr .tup [(.cst (.str [115,116,114,97,105,103,104,116])),(.cst (.int 3))]),(.pr .tup [(.cst (.str [115,107,105,112])),(.cst (.int 4))]),(.pr .tup [(.cst (.str [115,104,97,114,101,100])),(.cst (.int 4))]),(.pr .tup [(.cst (.str [115,116,114,97,105,103,104,116])),(.cst (.int 5))]),(.pr .tup [(.cst (.str [114,105,110,103])),(.cst (.int 4))]),(.pr .tup [(.cst (.str [115,107,105,112])),(.cst (.int 6))]),(.pr .tup [(.cst (.str [115,104,97,114,101,100])),(.cst (.int 6))])])),
    (.asg (.nm 1) (.pr .add [(.var 1),(.pr .lst [(.pr .tup [(.cst (.str [115,116,114,97,105,103,104,116])),(.cst (.int 7))]),(.pr .tup [(.cst (.str [114,105,110,103])),(.cst (.int 5))]),(.pr .tup [(.cst (.str [115,107,105,112])),(.cst (.int 8))]),(.pr .tup [(.cst (.str [115,104,97,114,101,100])),(.cst (.int 8))]),(.pr .tup [(.cst (.str [115,116,114,97,105,103,104,116])),(.cst (.int 9))]),(.pr .tup [(.cst (.str [114,105,110,103])),(.cst (.int 6))])])])),
    (.ret (.pr .ix [(.var 1),(.pr .mod [(.var 0),(.cst (.int 13))])]))]
def FZ:List S:=[(.ret (.pr .ix [(.pr .lst [(.pr .neg [(.cst (.int 1))]),(.var 1),(.pr .add [(.var 1),(.cst (.int 1))]),(.pr .pow [(.cst (.int 10)),(.cst (.int 40))]),(.pr .neg [(.pr .pow [(.cst (.int 10)),(.cst (.int 40))])])]),(.pr .mod [(.var 0),(.cst (.int 5))])]))]
def Pg:List Fn:=[.mk 2 6 Px,.mk 3 3 Zy,.mk 3 9 Tc,.mk 2 2 Zz,.mk 3 5 W5,.mk 3 3 acT,.mk 2 3 W6,.mk 1 1 K6,.mk 1 1 Jy,.mk 2 3 W7,.mk 3 4 acU,.mk 3 6 Jz,.mk 2 2 FQ,.mk 2 4 Py,.mk 3 3 zm,.mk 1 1 Dq,.mk 1 1 JB,.mk 1 1 FT,.mk 2 2 wW,.mk 2 2 wX,.mk 2 2 yo,.mk 2 2 FW,.mk 3 3 JC,.mk 3 7 sZ,.mk 3 7 tu,.mk 1 2 rF,.mk 2 2 FZ]
set_option genInjectivity false in
set_option genSizeOf false in
structure Adr where
 kO:Addr
 qz:FuncData
 qJ:Addr
 xZ:FuncData
 mW:Addr
 rT:FuncData
 qK:Addr
 x_:FuncData
 oZ:Addr
 u9:FuncData
 uw:Addr
 Ak:FuncData
 o4:Addr
 u_:FuncData
 jy:Addr
 pA:FuncData
 iK:Addr
 nQ:FuncData
 o5:Addr
 vd:FuncData
 jf:Addr
 nR:FuncData
 nU:Addr
 vf:FuncData
 ux:Addr
 Am:FuncData
 iM:Addr
 nW:FuncData
 gC:Addr
 mz:FuncData
 mY:Addr
 rW:FuncData
 kW:Addr
 qC:FuncData
 j5:Addr
 rG:FuncData
 lV:Addr
 tD:FuncData
 lW:Addr
 tH:FuncData
 nY:Addr
 vg:FuncData
 fB:Addr
 jz:FuncData
 pB:Addr
 yD:FuncData
 bC:Addr
 jg:FuncData
 gF:Addr
 mC:FuncData
 rY:Addr
 aeq:FuncData
 c7:Addr
 fU:FuncData
 dO:Addr
 iQ:FuncData
 fV:Addr
 j6:FuncData
 eX:Addr
 jl:FuncData
 b7:Addr
 eE:FuncData
 b8:Addr
 eF:FuncData
 cF:Addr
 eZ:FuncData
 eY:Addr
 jm:FuncData
 fW:Addr
 j7:FuncData
 bD:Addr
 cT:FuncData
 bF:Addr
 cU:FuncData
 aY:Addr
 d8:FuncData
 cG:Addr
 f9:FuncData
 cH:Addr
 gb:FuncData
 cI:Addr
 gf:FuncData
 cJ:Addr
 gh:FuncData
 dh:Addr
 gY:FuncData
 cL:Addr
 gj:FuncData
 aK:Addr
 mZ:Addr
 m5:Addr
 m6:Addr
 m7:Addr
 o6:Addr
 m8:Addr
 bV:Addr
 fC:Addr
 qL:Addr
 jN:Tok
 nZ:Tok
 tbl:Addr
 code:Addr
def cn(a:Adr):Cn where
 c:=fun k=>match k with | 0=>a.mZ | 1=>a.m5 | 2=>a.m6 | 3=>a.m7 | 4=>a.o6 | 5=>a.m8 | 50=>a.bV | _=>0
 P:=a.tbl
 q:="law" ++ ".<locals>." ++ "<lambda>"
 on:=true
structure Txt (w:World)(K:ak)(mg:Str->Option Value)(a:Adr):Prop where
 jh:Df K mg "seats_in" uT ["plan","at"] a.kO a.qz
 gG:Df K mg "where" Dj ["plan","at","pair"] a.qJ a.xZ
 iZ:Df K mg "meeting" wO ["plan","at","pair"] a.mW a.rT
 qM:Df K mg "guide" xY ["plan","pair"] a.qK a.x_
 mL:Df K mg "sitter" zj ["plan","at","seat"] a.oZ a.u9
 pL:Df K mg "goes" Ju ["plan","at","seat"] a.uw a.Ak
 dR:Df K mg "walked" uU ["plan","seat"] a.o4 a.u_
 ig:Df K mg "need_ring" sU ["m"] a.jy a.pA
 eG:Df K mg "all_unlike" rm ["numbers"] a.iK a.nQ
 o7:Df K mg "differ" rz ["m","pairs"] a.o5 a.vd
 ji:Df K mg "pairings" qw ["numbers"] a.jf a.nR
 kY:Df K mg "starters" qx ["m"] a.nU a.vf
 uy:Df K mg "fits" Ai ["m","pairs","adds"] a.ux a.Am
 fX:Df K mg "first_from" rA ["m","pairs","adds"] a.iM a.nW
 gH:Df K mg "first_adder" pX ["m","pairs"] a.gC a.mz
 i_:Df K mg "planned" wR ["m"] a.mY a.rW
 kZ:Df K mg "trios_of" qy ["kind","tables"] a.kW a.qC
 iR:Df K mg "_law_mixed" rB ["_law_seed","_law_k"] a.j5 a.rG
 jA:Df K mg "_law_draw" sW ["_law_cell_here","_law_limits"] a.lV a.tD
 jB:Df K mg "_law_cell" sX ["_law_script","_law_k"] a.lW a.tH
 k_:Df K mg "_law_num" uW ["_law_found"] a.nY a.vg
 ir:Df K mg "_law_same" pq ["_law_found","_law_due"] a.fB a.jz
 b_:Df K mg "_law_told" sY ["_law_asked"] a.pB a.yD
 dU:Df K mg "_law_some_plan" bw ["_law_number"] a.bC a.jg
 dG:Df K mg "_law_far_of" pY ["_law_number","_law_most"] a.gF a.mC
 afA:Df K mg "law" dm ["_law_script"] a.rY a.aeq
 zp:Fun K "__init__" "Plan.__init__" mK a.c7 a.fU
 zq:Binds K a.fU ["self","kind","tables"] []
 Dr:Fun K "rounds" "Plan.rounds" oY a.dO a.iQ
 dW:Binds K a.iQ ["self"] []
 dB:Meth K ((cn a).c 50) "rounds" a.dO
 JD:Fun K "sets" "Plan.sets" rC a.fV a.j6
 wY:Binds K a.j6 ["self"] []
 vG:Meth K ((cn a).c 50) "sets" a.fV
 F_:Fun K "pairs" "Plan.pairs" pZ a.eX a.jl
 Ga:Binds K a.jl ["self"] []
 Ds:Meth K ((cn a).c 50) "pairs" a.eX
 wZ:Fun K "need_round" "Plan.need_round" jZ a.b7 a.eE
 pM:Binds K a.eE ["self","at"] []
 oE:Meth K ((cn a).c 50) "need_round" a.b7
 w5:Fun K "need_table" "Plan.need_table" j0 a.b8 a.eF
 pN:Binds K a.eF ["self","table"] []
 oF:Meth K ((cn a).c 50) "need_table" a.b8
 yp:Fun K "need_pair" "Plan.need_pair" lH a.cF a.eZ
 lJ:Binds K a.eZ ["self","pair"] []
 j8:Meth K ((cn a).c 50) "need_pair" a.cF
 Gb:Fun K "field" "Plan.field" p_ a.eY a.jm
 aaS:Binds K a.jm ["self","pair"] []
 ZC:Meth K ((cn a).c 50) "field" a.eY
 JF:Fun K "seat" "Plan.seat" rD a.fW a.j7
 n6:Binds K a.j7 ["self","at","table"] []
 mD:Meth K ((cn a).c 50) "seat" a.fW
 tK:Fun K "one_field_seat" "Plan.one_field_seat" g_ a.bD a.cT
 tL:Binds K a.cT ["self","at","table"] []
 rM:Meth K ((cn a).c 50) "one_field_seat" a.bD
 tM:Fun K "two_field_seat" "Plan.two_field_seat" h_ a.bF a.cU
 tQ:Binds K a.cU ["self","at","table"] []
 rN:Meth K ((cn a).c 50) "two_field_seat" a.bF
 tR:Fun K "__init__" "StandError.__init__" ie a.aY a.d8
 bR:Binds K a.d8 ["self","word"] []
 vP:Fun K "__init__" "BadRing.__init__" jH a.cG a.f9
 vQ:Binds K a.f9 ["self"] []
 vR:Fun K "__init__" "BadPlan.__init__" jJ a.cH a.gb
 vU:Binds K a.gb ["self"] []
 vV:Fun K "__init__" "NoRound.__init__" jK a.cI a.gf
 oG:Binds K a.gf ["self"] []
 vW:Fun K "__init__" "NoTable.__init__" jL a.cJ a.gh
 vX:Binds K a.gh ["self"] []
 w6:Fun K "__init__" "NoPair.__init__" j4 a.dh a.gY
 xg:Binds K a.gY ["self"] []
 vY:Fun K "__init__" "BadSide.__init__" jM a.cL a.gj
 vZ:Binds K a.gj ["self"] []
 aJ:Cls K ((cn a).c 50)
 dD:bM K ((cn a).c 50) "kind"
 bH:bM K ((cn a).c 50) "tables"
 mF:bM K ((cn a).c 50) "trios"
 Dt:Mk K ((cn a).c 50) a.c7
 ZD:mg "Plan" =some (.ref ((cn a).c 50))
 vh:XMk K ((cn a).c 0) a.cG
 Pz:qU K ((cn a).c 0) a.aK
 An:bM K ((cn a).c 0) "word"
 PB:mg "BadRing" =some (.ref ((cn a).c 0))
 vm:XMk K ((cn a).c 1) a.cH
 PJ:qU K ((cn a).c 1) a.aK
 Ao:bM K ((cn a).c 1) "word"
 PK:mg "BadPlan" =some (.ref ((cn a).c 1))
 qD:XMk K ((cn a).c 2) a.cI
 PL:qU K ((cn a).c 2) a.aK
 Aq:bM K ((cn a).c 2) "word"
 Ar:mg "NoRound" =some (.ref ((cn a).c 2))
 vo:XMk K ((cn a).c 3) a.cJ
 PX:qU K ((cn a).c 3) a.aK
 Av:bM K ((cn a).c 3) "word"
 P0:mg "NoTable" =some (.ref ((cn a).c 3))
 xj:XMk K ((cn a).c 4) a.dh
 Td:qU K ((cn a).c 4) a.aK
 Fj:bM K ((cn a).c 4) "word"
 Te:mg "NoPair" =some (.ref ((cn a).c 4))
 vp:XMk K ((cn a).c 5) a.cL
 P_:qU K ((cn a).c 5) a.aK
 Aw:bM K ((cn a).c 5) "word"
 Qa:mg "BadSide" =some (.ref ((cn a).c 5))
 vH:iD K a.aK
 gJ:CI K a.aK a.aY
 dH:mg "StandError" =some (.ref a.aK)
 mG:O4 K w a.fC rE
 xm:mg "TABLES_OF" =some (.ref a.fC)
 JG:TxK K a.qL [102,105,114,115,116] [115,101,99,111,110,100]
 JH:mg "SIDES" =some (.ref a.qL)
 Ax:mg "GREATEST_RING" =some (Value.int (11) a.jN)
 JK:mg "LEAST_RING" =some (Value.int (3) a.nZ)
 rH:mg "ValueError" =none
 Qc:mg "abs" =none
 Qd:mg "all" =none
 xq:mg "bool" =none
 Hi:mg "int" =none
 bI:mg "isinstance" =none
 jO:mg "len" =none
 uz:mg "list" =none
 fH:mg "range" =none
 Hj:mg "set" =none
 Hl:mg "str" =none
 yd:mg "tuple" =none
 Ho:mg "zip" =none
theorem ye{i j:Int}(h1: -(2 ^ 64)<i)(h2:i<2 ^ 64):GZ i j:=.inl (.inl ⟨h1,h2⟩)
theorem JL{i j:Int}(h1: -(2 ^ 64)<j)(h2:j<2 ^ 64):GZ i j:=.inl (.inr ⟨h1,h2⟩)
section
variable{P:Program}{w:World}{K:ak}{mg:Str->Option Value}{base:Heap}
theorem hXs{a:Adr}(T:Txt w K mg a):∀ C,C<6->iD K ((cn a).c C)/\qU K ((cn a).c C) a.aK/\bM K ((cn a).c C) "word"
 | 0,_=>⟨T.vh.cls,T.Pz,T.An⟩
 | 1,_=>⟨T.vm.cls,T.PJ,T.Ao⟩
 | 2,_=>⟨T.qD.cls,T.PL,T.Aq⟩
 | 3,_=>⟨T.vo.cls,T.PX,T.Av⟩
 | 4,_=>⟨T.xj.cls,T.Td,T.Fj⟩
 | 5,_=>⟨T.vp.cls,T.P_,T.Aw⟩
 | n+6,h=>absurd h (by omega)
theorem gK{a:Adr}(T:Txt w K mg a):aP P w K mg base CX0 1 a.aY a.d8 ["self","word"] (spS K):=by
 refine T.tR.ok rK (fun vs H Q E h=>?_) (fun cdv A outer s H vs Q E hr h=>?_)
 · obtain⟨_,_,_,rfl,_⟩:=h;rfl
 obtain⟨e,C,y,rfl,he,c,na,q⟩:=h;refine⟨_,(aR (gn (Wi rfl T.rH (aq (pv 0) (aq (pv 1) aD)))) (aO (YK (pv 0) (pv 1)))),?_⟩;exact⟨_,rfl,_,rfl,e,C,none,y,rfl,he,c,y,rfl,.ref e,rfl,e,C,rfl,he,c,na,q⟩
theorem Qe{a:Adr}(T:Txt w K mg a):aP P w K mg base CX0 2 a.cG a.f9 ["self"] (spX ((cn a).c 0) [98,97,100,32,114,105,110,103]):=by
 have F:=gK (P:=P) (base:=base) T;refine T.vP.ok uX (fun vs H Q E h=>?_) (fun cdv A outer s H vs Q E hr h=>?_)
 · obtain⟨_,rfl,_⟩:=h;rfl
 obtain⟨e,rfl,he,q⟩:=h;refine⟨_,(aO (gn (oK T.gJ F (hr.mono (by omega)) rfl T.dH T.bR ql (aq (pv 0) (aq m_ aD))))),?_⟩;refine⟨_,rfl,e,((cn a).c 0),_,rfl,he,T.vh.cls,T.An,fun dx h1 h2=>?_⟩;have:=q dx h1 h2;rw[<- qI]at this;exact this
theorem Qf{a:Adr}(T:Txt w K mg a):aP P w K mg base CX0 2 a.cH a.gb ["self"] (spX ((cn a).c 1) [98,97,100,32,112,108,97,110]):=by
 have F:=gK (P:=P) (base:=base) T;refine T.vR.ok uY (fun vs H Q E h=>?_) (fun cdv A outer s H vs Q E hr h=>?_)
 · obtain⟨_,rfl,_⟩:=h;rfl
 obtain⟨e,rfl,he,q⟩:=h;refine⟨_,(aO (gn (oK T.gJ F (hr.mono (by omega)) rfl T.dH T.bR ql (aq (pv 0) (aq m_ aD))))),?_⟩;refine⟨_,rfl,e,((cn a).c 1),_,rfl,he,T.vm.cls,T.Ao,fun dx h1 h2=>?_⟩;have:=q dx h1 h2;rw[<- qI]at this;exact this
theorem Ay{a:Adr}(T:Txt w K mg a):aP P w K mg base CX0 2 a.cI a.gf ["self"] (spX ((cn a).c 2) [110,111,32,114,111,117,110,100]):=by
 have F:=gK (P:=P) (base:=base) T;refine T.vV.ok uZ (fun vs H Q E h=>?_) (fun cdv A outer s H vs Q E hr h=>?_)
 · obtain⟨_,rfl,_⟩:=h;rfl
 obtain⟨e,rfl,he,q⟩:=h;refine⟨_,(aO (gn (oK T.gJ F (hr.mono (by omega)) rfl T.dH T.bR ql (aq (pv 0) (aq m_ aD))))),?_⟩;refine⟨_,rfl,e,((cn a).c 2),_,rfl,he,T.qD.cls,T.Aq,fun dx h1 h2=>?_⟩;have:=q dx h1 h2;rw[<- qI]at this;exact this
theorem Qg{a:Adr}(T:Txt w K mg a):aP P w K mg base CX0 2 a.cJ a.gh ["self"] (spX ((cn a).c 3) [110,111,32,116,97,98,108,101]):=by
 have F:=gK (P:=P) (base:=base) T;refine T.vW.ok u5 (fun vs H Q E h=>?_) (fun cdv A outer s H vs Q E hr h=>?_)
 · obtain⟨_,rfl,_⟩:=h;rfl
 obtain⟨e,rfl,he,q⟩:=h;refine⟨_,(aO (gn (oK T.gJ F (hr.mono (by omega)) rfl T.dH T.bR ql (aq (pv 0) (aq m_ aD))))),?_⟩;refine⟨_,rfl,e,((cn a).c 3),_,rfl,he,T.vo.cls,T.Av,fun dx h1 h2=>?_⟩;have:=q dx h1 h2;rw[<- qI]at this;exact this
theorem Tf{a:Adr}(T:Txt w K mg a):aP P w K mg base CX0 2 a.dh a.gY ["self"] (spX ((cn a).c 4) [110,111,32,112,97,105,114]):=by
 have F:=gK (P:=P) (base:=base) T;refine T.w6.ok vO (fun vs H Q E h=>?_) (fun cdv A outer s H vs Q E hr h=>?_)
 · obtain⟨_,rfl,_⟩:=h;rfl
 obtain⟨e,rfl,he,q⟩:=h;refine⟨_,(aO (gn (oK T.gJ F (hr.mono (by omega)) rfl T.dH T.bR ql (aq (pv 0) (aq m_ aD))))),?_⟩;refine⟨_,rfl,e,((cn a).c 4),_,rfl,he,T.xj.cls,T.Fj,fun dx h1 h2=>?_⟩;have:=q dx h1 h2;rw[<- qI]at this;exact this
theorem Qh{a:Adr}(T:Txt w K mg a):aP P w K mg base CX0 2 a.cL a.gj ["self"] (spX ((cn a).c 5) [98,97,100,32,115,105,100,101]):=by
 have F:=gK (P:=P) (base:=base) T;refine T.vY.ok u6 (fun vs H Q E h=>?_) (fun cdv A outer s H vs Q E hr h=>?_)
 · obtain⟨_,rfl,_⟩:=h;rfl
 obtain⟨e,rfl,he,q⟩:=h;refine⟨_,(aO (gn (oK T.gJ F (hr.mono (by omega)) rfl T.dH T.bR ql (aq (pv 0) (aq m_ aD))))),?_⟩;refine⟨_,rfl,e,((cn a).c 5),_,rfl,he,T.vp.cls,T.Aw,fun dx h1 h2=>?_⟩;have:=q dx h1 h2;rw[<- qI]at this;exact this
end
end
section
variable{P:Program}{w:World}{K:ak}{mg:Str->Option Value}{base:Heap}
def ZF:Sp:=fun vs H Q _=>∃ a k:Int,vs= [.int a,.int k]/\0<=a/\a<2147483647/\∀ z:Int,0<=z->z<2147483647->Q (.int z) H
theorem Gd{a:Adr}(T:Txt w K mg a):aP P w K mg base CX0 1 a.j5 a.rG ["_law_seed","_law_k"] ZF:=by
 refine T.iR.fn.ok vD (fun vs H Q E h=>?_) (fun cdv A outer s H vs Q E hr h=>?_)
 · obtain⟨a,k,rfl,_⟩:=h;rfl
 obtain⟨x,k,rfl,h0,h1,q⟩:=h
 refine⟨_,(aR (lM (i:=2) vD.nd rfl (Or.inl rfl) (dz dJ (dz jr (pv 0) (pv 0)) bJ))
  (aO (dw (dz dJ (dz d9 (dz d9 (dz jr (pv 2) (dz d9 (dz dJ (pv 0) bJ) bJ)) (dz jr (pv 1) bJ)) bJ) bJ)))),?_⟩
 have m31:(0:Int)<2147483647:=by decide
 refine⟨_,rfl,_,rfl,_,_,rfl,rfl,ye (by omega) (by omega),_,_,rfl,rfl,m31,?_⟩;have s0:=Int.emod_nonneg (x*x) (show(2147483647:Int) ≠ 0 by decide);have s1:=Int.emod_lt_of_pos (x*x) m31;refine⟨_,rfl,_,rfl,_,_,rfl,rfl,(by show(0:Int)<65521;decide),_,_,rfl,rfl,_,_,rfl,rfl,ye (by omega) (by omega),_,rfl,_,_,rfl,rfl,JL (by decide) (by decide),_,_,rfl,rfl,_,_,rfl,rfl,_,_,rfl,rfl,m31,?_⟩;exact q _ (Int.emod_nonneg _ (by decide)) (Int.emod_lt_of_pos _ m31)
def acV:Sp:=fun vs H Q _=>∃(c:Int) (l:Addr) (ls:List Int),vs= [.int c,.ref l]/\H l=some (.lst (ls.map V.int))/\ls.length<=63/\(∀ z ∈ ls,0<z/\Sml z)/\
 ∀(r:Addr) (ns:List Int) (H':Hp),H r=none->bN H H'->Drawn ns ls->H' r=some (.lst (ns.map V.int))->Q (.ref r) H'
theorem JM{a:Adr}(T:Txt w K mg a):aP P w K mg base CX0 2 a.lV a.tD ["_law_cell_here","_law_limits"] acV:=by
 have JN:=Gd (P:=P) (w:=w) (base:=base) T;refine T.jA.fn.ok fQ (fun vs H Q E h=>?_) (fun cdv A outer s H vs Q E hr h=>?_)
 · obtain⟨_,_,_,rfl,_⟩:=h;rfl
 obtain⟨c,l,ls,rfl,hl,h63,hz,q⟩:=h
 refine⟨_,(aR (lM (i:=2) fQ.nd rfl (Or.inl rfl) (Hv (mQ uD (pv 0) (dz Hy bJ bJ) (aM _)) (pv 0) bJ))
  (aR (lM (i:=3) fQ.nd rfl (Or.inl rfl) (dz dJ (dz d9 (dz jr (bu V1 rfl T.Qc boot_abs (aq (pv 0) aD)) bJ) bJ) bJ))
  (aR (lM (i:=4) fQ.nd rfl (Or.inl rfl) (qP aD))
  (aR (t6 PassesOwn.never rfl (oJ (pv 1)) (mO (i:=5) fQ.nd rfl (Or.inl rfl))
    (aO (nq (mQ Xy (pv 2) bJ (aM _)) (aR (gn (GX PySem.F.plainAttrs_list PySem.F.slot_list_append PySem.F.type_list_append mR (pv 4) (aq (dz dJ (pv 2) (pv 5)) aD)))
      (aO (lM (i:=2) fQ.nd rfl (Or.inl rfl) (dz yL (pv 2) (pv 5))))) (aR (lM (i:=3) fQ.nd rfl (Or.inl rfl) (qm T.iR JN (hr.mono (by omega)) rfl (aq (pv 3) (aq (bu d_ rfl T.jO boot_len (aq (pv 4) aD)) aD))))
      (aO (gn (GX PySem.F.plainAttrs_list PySem.F.slot_list_append PySem.F.type_list_append mR (pv 4) (aq (dz dJ (dz yL (pv 3) bJ) (pv 5)) aD))))))))
  (aO (dw (pv 4))))))),?_⟩
 have m31:(0:Int)<2147483647:=by decide
 have s31:Sml 61:=by unfold Sml;exact cR (show(61:Int).natAbs<2 ^ 10 by decide) (Nat.pow_le_pow_right (by decide) (by decide))
 refine⟨_,rfl,_,_,rfl,rfl,(by show VR 10 18;exact⟨by decide,by decide,by decide⟩),_,_,rfl,rfl,_,rfl,?_⟩;refine N7 (fun cc=>?gA) (fun cc=>?gB)
 case' gA=>
  have c0:(0:Int)<=c:=by
   have z:(10:Int) ^ (18:Int).toNat<=c:=of_decide_eq_true cc;have z2:(0:Int)<=(10:Int) ^ (18:Int).toNat:=by decide
   omega
  refine⟨_,rfl,?_⟩
 case' gB=>have c0:(0:Int)<=0:=by decide
 all_goals
  refine⟨_,rfl,_,rfl,_,_,rfl,rfl,JL (by decide) (by decide),_,_,rfl,rfl,_,_,rfl,rfl,m31,?_⟩;refine⟨(by show 0<=sizeLine;decide),fun r hr'=>?_⟩;have g0:bN H (upd H r (.lst [])):=cD hr' _
  refine⟨_,rfl,l,rfl,⟨_,SqL.of (g0 _ _ hl)⟩,uB (K:=K) (a:=l) (xs:=ls.map V.int) (fun i σ H2=>∃(rest seed:Int) (ns:List Int) (v:Option V),σ= [some (.int c),some (.ref l),some (.int rest),some (.int seed),some (.ref r),v]/\
   0<=rest/\0<=seed/\seed<2147483647/\bN H H2/\H2 r=some (.lst (ns.map V.int))/\Drawn ns (ls.take i))
   ⟨_,_,[],none,rfl,c0,Int.emod_nonneg _ (by decide),Int.emod_lt_of_pos _ m31,g0,az,by simpa using Paired.nil⟩ (fun i σ H2 _ ⟨_,_,_,_,_,_,_,_,s2,_⟩=>SqL.of (s2 _ _ hl)) ?_ ?_⟩
  · rintro i y σ H2 hi ⟨rest,seed,ns,v,rfl,r0,s0,s1,s2,hr2,hD⟩
    obtain⟨z,hzi,rfl⟩:∃ z,ls[i]? =some z/\y=V.int z:=by
     rw[List.getElem?_map]at hi
     cases e:ls[i]? with
     | none=>rw[e]at hi;cases hi
     | some z=>rw[e]at hi;exact⟨z,rfl,(Option.some.inj hi).symm⟩
    obtain⟨z0,zS⟩:=hz z (List.mem_of_getElem? hzi);have hil:i<ls.length:=(aZ hzi).1;have hlen:ns.length=i:=by have:=hD.length;rw[List.length_take]at this;omega
    have hlt:(ns.map V.int).length<sizeLine:=by rw[List.length_map];exact Rm (by omega)
    have nlr:r ≠ l:=fun e=>by rw[e]at hr';rw[hl]at hr';cases hr'
    have etk:ls.take (i+1)=ls.take i ++ [z]:=by rw[List.take_add_one,hzi];rfl
    have next:∀ v:Int,0<=v->v<z->Drawn (ns ++ [v]) (ls.take (i+1)):=fun v h0 h1=>by rw[etk];exact hD.snoc ⟨h0,h1⟩
    have Ym:∀ o,bN H (upd H2 r o):=fun o b u e=>by rw[aB (aV e hr')];exact s2 _ _ e
    have em:∀ v:Int,ns.map V.int ++ [V.int v] =(ns ++ [v]).map V.int:=fun v=>by rw[List.map_append];rfl
    refine⟨_,rfl,_,_,rfl,rfl,_,rfl,?_⟩;refine N7 (fun cr=>?_) (fun cr=>?_)
    · have cr':0<rest:=of_decide_eq_true cr;refine⟨_,rfl,.inl ⟨rfl,_,SqL.of hr2⟩,_,rfl,_,rfl,_,_,rfl,rfl,z0,r,_,_,rfl,rfl,hr2,hlt,?_⟩;refine⟨_,rfl,_,rfl,_,_,rfl,rfl,⟨by omega,zS⟩,?_⟩;refine⟨_,seed,ns ++ [rest % z],_,rfl,Int.fdiv_nonneg r0 (by omega),s0,s1,Ym _,by rw[az,em],next _ (Int.emod_nonneg _ (by omega)) (Int.emod_lt_of_pos _ z0)⟩
    · refine⟨_,rfl,_,rfl,r,_,rfl,.inl (SqL.of hr2),_,_,rfl,s0,s1,fun sd sd0 sd1=>?_⟩;refine⟨_,rfl,.inl ⟨rfl,_,SqL.of hr2⟩,_,rfl,_,_,rfl,rfl,⟨by decide,s31⟩,_,rfl,_,_,rfl,rfl,z0,r,_,_,rfl,rfl,hr2,hlt,?_⟩;refine⟨rest,sd,ns ++ [(sd.fdiv 61) % z],_,rfl,r0,sd0,sd1,Ym _,by rw[az,em],next _ (Int.emod_nonneg _ (by omega)) (Int.emod_lt_of_pos _ z0)⟩
  · rintro σ H2 ⟨rest,seed,ns,v,rfl,r0,s0,s1,s2,hr2,hD⟩;rw[List.length_map,List.take_length]at hD;exact⟨_,rfl,q r ns H2 hr' s2 hD hr2⟩
def acW(K:ak):Sp:=fun vs H Q _=>∃(a:Addr) (ns:List Int) (k:Int),vs= [.ref a,.int k]/\SqL K H a (ns.map V.int)/\ns.length<=63/\0<=k/\∀ z:Int,Q (.int z) H
theorem int_at{ns:List Int}{k:Int}(h0:0<=k)(h1:k<(ns.length:Int)):∃ z:Int,atI (ns.map V.int) k=some (.int z):=by
 have hk:k.toNat<ns.length:=by omega
 have ek:k=((k.toNat:Nat):Int):=by omega
 have q:atI (ns.map V.int) ((k.toNat:Nat):Int)=some (.int ns[k.toNat]):=qF (by rw[List.getElem?_map,List.getElem?_eq_getElem hk] <;> rfl);rw[<- ek]at q;exact⟨_,q⟩
theorem JP{a:Adr}(T:Txt w K mg a):aP P w K mg base CX0 1 a.lW a.tH ["_law_script","_law_k"] (acW K):=by
 refine T.jB.fn.ok Jw (fun vs H Q E h=>?_) (fun cdv A outer s H vs Q E hr h=>?_)
 · obtain⟨_,_,_,rfl,_⟩:=h;rfl
 obtain⟨l,ns,k,rfl,hS,h63,k0,q⟩:=h
 refine⟨_,(aR (nq (mQ uC (pv 1) (bu d_ rfl T.jO boot_len (aq (pv 0) aD)) (aM _)) (aO (dw (uE xP (pv 0) (pv 1) (fun _ _=>rfl)))) iz)
  (aR (nq (mQ zH (bu d_ rfl T.jO boot_len (aq (pv 0) aD)) bJ (aM _)) (aO (dw (dz jr bJ (pv 1)))) iz)
  (aO (dw (dz d9 (uE xP (pv 0) (dz dJ (pv 1) (bu d_ rfl T.jO boot_len (aq (pv 0) aD))) (fun _ _=>rfl)) (dz jr bJ (pv 1))))))),?_⟩
 have hl:(ns.map V.int).length=ns.length:=List.length_map _;refine⟨_,rfl,_,rfl,l,_,rfl,.inl hS,_,_,rfl,rfl,_,rfl,?_⟩;refine N7 (fun c=>?_) (fun c=>?_)
 · have c':k<(((ns.map V.int).length:Nat):Int):=of_decide_eq_true c;rw[hl]at c';obtain⟨z,hz⟩:=int_at k0 c';exact⟨_,rfl,_,rfl,l,_,_,_,rfl,rfl,hS,hz,q z⟩
 · refine⟨_,rfl,l,_,rfl,.inl hS,rfl,_,rfl,?_⟩;refine N7 (fun c2=>?_) (fun c2=>?_)
   · exact⟨_,rfl,_,_,rfl,rfl,ye (by decide) (by decide),q _⟩
   · have c3:¬ V.int (((ns.map V.int).length:Nat):Int)=V.int 0:=fun z=>c2 (decide_eq_true z)
     have c4:0<ns.length:=by
      rw[hl]at c3
      rcases Nat.eq_zero_or_pos ns.length with z | z
      · rw[z]at c3;exact absurd rfl c3
      · exact z
     have p0:(0:Int)<(((ns.map V.int).length:Nat):Int):=by rw[hl];omega
     obtain⟨z,hz⟩:=int_at (ns:=ns) (k:=k % (((ns.map V.int).length:Nat):Int)) (Int.emod_nonneg _ (by omega)) (by have:=Int.emod_lt_of_pos k p0;rw[hl]at this ⊢;exact this);exact⟨_,rfl,_,rfl,_,rfl,l,_,rfl,.inl hS,_,_,rfl,rfl,p0,l,_,_,_,rfl,rfl,hS,hz,_,rfl,_,_,rfl,rfl,ye (by decide) (by decide),_,_,rfl,rfl,q _⟩
theorem tU:∀ {xs ys:List PyData},xs.length ≠ ys.length->PySem.Spec.sameAll xs ys=false
 | [],[],h=>absurd rfl h
 | [],_::_,_=>by simp[PySem.Spec.sameAll]
 | _::_,[],_=>by simp[PySem.Spec.sameAll]
 | x::xs,y::ys,h=>by
   simp only[PySem.Spec.sameAll];rw[tU (xs:=xs) (ys:=ys) (by simpa using h),Bool.and_false]
theorem tV:∀ {xs ys:List PyData},xs.length=ys.length->PySem.Spec.sameAll xs ys=(List.zipWith PySem.Spec.same xs ys).all id
 | [],[],_=>by simp[PySem.Spec.sameAll]
 | [],_::_,h=>by simp at h
 | _::_,[],h=>by simp at h
 | x::xs,y::ys,h=>by
   simp only[PySem.Spec.sameAll,List.zipWith_cons_cons,List.all_cons,id];rw[tV (xs:=xs) (ys:=ys) (by simpa using h)]
def acX:Sp:=fun vs H Q _=>∃(x:V) (d:PyData),vs= [x]/\Rep H x d/\Q (.bl (match d with | .int _=>true | _=>false)) H
theorem K7{a:Adr}(T:Txt w K mg a):aP P w K mg base CX0 1 a.nY a.vg ["_law_found"] acX:=by
 refine T.k_.fn.ok K5 (fun vs H Q E h=>?_) (fun cdv A outer s H vs Q E hr h=>?_)
 · obtain⟨_,_,rfl,_⟩:=h;rfl
 obtain⟨x,d,rfl,rx,q⟩:=h;refine⟨_,(aO (dw (tZ (bu fL rfl T.bI boot_isinstance (aq (pv 0) (aq (iy (v:=.ty "int") rfl T.Hi boot_int rfl) aD))) (tY (aa5 (bu fL rfl T.bI boot_isinstance (aq (pv 0) (aq (iy (v:=.ty "bool") rfl T.xq boot_bool rfl) aD)))))))),?_⟩;have ty:=rx.ty (K:=K)
 cases rx with
 | int i=>
   refine⟨_,rfl,_,"int",_,true,rfl,ty,rfl,true,rfl,?_⟩;refine cg ?_
   exact⟨_,rfl,_,"bool",_,false,rfl,ty,rfl,false,rfl,q⟩
 | bl b=>
   refine⟨_,rfl,_,"int",_,true,rfl,ty,rfl,true,rfl,?_⟩;refine cg ?_
   exact⟨_,rfl,_,"bool",_,true,rfl,ty,rfl,true,rfl,q⟩
 | non=>exact⟨_,rfl,_,"int",_,false,rfl,ty,rfl,false,rfl,a_ q⟩
 | str z=>exact⟨_,rfl,_,"int",_,false,rfl,ty,rfl,false,rfl,a_ q⟩
 | lst e t=>exact⟨_,rfl,_,"int",_,false,rfl,ty,rfl,false,rfl,a_ q⟩
 | tup e t=>exact⟨_,rfl,_,"int",_,false,rfl,ty,rfl,false,rfl,a_ q⟩
def xr(n:Nat):Sp:=fun vs H Q _=>∃(x y:V) (dx dy:PyData),vs= [x,y]/\Rep H x dx/\Rep H y dy/\dy.depth<n/\∀ H',bN H H'->Q (.bl (PySem.Spec.same dx dy)) H'
theorem same_none{f:Addr}{fd:FuncData}:aP P w K mg base CX0 2 f fd ["_law_found","_law_due"] (xr 0):=by
 have no:∀ vs H Q E,¬ xr 0 vs H Q E:=fun vs H Q E h=>by
  obtain⟨_,_,_,_,_,_,_,h,_⟩:=h;exact absurd h (Nat.not_lt_zero _)
 exact⟨fun vs H Q E h=>absurd h (no vs H Q E),fun A outer s H args us vs Q E _ _ _ _ h=>absurd h (no vs H Q E)⟩
theorem Th{a:Adr}(T:Txt w K mg a){n:Nat}(K8:aP P w K mg base CX0 (n+2) a.fB a.jz ["_law_found","_law_due"] (xr n)):
 aP P w K mg base CX0 (n+3) a.fB a.jz ["_law_found","_law_due"] (xr (n+1)):=by
 have Qi:=K7 (P:=P) (w:=w) (base:=base) T;refine T.ir.fn.ok Jx (fun vs H Q E h=>?_) (fun cdv A outer s H vs Q E hr h=>?_)
 · obtain⟨_,_,_,_,rfl,_⟩:=h;rfl
 obtain⟨x,y,dx,dy,rfl,rx,ry,acY,q⟩:=h
 refine⟨_,(aR (nq (Hu (Q9 (pv 1))) (aO (dw (aa3 (Q9 (pv 0))))) iz)
  (aR (nq (pD (bu fL rfl T.bI boot_isinstance (aq (pv 1) (aq (iy (v:=.ty "bool") rfl T.xq boot_bool rfl) aD)))) (aO (dw (tZ (bu fL rfl T.bI boot_isinstance (aq (pv 0) (aq (iy (v:=.ty "bool") rfl T.xq boot_bool rfl) aD))) (tY (t7 zH (pv 0) (pv 1) (aM _)))))) iz)
  (aR (nq (pD (bu fL rfl T.bI boot_isinstance (aq (pv 1) (aq (iy (v:=.ty "int") rfl T.Hi boot_int rfl) aD)))) (aO (dw (tZ (qm T.k_ Qi (hr.mono (by omega)) rfl (aq (pv 0) aD)) (tY (t7 zH (pv 0) (pv 1) (aM _)))))) iz)
  (aR (nq (pD (bu fL rfl T.bI boot_isinstance (aq (pv 1) (aq (iy (v:=.ty "str") rfl T.Hl boot_str rfl) aD)))) (aO (dw (tZ (bu fL rfl T.bI boot_isinstance (aq (pv 0) (aq (iy (v:=.ty "str") rfl T.Hl boot_str rfl) aD))) (tY (t7 zH (pv 0) (pv 1) (aM _)))))) iz)
  (aR (nq (PW.pt (pw_or (PW.pt (pw_and (pD (bu fL rfl T.bI boot_isinstance (aq (pv 1) (aq (iy (v:=.ty "tuple") rfl T.yd boot_tuple rfl) aD)))) (pw_and1 (zG (pD (bu fL rfl T.bI boot_isinstance (aq (pv 0) (aq (iy (v:=.ty "tuple") rfl T.yd boot_tuple rfl) aD)))))))) (pw_or1 (PW.pt (pw_and (pD (bu fL rfl T.bI boot_isinstance (aq (pv 1) (aq (iy (v:=.ty "list") rfl T.uz boot_list rfl) aD)))) (pw_and1 (zG (pD (bu fL rfl T.bI boot_isinstance (aq (pv 0) (aq (iy (v:=.ty "list") rfl T.uz boot_list rfl) aD))))))))))) (aO (dw Xv)) iz)
  (aO (dw (tZ (t7 zH (bu wB rfl T.jO boot_len (aq (pv 0) aD)) (bu wB rfl T.jO boot_len (aq (pv 1) aD)) (aM _)) (tY (bu (Rt rfl) rfl T.Qd boot_all (aq (Cq (fM (N':=["_law_k","_law_found","_law_due"]) (nt:=1) (idx:=[0,1]) (N:=["_law_found","_law_due"]) (osc:=aa pq) rfl rfl (by decide +kernel)) rfl (gP rfl T.fH (aq (bu wB rfl T.jO boot_len (aq (pv 1) aD)) aD)) (G4 (fun _ _ _ _=>mO (i:=0) (show List.Nodup (["_law_k","_law_found","_law_due"]:List Str) by decide +kernel) rfl (Or.inl rfl)) (fun _ _ _ _=>Ln) (fun _ _ _ _=>(qm T.ir K8 (hr.mono (by omega)) rfl (aq (uE (Lx (K:=K) rfl) (pv 1) (pv 0) (fun _ _=>rfl)) (aq (uE (Lx (K:=K) rfl) (pv 2) (pv 0) (fun _ _=>rfl)) aD)))))) aD))))))))))),?_⟩
 have tx:=rx.ty (K:=K);have ty:=ry.ty (K:=K);have q0:=q H (bN.refl H);refine⟨_,rfl,_,rfl,?_⟩
 cases ry with
 | non=>
   refine cg ?_;refine⟨_,rfl,?_⟩
   cases rx <;> exact q0
 | bl b=>
   refine a_ ?_;refine⟨_,rfl,_,"bool",_,true,rfl,ty,rfl,true,rfl,cg ?_⟩
   cases rx with
   | bl c=>
     refine⟨_,rfl,_,"bool",_,true,rfl,tx,rfl,true,rfl,cg ?_⟩;refine⟨_,rfl,_,rfl,rfl,?_⟩;have e:decide (V.bl c=V.bl b)=(c==b):=HB;rw[e]
     simpa [PySem.Spec.same] using q0
   | non=>exact⟨_,rfl,_,"bool",_,false,rfl,tx,rfl,false,rfl,a_ q0⟩
   | int i=>exact⟨_,rfl,_,"bool",_,false,rfl,tx,rfl,false,rfl,a_ q0⟩
   | str z=>exact⟨_,rfl,_,"bool",_,false,rfl,tx,rfl,false,rfl,a_ q0⟩
   | lst e t=>exact⟨_,rfl,_,"bool",_,false,rfl,tx,rfl,false,rfl,a_ q0⟩
   | tup e t=>exact⟨_,rfl,_,"bool",_,false,rfl,tx,rfl,false,rfl,a_ q0⟩
 | int i=>
   refine a_ ?_;refine⟨_,rfl,_,"bool",_,false,rfl,ty,rfl,false,rfl,a_ ?_⟩;refine⟨_,rfl,_,"int",_,true,rfl,ty,rfl,true,rfl,cg ?_⟩
   cases rx with
   | int j=>
     refine⟨_,rfl,_,_,rfl,.int j,true,rfl,cg ?_⟩;refine⟨_,rfl,_,rfl,rfl,?_⟩;have e:decide (V.int j=V.int i)=(j==i):=BX;rw[e]
     simpa [PySem.Spec.same] using q0
   | non=>exact⟨_,rfl,_,_,rfl,.non,false,rfl,a_ q0⟩
   | bl c=>exact⟨_,rfl,_,_,rfl,.bl c,false,rfl,a_ q0⟩
   | str z=>exact⟨_,rfl,_,_,rfl,.str z,false,rfl,a_ q0⟩
   | lst e t=>exact⟨_,rfl,_,_,rfl,.lst e t,false,rfl,a_ q0⟩
   | tup e t=>exact⟨_,rfl,_,_,rfl,.tup e t,false,rfl,a_ q0⟩
 | str z=>
   refine a_ ?_;refine⟨_,rfl,_,"bool",_,false,rfl,ty,rfl,false,rfl,a_ ?_⟩;refine⟨_,rfl,_,"int",_,false,rfl,ty,rfl,false,rfl,a_ ?_⟩;refine⟨_,rfl,_,"str",_,true,rfl,ty,rfl,true,rfl,cg ?_⟩
   cases rx with
   | str z'=>
     refine⟨_,rfl,_,"str",_,true,rfl,tx,rfl,true,rfl,cg ?_⟩;refine⟨_,rfl,_,rfl,rfl,?_⟩;have e:decide (V.str z'=V.str z)=(z'==z):=BZ;rw[e]
     simpa [PySem.Spec.same] using q0
   | non=>exact⟨_,rfl,_,"str",_,false,rfl,tx,rfl,false,rfl,a_ q0⟩
   | bl c=>exact⟨_,rfl,_,"str",_,false,rfl,tx,rfl,false,rfl,a_ q0⟩
   | int i=>exact⟨_,rfl,_,"str",_,false,rfl,tx,rfl,false,rfl,a_ q0⟩
   | lst e t=>exact⟨_,rfl,_,"str",_,false,rfl,tx,rfl,false,rfl,a_ q0⟩
   | tup e t=>exact⟨_,rfl,_,"str",_,false,rfl,tx,rfl,false,rfl,a_ q0⟩
 | @lst ay ys dys ey ryA=>
   refine a_ ?_;refine⟨_,rfl,_,"bool",_,false,rfl,ty,rfl,false,rfl,a_ ?_⟩;refine⟨_,rfl,_,"int",_,false,rfl,ty,rfl,false,rfl,a_ ?_⟩;refine⟨_,rfl,_,"str",_,false,rfl,ty,rfl,false,rfl,a_ ?_⟩;refine⟨_,rfl,_,"tuple",_,false,rfl,ty,rfl,false,rfl,a_ ?_⟩;refine a_ ?_;refine⟨_,rfl,_,"list",_,true,rfl,ty,rfl,true,rfl,cg ?_⟩
   cases rx with
   | @lst ax xs dxs ex rxA=>
     refine⟨_,rfl,_,"list",_,true,rfl,tx,rfl,true,rfl,a_ ?_⟩;have lx:=rxA.length;have ly:=ryA.length;refine⟨_,rfl,ax,_,rfl,.inl (SqL.of ex),fun zx=>⟨_,rfl,ay,_,rfl,.inl (SqL.of ey),fun zy=>⟨rfl,_,rfl,?_⟩⟩⟩;have ez:sizeLine=16777216:=sizeLine_eq
     by_cases hl:xs.length=ys.length
     · have el:V.int (xs.length:Int)=V.int (ys.length:Int):=by rw[hl]
       rw[if_pos (decide_eq_true el)];have hld:dxs.length=dys.length:=by omega
       refine⟨_,rfl,ay,_,rfl,.inl (SqL.of ey),fun _=>⟨_,rfl,by omega,by omega,fun D hD=>?_⟩⟩;have s0:∀ o,bN H (upd H D o):=fun o=>cD hD o;refine HY (fun i H2=>bN H H2/\H2 D=some (.lst (((List.zipWith PySem.Spec.same dxs dys).take i).map V.bl))) ⟨s0 _,az⟩ ?_ ?_
       · rintro i H2 hi ⟨s2,hD2⟩;have hi':i<ys.length:=by simpa using hi
         have hix:i<xs.length:=by omega
         obtain⟨d1,e1,r1⟩:=rxA.HR (i:=i) (List.getElem?_eq_getElem hix);obtain⟨d2,e2,r2⟩:=ryA.HR (i:=i) (List.getElem?_eq_getElem hi');have ax1:atI xs ((0:Int)+(i:Int))=some xs[i]:=by rw[Int.zero_add];exact qF (List.getElem?_eq_getElem hix)
         have ay1:atI ys ((0:Int)+(i:Int))=some ys[i]:=by rw[Int.zero_add];exact qF (List.getElem?_eq_getElem hi')
         have hdi:d2.depth<n:=by
          have z1:=PyData.depth_le_depthAll dys d2 (List.mem_of_getElem? e2);have z2:PyData.depthAll dys+1<n+1:=by simpa only[PyData.depth] using acY
          omega
         refine⟨⟨rfl,rfl,trivial⟩,?_⟩;refine⟨_,rfl,_,rfl,.inl ⟨ax,_,_,_,rfl,rfl,SqL.of (s2 _ _ ex),ax1,_,rfl,_,rfl,.inl ⟨ay,_,_,_,rfl,rfl,SqL.of (s2 _ _ ey),ay1,xs[i],ys[i],d1,d2,rfl,r1.mono s2,r2.mono s2,hdi,fun H3 s3=>?_⟩⟩⟩;refine⟨_,s3 _ _ hD2,?_,fun b o e=>?_,?_⟩
         · rw[List.length_map,List.length_take];omega
         · rw[aB (aV e hD)];exact s3 _ _ (s2 _ _ e)
         · rw[az];have ez:(List.zipWith PySem.Spec.same dxs dys)[i]? =some (PySem.Spec.same d1 d2):=by rw[List.getElem?_zipWith,e1,e2]
           rw[List.take_add_one,ez,List.map_append];rfl
       · rintro H2 ⟨s2,hD2⟩;have et:(List.zipWith PySem.Spec.same dxs dys).take ((ys.length:Int).toNat)=List.zipWith PySem.Spec.same dxs dys:=List.take_of_length_le (by rw[List.length_zipWith];omega);rw[et]at hD2;refine⟨D,_,rfl,hD2,?_⟩;have es:=tV hld;show Q (.bl ((List.zipWith PySem.Spec.same dxs dys).all id)) H2;rw[<- es];have qq:=q H2 s2;simpa only[PySem.Spec.same] using qq
     · have el:¬ V.int (xs.length:Int)=V.int (ys.length:Int):=fun z=>hl (by injection z;omega);rw[decide_eq_false el];refine a_ ?_;have es:=tU (xs:=dxs) (ys:=dys) (by omega);have qq:=q0;simp only[PySem.Spec.same]at qq;rw[es]at qq
       exact qq
   | non=>exact⟨_,rfl,_,"list",_,false,rfl,tx,rfl,false,rfl,cg q0⟩
   | bl c=>exact⟨_,rfl,_,"list",_,false,rfl,tx,rfl,false,rfl,cg q0⟩
   | int i=>exact⟨_,rfl,_,"list",_,false,rfl,tx,rfl,false,rfl,cg q0⟩
   | str z=>exact⟨_,rfl,_,"list",_,false,rfl,tx,rfl,false,rfl,cg q0⟩
   | tup e t=>exact⟨_,rfl,_,"list",_,false,rfl,tx,rfl,false,rfl,cg q0⟩
 | @tup ay ys dys ey ryA=>
   refine a_ ?_;refine⟨_,rfl,_,"bool",_,false,rfl,ty,rfl,false,rfl,a_ ?_⟩;refine⟨_,rfl,_,"int",_,false,rfl,ty,rfl,false,rfl,a_ ?_⟩;refine⟨_,rfl,_,"str",_,false,rfl,ty,rfl,false,rfl,a_ ?_⟩;refine⟨_,rfl,_,"tuple",_,true,rfl,ty,rfl,true,rfl,cg ?_⟩
   cases rx with
   | @tup ax xs dxs ex rxA=>
     refine⟨_,rfl,_,"tuple",_,true,rfl,tx,rfl,true,rfl,a_ ?_⟩;refine⟨_,rfl,_,"list",_,false,rfl,ty,rfl,false,rfl,a_ ?_⟩;have lx:=rxA.length;have ly:=ryA.length;refine⟨_,rfl,ax,_,rfl,.inr (SqT.of ex),fun zx=>⟨_,rfl,ay,_,rfl,.inr (SqT.of ey),fun zy=>⟨rfl,_,rfl,?_⟩⟩⟩;have ez:sizeLine=16777216:=sizeLine_eq
     by_cases hl:xs.length=ys.length
     · have el:V.int (xs.length:Int)=V.int (ys.length:Int):=by rw[hl]
       rw[if_pos (decide_eq_true el)];have hld:dxs.length=dys.length:=by omega
       refine⟨_,rfl,ay,_,rfl,.inr (SqT.of ey),fun _=>⟨_,rfl,by omega,by omega,fun D hD=>?_⟩⟩;have s0:∀ o,bN H (upd H D o):=fun o=>cD hD o;refine HY (fun i H2=>bN H H2/\H2 D=some (.lst (((List.zipWith PySem.Spec.same dxs dys).take i).map V.bl))) ⟨s0 _,az⟩ ?_ ?_
       · rintro i H2 hi ⟨s2,hD2⟩;have hi':i<ys.length:=by simpa using hi
         have hix:i<xs.length:=by omega
         obtain⟨d1,e1,r1⟩:=rxA.HR (i:=i) (List.getElem?_eq_getElem hix);obtain⟨d2,e2,r2⟩:=ryA.HR (i:=i) (List.getElem?_eq_getElem hi');have ax1:atI xs ((0:Int)+(i:Int))=some xs[i]:=by rw[Int.zero_add];exact qF (List.getElem?_eq_getElem hix)
         have ay1:atI ys ((0:Int)+(i:Int))=some ys[i]:=by rw[Int.zero_add];exact qF (List.getElem?_eq_getElem hi')
         have hdi:d2.depth<n:=by
          have z1:=PyData.depth_le_depthAll dys d2 (List.mem_of_getElem? e2);have z2:PyData.depthAll dys+1<n+1:=by simpa only[PyData.depth] using acY
          omega
         refine⟨⟨rfl,rfl,trivial⟩,?_⟩;refine⟨_,rfl,_,rfl,.inr (.inl ⟨ax,_,_,_,rfl,rfl,SqT.of (s2 _ _ ex),ax1,_,rfl,_,rfl,.inr (.inl ⟨ay,_,_,_,rfl,rfl,SqT.of (s2 _ _ ey),ay1,xs[i],ys[i],d1,d2,rfl,r1.mono s2,r2.mono s2,hdi,fun H3 s3=>?_⟩)⟩)⟩;refine⟨_,s3 _ _ hD2,?_,fun b o e=>?_,?_⟩
         · rw[List.length_map,List.length_take];omega
         · rw[aB (aV e hD)];exact s3 _ _ (s2 _ _ e)
         · rw[az];have ez:(List.zipWith PySem.Spec.same dxs dys)[i]? =some (PySem.Spec.same d1 d2):=by rw[List.getElem?_zipWith,e1,e2]
           rw[List.take_add_one,ez,List.map_append];rfl
       · rintro H2 ⟨s2,hD2⟩;have et:(List.zipWith PySem.Spec.same dxs dys).take ((ys.length:Int).toNat)=List.zipWith PySem.Spec.same dxs dys:=List.take_of_length_le (by rw[List.length_zipWith];omega);rw[et]at hD2;refine⟨D,_,rfl,hD2,?_⟩;have es:=tV hld;show Q (.bl ((List.zipWith PySem.Spec.same dxs dys).all id)) H2;rw[<- es];have qq:=q H2 s2;simpa only[PySem.Spec.same] using qq
     · have el:¬ V.int (xs.length:Int)=V.int (ys.length:Int):=fun z=>hl (by injection z;omega);rw[decide_eq_false el];refine a_ ?_;have es:=tU (xs:=dxs) (ys:=dys) (by omega);have qq:=q0;simp only[PySem.Spec.same]at qq;rw[es]at qq
       exact qq
   | non=>exact⟨_,rfl,_,"tuple",_,false,rfl,tx,rfl,false,rfl,cg (cg q0)⟩
   | bl c=>exact⟨_,rfl,_,"tuple",_,false,rfl,tx,rfl,false,rfl,cg (cg q0)⟩
   | int i=>exact⟨_,rfl,_,"tuple",_,false,rfl,tx,rfl,false,rfl,cg (cg q0)⟩
   | str z=>exact⟨_,rfl,_,"tuple",_,false,rfl,tx,rfl,false,rfl,cg (cg q0)⟩
   | lst e t=>exact⟨_,rfl,_,"tuple",_,false,rfl,tx,rfl,false,rfl,cg (cg q0)⟩
theorem xu{a:Adr}(T:Txt w K mg a):∀ n:Nat,aP P w K mg base CX0 (n+2) a.fB a.jz ["_law_found","_law_due"] (xr n)
 | 0=>same_none
 | n+1=>Th T (xu T n)
end
section
open Ev
variable{P:Program}{w:World}{K:ak}{mg:Str->Option Value}{base:Heap}
abbrev Fq(P:Program)(w:World)(K:ak)(mg:Str->Option Value)(base:Heap)(a:Adr)(n d:Nat)(f:Addr)(fd:FuncData)(ps:List Str)(i:Nat):Prop:=aP P w K mg base (CXE P w) n f fd ps (spF Pg (cn a) d i)
variable{a:Adr}{d:Nat}
structure Al (P:Program)(w:World)(K:ak)(mg:Str->Option Value)(base:Heap)(a:Adr)(d:Nat):Prop where
 yE:Fq P w K mg base a (4*d+8) d a.jy a.pA ["m"] 7
 rJ:Fq P w K mg base a (4*d+8) d a.iK a.nQ ["numbers"] 8
 W8:Fq P w K mg base a (4*d+8) d a.o5 a.vd ["m","pairs"] 9
 acZ:Fq P w K mg base a (4*d+8) d a.ux a.Am ["m","pairs","adds"] 10
 xx:Fq P w K mg base a (4*d+8) d a.iM a.nW ["m","pairs","adds"] 11
 Ge:Fq P w K mg base a (4*d+8) d a.gC a.mz ["m","pairs"] 12
theorem M7{a:Adr}:Al P w K mg base a 0:=⟨bf,bf,bf,bf,bf,bf⟩
theorem JQ(T:Txt w K mg a)(A0:Al P w K mg base a d):Fq P w K mg base a (4*(d+1)+8) (d+1) a.jy a.pA ["m"] 7:=by
 refine(cj (k:=4*d+11) T.ig.fn Jv rfl fun σ0 cdv A outer s H E hr hp=>?_).mono (by omega)
 exact(aj (dI (PW.pt (uO (bB (Cy (K:=K)) (L2.OpR.or uC (uc hr.t8)) (dv 0) (ug (BW (v:=.int 3) rfl T.JK ⟨_,rfl⟩) (.int 3)) (aM _)) (uO (bB ae3 Xy (dv 0) (ug (BW (v:=.int 11) rfl T.Ax ⟨_,rfl⟩) (.int 11)) (aM _)) (pw_or1 (bB pW (jj hr.units) (aW nJ dJ (dv 0) aL) aL (aM _)))))) (aj (mH ⟨rfl,rfl,rfl⟩ rfl rfl T.vh (Qe T) (hr.mono (by omega)) T.vQ rfl T.PB)
  au) au)
  au)
theorem Gf(T:Txt w K mg a)(A0:Al P w K mg base a d):Fq P w K mg base a (4*(d+1)+8) (d+1) a.iK a.nQ ["numbers"] 8:=by
 refine(cj (k:=4*d+11) T.eG.fn Fz rfl fun σ0 cdv A outer s H E hr hp=>?_).mono (by omega)
 exact(aj (aQ (Ik pW (jj hr.units) (Sh hr.hd rfl T.jO rfl T.Hj (dv 0)) (yQ (Ox (K:=K)) d_ rfl T.jO boot_len (ao (dv 0) aA)) (aM _)))
  au)
theorem Ti(T:Txt w K mg a)(A0:Al P w K mg base a d):Fq P w K mg base a (4*(d+1)+8) (d+1) a.o5 a.vd ["m","pairs"] 9:=by
 refine(cj (k:=4*d+11) T.o7.fn Fi rfl fun σ0 cdv A outer s H E hr hp=>?_).mono (by omega)
 exact(aj (gU 2 Fi.nd (aW l_ (L2.OpR.or d9 iC) (jd (fM (N':=["x","y","m"]) (nt:=2) (idx:=[0]) (N:=["m","pairs","ways"]) (osc:=aa rz) rfl rfl (by decide +kernel)) rfl wG (uo rfl (dv 1)) (fun C0 s0 H0 fp0=>(jk rfl (aU (bx 0 (show List.Nodup (["x","y","m"]:List Str) by decide +kernel)) (aU (bx 1 (show List.Nodup (["x","y","m"]:List Str) by decide +kernel)) gq)))) (fun C0 s0 H0 fp0=>iH) (fun C0 s0 H0 fp0=>(aW nJ dJ (aW o_ lN (dv 0) (dv 1)) (dv 2))) (by decide)) (jd (fM (N':=["x","y","m"]) (nt:=2) (idx:=[0]) (N:=["m","pairs","ways"]) (osc:=aa rz) rfl rfl (by decide +kernel)) rfl wG (uo rfl (dv 1)) (fun C0 s0 H0 fp0=>(jk rfl (aU (bx 0 (show List.Nodup (["x","y","m"]:List Str) by decide +kernel)) (aU (bx 1 (show List.Nodup (["x","y","m"]:List Str) by decide +kernel)) gq)))) (fun C0 s0 H0 fp0=>iH) (fun C0 s0 H0 fp0=>(aW nJ dJ (aW o_ lN (dv 1) (dv 0)) (dv 2))) (by decide))))
  (aj (aQ (gW A0.rJ T.eG hr hp (ao (dv 2) aA)))
  au))
theorem ZG(T:Txt w K mg a)(A0:Al P w K mg base a d):Fq P w K mg base a (4*(d+1)+8) (d+1) a.ux a.Am ["m","pairs","adds"] 10:=by
 refine(cj (k:=4*d+11) T.uy.fn M6 rfl fun σ0 cdv A outer s H E hr hp=>?_).mono (by omega)
 exact(aj (Wt (i:=3) M6.nd rfl (Or.inl rfl) (fM (N':=["pair","b","number","m"]) (nt:=3) (idx:=[0]) (N:=["m","pairs","adds","places"]) (osc:=aa Ai) rfl rfl (by decide +kernel)) rfl R0 (RC rfl T.Ho (ao (dv 1) (ao (dv 2) aA))) (fun C0 s0 H0 fp0=>(jk rfl (aU (bx 0 (show List.Nodup (["pair","b","number","m"]:List Str) by decide +kernel)) (aU (bx 1 (show List.Nodup (["pair","b","number","m"]:List Str) by decide +kernel)) gq)))) (fun C0 s0 H0 fp0=>iH) wG (fun C0 s0 H0 fp0=>(uo rfl (dv 0))) (fun C0 s0 H0 fp0=>(bx 2 (show List.Nodup (["pair","b","number","m"]:List Str) by decide +kernel))) (fun C0 s0 H0 fp0=>iH) (fun C0 s0 H0 fp0=>(aW nJ dJ (aW o_ lN (dv 1) (dv 2)) (dv 3))) (by decide) (by decide))
  (aj (aQ (RQ (gW A0.rJ T.eG hr hp (ao (dv 2) aA)) (RQ (gW A0.rJ T.eG hr hp (ao (dv 3) aA)) (tY (Ik (YZ (K:=K)) qQ aL (dv 3) rfl)))))
  au))
theorem Gg(T:Txt w K mg a)(A0:Al P w K mg base a d):Fq P w K mg base a (4*(d+1)+8) (d+1) a.iM a.nW ["m","pairs","adds"] 11:=by
 refine(cj (k:=4*d+11) T.fX.fn mq rfl fun σ0 cdv A outer s H E hr hp=>?_).mono (by omega)
 exact(aj (dI (bB pW (jj hr.units) (yQ (Ox (K:=K)) d_ rfl T.jO boot_len (ao (dv 2) aA)) (yQ (Ox (K:=K)) d_ rfl T.jO boot_len (ao (dv 1) aA)) (aM _)) (aj (aQ (dv 2))
  au) au)
  (aj (Aa PassesOwn.leaving rfl Y9 (Rb rfl T.fH (aN aL (ao (dv 0) aA))) (bx 3 mq.nd)
  (aj (gU 4 mq.nd (aW l_ (L2.OpR.or d9 iC) (dv 2) (pK (ao (dv 3) aA))))
  (aj (dI (Il (gW A0.acZ T.uy hr hp (ao (dv 0) (ao (dv 1) (ao (dv 4) aA)))) (fun _=>rfl)) (aj (gU 5 mq.nd (gW A0.xx T.fX hr hp (ao (dv 0) (ao (dv 1) (ao (dv 4) aA)))))
  (aj (dI (Y4 (dv 5)) (aj (aQ (dv 5))
  au) au)
  au)) au)
  au)))
  (aj (aQ ab0)
  au)))
theorem Du(T:Txt w K mg a)(A0:Al P w K mg base a d):Fq P w K mg base a (4*(d+1)+8) (d+1) a.gC a.mz ["m","pairs"] 12:=by
 refine(cj (k:=4*d+11) T.gH.fn Dk rfl fun σ0 cdv A outer s H E hr hp=>?_).mono (by omega)
 exact(aj (jw (gW A0.yE T.ig hr hp (ao (dv 0) aA)))
  (aj (aQ (gW A0.xx T.fX hr hp (ao (dv 0) (ao (dv 1) (Zh (pK aA) aA)))))
  au))
theorem M8{a:Adr}{d:Nat}(T:Txt w K mg a)(A0:Al P w K mg base a d):Al P w K mg base a (d+1):=⟨JQ T A0,Gf T A0,Ti T A0,ZG T A0,Gg T A0,Du T A0⟩
theorem Yn{a:Adr}(T:Txt w K mg a):∀ d,Al P w K mg base a d
 | 0=>M7
 | d+1=>M8 T (Yn T d)
theorem Tj{a:Adr}(T:Txt w K mg a){n k:Nat}(vq:aP P w K mg base CX0 k a.jf a.nR ["numbers"] (Af n)):aP P w K mg base CX0 (k+2) a.jf a.nR ["numbers"] (Af (n+1)):=by
 refine(T.ji.fn.ok (k:=k+1) lU (fun vs H Q E h=>?_) (fun cdv A outer s H vs Q E hr h=>?_)).mono (by omega)
 · obtain⟨_,_,rfl,_⟩:=h;rfl
 obtain⟨l,ns,rfl,hl,hn,h20,hb,q⟩:=h
 refine⟨_,(aR (nq (zG (HD (pv 0) (fun _=>rfl))) (aO (dw (qP (aq (qP aD) aD)))) iz)
  (aR (lM (i:=1) lU.nd rfl (Or.inl rfl) (qP aD))
  (aR (t6 PassesOwn.never rfl (oJ (yI Ck (pv 0) (Cg bJ) Ce)) (mO (i:=2) lU.nd rfl (Or.inr rfl))
    (aR (Lw (i:=3) lU.nd rfl (Or.inl rfl) (fM (N':=["number","partner"]) (nt:=1) (idx:=[2]) (N:=["numbers","found","partner","others","rest"]) (osc:=aa qw) rfl rfl (by decide +kernel)) rfl (oJ (yI Ck (pv 0) (Cg bJ) Ce)) (G4 (fun _ _ _ _=>mO (i:=0) (show List.Nodup (["number","partner"]:List Str) by decide +kernel) rfl (Or.inl rfl)) (fun _ _ _ _=>Lq (mQ adQ (pv 0) (pv 1) (aM _))) (fun _ _ _ _=>(pv 0))))
    (aO (t6 PassesOwn.never rfl (oJ (qm T.ji vq (hr.mono (by omega)) rfl (aq (pv 3) aD))) (mO (i:=4) lU.nd rfl (Or.inl rfl))
      (aO (gn (GX PySem.F.plainAttrs_list PySem.F.slot_list_append PySem.F.type_list_append mR (pv 1) (aq (dz iC (qP (aq (t_ (aq (uE xP (pv 0) bJ (fun _ _=>rfl)) (aq (pv 2) aD))) aD)) (pv 4)) aD))))))))
  (aO (dw (pv 1)))))),?_⟩
 have hnz:(20:Nat)<sizeLine:=by decide
 cases ns with
 | nil=>
   refine⟨_,rfl,false,.inl ⟨_,SqL.of hl,rfl⟩,cg ?_⟩;refine⟨by show 0<=sizeLine;decide,fun e he=>⟨by show 1<=sizeLine;decide,fun r hr'=>?_⟩⟩;have ner:e ≠ r:=fun z=>by rw[z,az]at hr';cases hr'
   have hr0:H r=none:=by rw[aB (Ne.symm ner)]at hr';exact hr'
   refine q r [e] _ hr0 ((cD he _).trans (cD hr' _)) az (.cons ⟨[],⟨by rw[aB ner,az];rfl,.nil⟩,by simp⟩ .nil) fun x hx=>?_;have:x=e:=by simpa using hx
   subst this
   exact⟨he,ner⟩
 | cons x t=>
   refine⟨_,rfl,true,.inl ⟨_,SqL.of hl,rfl⟩,a_ ?_⟩;refine⟨by show 0<=sizeLine;decide,fun F hF=>?_⟩;have g0:bN H (upd H F (.lst [])):=cD hF _;refine⟨_,rfl,1,rfl,l,_,rfl,SqL.of (g0 _ _ hl),fun S hS=>?_⟩
   have eS:wz ((x::t).map V.int) (some 1) none=t.map V.int:=by
    simp[wz,HT.sIx];exact List.take_of_length_le (by simp)
   rw[eS];have g1:bN H (upd (upd H F (.lst [])) S (.lst (t.map V.int))):=g0.trans (cD hS _);have nFS:F ≠ S:=fun z=>by rw[<- z,az]at hS;cases hS
   refine⟨S,rfl,⟨_,SqL.of az⟩,?_⟩
   refine uB (K:=K) (a:=S) (xs:=t.map V.int) (fun i σ H2=>∃(as:List Addr) (v2 v3 v4:Option V),σ= [some (.ref l),some (.ref F),v2,v3,v4]/\bN H H2/\H2 S=some (.lst (t.map V.int))/\H2 F=some (.lst (as.map V.ref))/\
    LAs H H2 as ((t.take i).flatMap fun p=>(aG n (t.filter fun y=> !decide (y=p))).map fun rest=>(x,p)::rest)/\∀ z ∈ as,H z=none/\z ≠ F) ?_ ?_ ?_ ?_
   · exact⟨[],none,none,none,rfl,g1,az,by rw[aB nFS,az];rfl,.nil,by simp⟩
   · rintro i σ H2 _ ⟨as,v2,v3,v4,rfl,s2,hS2,hF2,la,fr⟩;exact SqL.of hS2
   · rintro i y σ H2 hi ⟨as,v2,v3,v4,rfl,s2,hS2,hF2,la,fr⟩
     obtain⟨p,hp,rfl⟩:∃ p,t[i]? =some p/\y=V.int p:=by
      rw[List.getElem?_map]at hi
      cases e:t[i]? with
      | none=>rw[e]at hi;cases hi
      | some z=>rw[e]at hi;exact⟨z,rfl,(Option.some.inj hi).symm⟩
     have hpt:p ∈ t:=List.mem_of_getElem? hp;have hl2:H2 l=some (.lst ((x::t).map V.int)):=s2 _ _ hl;have nlF:l ≠ F:=aV hl hF;refine⟨_,rfl,1,rfl,l,_,rfl,SqL.of hl2,fun S2 hS2'=>⟨S2,rfl,⟨_,SqL.of az⟩,fun D hD=>?_⟩⟩;rw[eS]at hD ⊢;have afg:S2 ≠ D:=fun z=>by rw[<- z,az]at hD;cases hD
     refine Ly (K:=K) (a:=S2) (xs:=t.map V.int) (fun j H3=>H3=upd (upd H2 S2 (.lst (t.map V.int))) D (.lst (((t.take j).filter fun y=> !decide (y=p)).map V.int))) rfl ?_ ?_ ?_
     · rintro j H3 _ rfl;exact SqL.of (by rw[aB afg,az])
     · rintro j y H3 hj rfl
       obtain⟨z,hz,rfl⟩:∃ z,t[j]? =some z/\y=V.int z:=by
        rw[List.getElem?_map]at hj
        cases e:t[j]? with
        | none=>rw[e]at hj;cases hj
        | some z=>rw[e]at hj;exact⟨z,rfl,(Option.some.inj hj).symm⟩
       have etk:t.take (j+1)=t.take j ++ [z]:=by rw[List.take_add_one,hz];rfl
       refine⟨⟨rfl,trivial⟩,_,rfl,_,rfl,rfl,_,rfl,?_⟩
       have ez:decide (V.int z=V.int p)=decide (z=p):=by
        by_cases c:z=p
        · rw[c];simp
        · rw[decide_eq_false c,decide_eq_false (fun q=>c (by injection q))]
       rw[ez]
       by_cases c:z=p
       · rw[decide_eq_true c];refine a_ ?_;rw[etk,List.filter_append];simp[c]
       · rw[decide_eq_false c];refine cg ?_;refine⟨_,rfl,_,az,?_,?_⟩
         · rw[List.length_map];have h1:=List.length_filter_le (fun y=> !decide (y=p)) (t.take j);have h2:(t.take j).length<=t.length:=by rw[List.length_take];omega
           have h3:t.length+1<=20:=by simpa using h20
           omega
         · rw[Yr,etk,List.filter_append];simp[c]
     · rintro H3 rfl;rw[List.length_map,List.take_length];generalize hsub:(t.filter fun y=> !decide (y=p))=sub;have hsl:sub.length<=t.length:=by rw[<- hsub];exact List.length_filter_le _ _
       have h3:t.length+1<=20:=by simpa using h20
       have hn':t.length+1<n+1:=by simpa using hn
       have nF:∀ {b:Addr} {o:HO} {o':HO},H2 b=some o->upd (upd H2 S2 (.lst (t.map V.int))) D o' b=some o:=fun {b o o'} e=>by
        have n1:b ≠ S2:=aV e hS2'
        have n2:b ≠ D:=fun z=>by
         rw[z]at e;have:upd H2 S2 (.lst (t.map V.int)) D=none:=hD;rw[aB (fun q=>by rw[q,hS2']at e;cases e),e]at this;cases this
        rw[aB n2,aB n1];exact e
       have s3:bN H2 (upd (upd H2 S2 (.lst (t.map V.int))) D (.lst (sub.map V.int))):=fun b o e=>nF e;generalize hH3:upd (upd H2 S2 (.lst (t.map V.int))) D (.lst (sub.map V.int))=H3 at s3;have hD3:H3 D=some (.lst (sub.map V.int)):=by rw[<- hH3];exact az
       refine⟨_,rfl,D,sub,rfl,hD3,by omega,by omega,?_,fun r2 as2 H4 hr2 s4 hr4 la2 fr2=>?_⟩
       · rw[<- hsub];exact Nat.le_trans (acE hpt) hb
       refine⟨r2,rfl,⟨_,SqL.of hr4⟩,?_⟩;have s24:bN H2 H4:=s3.trans s4;have la2:LAs H H4 as2 (aG n sub):=la2.old (bN.free (s2.trans s3));have hF3:H3 F=some (.lst (as.map V.ref)):=s3 _ _ hF2
       have tot:((t.take i).flatMap fun p=>(aG n (t.filter fun y=> !decide (y=p))).map fun rest=>(x,p)::rest).length+(aG n sub).length<=100000:=by
        have e1:(t.take (i+1)).flatMap (fun p=>(aG n (t.filter fun y=> !decide (y=p))).map fun rest=>(x,p)::rest)=(t.take i).flatMap (fun p=>(aG n (t.filter fun y=> !decide (y=p))).map fun rest=>(x,p)::rest)++(aG n sub).map fun rest=>(x,p)::rest:=by
         rw[List.take_add_one,hp,List.flatMap_append,<- hsub];simp
        have e2:((t.take (i+1)).flatMap fun p=>(aG n (t.filter fun y=> !decide (y=p))).map fun rest=>(x,p)::rest).length<=(aG (n+1) (x::t)).length:=by
         exact Sx (fun p=>(aG n (t.filter fun y=> !decide (y=p))).map fun rest=>(x,p)::rest) t (i+1)
        rw[e1,List.length_append,List.length_map]at e2;exact Nat.le_trans e2 hb
       have laL:=la.length
       have etk:(t.take (i+1)).flatMap (fun p=>(aG n (t.filter fun y=> !decide (y=p))).map fun rest=>(x,p)::rest)=(t.take i).flatMap (fun p=>(aG n (t.filter fun y=> !decide (y=p))).map fun rest=>(x,p)::rest)++(aG n sub).map fun rest=>(x,p)::rest:=by
        rw[List.take_add_one,hp,List.flatMap_append,<- hsub];simp
       generalize hdone:((t.take i).flatMap fun p=>(aG n (t.filter fun y=> !decide (y=p))).map fun rest=>(x,p)::rest)=done at la tot etk laL
       have fr4:∀ z ∈ as2,z ≠ F:=fun z hz e=>by
        have:=(fr2 z hz).1;rw[e,hF3]at this;cases this
       have hSF:S ≠ F:=Ne.symm nFS;have afh:r2 ≠ F:=fun e=>by rw[e,hF3]at hr2;cases hr2
       refine uB (K:=K) (a:=r2) (xs:=as2.map V.ref) (fun j σ H5=>∃(as':List Addr) (v4:Option V),σ= [some (.ref l),some (.ref F),some (.int p),some (.ref D),v4]/\bN H H5/\H5 S=some (.lst (t.map V.int))/\H5 F=some (.lst (as'.map V.ref))/\
        LAs H H5 as' (done++((aG n sub).take j).map fun rest=>(x,p)::rest)/\(∀ z ∈ as',H z=none/\z ≠ F)/\H5 r2=some (.lst (as2.map V.ref))/\LAs H H5 as2 (aG n sub)) ?_ ?_ ?_ ?_
       · exact⟨as,_,rfl,s2.trans s24,s24 _ _ hS2,s24 _ _ hF2,by simpa using la.same s24,fr,hr4,la2⟩
       · rintro j σ H5 _ ⟨as',v4',rfl,s5,hS5,hF5,la5,fr5,hr5,lb5⟩;exact SqL.of hr5
       · rintro j y σ H5 hj ⟨as',v4',rfl,s5,hS5,hF5,la5,fr5,hr5,lb5⟩
         obtain⟨a2,ha2,rfl⟩:∃ z,as2[j]? =some z/\y=V.ref z:=by
          rw[List.getElem?_map]at hj
          cases e:as2[j]? with
          | none=>rw[e]at hj;cases hj
          | some z=>rw[e]at hj;exact⟨z,rfl,(Option.some.inj hj).symm⟩
         obtain⟨ps,hps,pa⟩:=Paired.yZ lb5 ha2;obtain⟨bs,⟨hbs,rbs⟩,nbs⟩:=pa;have afB:a2 ≠ F:=fr4 a2 (List.mem_of_getElem? ha2);have hl5:H5 l=some (.lst ((x::t).map V.int)):=s5 _ _ hl;have afi:=la5.length;have hjl:j<(aG n sub).length:=(aZ hps).1;have sz:sizeLine=16777216:=sizeLine_eq;refine⟨_,rfl,.inl ⟨rfl,_,SqL.of hF5⟩,_,rfl,l,_,_,_,rfl,rfl,SqL.of hl5,qF (j:=0) rfl,_,rfl,by show 2<=sizeLine;decide,fun T1 hT=>⟨by show 1<=sizeLine;decide,fun L1 hL1=>?_⟩⟩;have q1:bN H5 (upd H5 T1 (.tup [.int x,.int p])):=cD hT _;have q2:bN H5 (upd (upd H5 T1 (.tup [.int x,.int p])) L1 (.lst [.ref T1])):=q1.trans (cD hL1 _);have bl:bs.length=ps.length:=rbs.length;refine⟨_,rfl,L1,a2,_,_,rfl,rfl,az,q2 _ _ hbs,?_,fun L2 hL2=>?_⟩
         · show 1+(bs.map V.ref).length<=sizeLine;rw[List.length_map,bl,sz];have:=pairs_len (List.mem_of_getElem? hps);omega
         have q3:bN H5 (upd (upd (upd H5 T1 (.tup [.int x,.int p])) L1 (.lst [.ref T1])) L2 (.lst ([V.ref T1]++bs.map V.ref))):=q2.trans (cD hL2 _);refine⟨F,_,_,rfl,rfl,q3 _ _ hF5,?_,?_⟩
         · rw[List.length_map,sz];rw[List.length_append,List.length_map,List.length_take]at afi;omega
         have ac0:L2 ≠ F:=fun e=>by rw[e,q2 _ _ hF5]at hL2;cases hL2
         have afj:H L2=none:=by
          cases z:H L2 with
          | none=>rfl
          | some u=>rw[q2 _ _ (s5 _ _ z)]at hL2;cases hL2
         have nT1:T1 ≠ L1:=fun e=>by rw[<- e,az]at hL1;cases hL1
         have nT2:T1 ≠ L2:=fun e=>by rw[<- e,aB nT1,az]at hL2;cases hL2
         have hT3:upd (upd (upd H5 T1 (.tup [.int x,.int p])) L1 (.lst [.ref T1])) L2 (.lst ([V.ref T1]++bs.map V.ref)) T1=some (.tup [.int x,.int p]):=by rw[aB nT2,aB nT1,az]
         have hT0:H T1=none:=bN.free s5 _ hT
         have paN:Lp H (upd (upd (upd H5 T1 (.tup [.int x,.int p])) L1 (.lst [.ref T1])) L2 (.lst ([V.ref T1]++bs.map V.ref))) L2 ((x,p)::ps):=⟨T1::bs,⟨az,.cons hT3 (Paired.lC rbs fun _ _ e=>q3 _ _ e)⟩,fun b hb=>by
          rcases List.mem_cons.mp hb with rfl | hb
          · exact hT0
          · exact nbs b hb⟩
         generalize hH6:upd (upd (upd H5 T1 (.tup [.int x,.int p])) L1 (.lst [.ref T1])) L2 (.lst ([V.ref T1]++bs.map V.ref))=H6 at q3 paN;have hF6:=q3 _ _ hF5;have zW:∀ {b:Addr} {o:HO},b ≠ F->H6 b=some o->upd H6 F (.lst (as'.map V.ref ++ [V.ref L2])) b=some o:=fun nb e=>by rw[aB nb];exact e
         refine⟨as' ++ [L2],_,rfl,fun b o e=>zW (aV e hF) (q3 _ _ (s5 _ _ e)),zW hSF (q3 _ _ hS5),by rw[az,List.map_append];rfl,?_,?_,zW afh (q3 _ _ hr5),(lb5.same q3).put hF6 fr4⟩
         · have etk:(aG n sub).take (j+1)=(aG n sub).take j ++ [ps]:=by rw[List.take_add_one,hps];rfl
           rw[etk,List.map_append,<- List.append_assoc];exact Paired.Pa (paN.put ac0 hF6) ((la5.same q3).put hF6 fun z hz=>(fr5 z hz).2)
         · intro z hz
           rcases List.mem_append.mp hz with hz | hz
           · exact fr5 z hz
           · have:z=L2:=by simpa using hz
             subst this;exact⟨afj,ac0⟩
       · rintro σ H5 ⟨as',v4',rfl,s5,hS5,hF5,la5,fr5,hr5,lb5⟩;rw[List.length_map,lb5.length,List.take_length]at la5;exact⟨as',_,_,_,rfl,s5,hS5,hF5,by rw[etk];exact la5,fr5⟩
   · rintro σ H2 ⟨as,v2,v3,v4,rfl,s2,hS2,hF2,la,fr⟩;rw[List.length_map,List.take_length]at la;exact⟨_,rfl,q F as H2 hF s2 hF2 la fr⟩
theorem M9{a:Adr}(T:Txt w K mg a):∀ n,aP P w K mg base CX0 (2*n+2) a.jf a.nR ["numbers"] (Af n)
 | 0=>by
   have no:∀ vs H Q E,¬ Af 0 vs H Q E:=fun vs H Q E ⟨_,_,_,_,h,_⟩=>absurd h (Nat.not_lt_zero _)
   exact⟨fun vs H Q E h=>absurd h (no vs H Q E),fun A outer s H args us vs Q E _ _ _ _ h=>absurd h (no vs H Q E)⟩
 | n+1=>Tj T (M9 T n)
theorem Qj{X:Cx}{x:Str}{st:Stmt}{ps:List Str}{f:Addr}{fd:FuncData}{k:Nat}{sp:Sp}{e:Expr}{es:List Expr}{t:TA}{p pos:Pos}(D:Df X.K X.mg x st ps f fd)(F:aP X.prog X.w X.K X.mg X.base (CXE X.prog X.w) k f fd ps sp)(hr:aX k X.A)(hg:Gl X x)(ha:L2.PA X (e::es) t)(hdb:(x==("__debug__":Str))=false:=by decide)
 (he:starEach (e::es) X.env=(false,eval e X.env)::starEach es X.env:=by rfl) (hpl:(backTo pos (starEach es X.env)).any (·.1)=false:=by rfl):
 PE X (.Call (.Name x p) (e::es) [] pos) (zL sp [] E0 t):=xO F hr hg D.mg D.fn.kp D.bd .nil (fun _ _ _ _ _ _ _ h=>(uI h).elim) ha hdb he hpl
def upTo(m:Nat):List Int:=(List.range (m - 1)).map fun(k:Nat)=>1+(k:Int)
structure Az (cl:Cn)(d m:Nat)(good:List (Int × Int)->Bool):Prop where
 lt:m<12
 ge:1<=m
 few:(aG 11 (upTo m)).length<=100000
 need:∃ n h',evs Pg n d (.call 7 [.int m]) [] (heapOf [])= .ok (.w .non) h'/\h'.n=0
 dif:∀ ps ∈ aG 11 (upTo m),ps.Nodup/\∃ n h',evs Pg n d (.call 9 [.int m,.ref 0]) [] (heapOf (psO ps))= .ok (.w (.bl (good ps))) h'/\qu (psO ps) h'=true
def afk(cl:Cn)(m:Nat)(good:List (Int × Int)->Bool):Sp:=fun vs H Q _=>vs= [.int m]/\Tb cl H/\
 ∀(r:Addr) (as:List Addr) (H':Hp),H r=none->bU cl H H'->H' r=some (.lst (as.map V.ref))->LAs H H' as ((aG 11 (upTo m)).filter good)->(∀ x ∈ as,H x=none/\x ≠ r)->Q (.ref r) H'
theorem afl{cl:Cn}{d f:Nat}{m:Int}{H:Hp}{Q:VK}{E:XK}{n:Nat}{r:W}{h':Hs}(t:Tb cl H)(e:evs Pg n d (.call f [.int m]) [] (heapOf [])= .ok (.w r) h')(z:h'.n=0)(q:∀ H' v,bU cl H H'->RW [] r v->Q v H'):spF Pg cl d f [.int m] H Q E:=by
 refine⟨[],[.int m],heapOf [],n,Mz t rfl List.nodup_nil (fun k a o h=>by simp at h),.cons (.int m) .nil,?_⟩;rw[e];intro ρ' H' b s';have:ρ'= []:=List.length_eq_zero_iff.mp (s'.len.trans z);subst this;refine⟨r,rfl,fun v hv=>q H' v ⟨fun c u e=>?_,fun _=>s'.tb⟩ hv⟩;exact(b.2 c u e (by simp)).2
theorem Qk{a:Adr}{d m:Nat}{good:List (Int × Int)->Bool}(T:Txt w K mg a)(A0:Al P w K mg base a d)(R:Az (cn a) d m good):aP P w K mg base CX0 (4*d+34) a.nU a.vf ["m"] (afk (cn a) m good):=by
 have vq:=M9 (P:=P) (w:=w) (K:=K) (mg:=mg) (base:=base) T 11;refine(T.kY.fn.ok (k:=4*d+33) K4 (fun vs H Q E h=>?_) (fun cdv A outer s H vs Q E hr h=>?_)).mono (by omega)
 · obtain⟨rfl,_⟩:=h;rfl
 obtain⟨rfl,tb,q⟩:=h
 refine⟨_,(aR (gn (Qj T.ig A0.yE (hr.mono (by omega)) rfl (aq (pv 0) aD)))
  (aO (dw (Cq (fM (N':=["pairs","m"]) (nt:=1) (idx:=[0]) (N:=["m"]) (osc:=aa qx) rfl rfl (by decide +kernel)) rfl (oJ (qm T.ji vq (hr.mono (by omega)) rfl (aq (pG (O8 hr.hd) rfl T.uz rfl (aq (pG O7 rfl T.fH boot_range (aq bJ (aq (pv 0) aD))) aD)) aD))) (G4 (fun _ _ _ _=>mO (i:=0) (show List.Nodup (["pairs","m"]:List Str) by decide +kernel) rfl (Or.inl rfl)) (fun _ _ _ _=>Lq (pD (Qj T.o7 A0.W8 (hr.mono (by omega)) rfl (aq (pv 1) (aq (pv 0) aD))))) (fun _ _ _ _=>(pv 0))))))),?_⟩
 obtain⟨n0,h0,e0,z0⟩:=R.need;refine⟨_,rfl,afl tb e0 z0 fun H1 v1 s1 rv=>?_⟩;have hm1:=R.lt;have hm2:=R.ge;refine⟨_,rfl,1,m,rfl,fun l hl=>⟨l,1,m,rfl,az,by omega,by omega,by omega,by omega,fun L hL=>?_⟩⟩
 have eL:wJ ((m:Int) - 1).toNat 1=(upTo m).map V.int:=by
  rw[show((m:Int) - 1).toNat=m - 1 by omega];simp[wJ,upTo]
 rw[eL];have lu:(upTo m).length=m - 1:=by simp[upTo]
 have s3:bU (cn a) H (upd (upd H1 l (.ext (Ae l 1 m))) L (.lst ((upTo m).map V.int))):=s1.trans (bU.of ((cD hl _).trans (cD hL _)));refine⟨L,upTo m,rfl,az,by omega,by omega,R.few,fun r2 as2 H4 hr2 s4 hr4 la2 fr2=>?_⟩;generalize hH3:upd (upd H1 l (.ext (Ae l 1 m))) L (.lst ((upTo m).map V.int))=H3 at s3 hr2 s4 la2 fr2;have s04:bU (cn a) H H4:=s3.trans (bU.of s4);have la2:LAs H H4 as2 (aG 11 (upTo m)):=la2.old fun b e=>s3.free e;have tb4:=s04.2 tb;refine⟨r2,rfl,⟨_,SqL.of hr4⟩,fun D hD=>?_⟩;have nr2:r2 ≠ D:=aV hr4 hD
 have nas:∀ z ∈ as2,z ≠ D:=fun z hz e=>by
  obtain⟨i,hi⟩:=List.getElem?_of_mem hz;obtain⟨ps,_,bs,⟨h1,_⟩,_⟩:=Paired.yZ la2 hi;rw[e,hD]at h1;cases h1
 refine Ly (K:=K) (a:=r2) (xs:=as2.map V.ref) (fun i H5=>∃ as:List Addr,bU (cn a) H4 H5/\H5 D=some (.lst (as.map V.ref))/\LAs H H5 as (((aG 11 (upTo m)).take i).filter good)/\(∀ z ∈ as,z ∈ as2)/\LAs H H5 as2 (aG 11 (upTo m))/\H5 r2=some (.lst (as2.map V.ref))) ?_ ?_ ?_ ?_
 · exact⟨[],bU.of (cD hD _),by rw[az];rfl,.nil,by simp,la2.same (cD hD _),by rw[aB nr2];exact hr4⟩
 · rintro i H5 _ ⟨as,s5,hD5,la5,fr5,lb5,hr5⟩;exact SqL.of hr5
 · rintro i y H5 hi ⟨as,s5,hD5,la5,fr5,lb5,hr5⟩
   obtain⟨a2,ha2,rfl⟩:∃ z,as2[i]? =some z/\y=V.ref z:=by
    rw[List.getElem?_map]at hi
    cases e:as2[i]? with
    | none=>rw[e]at hi;cases hi
    | some z=>rw[e]at hi;exact⟨z,rfl,(Option.some.inj hi).symm⟩
   obtain⟨ps,hps,bs,pa,nbs⟩:=Paired.yZ lb5 ha2;obtain⟨nd,n1,h1,e1,k1⟩:=R.dif ps (List.mem_of_getElem? hps);have tb5:=s5.2 tb4;have etk:(aG 11 (upTo m)).take (i+1)=(aG 11 (upTo m)).take i ++ [ps]:=by rw[List.take_add_one,hps];rfl
   have hil:i<(aG 11 (upTo m)).length:=(aZ hps).1;refine⟨⟨rfl,trivial⟩,_,rfl,_,rfl,pa.call nd tb5 e1 k1 fun ρ' H6 v hp hn s' s6 rv=>?_⟩;have s46:=s5.trans s6;have tb6:=s6.2 tb5;cases rv;refine⟨_,rfl,?_⟩;have hD6:=s6.at tb5 (fun _ z=>by cases z) hD5;have hr6:=s6.at tb5 (fun _ z=>by cases z) hr5;have la6:=la5.Ah s6 tb5;have lb6:=lb5.Ah s6 tb5
   cases hg:good ps with
   | false=>
     refine a_ ⟨as,s46,hD6,?_,fr5,lb6,hr6⟩;rw[etk,List.filter_append]
     simpa [hg] using la6
   | true=>
     refine cg ?_
     have pa6:Lp H H6 a2 ps:=by
      obtain⟨p',hp',x⟩:=Paired.yZ lb6 ha2;rw[hps]at hp';cases hp';exact x
     have na2:=nas a2 (List.mem_of_getElem? ha2);refine⟨_,rfl,_,hD6,?_,as ++ [a2],s46.put tb6 hD hD6,by rw[az,List.map_append];rfl,?_,?_,lb6.put hD6 nas,by rw[aB nr2];exact hr6⟩
     · have:=la5.length;have h2:=List.length_filter_le good ((aG 11 (upTo m)).take i);have h3:=R.few;rw[List.length_take]at h2;rw[List.length_map,sizeLine_eq];omega
     · rw[etk,List.filter_append];have:([ps].filter good)= [ps]:=by simp[hg]
       rw[this];exact Paired.Pa (pa6.put na2 hD6) (la6.put hD6 fun z hz=>nas z (fr5 z hz))
     · intro z hz
       rcases List.mem_append.mp hz with hz | hz
       · exact fr5 z hz
       · have:z=a2:=by simpa using hz
         rw[this];exact List.mem_of_getElem? ha2
 · rintro H5 ⟨as,s5,hD5,la5,fr5,lb5,hr5⟩;rw[List.length_map,lb5.length,List.take_length]at la5;refine q D as H5 (s04.free hD) (s04.trans s5) hD5 la5 fun z hz=>⟨s3.free (fr2 z (fr5 z hz)).1,nas z (fr5 z hz)⟩
theorem ac1{X:Cx}{ss:List Stmt}:PSs X ss (fun _ _ _=>False):=fun _ _ _ _ _ _ h=>h.elim
structure JR (cl:Cn)(d m:Nat)(ps:List (Int × Int))(adds:List Int):Prop where
 st:∃ good pre post,Az cl d m good/\(aG 11 (upTo m)).filter good=pre++ps::post/\
  ∀ x ∈ pre,x.Nodup/\∃ n h',evs Pg n d (.call 12 [.int m,.ref 0]) [] (heapOf (psO x))= .ok (.w .non) h'/\qu (psO x) h'=true
 nd:ps.Nodup
 yes:∃ n k h',evs Pg n d (.call 12 [.int m,.ref 0]) [] (heapOf (psO ps))= .ok (.w (.ref k)) h'/\qu (psO ps) h'=true/\ps.length<k/\h'.get k=some (.lst (adds.map W.int))
theorem M_{ρ:List Addr}:∀ {xs:List Int} {vs:List V},RWs ρ (xs.map W.int) vs->vs=xs.map V.int
 | [],_,.nil=>rfl
 | x::xs,_,.cons (.int _) t=>by rw[M_ t];rfl
theorem Tn{a:Adr}{d:Nat}{tbl:Nat->Option (List (Int × Int) × List Int)}(T:Txt w K mg a)(A0:Al P w K mg base a d)(R:∀ m ps adds,tbl m=some (ps,adds)->JR (cn a) d m ps adds):aP P w K mg base CX0 (4*d+36) a.mY a.rW ["m"] (Dc (cn a) tbl):=by
 refine(T.i_.fn.ok (k:=4*d+35) uV (fun vs H Q E h=>?_) (fun cdv A outer s H vs Q E hr h=>?_)).mono (by omega)
 · obtain⟨_,_,_,rfl,_⟩:=h;rfl
 obtain⟨m,ps,adds,rfl,hR,tb,q⟩:=h;obtain⟨⟨good,pre,post,RS,ef,no⟩,nd,n9,k9,h9,e9,kq9,lk9,g9⟩:=R m ps adds hR;have Ql:=Qk (P:=P) (w:=w) (K:=K) (mg:=mg) (base:=base) T A0 RS
 refine⟨_,(aR (t6 PassesOwn.never rfl (oJ (qm T.kY Ql (hr.mono (by omega)) rfl (aq (pv 0) aD))) (mO (i:=1) uV.nd rfl (Or.inl rfl))
  (aR (lM (i:=2) uV.nd rfl (Or.inl rfl) (Qj T.gH A0.Ge (hr.mono (by omega)) rfl (aq (pv 0) (aq (pv 1) aD))))
  (aO (nq (Hu (Le (pv 2))) (aO (dw (t_ (aq (pv 1) (aq (pv 2) aD))))) iz))))
  ac1),?_⟩
 refine⟨_,rfl,rfl,tb,fun r as H1 hr0 s1 hr1 la1 fr1=>?_⟩;rw[ef]at la1;have tb1:=s1.2 tb;refine⟨r,rfl,⟨_,SqL.of hr1⟩,?_⟩;refine uB (K:=K) (a:=r) (xs:=as.map V.ref) (fun i σ H5=>i<=pre.length/\∃ v1 v2:Option V,σ= [some (.int (m:Nat)),v1,v2]/\bU (cn a) H1 H5) ?_ ?_ ?_ ?_
 · exact⟨Nat.zero_le _,none,none,rfl,bU.of (fun _ _ e=>e)⟩
 · rintro i σ H5 _ ⟨_,v1,v2,rfl,s5⟩;exact SqL.of (s5.at tb1 (fun _ z=>by cases z) hr1)
 · rintro i y σ H5 hi ⟨hip,v1,v2,rfl,s5⟩
   obtain⟨a2,ha2,rfl⟩:∃ z,as[i]? =some z/\y=V.ref z:=by
    rw[List.getElem?_map]at hi
    cases e:as[i]? with
    | none=>rw[e]at hi;cases hi
    | some z=>rw[e]at hi;exact⟨z,rfl,(Option.some.inj hi).symm⟩
   have tb5:=s5.2 tb1;obtain⟨x,hx,bs,pa,nbs⟩:=Paired.yZ (la1.Ah s5 tb1) ha2
   rcases Nat.lt_or_eq_of_le hip with hlt | rfl
   · rw[List.getElem?_append_left hlt]at hx;obtain⟨ndx,n1,h1,e1,k1⟩:=no x (List.mem_of_getElem? hx);refine⟨_,rfl,_,rfl,pa.call ndx tb5 e1 k1 fun ρ' H6 v hp hn s' s6 rv=>?_⟩;cases rv;refine⟨_,rfl,_,rfl,?_⟩;exact⟨hlt,_,_,rfl,s5.trans s6⟩
   · have hx':x=ps:=by
      rw[List.getElem?_append_right (aH _)]at hx;simpa using hx.symm
     subst hx';refine⟨_,rfl,_,rfl,pa.call nd tb5 e9 kq9 fun ρ' H6 v hp hn s' s6 rv=>?_⟩
     cases rv with
     | @ref _ b hb=>
     have bl:bs.length=x.length:=pa.2.length
     have hbn:b ∉ a2::bs:=fun z=>by
      obtain⟨j,hj⟩:=List.getElem?_of_mem z;have hjl:j<(a2::bs).length:=(aZ hj).1;have h2:=dM hp hj;have:=(List.getElem?_inj (aZ hb).1 s'.nd).mp (hb.trans h2.symm);rw[List.length_cons,bl]at hjl;omega
     have s15:=s1.trans s5;have s16:=s15.trans s6;have tb6:=s6.2 tb5;have hb0:H b=none:=s15.free (hn b (List.mem_of_getElem? hb) hbn);obtain⟨vs,rw6,hb6⟩:=s'.at hb g9;rw[M_ rw6]at hb6;have pa6:PsA H6 a2 bs x:=⟨s6.at tb5 (fun _ z=>by cases z) pa.1,Paired.lC pa.2 fun _ _ e=>s6.at tb5 (fun _ z=>by cases z) e⟩;refine⟨_,rfl,_,rfl,?_⟩;refine⟨_,rfl,_,rfl,by show 2<=sizeLine;decide,fun R' hR'=>?_⟩;have sN:=cD hR' (.tup [.ref a2,.ref b]);refine q R' a2 b bs _ ?_ ?_ (s16.trans (bU.of sN)) az ⟨sN _ _ pa6.1,Paired.lC pa6.2 fun _ _ e=>sN _ _ e⟩ (sN _ _ hb6)
     · have h1:=pa6.nd nd;refine List.nodup_append.mpr ⟨h1,?_,fun c hc e he z=>?_⟩
       · rw[List.nodup_cons];refine⟨fun z=>?_,by simp⟩;have:b=R':=by simpa using z
         rw[<- this,hb6]at hR';cases hR'
       · subst z
         rcases List.mem_cons.mp he with rfl | he
         · exact hbn hc
         · have:c=R':=by simpa using he
           subst this
           rcases List.mem_cons.mp hc with rfl | hc
           · rw[pa6.1]at hR';cases hR'
           · obtain⟨j,hj⟩:=List.getElem?_of_mem hc;obtain⟨_,_,e⟩:=Paired.yZ pa6.2 hj;rw[e]at hR';cases hR'
     · intro c hc
       rcases List.mem_append.mp hc with hc | hc
       · rcases List.mem_cons.mp hc with rfl | hc
         · exact(fr1 _ (List.mem_of_getElem? ha2)).1
         · exact nbs c hc
       · rcases List.mem_cons.mp hc with rfl | hc
         · exact hb0
         · have:c=R':=by simpa using hc
           rw[this];exact s16.free hR'
 · rintro σ H5 ⟨hle,_⟩;rw[List.length_map,la1.length,List.length_append,List.length_cons]at hle;omega
def lg(m:Nat)(ps:List (Int × Int)):Bool:=decide ((ps.map (fun p=>(p.1 - p.2) % (m:Int))++ps.map fun p=>(p.2 - p.1) % (m:Int)).Nodup)
def ac2(m:Nat)(ps:List (Int × Int)):Ev.R A->Bool
 | .ok (.w (.bl b)) h=>(b==lg m ps)&&qu (psO ps) h
 | _=>false
def JS(m:Nat)(ps:List (Int × Int)):Bool:=decide ps.Nodup&&ac2 m ps (evs Pg 60 10 (.call 9 [.int m,.ref 0]) [] (heapOf (psO ps)))
def noR(ps:List (Int × Int)):Ev.R A->Bool
 | .ok (.w .non) h=>qu (psO ps) h
 | _=>false
def noQ(m:Nat)(ps:List (Int × Int)):Bool:=decide ps.Nodup&&noR ps (evs Pg 200 10 (.call 12 [.int m,.ref 0]) [] (heapOf (psO ps)))
def ac3(ps:List (Int × Int))(adds:List Int):Ev.R A->Bool
 | .ok (.w (.ref k)) h=>qu (psO ps) h&&(decide (ps.length<k)&&decide (h.get k=some (.lst (adds.map W.int))))
 | _=>false
def JT(m:Nat)(ps:List (Int × Int))(adds:List Int):Bool:=decide ps.Nodup&&ac3 ps adds (evs Pg 200 10 (.call 12 [.int m,.ref 0]) [] (heapOf (psO ps)))
def A_:Ev.R A->Bool
 | .ok (.w .non) h=>decide (h.n=0)
 | _=>false
theorem g7:(aG 11 (upTo 7)).all (JS 7)=true:=by decide +kernel
theorem g9:(aG 11 (upTo 9)).all (JS 9)=true:=by decide +kernel
theorem g11:(aG 11 (upTo 11)).all (JS 11)=true:=by decide +kernel
theorem y7:JT 7 [(1,3),(2,6),(4,5)] [2,4,1] =true:=by decide +kernel
theorem y9:JT 9 [(1,2),(3,7),(4,6),(5,8)] [5,4,2,7] =true:=by decide +kernel
theorem y11:JT 11 [(1,2),(3,6),(4,8),(5,10),(7,9)] [3,9,1,4,5] =true:=by decide +kernel
theorem p7:((aG 11 (upTo 7)).filter (lg 7)).take 1= [] ++ [[(1,3),(2,6),(4,5)]]:=by decide +kernel
theorem p9:((aG 11 (upTo 9)).filter (lg 9)).take 2=((aG 11 (upTo 9)).filter (lg 9)).take 1 ++ [[(1,2),(3,7),(4,6),(5,8)]]:=by decide +kernel
theorem q9:(((aG 11 (upTo 9)).filter (lg 9)).take 1).all (noQ 9)=true:=by decide +kernel
theorem p11:((aG 11 (upTo 11)).filter (lg 11)).take 1= [] ++ [[(1,2),(3,6),(4,8),(5,10),(7,9)]]:=by decide +kernel
theorem n7:A_ (evs Pg 60 10 (.call 7 [.int (7:Nat)]) [] (heapOf []))=true:=by decide +kernel
theorem n9:A_ (evs Pg 60 10 (.call 7 [.int (9:Nat)]) [] (heapOf []))=true:=by decide +kernel
theorem n11:A_ (evs Pg 60 10 (.call 7 [.int (11:Nat)]) [] (heapOf []))=true:=by decide +kernel
theorem afm:(aG 11 (upTo 7)).length<=100000:=by decide +kernel
theorem afn:(aG 11 (upTo 9)).length<=100000:=by decide +kernel
theorem aer:(aG 11 (upTo 11)).length<=100000:=by decide +kernel
theorem Qm{cl:Cn}{m:Nat}(h1:m<12)(h2:1<=m)(few:(aG 11 (upTo m)).length<=100000)(nr:A_ (evs Pg 60 10 (.call 7 [.int m]) [] (heapOf []))=true)(g:(aG 11 (upTo m)).all (JS m)=true):Az cl 10 m (lg m) where
 lt:=h1
 ge:=h2
 few:=few
 need:=by
  generalize e:evs Pg 60 10 (.call 7 [.int m]) [] (heapOf [])=r at nr;unfold A_ at nr
  split at nr
  · exact⟨60,_,e,of_decide_eq_true nr⟩
  · cases nr
 dif:=fun ps hps=>by
  have q:=List.all_eq_true.mp g ps hps;unfold JS at q;rw[Bool.and_eq_true]at q;obtain⟨q1,q2⟩:=q;refine⟨of_decide_eq_true q1,60,?_⟩;generalize evs Pg 60 10 (.call 9 [.int m,.ref 0]) [] (heapOf (psO ps))=r at q2;unfold ac2 at q2
  split at q2
  · rename_i b h;rw[Bool.and_eq_true]at q2;have:b=lg m ps:=by simpa using q2.1
    exact⟨h,by rw[this],q2.2⟩
  · cases q2
theorem Qo{cl:Cn}{m j:Nat}{ps:List (Int × Int)}{adds:List Int}{pre:List (List (Int × Int))}(S:Az cl 10 m (lg m))(e:((aG 11 (upTo m)).filter (lg m)).take j=pre ++ [ps])(n:pre.all (noQ m)=true)(y:JT m ps adds=true):JR cl 10 m ps adds:=by
 unfold JT at y;rw[Bool.and_eq_true]at y;obtain⟨y1,y2⟩:=y;refine⟨⟨_,pre,((aG 11 (upTo m)).filter (lg m)).drop j,S,?_,fun x hx=>?_⟩,of_decide_eq_true y1,?_⟩
 · rw[show pre++ps::((aG 11 (upTo m)).filter (lg m)).drop j=(pre ++ [ps])++((aG 11 (upTo m)).filter (lg m)).drop j by simp,<- e,List.take_append_drop]
 · have q:=List.all_eq_true.mp n x hx;unfold noQ at q;rw[Bool.and_eq_true]at q;obtain⟨q1,q2⟩:=q;refine⟨of_decide_eq_true q1,200,?_⟩;generalize evs Pg 200 10 (.call 12 [.int m,.ref 0]) [] (heapOf (psO x))=r at q2;unfold noR at q2
   split at q2
   · exact⟨_,rfl,q2⟩
   · cases q2
 · refine⟨200,?_⟩;generalize evs Pg 200 10 (.call 12 [.int m,.ref 0]) [] (heapOf (psO ps))=r at y2;unfold ac3 at y2
   split at y2
   · rename_i k h;rw[Bool.and_eq_true,Bool.and_eq_true]at y2;exact⟨k,h,rfl,y2.1,of_decide_eq_true y2.2.1,of_decide_eq_true y2.2.2⟩
   · cases y2
theorem plr{cl:Cn}(m:Nat)(ps:List (Int × Int))(adds:List Int)(h:Pb m=some (ps,adds)):JR cl 10 m ps adds:=by
 unfold Pb at h
 split at h
 · cases h;exact Qo (Qm (by decide) (by decide) afm n7 g7) p7 rfl y7
 · cases h;exact Qo (Qm (by decide) (by decide) afn n9 g9) p9 q9 y9
 · cases h;exact Qo (Qm (by decide) (by decide) aer n11 g11) p11 rfl y11
 · cases h
theorem Tp{a:Adr}(T:Txt w K mg a):aP P w K mg base CX0 76 a.mY a.rW ["m"] (Dc (cn a) Pb):=Tn T (Yn T 10) fun m ps adds h=>plr m ps adds h
structure All (P:Program)(w:World)(K:ak)(mg:Str->Option Value)(base:Heap)(a:Adr)(d:Nat):Prop extends Al P w K mg base a d where
 Ba:Fq P w K mg base a (4*d+108) d a.kO a.qz ["plan","at"] 0
 Dv:Fq P w K mg base a (4*d+108) d a.qJ a.xZ ["plan","at","pair"] 1
 Tq:Fq P w K mg base a (4*d+108) d a.mW a.rT ["plan","at","pair"] 2
 ZJ:Fq P w K mg base a (4*d+108) d a.qK a.x_ ["plan","pair"] 3
 JV:Fq P w K mg base a (4*d+108) d a.oZ a.u9 ["plan","at","seat"] 4
 ac4:Fq P w K mg base a (4*d+108) d a.uw a.Ak ["plan","at","seat"] 5
 vz:Fq P w K mg base a (4*d+108) d a.o4 a.u_ ["plan","seat"] 6
 Qp:Fq P w K mg base a (4*d+108) d a.kW a.qC ["kind","tables"] 13
 zu:Fq P w K mg base a (4*d+108) d a.c7 a.fU ["self","kind","tables"] 14
 dX:Fq P w K mg base a (4*d+108) d a.dO a.iQ ["self"] 15
 xF:Fq P w K mg base a (4*d+108) d a.fV a.j6 ["self"] 16
 Gh:Fq P w K mg base a (4*d+108) d a.eX a.jl ["self"] 17
 pO:Fq P w K mg base a (4*d+108) d a.b7 a.eE ["self","at"] 18
 pP:Fq P w K mg base a (4*d+108) d a.b8 a.eF ["self","table"] 19
 lK:Fq P w K mg base a (4*d+108) d a.cF a.eZ ["self","pair"] 20
 aaT:Fq P w K mg base a (4*d+108) d a.eY a.jm ["self","pair"] 21
 n8:Fq P w K mg base a (4*d+108) d a.fW a.j7 ["self","at","table"] 22
 tW:Fq P w K mg base a (4*d+108) d a.bD a.cT ["self","at","table"] 23
 tX:Fq P w K mg base a (4*d+108) d a.bF a.cU ["self","at","table"] 24
 zA:Fq P w K mg base a (4*d+108) d a.bC a.jg ["_law_number"] 25
 Gi:Fq P w K mg base a (4*d+108) d a.gF a.mC ["_law_number","_law_most"] 26
theorem all_zero{a:Adr}:All P w K mg base a 0:=⟨M7,bf,bf,bf,bf,bf,bf,bf,bf,bf,bf,bf,bf,bf,bf,bf,bf,bf,bf,bf,bf,bf⟩
theorem K9(T:Txt w K mg a)(A0:All P w K mg base a d):Fq P w K mg base a (4*(d+1)+108) (d+1) a.kO a.qz ["plan","at"] 0:=by
 refine(cj (k:=4*d+111) T.jh.fn lR rfl fun σ0 cdv A outer s H E hr hp=>?_).mono (by omega)
 exact(aj (gU 2 lR.nd Zm)
  (aj (Aa PassesOwn.leaving rfl oU (gP rfl T.fH (I9 (fP T.aJ T.bH (dv 0)) aA)) (bx 3 lR.nd)
  (aj (qX (yP (fG T.aJ T.mD A0.n8 (hr.mono (by omega)) T.n6 hp (dv 0) (ao (dv 1) (ao (dv 3) aA))) CN (CP aL)) (jk rfl (aU (bx 4 lR.nd) (aU (bx 5 lR.nd) gq))))
  (aj (Mw hr.u1 (dv 2) (dv 4) (fO (ao (dv 3) (aN (cu [102,105,114,115,116]) aA))))
  (aj (Mw hr.u1 (dv 2) (dv 5) (fO (ao (dv 3) (aN (cu [115,101,99,111,110,100]) aA))))
  au))))
  (aj (aQ (dv 2))
  au)))
theorem W9(T:Txt w K mg a)(A0:All P w K mg base a d):Fq P w K mg base a (4*(d+1)+108) (d+1) a.qJ a.xZ ["plan","at","pair"] 1:=by
 refine(cj (k:=4*d+111) T.gG.fn W3 rfl fun σ0 cdv A outer s H E hr hp=>?_).mono (by omega)
 exact(aj (jw (fG T.aJ T.oE A0.pO (hr.mono (by omega)) T.pM hp (dv 0) (ao (dv 1) aA)))
  (aj (jw (fG T.aJ T.j8 A0.lK (hr.mono (by omega)) T.lJ hp (dv 0) (ao (dv 2) aA)))
  (aj (aQ (Mv hr.u1 (gW A0.Ba T.jh hr hp (ao (dv 0) (ao (dv 1) aA))) (dv 2)))
  au)))
theorem Qq(T:Txt w K mg a)(A0:All P w K mg base a d):Fq P w K mg base a (4*(d+1)+108) (d+1) a.mW a.rT ["plan","at","pair"] 2:=by
 refine(cj (k:=4*d+111) T.iZ.fn je rfl fun σ0 cdv A outer s H E hr hp=>?_).mono (by omega)
 exact(aj (qX (Mv hr.u1 (gW A0.Ba T.jh hr hp (ao (dv 0) (ao (dv 1) aA))) (dv 2)) (jk rfl (aU (bx 3 je.nd) (aU (bx 4 je.nd) gq))))
  (aj (qX (fG T.aJ T.mD A0.n8 (hr.mono (by omega)) T.n6 hp (dv 0) (ao (dv 1) (ao (dv 3) aA))) (jk rfl (aU (bx 5 je.nd) (aU (bx 6 je.nd) (aU (bx 7 je.nd) gq)))))
  (aj (gU 8 je.nd (yU (bB pW (jj hr.units) (dv 4) (cu [102,105,114,115,116]) (aM _)) (dv 6) (dv 5)))
  (aj (aQ (fO (ao (dv 3) (ao (dv 4) (ao (dv 8) (ao (dv 7) aA))))))
  au))))
theorem W_(T:Txt w K mg a)(A0:All P w K mg base a d):Fq P w K mg base a (4*(d+1)+108) (d+1) a.qK a.x_ ["plan","pair"] 3:=by
 refine(cj (k:=4*d+111) T.qM.fn W4 rfl fun σ0 cdv A outer s H E hr hp=>?_).mono (by omega)
 exact(aj (jw (fG T.aJ T.j8 A0.lK (hr.mono (by omega)) T.lJ hp (dv 0) (ao (dv 1) aA)))
  (aj (aQ (jd (fM (N':=["at","plan","pair"]) (nt:=1) (idx:=[0,1]) (N:=["plan","pair"]) (osc:=aa xY) rfl rfl (by decide +kernel)) rfl oU (gP rfl T.fH (oW (gZ T.aJ T.dB A0.dX (hr.mono (by omega)) T.dW hp (dv 0)) aA)) (fun C0 s0 H0 fp0=>(bx 0 (show List.Nodup (["at","plan","pair"]:List Str) by decide +kernel))) (fun C0 s0 H0 fp0=>iH) (fun C0 s0 H0 fp0=>(mV (A0.Tq) (hr.mono (by omega)) rfl T.iZ.mg T.iZ.fn.kp T.iZ.bd uQ (ao (dv 1) (ao (dv 0) (ao (dv 2) aA))))) (by decide)))
  au))
theorem Tt(T:Txt w K mg a)(A0:All P w K mg base a d):Fq P w K mg base a (4*(d+1)+108) (d+1) a.oZ a.u9 ["plan","at","seat"] 4:=by
 refine(cj (k:=4*d+111) T.mL.fn wQ rfl fun σ0 cdv A outer s H E hr hp=>?_).mono (by omega)
 exact(aj (qX (dv 2) (jk rfl (aU (bx 3 wQ.nd) (aU (bx 4 wQ.nd) gq))))
  (aj (jw (fG T.aJ T.oF A0.pP (hr.mono (by omega)) T.pN hp (dv 0) (ao (dv 3) aA)))
  (aj (dI (acK T.JG rfl T.JH (dv 4)) (aj (mH ⟨rfl,rfl,rfl⟩ rfl rfl T.vp (Qh T) (hr.mono (by omega)) T.vZ rfl T.Qa)
  au) au)
  (aj (aQ (kI (fG T.aJ T.mD A0.n8 (hr.mono (by omega)) T.n6 hp (dv 0) (ao (dv 1) (ao (dv 3) aA))) (acM T.JG rfl T.JH (dv 4))))
  au))))
theorem ZK(T:Txt w K mg a)(A0:All P w K mg base a d):Fq P w K mg base a (4*(d+1)+108) (d+1) a.uw a.Ak ["plan","at","seat"] 5:=by
 refine(cj (k:=4*d+111) T.pL.fn Zx rfl fun σ0 cdv A outer s H E hr hp=>?_).mono (by omega)
 exact(aj (dI (PW.pt (uO (bB (Cy (K:=K)) (L2.OpR.or uC (uc hr.t8)) (dv 1) aL (aM _)) (pw_or1 (bB Cz uD (dv 1) (aW o_ lN (gZ T.aJ T.dB A0.dX (hr.mono (by omega)) T.dW hp (dv 0)) aL) (aM _))))) (aj (mH ⟨rfl,rfl,rfl⟩ rfl rfl T.qD (Ay T) (hr.mono (by omega)) T.oG rfl T.Ar)
  au) au)
  (aj (aQ (gW A0.Dv T.gG hr hp (ao (dv 0) (g8 (aW l_ (L2.OpR.or d9 iC) (dv 1) aL) (oW (gW A0.JV T.mL hr hp (ao (dv 0) (ao (dv 1) (ao (dv 2) aA)))) aA)))))
  au))
theorem Tu(T:Txt w K mg a)(A0:All P w K mg base a d):Fq P w K mg base a (4*(d+1)+108) (d+1) a.o4 a.u_ ["plan","seat"] 6:=by
 refine(cj (k:=4*d+111) T.dR.fn Fg rfl fun σ0 cdv A outer s H E hr hp=>?_).mono (by omega)
 exact(aj (gU 2 Fg.nd (gW A0.JV T.mL hr hp (ao (dv 0) (aN aL (ao (dv 1) aA)))))
  (aj (aQ (jd (fM (N':=["at","plan","pair"]) (nt:=1) (idx:=[0,2]) (N:=["plan","seat","pair"]) (osc:=aa uU) rfl rfl (by decide +kernel)) rfl oU (gP rfl T.fH (oW (gZ T.aJ T.dB A0.dX (hr.mono (by omega)) T.dW hp (dv 0)) aA)) (fun C0 s0 H0 fp0=>(bx 0 (show List.Nodup (["at","plan","pair"]:List Str) by decide +kernel))) (fun C0 s0 H0 fp0=>iH) (fun C0 s0 H0 fp0=>(mV (A0.Dv) (hr.mono (by omega)) rfl T.gG.mg T.gG.fn.kp T.gG.bd uQ (ao (dv 1) (ao (dv 0) (ao (dv 2) aA))))) (by decide)))
  au))
theorem K_(T:Txt w K mg a)(A0:All P w K mg base a d):Fq P w K mg base a (4*(d+1)+108) (d+1) a.kW a.qC ["kind","tables"] 13:=by
 refine(cj (k:=4*d+111) T.kZ.fn sV rfl fun σ0 cdv A outer s H E hr hp=>?_).mono (by omega)
 exact(aj (dI (bB CK (ud hr.units) (dv 0) (cu [114,105,110,103]) (aM _)) (aj (aQ (pK aA))
  au) au)
  (aj (qX (Zt (Tp T) (hr.mono (by omega)) rfl T.i_.mg T.i_.fn.kp T.i_.bd (g8 (aW o_ lN (aW G9 (L2.OpR.or jr zO) aL (dv 1)) aL) aA)) (jk rfl (aU (bx 2 sV.nd) (aU (bx 3 sV.nd) gq))))
  (aj (aQ (jd (fM (N':=["b","x","y"]) (nt:=3) (idx:=[]) (N:=["kind","tables","pairs","adds"]) (osc:=aa qy) rfl rfl (by decide +kernel)) rfl R0 (RC rfl T.Ho (ao (dv 2) (ao (dv 3) aA))) (fun C0 s0 H0 fp0=>(jk rfl (aU (jk rfl (aU (bx 1 (show List.Nodup (["b","x","y"]:List Str) by decide +kernel)) (aU (bx 2 (show List.Nodup (["b","x","y"]:List Str) by decide +kernel)) gq))) (aU (bx 0 (show List.Nodup (["b","x","y"]:List Str) by decide +kernel)) gq)))) (fun C0 s0 H0 fp0=>iH) (fun C0 s0 H0 fp0=>(fO (ao (dv 1) (ao (dv 2) (ao (dv 0) aA))))) (by decide)))
  au)))
theorem yq(T:Txt w K mg a)(A0:All P w K mg base a d):Fq P w K mg base a (4*(d+1)+108) (d+1) a.c7 a.fU ["self","kind","tables"] 14:=by
 refine(cj (k:=4*d+111) T.zp ym rfl fun σ0 cdv A outer s H E hr hp=>?_).mono (by omega)
 exact(aj (dI (aco T.mG rfl T.xm (dv 2) (Zc T.mG rfl T.xm (dv 1)) rfl) (aj (mH ⟨rfl,rfl,rfl⟩ rfl rfl T.vm (Qf T) (hr.mono (by omega)) T.vU rfl T.PK)
  au) au)
  (aj (Iu T.aJ T.dD (dv 0) (dv 1))
  (aj (Iu T.aJ T.bH (dv 0) (dv 2))
  (aj (Iu T.aJ T.mF (dv 0) (gW A0.Qp T.kZ hr hp (ao (dv 1) (ao (dv 2) aA))))
  au))))
theorem Bb(T:Txt w K mg a)(A0:All P w K mg base a d):Fq P w K mg base a (4*(d+1)+108) (d+1) a.dO a.iQ ["self"] 15:=by
 refine(cj (k:=4*d+111) T.Dr Aj rfl fun σ0 cdv A outer s H E hr hp=>?_).mono (by omega)
 exact(aj (dI (bB pW (jj hr.units) (fP T.aJ T.dD (dv 0)) (cu [115,107,105,112]) (aM _)) (aj (aQ (aW o_ lN (fP T.aJ T.bH (dv 0)) aL))
  au) au)
  (aj (aQ (gZ T.aJ T.vG A0.xF (hr.mono (by omega)) T.wY hp (dv 0)))
  au))
theorem Gj(T:Txt w K mg a)(A0:All P w K mg base a d):Fq P w K mg base a (4*(d+1)+108) (d+1) a.fV a.j6 ["self"] 16:=by
 refine(cj (k:=4*d+111) T.JD FJ rfl fun σ0 cdv A outer s H E hr hp=>?_).mono (by omega)
 exact(aj (dI (bB pW (jj hr.units) (fP T.aJ T.dD (dv 0)) (cu [114,105,110,103]) (aM _)) (aj (aQ (aW o_ lN (aW G9 (L2.OpR.or jr zO) aL (fP T.aJ T.bH (dv 0))) aL))
  au) au)
  (aj (aQ (fP T.aJ T.bH (dv 0)))
  au))
theorem Dw(T:Txt w K mg a)(A0:All P w K mg base a d):Fq P w K mg base a (4*(d+1)+108) (d+1) a.eX a.jl ["self"] 17:=by
 refine(cj (k:=4*d+111) T.F_ Dm rfl fun σ0 cdv A outer s H E hr hp=>?_).mono (by omega)
 exact(aj (aQ (aW G9 (L2.OpR.or jr zO) aL (fP T.aJ T.bH (dv 0))))
  au)
theorem v5(T:Txt w K mg a)(A0:All P w K mg base a d):Fq P w K mg base a (4*(d+1)+108) (d+1) a.b7 a.eE ["self","at"] 18:=by
 refine(cj (k:=4*d+111) T.wZ vM rfl fun σ0 cdv A outer s H E hr hp=>?_).mono (by omega)
 exact(aj (dI (PW.pt (uO (bB (Cy (K:=K)) (L2.OpR.or uC (uc hr.t8)) (dv 1) aL (aM _)) (pw_or1 (bB Cz uD (dv 1) (gZ T.aJ T.dB A0.dX (hr.mono (by omega)) T.dW hp (dv 0)) (aM _))))) (aj (mH ⟨rfl,rfl,rfl⟩ rfl rfl T.qD (Ay T) (hr.mono (by omega)) T.oG rfl T.Ar)
  au) au)
  au)
theorem v7(T:Txt w K mg a)(A0:All P w K mg base a d):Fq P w K mg base a (4*(d+1)+108) (d+1) a.b8 a.eF ["self","table"] 19:=by
 refine(cj (k:=4*d+111) T.w5 vN rfl fun σ0 cdv A outer s H E hr hp=>?_).mono (by omega)
 exact(aj (dI (PW.pt (uO (bB (Cy (K:=K)) (L2.OpR.or uC (uc hr.t8)) (dv 1) aL (aM _)) (pw_or1 (bB Cz uD (dv 1) (fP T.aJ T.bH (dv 0)) (aM _))))) (aj (mH ⟨rfl,rfl,rfl⟩ rfl rfl T.vo (Qg T) (hr.mono (by omega)) T.vX rfl T.P0)
  au) au)
  au)
theorem xG(T:Txt w K mg a)(A0:All P w K mg base a d):Fq P w K mg base a (4*(d+1)+108) (d+1) a.cF a.eZ ["self","pair"] 20:=by
 refine(cj (k:=4*d+111) T.yp wV rfl fun σ0 cdv A outer s H E hr hp=>?_).mono (by omega)
 exact(aj (dI (PW.pt (uO (bB (Cy (K:=K)) (L2.OpR.or uC (uc hr.t8)) (dv 1) aL (aM _)) (pw_or1 (bB Cz uD (dv 1) (gZ T.aJ T.Ds A0.Gh (hr.mono (by omega)) T.Ga hp (dv 0)) (aM _))))) (aj (mH ⟨rfl,rfl,rfl⟩ rfl rfl T.xj (Tf T) (hr.mono (by omega)) T.xg rfl T.Te)
  au) au)
  au)
theorem Dy(T:Txt w K mg a)(A0:All P w K mg base a d):Fq P w K mg base a (4*(d+1)+108) (d+1) a.eY a.jm ["self","pair"] 21:=by
 refine(cj (k:=4*d+111) T.Gb Dp rfl fun σ0 cdv A outer s H E hr hp=>?_).mono (by omega)
 exact(aj (jw (fG T.aJ T.j8 A0.lK (hr.mono (by omega)) T.lJ hp (dv 0) (ao (dv 1) aA)))
  (aj (dI (PW.pt (uO (bB pW (jj hr.units) (fP T.aJ T.dD (dv 0)) (cu [114,105,110,103]) (aM _)) (pw_or1 (bB (Cy (K:=K)) (L2.OpR.or uC (uc hr.t8)) (dv 1) (fP T.aJ T.bH (dv 0)) (aM _))))) (aj (aQ aL)
  au) au)
  (aj (aQ aL)
  au)))
theorem Gk(T:Txt w K mg a)(A0:All P w K mg base a d):Fq P w K mg base a (4*(d+1)+108) (d+1) a.fW a.j7 ["self","at","table"] 22:=by
 refine(cj (k:=4*d+111) T.JF FN rfl fun σ0 cdv A outer s H E hr hp=>?_).mono (by omega)
 exact(aj (jw (fG T.aJ T.oE A0.pO (hr.mono (by omega)) T.pM hp (dv 0) (ao (dv 1) aA)))
  (aj (jw (fG T.aJ T.oF A0.pP (hr.mono (by omega)) T.pN hp (dv 0) (ao (dv 2) aA)))
  (aj (dI (bB pW (jj hr.units) (fP T.aJ T.dD (dv 0)) (cu [114,105,110,103]) (aM _)) (aj (aQ (fG T.aJ T.rM A0.tW (hr.mono (by omega)) T.tL hp (dv 0) (ao (dv 1) (ao (dv 2) aA))))
  au) au)
  (aj (aQ (fG T.aJ T.rN A0.tX (hr.mono (by omega)) T.tQ hp (dv 0) (ao (dv 1) (ao (dv 2) aA))))
  au))))
theorem rO(T:Txt w K mg a)(A0:All P w K mg base a d):Fq P w K mg base a (4*(d+1)+108) (d+1) a.bD a.cT ["self","at","table"] 23:=by
 refine(cj (k:=4*d+111) T.tK cA rfl fun σ0 cdv A outer s H E hr hp=>?_).mono (by omega)
 exact(aj (gU 3 cA.nd (gZ T.aJ T.vG A0.xF (hr.mono (by omega)) T.wY hp (dv 0)))
  (aj (dI (bB pW (jj hr.units) (dv 2) aL (aM _)) (aj (aQ (fO (ao (dv 3) (ao (dv 1) (ao (dv 1) aA)))))
  au) au)
  (aj (qX (kI (fP T.aJ T.mF (dv 0)) (aW o_ lN (dv 2) aL)) (jk rfl (aU (bx 4 cA.nd) (aU (bx 5 cA.nd) (aU (bx 6 cA.nd) gq)))))
  (aj (aQ (fO (g8 (aW nJ dJ (aW l_ (L2.OpR.or d9 iC) (dv 4) (dv 1)) (dv 3)) (g8 (aW nJ dJ (aW l_ (L2.OpR.or d9 iC) (dv 5) (dv 1)) (dv 3)) (g8 (aW nJ dJ (aW l_ (L2.OpR.or d9 iC) (dv 6) (dv 1)) (dv 3)) aA)))))
  au))))
theorem rP(T:Txt w K mg a)(A0:All P w K mg base a d):Fq P w K mg base a (4*(d+1)+108) (d+1) a.bF a.cU ["self","at","table"] 24:=by
 refine(cj (k:=4*d+111) T.tM cB rfl fun σ0 cdv A outer s H E hr hp=>?_).mono (by omega)
 exact(aj (gU 3 cB.nd (fP T.aJ T.bH (dv 0)))
  (aj (gU 4 cB.nd (aW ab1 yL (dv 3) aL))
  (aj (gU 5 cB.nd (yU (PW.pt (RT (bB pW (jj hr.units) (fP T.aJ T.dD (dv 0)) (cu [115,107,105,112]) (aM _)) (pw_and1 (bB Cz uD (dv 1) (dv 4) (aM _))))) (aW l_ (L2.OpR.or d9 iC) (dv 1) aL) (dv 1)))
  (aj (gU 6 cB.nd (yU (PW.pt (RT (bB pW (jj hr.units) (fP T.aJ T.dD (dv 0)) (cu [115,104,97,114,101,100]) (aM _)) (pw_and1 (bB Cz uD (dv 2) (dv 4) (aM _))))) (aW l_ (L2.OpR.or d9 iC) (dv 1) aL) (dv 1)))
  (aj (aQ (fO (ao (dv 2) (g8 (aW l_ (L2.OpR.or d9 iC) (dv 3) (aW nJ dJ (aW o_ lN (dv 2) (dv 5)) (dv 3))) (g8 (aW nJ dJ (aW l_ (L2.OpR.or d9 iC) (dv 2) (dv 6)) (dv 3)) aA)))))
  au)))))
theorem yr(T:Txt w K mg a)(A0:All P w K mg base a d):Fq P w K mg base a (4*(d+1)+108) (d+1) a.bC a.jg ["_law_number"] 25:=by
 refine(acB (k:=4*d+111) T.dU.fn lG rfl fun σ0 cdv A outer s H E hr hp=>?_).mono (by omega);have q0:QS (iB (CXE P w) P w K mg base ["_law_number","_law_some"] "_law_some_plan" (aa bw) a.bC cdv A outer s H E) ((bG bw).getD 0 (.Pass ⟨0,0,0,0⟩)) (tS Pg (cn a) E d σ0 (.asg (.nm 1) (.pr .lst [(.pr .tup [(.cst (.str [115,116,114,97,105,103,104,116])),(.cst (.int 3))]),(.pr .tup [(.cst (.str [115,107,105,112])),(.cst (.int 4))]),(.pr .tup [(.cst (.str [115,104,97,114,101,100])),(.cst (.int 4))]),(.pr .tup [(.cst (.str [115,116,114,97,105,103,104,116])),(.cst (.int 5))]),(.pr .tup [(.cst (.str [114,105,110,103])),(.cst (.int 4))]),(.pr .tup [(.cst (.str [115,107,105,112])),(.cst (.int 6))]),(.pr .tup [(.cst (.str [115,104,97,114,101,100])),(.cst (.int 6))])]))):=(R9 (i:=1) lG.nd rfl (Or.inl rfl) (R7 (kJ [115,116,114,97,105,103,104,116] (kJ [115,107,105,112] (kJ [115,104,97,114,101,100] (kJ [115,116,114,97,105,103,104,116] (kJ [114,105,110,103] (kJ [115,107,105,112] (kJ [115,104,97,114,101,100] R8)))))))));have q1:QS (iB (CXE P w) P w K mg base ["_law_number","_law_some"] "_law_some_plan" (aa bw) a.bC cdv A outer s H E) ((bG bw).getD 1 (.Pass ⟨0,0,0,0⟩)) (tS Pg (cn a) E d σ0 (.asg (.nm 1) (.pr .add [(.var 1),(.pr .lst [(.pr .tup [(.cst (.str [115,116,114,97,105,103,104,116])),(.cst (.int 7))]),(.pr .tup [(.cst (.str [114,105,110,103])),(.cst (.int 5))]),(.pr .tup [(.cst (.str [115,107,105,112])),(.cst (.int 8))]),(.pr .tup [(.cst (.str [115,104,97,114,101,100])),(.cst (.int 8))]),(.pr .tup [(.cst (.str [115,116,114,97,105,103,104,116])),(.cst (.int 9))]),(.pr .tup [(.cst (.str [114,105,110,103])),(.cst (.int 6))])])]))):=(R9 (i:=1) lG.nd rfl (Or.inl rfl) (aed l_ (L2.OpR.or d9 iC) ⟨(dv 1)⟩ (R7 (kJ [115,116,114,97,105,103,104,116] (kJ [114,105,110,103] (kJ [115,107,105,112] (kJ [115,104,97,114,101,100] (kJ [115,116,114,97,105,103,104,116] (kJ [114,105,110,103] R8)))))))));have q2:QS (iB (CXE P w) P w K mg base ["_law_number","_law_some"] "_law_some_plan" (aa bw) a.bC cdv A outer s H E) ((bG bw).getD 2 (.Pass ⟨0,0,0,0⟩)) (tS Pg (cn a) E d σ0 (.ret (.pr .ix [(.var 1),(.pr .mod [(.var 0),(.cst (.int 13))])]))):=⟨(aQ (kI (dv 1) (aW nJ dJ (dv 0) aL)))⟩;have z:QSs (iB (CXE P w) P w K mg base ["_law_number","_law_some"] "_law_some_plan" (aa bw) a.bC cdv A outer s H E) (bG bw) (tSs Pg (cn a) E d σ0 rF):=(yX q0 (yX q1 (yX q2 Zo)));exact z
theorem Dz(T:Txt w K mg a)(A0:All P w K mg base a d):Fq P w K mg base a (4*(d+1)+108) (d+1) a.gF a.mC ["_law_number","_law_most"] 26:=by
 refine(cj (k:=4*d+111) T.dG.fn Dl rfl fun σ0 cdv A outer s H E hr hp=>?_).mono (by omega)
 exact(aj (aQ (kI (pK (Ad (Oz Ov Hz aL) (ao (dv 1) (g8 (aW l_ (L2.OpR.or d9 iC) (dv 1) aL) (g8 (aW X4 Hy aL aL) (Ad (Oz Ov Hz (aW X4 Hy aL aL)) aA)))))) (aW nJ dJ (dv 0) aL)))
  au)
theorem Xa{a:Adr}{d:Nat}(T:Txt w K mg a)(A0:All P w K mg base a d):All P w K mg base a (d+1):=⟨M8 T A0.toAl,K9 T A0,W9 T A0,Qq T A0,W_ T A0,Tt T A0,ZK T A0,Tu T A0,K_ T A0,yq T A0,Bb T A0,Gj T A0,Dw T A0,v5 T A0,v7 T A0,xG T A0,Dy T A0,Gk T A0,rO T A0,rP T A0,yr T A0,Dz T A0⟩
theorem JW{a:Adr}(T:Txt w K mg a):∀ d,All P w K mg base a d
 | 0=>all_zero
 | d+1=>Xa T (JW T d)
end
end My
namespace My
open PySem L2 PyProof.Rows
open Ev
def tl0:List S:=[(.asg (.tup [(.nm 2),(.nm 3)]) (.call 25 [(.pr .ix [(.var 1),(.cst (.int 0))])]))]
def tl1:List S:=[(.asg (.nm 4) (.make 50 14 [(.var 2),(.var 3)])),
 (.asg (.nm 5) (.pr .lst []))]
def tl2:List S:=[(.for_ (.pU [(.cst (.int 2))]) (.nm 7) [(.asg (.nm 8) (.pr .ix [(.pr .lst [(.cst (.str [102,105,114,115,116])),(.cst (.str [115,101,99,111,110,100]))]),(.var 7)])),
    (.asg (.nm 9) (.call 6 [(.var 4),(.pr .tup [(.var 6),(.var 8)])])),
    (.asg (.nm 10) (.pr .ix [(.meth 50 [115,101,97,116] 22 (.var 4) [(.cst (.int 0)),(.var 6)]),(.var 7)])),
    (.ife (.pr .Ol [(.pr .truth [(.pr .same [(.var 9),(.comp 1 [] (.seq (.call 3 [(.var 4),(.var 10)])) (.nm 0) none none (.slice (.var 0) none (some (.cst (.int 2)))))])])]) [(.ret (.cst (.bl false)))] []),
    (.ife (.pr .ne [(.var 9),(.comp 1 [4,10] (.pU [(.meth 50 [114,111,117,110,100,115] 15 (.var 4) [])]) (.nm 0) none none (.call 1 [(.var 1),(.var 0),(.var 2)]))]) [(.ret (.cst (.bl false)))] []),
    (.ife (.pr .ne [(.slice (.var 9) (some (.cst (.int 1))) none),(.comp 1 [4,9] (.pU [(.pr .sub [(.meth 50 [114,111,117,110,100,115] 15 (.var 4) []),(.cst (.int 1))])]) (.nm 0) none none (.call 5 [(.var 1),(.var 0),(.pr .ix [(.var 2),(.var 0)])]))]) [(.ret (.cst (.bl false)))] []),
    (.expr (.lm .append (.var 5) [(.pr .list [(.var 9)])])),
    (.expr (.lm .append (.var 9) [(.pr .tup [(.cst (.int 0)),(.cst (.str [102,105,114,115,116]))])])),
    (.ife (.pr .ne [(.call 6 [(.var 4),(.pr .tup [(.var 6),(.var 8)])]),(.pr .ix [(.var 5),(.pr .neg [(.cst (.int 1))])])]) [(.ret (.cst (.bl false)))] [])])]
abbrev rv2(kv:List (Nat × W))(os:Nat->List O)(j:Nat):Bool:=WQ 13 1 5000 kv (os (j+1)) (evs Pg 5000 14 (.ss tl2) (frm 13 ((6,.int (Int.ofNat j))::kv)) (heapOf (os j)))
def tl3:List S:=[(.for_ (.pU [(.meth 50 [114,111,117,110,100,115] 15 (.var 4) [])]) (.nm 11) [(.ife (.pr .ne [(.pr .xX [(.comp 1 [11] (.seq (.var 5)) (.nm 0) none none (.pr .ix [(.var 0),(.var 1)]))]),(.pr .mul [(.cst (.int 2)),(.var 3)])]) [(.ret (.cst (.bl false)))] [])])]
def tl4:List S:=[(.asg (.nm 12) (.pr .ix [(.pr .lst [(.cst (.str [])),(.cst (.str [70,105,114,115,116])),(.cst (.str [116,104,105,114,100])),(.cst (.str [115,101,99,111,110,100,32]))]),(.pr .ix [(.var 1),(.cst (.int 2))])])),
 (.ife (.pr .ne [(.told 6 [1,3,4,12] (.call 6 [(.var 2),(.pr .tup [(.call 26 [(.pr .ix [(.var 0),(.cst (.int 1))]),(.var 1)]),(.var 3)])])),(.pr .tup [(.cst (.str [110,111])),(.cst (.str [110,111,32,116,97,98,108,101]))])]) [(.ret (.cst (.bl false)))] []),
 (.ret (.pr .eq [(.told 6 [4,12] (.call 6 [(.var 0),(.pr .tup [(.cst (.int 0)),(.var 1)])])),(.pr .tup [(.cst (.str [110,111])),(.cst (.str [98,97,100,32,115,105,100,101]))])]))]
abbrev _root_.Ev.O.t3(a b c:Int):O:=.tup [.int a,.int b,.int c]
abbrev u0c:List Nat:=[115,116,114,97,105,103,104,116]
abbrev u1c:List Nat:=[107,105,110,100]
abbrev u2c:List Nat:=[116,97,98,108,101,115]
abbrev u3c:List Nat:=[116,114,105,111,115]
abbrev u4c:List Nat:=[115,107,105,112]
abbrev u5c:List Nat:=[115,104,97,114,101,100]
abbrev u6c:List Nat:=[114,105,110,103]
def JX:List (Nat × W):=[(2,.str u0c),(3,.int 3)]
def ac5:List O:=[]
theorem ZL:((rowsOf [5,4]).all fun l=>goes (evs Pg 60 14 (.ss tl0) (frm 13 [(1,.ref 0)]) (nM (Int.ofNat 0::l))) (ok0 13 1 JX (Int.ofNat 0::l)))=true:=by decide +kernel
def pQ:List (Nat × W):=[(3,.int 3),(4,.ref 0),(5,.ref 2)]
def m9:Nat->List O:=osW ([.ins 50 [(u1c,.str u0c),(u2c,.int 3),(u3c,.ref 1)],.lst []]) 3 3 [[0,0,0],[1,3,5],[2,2,2],[3,5,1],[4,4,4],[5,1,3]]
abbrev Tv:List O:=m9 0
theorem ZM:goes (evs Pg 5000 14 (.ss tl1) (frm 13 JX) (heapOf ac5)) (bZ 13 1 5000 pQ Tv)=true:=by decide +kernel
abbrev ac6:List (Nat × W):=pQ
abbrev ac7:List O:=m9 3
theorem Tw:mJ 13 1 5000 3 pQ (m9 0) (evs Pg 5000 14 (.a [(.var 3)]) (frm 13 pQ) (heapOf (m9 0)))=true:=by decide +kernel
theorem Tz:rv2 pQ m9 0=true:=by decide +kernel
theorem TF:rv2 pQ m9 1=true:=by decide +kernel
theorem TJ:rv2 pQ m9 2=true:=by decide +kernel
def JZ:List (Nat × W):=[(3,.int 3),(4,.ref 0)]
def Bc:List O:=[.ins 50 [(u1c,.str u0c),(u2c,.int 3),(u3c,.ref 1)],.lst []]
theorem ZP:goes (evs Pg 5000 14 (.ss tl3) (frm 13 ac6) (heapOf ac7)) (bZ 13 1 5000 JZ Bc)=true:=by decide +kernel
theorem ZQ:((rowsOf [5,4]).all fun l=>lF (evs Pg 5000 14 (.ss tl4) (frm 13 ((1,.ref Bc.length)::JZ)) (heapOf (Bc ++ [.lst ((Int.ofNat 0::l).map W.int)]))))=true:=by decide +kernel
def J0:List (Nat × W):=[(2,.str u4c),(3,.int 4)]
def ac8:List O:=[]
theorem ZR:((rowsOf [5,4]).all fun l=>goes (evs Pg 60 14 (.ss tl0) (frm 13 [(1,.ref 0)]) (nM (Int.ofNat 1::l))) (ok0 13 1 J0 (Int.ofNat 1::l)))=true:=by decide +kernel
def n_:List (Nat × W):=[(3,.int 4),(4,.ref 0),(5,.ref 2)]
def lz:Nat->List O:=osW ([.ins 50 [(u1c,.str u4c),(u2c,.int 4),(u3c,.ref 1)],.lst []]) 3 3 [[0,0,0],[1,3,7],[2,2,2],[3,5,1],[4,4,4],[5,7,3],[6,6,6],[7,1,5]]
abbrev TQ:List O:=lz 0
theorem ZS:goes (evs Pg 5000 14 (.ss tl1) (frm 13 J0) (heapOf ac8)) (bZ 13 1 5000 n_ TQ)=true:=by decide +kernel
abbrev ac9:List (Nat × W):=n_
abbrev ac_:List O:=lz 4
theorem TV:mJ 13 1 5000 4 n_ (lz 0) (evs Pg 5000 14 (.a [(.var 3)]) (frm 13 n_) (heapOf (lz 0)))=true:=by decide +kernel
theorem TX:rv2 n_ lz 0=true:=by decide +kernel
theorem TY:rv2 n_ lz 1=true:=by decide +kernel
theorem T3:rv2 n_ lz 2=true:=by decide +kernel
theorem T4:rv2 n_ lz 3=true:=by decide +kernel
def J6:List (Nat × W):=[(3,.int 4),(4,.ref 0)]
def Bd:List O:=[.ins 50 [(u1c,.str u4c),(u2c,.int 4),(u3c,.ref 1)],.lst []]
theorem ZV:goes (evs Pg 5000 14 (.ss tl3) (frm 13 ac9) (heapOf ac_)) (bZ 13 1 5000 J6 Bd)=true:=by decide +kernel
theorem ZW:((rowsOf [5,4]).all fun l=>lF (evs Pg 5000 14 (.ss tl4) (frm 13 ((1,.ref Bd.length)::J6)) (heapOf (Bd ++ [.lst ((Int.ofNat 1::l).map W.int)]))))=true:=by decide +kernel
def J7:List (Nat × W):=[(2,.str u5c),(3,.int 4)]
def ada:List O:=[]
theorem ZX:((rowsOf [5,4]).all fun l=>goes (evs Pg 60 14 (.ss tl0) (frm 13 [(1,.ref 0)]) (nM (Int.ofNat 2::l))) (ok0 13 1 J7 (Int.ofNat 2::l)))=true:=by decide +kernel
def oh:List (Nat × W):=[(3,.int 4),(4,.ref 0),(5,.ref 2)]
def lA:Nat->List O:=osW ([.ins 50 [(u1c,.str u5c),(u2c,.int 4),(u3c,.ref 1)],.lst []]) 3 4 [[0,0,0,0],[1,3,5,7],[2,2,2,2],[3,5,7,1],[4,4,4,4],[5,7,1,3],[6,6,6,6],[7,1,3,5]]
abbrev T5:List O:=lA 0
theorem ZZ:goes (evs Pg 5000 14 (.ss tl1) (frm 13 J7) (heapOf ada)) (bZ 13 1 5000 oh T5)=true:=by decide +kernel
abbrev adb:List (Nat × W):=oh
abbrev ade:List O:=lA 4
theorem T6:mJ 13 1 5000 4 oh (lA 0) (evs Pg 5000 14 (.a [(.var 3)]) (frm 13 oh) (heapOf (lA 0)))=true:=by decide +kernel
theorem T7:rv2 oh lA 0=true:=by decide +kernel
theorem T8:rv2 oh lA 1=true:=by decide +kernel
theorem T9:rv2 oh lA 2=true:=by decide +kernel
theorem T_:rv2 oh lA 3=true:=by decide +kernel
def J8:List (Nat × W):=[(3,.int 4),(4,.ref 0)]
def Be:List O:=[.ins 50 [(u1c,.str u5c),(u2c,.int 4),(u3c,.ref 1)],.lst []]
theorem Z0:goes (evs Pg 5000 14 (.ss tl3) (frm 13 adb) (heapOf ade)) (bZ 13 1 5000 J8 Be)=true:=by decide +kernel
theorem Z1:((rowsOf [5,4]).all fun l=>lF (evs Pg 5000 14 (.ss tl4) (frm 13 ((1,.ref Be.length)::J8)) (heapOf (Be ++ [.lst ((Int.ofNat 2::l).map W.int)]))))=true:=by decide +kernel
def J9:List (Nat × W):=[(2,.str u0c),(3,.int 5)]
def adf:List O:=[]
theorem Z2:((rowsOf [5,4]).all fun l=>goes (evs Pg 60 14 (.ss tl0) (frm 13 [(1,.ref 0)]) (nM (Int.ofNat 3::l))) (ok0 13 1 J9 (Int.ofNat 3::l)))=true:=by decide +kernel
def lX:List (Nat × W):=[(3,.int 5),(4,.ref 0),(5,.ref 2)]
def jC:Nat->List O:=osW ([.ins 50 [(u1c,.str u0c),(u2c,.int 5),(u3c,.ref 1)],.lst []]) 3 5 [[0,0,0,0,0],[1,3,5,7,9],[2,2,2,2,2],[3,5,7,9,1],[4,4,4,4,4],[5,7,9,1,3],[6,6,6,6,6],[7,9,1,3,5],[8,8,8,8,8],[9,1,3,5,7]]
abbrev Ua:List O:=jC 0
theorem Z3:goes (evs Pg 5000 14 (.ss tl1) (frm 13 J9) (heapOf adf)) (bZ 13 1 5000 lX Ua)=true:=by decide +kernel
abbrev adg:List (Nat × W):=lX
abbrev adh:List O:=jC 5
theorem Ub:mJ 13 1 5000 5 lX (jC 0) (evs Pg 5000 14 (.a [(.var 3)]) (frm 13 lX) (heapOf (jC 0)))=true:=by decide +kernel
theorem Uc:rv2 lX jC 0=true:=by decide +kernel
theorem Ud:rv2 lX jC 1=true:=by decide +kernel
theorem Ue:rv2 lX jC 2=true:=by decide +kernel
theorem Ug:rv2 lX jC 3=true:=by decide +kernel
theorem Uh:rv2 lX jC 4=true:=by decide +kernel
def J_:List (Nat × W):=[(3,.int 5),(4,.ref 0)]
def Bf:List O:=[.ins 50 [(u1c,.str u0c),(u2c,.int 5),(u3c,.ref 1)],.lst []]
theorem Z4:goes (evs Pg 5000 14 (.ss tl3) (frm 13 adg) (heapOf adh)) (bZ 13 1 5000 J_ Bf)=true:=by decide +kernel
theorem Z5:((rowsOf [5,4]).all fun l=>lF (evs Pg 5000 14 (.ss tl4) (frm 13 ((1,.ref Bf.length)::J_)) (heapOf (Bf ++ [.lst ((Int.ofNat 3::l).map W.int)]))))=true:=by decide +kernel
def Ka:List (Nat × W):=[(2,.str u6c),(3,.int 4)]
def adi:List O:=[]
theorem Z6:((rowsOf [5,4]).all fun l=>goes (evs Pg 60 14 (.ss tl0) (frm 13 [(1,.ref 0)]) (nM (Int.ofNat 4::l))) (ok0 13 1 Ka (Int.ofNat 4::l)))=true:=by decide +kernel
def ou:List (Nat × W):=[(3,.int 4),(4,.ref 0),(5,.ref 5)]
def lB:Nat->List O:=osW ([.ins 50 [(u1c,.str u6c),(u2c,.int 4),(u3c,.ref 1)],.lst [.ref 2,.ref 3,.ref 4],.t3 1 3 2,.t3 2 6 4,.t3 4 5 1]) 6 7 [[0,0,0,0,0,0,0],[1,5,7,6,3,4,2],[2,1,5,7,6,3,4],[3,4,2,1,5,7,6],[4,2,1,5,7,6,3],[5,7,6,3,4,2,1],[6,3,4,2,1,5,7],[7,6,3,4,2,1,5]]
abbrev Ui:List O:=lB 0
theorem Z7:goes (evs Pg 5000 14 (.ss tl1) (frm 13 Ka) (heapOf adi)) (bZ 13 1 5000 ou Ui)=true:=by decide +kernel
abbrev adk:List (Nat × W):=ou
abbrev adl:List O:=lB 4
theorem Uj:mJ 13 1 5000 4 ou (lB 0) (evs Pg 5000 14 (.a [(.var 3)]) (frm 13 ou) (heapOf (lB 0)))=true:=by decide +kernel
theorem Uk:rv2 ou lB 0=true:=by decide +kernel
theorem Ul:rv2 ou lB 1=true:=by decide +kernel
theorem Um:rv2 ou lB 2=true:=by decide +kernel
theorem Uo:rv2 ou lB 3=true:=by decide +kernel
def Kc:List (Nat × W):=[(3,.int 4),(4,.ref 0)]
def Bg:List O:=[.ins 50 [(u1c,.str u6c),(u2c,.int 4),(u3c,.ref 1)],.lst [.ref 2,.ref 3,.ref 4],.t3 1 3 2,.t3 2 6 4,.t3 4 5 1]
theorem Z8:goes (evs Pg 5000 14 (.ss tl3) (frm 13 adk) (heapOf adl)) (bZ 13 1 5000 Kc Bg)=true:=by decide +kernel
theorem Z9:((rowsOf [5,4]).all fun l=>lF (evs Pg 5000 14 (.ss tl4) (frm 13 ((1,.ref Bg.length)::Kc)) (heapOf (Bg ++ [.lst ((Int.ofNat 4::l).map W.int)]))))=true:=by decide +kernel
def Kd:List (Nat × W):=[(2,.str u4c),(3,.int 6)]
def adm:List O:=[]
theorem Z_:((rowsOf [5,4]).all fun l=>goes (evs Pg 60 14 (.ss tl0) (frm 13 [(1,.ref 0)]) (nM (Int.ofNat 5::l))) (ok0 13 1 Kd (Int.ofNat 5::l)))=true:=by decide +kernel
def j9:List (Nat × W):=[(3,.int 6),(4,.ref 0),(5,.ref 2)]
def iT:Nat->List O:=osW ([.ins 50 [(u1c,.str u4c),(u2c,.int 6),(u3c,.ref 1)],.lst []]) 3 5 [[0,0,0,0,0],[1,3,5,9,11],[2,2,2,2,2],[3,5,7,11,1],[4,4,4,4,4],[5,7,9,1,3],[6,6,6,6,6],[7,9,11,3,5],[8,8,8,8,8],[9,11,1,5,7],[10,10,10,10,10],[11,1,3,7,9]]
abbrev Uq:List O:=iT 0
theorem aaa:goes (evs Pg 5000 14 (.ss tl1) (frm 13 Kd) (heapOf adm)) (bZ 13 1 5000 j9 Uq)=true:=by decide +kernel
abbrev adn:List (Nat × W):=j9
abbrev ado:List O:=iT 6
theorem Ur:mJ 13 1 5000 6 j9 (iT 0) (evs Pg 5000 14 (.a [(.var 3)]) (frm 13 j9) (heapOf (iT 0)))=true:=by decide +kernel
theorem Us:rv2 j9 iT 0=true:=by decide +kernel
theorem Ut:rv2 j9 iT 1=true:=by decide +kernel
theorem Uu:rv2 j9 iT 2=true:=by decide +kernel
theorem Uv:rv2 j9 iT 3=true:=by decide +kernel
theorem Uw:rv2 j9 iT 4=true:=by decide +kernel
theorem Ux:rv2 j9 iT 5=true:=by decide +kernel
def Ke:List (Nat × W):=[(3,.int 6),(4,.ref 0)]
def Bh:List O:=[.ins 50 [(u1c,.str u4c),(u2c,.int 6),(u3c,.ref 1)],.lst []]
theorem aab:goes (evs Pg 5000 14 (.ss tl3) (frm 13 adn) (heapOf ado)) (bZ 13 1 5000 Ke Bh)=true:=by decide +kernel
theorem aac:((rowsOf [5,4]).all fun l=>lF (evs Pg 5000 14 (.ss tl4) (frm 13 ((1,.ref Bh.length)::Ke)) (heapOf (Bh ++ [.lst ((Int.ofNat 5::l).map W.int)]))))=true:=by decide +kernel
def Kf:List (Nat × W):=[(2,.str u5c),(3,.int 6)]
def adp:List O:=[]
theorem aad:((rowsOf [5,4]).all fun l=>goes (evs Pg 60 14 (.ss tl0) (frm 13 [(1,.ref 0)]) (nM (Int.ofNat 6::l))) (ok0 13 1 Kf (Int.ofNat 6::l)))=true:=by decide +kernel
def j_:List (Nat × W):=[(3,.int 6),(4,.ref 0),(5,.ref 2)]
def iU:Nat->List O:=osW ([.ins 50 [(u1c,.str u5c),(u2c,.int 6),(u3c,.ref 1)],.lst []]) 3 6 [[0,0,0,0,0,0],[1,3,5,7,9,11],[2,2,2,2,2,2],[3,5,7,9,11,1],[4,4,4,4,4,4],[5,7,9,11,1,3],[6,6,6,6,6,6],[7,9,11,1,3,5],[8,8,8,8,8,8],[9,11,1,3,5,7],[10,10,10,10,10,10],[11,1,3,5,7,9]]
abbrev Uy:List O:=iU 0
theorem aae:goes (evs Pg 5000 14 (.ss tl1) (frm 13 Kf) (heapOf adp)) (bZ 13 1 5000 j_ Uy)=true:=by decide +kernel
abbrev adq:List (Nat × W):=j_
abbrev adt:List O:=iU 6
theorem Uz:mJ 13 1 5000 6 j_ (iU 0) (evs Pg 5000 14 (.a [(.var 3)]) (frm 13 j_) (heapOf (iU 0)))=true:=by decide +kernel
theorem UG:rv2 j_ iU 0=true:=by decide +kernel
theorem UJ:rv2 j_ iU 1=true:=by decide +kernel
theorem UL:rv2 j_ iU 2=true:=by decide +kernel
theorem UT:rv2 j_ iU 3=true:=by decide +kernel
theorem UW:rv2 j_ iU 4=true:=by decide +kernel
theorem U0:rv2 j_ iU 5=true:=by decide +kernel
def Kg:List (Nat × W):=[(3,.int 6),(4,.ref 0)]
def Bj:List O:=[.ins 50 [(u1c,.str u5c),(u2c,.int 6),(u3c,.ref 1)],.lst []]
theorem aaf:goes (evs Pg 5000 14 (.ss tl3) (frm 13 adq) (heapOf adt)) (bZ 13 1 5000 Kg Bj)=true:=by decide +kernel
theorem aag:((rowsOf [5,4]).all fun l=>lF (evs Pg 5000 14 (.ss tl4) (frm 13 ((1,.ref Bj.length)::Kg)) (heapOf (Bj ++ [.lst ((Int.ofNat 6::l).map W.int)]))))=true:=by decide +kernel
def Kh:List (Nat × W):=[(2,.str u0c),(3,.int 7)]
def adu:List O:=[]
theorem aah:((rowsOf [5,4]).all fun l=>goes (evs Pg 60 14 (.ss tl0) (frm 13 [(1,.ref 0)]) (nM (Int.ofNat 7::l))) (ok0 13 1 Kh (Int.ofNat 7::l)))=true:=by decide +kernel
def jn:List (Nat × W):=[(3,.int 7),(4,.ref 0),(5,.ref 2)]
def gM:Nat->List O:=osW ([.ins 50 [(u1c,.str u0c),(u2c,.int 7),(u3c,.ref 1)],.lst []]) 3 7 [[0,0,0,0,0,0,0],[1,3,5,7,9,11,13],[2,2,2,2,2,2,2],[3,5,7,9,11,13,1],[4,4,4,4,4,4,4],[5,7,9,11,13,1,3],[6,6,6,6,6,6,6],[7,9,11,13,1,3,5],[8,8,8,8,8,8,8],[9,11,13,1,3,5,7],[10,10,10,10,10,10,10],[11,13,1,3,5,7,9],[12,12,12,12,12,12,12],[13,1,3,5,7,9,11]]
abbrev U3:List O:=gM 0
theorem aai:goes (evs Pg 5000 14 (.ss tl1) (frm 13 Kh) (heapOf adu)) (bZ 13 1 5000 jn U3)=true:=by decide +kernel
abbrev adw:List (Nat × W):=jn
abbrev adx:List O:=gM 7
theorem U4:mJ 13 1 5000 7 jn (gM 0) (evs Pg 5000 14 (.a [(.var 3)]) (frm 13 jn) (heapOf (gM 0)))=true:=by decide +kernel
theorem U5:rv2 jn gM 0=true:=by decide +kernel
theorem U6:rv2 jn gM 1=true:=by decide +kernel
theorem U7:rv2 jn gM 2=true:=by decide +kernel
theorem U8:rv2 jn gM 3=true:=by decide +kernel
theorem U9:rv2 jn gM 4=true:=by decide +kernel
theorem U_:rv2 jn gM 5=true:=by decide +kernel
theorem Va:rv2 jn gM 6=true:=by decide +kernel
def Kl:List (Nat × W):=[(3,.int 7),(4,.ref 0)]
def Bk:List O:=[.ins 50 [(u1c,.str u0c),(u2c,.int 7),(u3c,.ref 1)],.lst []]
theorem aaj:goes (evs Pg 5000 14 (.ss tl3) (frm 13 adw) (heapOf adx)) (bZ 13 1 5000 Kl Bk)=true:=by decide +kernel
theorem aak:((rowsOf [5,4]).all fun l=>lF (evs Pg 5000 14 (.ss tl4) (frm 13 ((1,.ref Bk.length)::Kl)) (heapOf (Bk ++ [.lst ((Int.ofNat 7::l).map W.int)]))))=true:=by decide +kernel
def Km:List (Nat × W):=[(2,.str u6c),(3,.int 5)]
def ady:List O:=[]
theorem aal:((rowsOf [5,4]).all fun l=>goes (evs Pg 60 14 (.ss tl0) (frm 13 [(1,.ref 0)]) (nM (Int.ofNat 8::l))) (ok0 13 1 Km (Int.ofNat 8::l)))=true:=by decide +kernel
def lY:List (Nat × W):=[(3,.int 5),(4,.ref 0),(5,.ref 6)]
def jD:Nat->List O:=osW ([.ins 50 [(u1c,.str u6c),(u2c,.int 5),(u3c,.ref 1)],.lst [.ref 2,.ref 3,.ref 4,.ref 5],.t3 1 2 5,.t3 3 7 4,.t3 4 6 2,.t3 5 8 7]) 7 9 [[0,0,0,0,0,0,0,0,0],[1,9,5,7,8,6,4,3,2],[2,1,9,5,7,8,6,4,3],[3,2,1,9,5,7,8,6,4],[4,3,2,1,9,5,7,8,6],[5,7,8,6,4,3,2,1,9],[6,4,3,2,1,9,5,7,8],[7,8,6,4,3,2,1,9,5],[8,6,4,3,2,1,9,5,7],[9,5,7,8,6,4,3,2,1]]
abbrev Vb:List O:=jD 0
theorem aam:goes (evs Pg 5000 14 (.ss tl1) (frm 13 Km) (heapOf ady)) (bZ 13 1 5000 lY Vb)=true:=by decide +kernel
abbrev adz:List (Nat × W):=lY
abbrev adA:List O:=jD 5
theorem Vc:mJ 13 1 5000 5 lY (jD 0) (evs Pg 5000 14 (.a [(.var 3)]) (frm 13 lY) (heapOf (jD 0)))=true:=by decide +kernel
theorem Vd:rv2 lY jD 0=true:=by decide +kernel
theorem Ve:rv2 lY jD 1=true:=by decide +kernel
theorem Vf:rv2 lY jD 2=true:=by decide +kernel
theorem Vg:rv2 lY jD 3=true:=by decide +kernel
theorem Vh:rv2 lY jD 4=true:=by decide +kernel
def Ko:List (Nat × W):=[(3,.int 5),(4,.ref 0)]
def Bl:List O:=[.ins 50 [(u1c,.str u6c),(u2c,.int 5),(u3c,.ref 1)],.lst [.ref 2,.ref 3,.ref 4,.ref 5],.t3 1 2 5,.t3 3 7 4,.t3 4 6 2,.t3 5 8 7]
theorem aan:goes (evs Pg 5000 14 (.ss tl3) (frm 13 adz) (heapOf adA)) (bZ 13 1 5000 Ko Bl)=true:=by decide +kernel
theorem aao:((rowsOf [5,4]).all fun l=>lF (evs Pg 5000 14 (.ss tl4) (frm 13 ((1,.ref Bl.length)::Ko)) (heapOf (Bl ++ [.lst ((Int.ofNat 8::l).map W.int)]))))=true:=by decide +kernel
def Kq:List (Nat × W):=[(2,.str u4c),(3,.int 8)]
def adB:List O:=[]
theorem aap:((rowsOf [5,4]).all fun l=>goes (evs Pg 60 14 (.ss tl0) (frm 13 [(1,.ref 0)]) (nM (Int.ofNat 9::l))) (ok0 13 1 Kq (Int.ofNat 9::l)))=true:=by decide +kernel
def iV:List (Nat × W):=[(3,.int 8),(4,.ref 0),(5,.ref 2)]
def fJ:Nat->List O:=osW ([.ins 50 [(u1c,.str u4c),(u2c,.int 8),(u3c,.ref 1)],.lst []]) 3 7 [[0,0,0,0,0,0,0],[1,3,5,7,11,13,15],[2,2,2,2,2,2,2],[3,5,7,9,13,15,1],[4,4,4,4,4,4,4],[5,7,9,11,15,1,3],[6,6,6,6,6,6,6],[7,9,11,13,1,3,5],[8,8,8,8,8,8,8],[9,11,13,15,3,5,7],[10,10,10,10,10,10,10],[11,13,15,1,5,7,9],[12,12,12,12,12,12,12],[13,15,1,3,7,9,11],[14,14,14,14,14,14,14],[15,1,3,5,9,11,13]]
abbrev Vi:List O:=fJ 0
theorem aaq:goes (evs Pg 5000 14 (.ss tl1) (frm 13 Kq) (heapOf adB)) (bZ 13 1 5000 iV Vi)=true:=by decide +kernel
abbrev adC:List (Nat × W):=iV
abbrev adD:List O:=fJ 8
theorem Vj:mJ 13 1 5000 8 iV (fJ 0) (evs Pg 5000 14 (.a [(.var 3)]) (frm 13 iV) (heapOf (fJ 0)))=true:=by decide +kernel
theorem Vk:rv2 iV fJ 0=true:=by decide +kernel
theorem Vl:rv2 iV fJ 1=true:=by decide +kernel
theorem Vm:rv2 iV fJ 2=true:=by decide +kernel
theorem Vn:rv2 iV fJ 3=true:=by decide +kernel
theorem Vo:rv2 iV fJ 4=true:=by decide +kernel
theorem Vp:rv2 iV fJ 5=true:=by decide +kernel
theorem Vq:rv2 iV fJ 6=true:=by decide +kernel
theorem Vr:rv2 iV fJ 7=true:=by decide +kernel
def Kr:List (Nat × W):=[(3,.int 8),(4,.ref 0)]
def Bm:List O:=[.ins 50 [(u1c,.str u4c),(u2c,.int 8),(u3c,.ref 1)],.lst []]
theorem aar:goes (evs Pg 5000 14 (.ss tl3) (frm 13 adC) (heapOf adD)) (bZ 13 1 5000 Kr Bm)=true:=by decide +kernel
theorem aas:((rowsOf [5,4]).all fun l=>lF (evs Pg 5000 14 (.ss tl4) (frm 13 ((1,.ref Bm.length)::Kr)) (heapOf (Bm ++ [.lst ((Int.ofNat 9::l).map W.int)]))))=true:=by decide +kernel
def DG:List (Nat × W):=[(2,.str u5c),(3,.int 8)]
def aat:List O:=[]
theorem Xb:((rowsOf [5,4]).all fun l=>goes (evs Pg 60 14 (.ss tl0) (frm 13 [(1,.ref 0)]) (nM (Int.ofNat 10::l))) (ok0 13 1 DG (Int.ofNat 10::l)))=true:=by decide +kernel
def fK:List (Nat × W):=[(3,.int 8),(4,.ref 0),(5,.ref 2)]
def dY:Nat->List O:=osW ([.ins 50 [(u1c,.str u5c),(u2c,.int 8),(u3c,.ref 1)],.lst []]) 3 8 [[0,0,0,0,0,0,0,0],[1,3,5,7,9,11,13,15],[2,2,2,2,2,2,2,2],[3,5,7,9,11,13,15,1],[4,4,4,4,4,4,4,4],[5,7,9,11,13,15,1,3],[6,6,6,6,6,6,6,6],[7,9,11,13,15,1,3,5],[8,8,8,8,8,8,8,8],[9,11,13,15,1,3,5,7],[10,10,10,10,10,10,10,10],[11,13,15,1,3,5,7,9],[12,12,12,12,12,12,12,12],[13,15,1,3,5,7,9,11],[14,14,14,14,14,14,14,14],[15,1,3,5,7,9,11,13]]
abbrev Nb:List O:=dY 0
theorem Xc:goes (evs Pg 5000 14 (.ss tl1) (frm 13 DG) (heapOf aat)) (bZ 13 1 5000 fK Nb)=true:=by decide +kernel
abbrev aau:List (Nat × W):=fK
abbrev aav:List O:=dY 8
theorem Qs:mJ 13 1 5000 8 fK (dY 0) (evs Pg 5000 14 (.a [(.var 3)]) (frm 13 fK) (heapOf (dY 0)))=true:=by decide +kernel
theorem Qt:rv2 fK dY 0=true:=by decide +kernel
theorem Qu:rv2 fK dY 1=true:=by decide +kernel
theorem Qv:rv2 fK dY 2=true:=by decide +kernel
theorem Qw:rv2 fK dY 3=true:=by decide +kernel
theorem Qx:rv2 fK dY 4=true:=by decide +kernel
theorem Qy:rv2 fK dY 5=true:=by decide +kernel
theorem Qz:rv2 fK dY 6=true:=by decide +kernel
theorem QB:rv2 fK dY 7=true:=by decide +kernel
def DN:List (Nat × W):=[(3,.int 8),(4,.ref 0)]
def yf:List O:=[.ins 50 [(u1c,.str u5c),(u2c,.int 8),(u3c,.ref 1)],.lst []]
theorem Xd:goes (evs Pg 5000 14 (.ss tl3) (frm 13 aau) (heapOf aav)) (bZ 13 1 5000 DN yf)=true:=by decide +kernel
theorem Xe:((rowsOf [5,4]).all fun l=>lF (evs Pg 5000 14 (.ss tl4) (frm 13 ((1,.ref yf.length)::DN)) (heapOf (yf ++ [.lst ((Int.ofNat 10::l).map W.int)]))))=true:=by decide +kernel
def DP:List (Nat × W):=[(2,.str u0c),(3,.int 9)]
def aaw:List O:=[]
theorem Xf:((rowsOf [5,4]).all fun l=>goes (evs Pg 60 14 (.ss tl0) (frm 13 [(1,.ref 0)]) (nM (Int.ofNat 11::l))) (ok0 13 1 DP (Int.ofNat 11::l)))=true:=by decide +kernel
def eU:List (Nat × W):=[(3,.int 9),(4,.ref 0),(5,.ref 2)]
def dF:Nat->List O:=osW ([.ins 50 [(u1c,.str u0c),(u2c,.int 9),(u3c,.ref 1)],.lst []]) 3 9 [[0,0,0,0,0,0,0,0,0],[1,3,5,7,9,11,13,15,17],[2,2,2,2,2,2,2,2,2],[3,5,7,9,11,13,15,17,1],[4,4,4,4,4,4,4,4,4],[5,7,9,11,13,15,17,1,3],[6,6,6,6,6,6,6,6,6],[7,9,11,13,15,17,1,3,5],[8,8,8,8,8,8,8,8,8],[9,11,13,15,17,1,3,5,7],[10,10,10,10,10,10,10,10,10],[11,13,15,17,1,3,5,7,9],[12,12,12,12,12,12,12,12,12],[13,15,17,1,3,5,7,9,11],[14,14,14,14,14,14,14,14,14],[15,17,1,3,5,7,9,11,13],[16,16,16,16,16,16,16,16,16],[17,1,3,5,7,9,11,13,15]]
abbrev Nf:List O:=dF 0
theorem Xg:goes (evs Pg 5000 14 (.ss tl1) (frm 13 DP) (heapOf aaw)) (bZ 13 1 5000 eU Nf)=true:=by decide +kernel
abbrev aax:List (Nat × W):=eU
abbrev aay:List O:=dF 9
theorem QC:mJ 13 1 5000 9 eU (dF 0) (evs Pg 5000 14 (.a [(.var 3)]) (frm 13 eU) (heapOf (dF 0)))=true:=by decide +kernel
theorem QD:rv2 eU dF 0=true:=by decide +kernel
theorem QF:rv2 eU dF 1=true:=by decide +kernel
theorem QG:rv2 eU dF 2=true:=by decide +kernel
theorem QH:rv2 eU dF 3=true:=by decide +kernel
theorem QJ:rv2 eU dF 4=true:=by decide +kernel
theorem QK:rv2 eU dF 5=true:=by decide +kernel
theorem QL:rv2 eU dF 6=true:=by decide +kernel
theorem QM:rv2 eU dF 7=true:=by decide +kernel
theorem QT:rv2 eU dF 8=true:=by decide +kernel
def DQ:List (Nat × W):=[(3,.int 9),(4,.ref 0)]
def yg:List O:=[.ins 50 [(u1c,.str u0c),(u2c,.int 9),(u3c,.ref 1)],.lst []]
theorem Xh:goes (evs Pg 5000 14 (.ss tl3) (frm 13 aax) (heapOf aay)) (bZ 13 1 5000 DQ yg)=true:=by decide +kernel
theorem Xi:((rowsOf [5,4]).all fun l=>lF (evs Pg 5000 14 (.ss tl4) (frm 13 ((1,.ref yg.length)::DQ)) (heapOf (yg ++ [.lst ((Int.ofNat 11::l).map W.int)]))))=true:=by decide +kernel
def DR:List (Nat × W):=[(2,.str u6c),(3,.int 6)]
def aaz:List O:=[]
theorem Xj:((rowsOf [5,4]).all fun l=>goes (evs Pg 60 14 (.ss tl0) (frm 13 [(1,.ref 0)]) (nM (Int.ofNat 12::l))) (ok0 13 1 DR (Int.ofNat 12::l)))=true:=by decide +kernel
def iW:List (Nat × W):=[(3,.int 6),(4,.ref 0),(5,.ref 7)]
def fZ:Nat->List O:=osW ([.ins 50 [(u1c,.str u6c),(u2c,.int 6),(u3c,.ref 1)],.lst [.ref 2,.ref 3,.ref 4,.ref 5,.ref 6],.t3 1 2 3,.t3 3 6 9,.t3 4 8 1,.t3 5 10 4,.t3 7 9 5]) 8 11 [[0,0,0,0,0,0,0,0,0,0,0],[1,9,11,7,10,5,8,6,4,3,2],[2,1,9,11,7,10,5,8,6,4,3],[3,2,1,9,11,7,10,5,8,6,4],[4,3,2,1,9,11,7,10,5,8,6],[5,8,6,4,3,2,1,9,11,7,10],[6,4,3,2,1,9,11,7,10,5,8],[7,10,5,8,6,4,3,2,1,9,11],[8,6,4,3,2,1,9,11,7,10,5],[9,11,7,10,5,8,6,4,3,2,1],[10,5,8,6,4,3,2,1,9,11,7],[11,7,10,5,8,6,4,3,2,1,9]]
abbrev Ng:List O:=fZ 0
theorem Xk:goes (evs Pg 5000 14 (.ss tl1) (frm 13 DR) (heapOf aaz)) (bZ 13 1 5000 iW Ng)=true:=by decide +kernel
abbrev aaA:List (Nat × W):=iW
abbrev aaB:List O:=fZ 6
theorem QV:mJ 13 1 5000 6 iW (fZ 0) (evs Pg 5000 14 (.a [(.var 3)]) (frm 13 iW) (heapOf (fZ 0)))=true:=by decide +kernel
theorem QW:rv2 iW fZ 0=true:=by decide +kernel
theorem QX:rv2 iW fZ 1=true:=by decide +kernel
theorem QZ:rv2 iW fZ 2=true:=by decide +kernel
theorem Q0:rv2 iW fZ 3=true:=by decide +kernel
theorem Q3:rv2 iW fZ 4=true:=by decide +kernel
theorem Q4:rv2 iW fZ 5=true:=by decide +kernel
def DW:List (Nat × W):=[(3,.int 6),(4,.ref 0)]
def yh:List O:=[.ins 50 [(u1c,.str u6c),(u2c,.int 6),(u3c,.ref 1)],.lst [.ref 2,.ref 3,.ref 4,.ref 5,.ref 6],.t3 1 2 3,.t3 3 6 9,.t3 4 8 1,.t3 5 10 4,.t3 7 9 5]
theorem Xl:goes (evs Pg 5000 14 (.ss tl3) (frm 13 aaA) (heapOf aaB)) (bZ 13 1 5000 DW yh)=true:=by decide +kernel
theorem Xm:((rowsOf [5,4]).all fun l=>lF (evs Pg 5000 14 (.ss tl4) (frm 13 ((1,.ref yh.length)::DW)) (heapOf (yh ++ [.lst ((Int.ofNat 12::l).map W.int)]))))=true:=by decide +kernel
abbrev NL:List Str:=["_law_script","_law_row","_law_kind","_law_t","_law_plan","_law_ways","_law_table","_law_side","_law_word","_law_found","_law_pair","_law_at","_law_odd"]
abbrev XL(P:Program)(w:World)(K:ak)(mg:Str->Option Value)(base:Heap)(a:Adr)(cdv:Value)(A:Around)(outer:List Env)(s:Shared)(H:Hp)(E:XK):Cx:=iB (CXE P w) P w K mg base NL "law" (aa dm) a.rY cdv A outer s H E
def bodyOf:Stmt->List Stmt
 | .For _ _ b _ _=>b
 | _=>[]
abbrev xH(k:Nat):Stmt:=(bG dm).getD k (.Pass ⟨0,0,0,0⟩)
abbrev afo(k j:Nat):Stmt:=(bodyOf (xH k)).getD j (.Pass ⟨0,0,0,0⟩)
section
variable{P:Program}{w:World}{K:ak}{mg:Str->Option Value}{base:Heap}{a:Adr}
structure LC (P:Program)(w:World)(K:ak)(mg:Str->Option Value)(base:Heap)(a:Adr)(X:Cx)(E:XK):Prop where
 T:Txt w K mg a
 S0:aP P w K mg base CX0 15 a.fB a.jz ["_law_found","_law_due"] (xV 13)
 A2:All P w K mg base a 14
 hr:aX 191 X.A
 hp:Passes (CXE P w) X E
 AL:All P w K mg base a 12
 LH:OJ (cn a) X a.code
 hrT:aX (182+1) X.A
 hrL:∀ e1 e2,aX 182 ((X.A.deeper e1).deeper e2)
theorem afp{σ0:L2.St}{A:Around}{outer:List Env}{s:Shared}{H:Hp}{E:XK}(C:LC P w K mg base a (XL P w K mg base a (.ref a.code) A outer s H E) E):QS (XL P w K mg base a (.ref a.code) A outer s H E) (xH 1) (tS Pg (cn a) E 14 σ0 (.asg (.tup [(.nm 2),(.nm 3)]) (.call 25 [(.pr .ix [(.var 1),(.cst (.int 0))])]))):=by
 have T:=C.T;have A2:=C.A2;have hr:=C.hr;have hp:=C.hp;exact⟨(qX (gW A2.zA T.dU hr hp (qY (kI (dv 1) aL) aA)) (jk rfl (aU (bx 2 iJ.nd) (aU (bx 3 iJ.nd) gq))))⟩
theorem afq{σ0:L2.St}{A:Around}{outer:List Env}{s:Shared}{H:Hp}{E:XK}(C:LC P w K mg base a (XL P w K mg base a (.ref a.code) A outer s H E) E):QS (XL P w K mg base a (.ref a.code) A outer s H E) (xH 2) (tS Pg (cn a) E 14 σ0 (.asg (.nm 4) (.make 50 14 [(.var 2),(.var 3)]))):=by
 have T:=C.T;have A2:=C.A2;have hr:=C.hr;have hp:=C.hp;exact⟨(gU 4 iJ.nd (Zb T.Dt A2.zu (hr.mono (by omega)) rfl T.ZD T.zq hp (ao (dv 2) (ao (dv 3) aA))))⟩
theorem afr{σ0:L2.St}{A:Around}{outer:List Env}{s:Shared}{H:Hp}{E:XK}(C:LC P w K mg base a (XL P w K mg base a (.ref a.code) A outer s H E) E):QS (XL P w K mg base a (.ref a.code) A outer s H E) (xH 3) (tS Pg (cn a) E 14 σ0 (.asg (.nm 5) (.pr .lst []))):=by
 have T:=C.T;have A2:=C.A2;have hr:=C.hr;have hp:=C.hp;exact⟨(gU 5 iJ.nd (pK aA))⟩
theorem adE{σ0:L2.St}{A:Around}{outer:List Env}{s:Shared}{H:Hp}{E:XK}(C:LC P w K mg base a (XL P w K mg base a (.ref a.code) A outer s H E) E):QS (XL P w K mg base a (.ref a.code) A outer s H E) (afo 4 0) (tS Pg (cn a) E 14 σ0 (.for_ (.pU [(.cst (.int 2))]) (.nm 7) [(.asg (.nm 8) (.pr .ix [(.pr .lst [(.cst (.str [102,105,114,115,116])),(.cst (.str [115,101,99,111,110,100]))]),(.var 7)])),
 (.asg (.nm 9) (.call 6 [(.var 4),(.pr .tup [(.var 6),(.var 8)])])),
 (.asg (.nm 10) (.pr .ix [(.meth 50 [115,101,97,116] 22 (.var 4) [(.cst (.int 0)),(.var 6)]),(.var 7)])),
 (.ife (.pr .Ol [(.pr .truth [(.pr .same [(.var 9),(.comp 1 [] (.seq (.call 3 [(.var 4),(.var 10)])) (.nm 0) none none (.slice (.var 0) none (some (.cst (.int 2)))))])])]) [(.ret (.cst (.bl false)))] []),
 (.ife (.pr .ne [(.var 9),(.comp 1 [4,10] (.pU [(.meth 50 [114,111,117,110,100,115] 15 (.var 4) [])]) (.nm 0) none none (.call 1 [(.var 1),(.var 0),(.var 2)]))]) [(.ret (.cst (.bl false)))] []),
 (.ife (.pr .ne [(.slice (.var 9) (some (.cst (.int 1))) none),(.comp 1 [4,9] (.pU [(.pr .sub [(.meth 50 [114,111,117,110,100,115] 15 (.var 4) []),(.cst (.int 1))])]) (.nm 0) none none (.call 5 [(.var 1),(.var 0),(.pr .ix [(.var 2),(.var 0)])]))]) [(.ret (.cst (.bl false)))] []),
 (.expr (.lm .append (.var 5) [(.pr .list [(.var 9)])])),
 (.expr (.lm .append (.var 9) [(.pr .tup [(.cst (.int 0)),(.cst (.str [102,105,114,115,116]))])])),
 (.ife (.pr .ne [(.call 6 [(.var 4),(.pr .tup [(.var 6),(.var 8)])]),(.pr .ix [(.var 5),(.pr .neg [(.cst (.int 1))])])]) [(.ret (.cst (.bl false)))] [])])):=by
 have T:=C.T;have S0:=C.S0;have A2:=C.A2;have hr:=C.hr;have hp:=C.hp
 exact⟨(Aa PassesOwn.leaving rfl oU (gP rfl T.fH (aN aL aA)) (bx 7 iJ.nd)
  (aj (gU 8 iJ.nd (kI (pK (aN (cu [102,105,114,115,116]) (aN (cu [115,101,99,111,110,100]) aA))) (dv 7)))
  (aj (gU 9 iJ.nd (gW A2.vz T.dR hr hp (ao (dv 4) (oV (fO (ao (dv 6) (ao (dv 8) aA))) aA))))
  (aj (gU 10 iJ.nd (kI (fG T.aJ T.mD A2.n8 (hr.mono (by omega)) T.n6 hp (dv 4) (aN aL (ao (dv 6) aA))) (dv 7)))
  (aj (dI (ab8 (Il (Ze T.ir S0 (hr.mono (by omega)) rfl (ao (dv 9) (ju (jd (fM (N':=["_law_step"]) (nt:=1) (idx:=[]) (N:=["_law_script","_law_row","_law_kind","_law_t","_law_plan","_law_ways","_law_table","_law_side","_law_word","_law_found","_law_pair","_law_at","_law_odd"]) (osc:=aa dm) rfl rfl (by decide +kernel)) rfl wG (uo rfl (gW A2.ZJ T.qM hr hp (ao (dv 4) (ao (dv 10) aA)))) (fun C0 s0 H0 fp0=>(bx 0 (show List.Nodup (["_law_step"]:List Str) by decide +kernel))) (fun C0 s0 H0 fp0=>iH) (fun C0 s0 H0 fp0=>(yP (dv 0) CN (CP aL))) (by decide)) aA))) (fun _=>rfl))) (aj (aQ xU)
  au) au)
  (aj (dI (bB CK (ud hr.units) (dv 9) (jd (fM (N':=["_law_at","_law_plan","_law_pair"]) (nt:=1) (idx:=[4,10]) (N:=["_law_script","_law_row","_law_kind","_law_t","_law_plan","_law_ways","_law_table","_law_side","_law_word","_law_found","_law_pair","_law_at","_law_odd"]) (osc:=aa dm) rfl rfl (by decide +kernel)) rfl oU (gP rfl T.fH (oW (gZ T.aJ T.dB A2.dX (hr.mono (by omega)) T.dW hp (dv 4)) aA)) (fun C0 s0 H0 fp0=>(bx 0 (show List.Nodup (["_law_at","_law_plan","_law_pair"]:List Str) by decide +kernel))) (fun C0 s0 H0 fp0=>iH) (fun C0 s0 H0 fp0=>(mV (A2.Dv) (hr.mono (by omega)) rfl T.gG.mg T.gG.fn.kp T.gG.bd uQ (ao (dv 1) (ao (dv 0) (ao (dv 2) aA))))) (by decide)) (aM _)) (aj (aQ xU)
  au) au)
  (aj (dI (bB CK (ud hr.units) (yP (dv 9) (CP aL) CN) (jd (fM (N':=["_law_at","_law_plan","_law_found"]) (nt:=1) (idx:=[4,9]) (N:=["_law_script","_law_row","_law_kind","_law_t","_law_plan","_law_ways","_law_table","_law_side","_law_word","_law_found","_law_pair","_law_at","_law_odd"]) (osc:=aa dm) rfl rfl (by decide +kernel)) rfl oU (gP rfl T.fH (g8 (aW o_ lN (gZ T.aJ T.dB A2.dX (hr.mono (by omega)) T.dW hp (dv 4)) aL) aA)) (fun C0 s0 H0 fp0=>(bx 0 (show List.Nodup (["_law_at","_law_plan","_law_found"]:List Str) by decide +kernel))) (fun C0 s0 H0 fp0=>iH) (fun C0 s0 H0 fp0=>(mV (A2.ac4) (hr.mono (by omega)) rfl T.pL.mg T.pL.fn.kp T.pL.bd uQ (ao (dv 1) (ao (dv 0) (qY (kI (dv 2) (dv 0)) aA))))) (by decide)) (aM _)) (aj (aQ xU)
  au) au)
  (aj (jw (X_ Ij PySem.F.slot_list_append PySem.F.type_list_append mR (dv 5) (oW (RV (ab6 (K:=K)) HN rfl T.uz boot_list (ao (dv 9) aA)) aA)))
  (aj (jw (X_ Ij PySem.F.slot_list_append PySem.F.type_list_append mR (dv 9) (oV (fO (aN aL (aN (cu [102,105,114,115,116]) aA))) aA)))
  (aj (dI (bB CK (ud hr.units) (gW A2.vz T.dR hr hp (ao (dv 4) (oV (fO (ao (dv 6) (ao (dv 8) aA))) aA))) (kI (dv 5) (Oz Ov Hz aL)) (aM _)) (aj (aQ xU)
  au) au)
  au))))))))))⟩
theorem afs{σ0:L2.St}{A:Around}{outer:List Env}{s:Shared}{H:Hp}{E:XK}(C:LC P w K mg base a (XL P w K mg base a (.ref a.code) A outer s H E) E):QS (XL P w K mg base a (.ref a.code) A outer s H E) (xH 5) (tS Pg (cn a) E 14 σ0 (.for_ (.pU [(.meth 50 [114,111,117,110,100,115] 15 (.var 4) [])]) (.nm 11) [(.ife (.pr .ne [(.pr .xX [(.comp 1 [11] (.seq (.var 5)) (.nm 0) none none (.pr .ix [(.var 0),(.var 1)]))]),(.pr .mul [(.cst (.int 2)),(.var 3)])]) [(.ret (.cst (.bl false)))] [])])):=by
 have T:=C.T;have A2:=C.A2;have hr:=C.hr;have hp:=C.hp
 exact⟨(Aa PassesOwn.leaving rfl oU (gP rfl T.fH (oW (gZ T.aJ T.dB A2.dX (hr.mono (by omega)) T.dW hp (dv 4)) aA)) (bx 11 iJ.nd)
  (aj (dI (bB CK (ud hr.units) (Pu hr.hd hr.units rfl T.jO rfl T.Hj (jd (fM (N':=["_law_way","_law_at"]) (nt:=1) (idx:=[11]) (N:=["_law_script","_law_row","_law_kind","_law_t","_law_plan","_law_ways","_law_table","_law_side","_law_word","_law_found","_law_pair","_law_at","_law_odd"]) (osc:=aa dm) rfl rfl (by decide +kernel)) rfl wG (uo rfl (dv 5)) (fun C0 s0 H0 fp0=>(bx 0 (show List.Nodup (["_law_way","_law_at"]:List Str) by decide +kernel))) (fun C0 s0 H0 fp0=>iH) (fun C0 s0 H0 fp0=>(kI (dv 0) (dv 1))) (by decide))) (aW G9 (L2.OpR.or jr zO) aL (dv 3)) (aM _)) (aj (aQ xU)
  au) au)
  au))⟩
theorem aft{σ0:L2.St}{A:Around}{outer:List Env}{s:Shared}{H:Hp}{E:XK}(C:LC P w K mg base a (XL P w K mg base a (.ref a.code) A outer s H E) E):QS (XL P w K mg base a (.ref a.code) A outer s H E) (xH 6) (tS Pg (cn a) E 14 σ0 (.asg (.nm 12) (.pr .ix [(.pr .lst [(.cst (.str [])),(.cst (.str [70,105,114,115,116])),(.cst (.str [116,104,105,114,100])),(.cst (.str [115,101,99,111,110,100,32]))]),(.pr .ix [(.var 1),(.cst (.int 2))])]))):=by
 have T:=C.T;have A2:=C.A2;have hr:=C.hr;have hp:=C.hp;exact⟨(gU 12 iJ.nd (kI (pK (aN (cu []) (aN (cu [70,105,114,115,116]) (aN (cu [116,104,105,114,100]) (aN (cu [115,101,99,111,110,100,32]) aA))))) (kI (dv 1) aL)))⟩
theorem afu{σ0:L2.St}{A:Around}{outer:List Env}{s:Shared}{H:Hp}{E:XK}(C:LC P w K mg base a (XL P w K mg base a (.ref a.code) A outer s H E) E):QS (XL P w K mg base a (.ref a.code) A outer s H E) (xH 7) (tS Pg (cn a) E 14 σ0 (.ife (.pr .ne [(.told 6 [1,3,4,12] (.call 6 [(.var 2),(.pr .tup [(.call 26 [(.pr .ix [(.var 0),(.cst (.int 1))]),(.var 1)]),(.var 3)])])),(.pr .tup [(.cst (.str [110,111])),(.cst (.str [110,111,32,116,97,98,108,101]))])]) [(.ret (.cst (.bl false)))] [])):=by
 have T:=C.T;have A2:=C.A2;have hr:=C.hr;have hp:=C.hp;have AL:=C.AL;have LH:=C.LH;have hrT:=C.hrT;have hrL:=C.hrL
 exact⟨(dI (bB CK (ud hr.units) (Mm (w2:="") (NT:=[]) (nx:=6) LH (fun _=>rfl) hrT T.b_.fn wU T.b_.bd rfl T.b_.mg T.b_.fn.kp rfl (by decide +kernel) (by decide +kernel) (by decide +kernel) rfl (Or.inl rfl) rfl T.dH T.vH (by decide) (by decide) (by decide) (by decide) (by decide) (hXs T)
  (fM (N':=["_law_row","_law_t","_law_plan","_law_odd"]) (nt:=0) (idx:=[1,3,4,12]) (N:=["_law_script","_law_row","_law_kind","_law_t","_law_plan","_law_ways","_law_table","_law_side","_law_word","_law_found","_law_pair","_law_at","_law_odd"]) (osc:=aa dm) rfl rfl (by decide +kernel)) rfl rfl rfl (fun _ _ _ _ _=>rfl)
  (fun cdv s1 H1 E2 E' pn f c' clos s H E3=>by
    exact(mV (AL.vz) ((hrL _ _).mono (by omega)) rfl T.dR.mg T.dR.fn.kp T.dR.bd (qT (E:=E3) Own.lam rfl (fun _ _ _ z=>z)) (ao (dv 2) (oV (fO (oW (mV (AL.Gi) ((hrL _ _).mono (by omega)) rfl T.dG.mg T.dG.fn.kp T.dG.bd (qT (E:=E3) Own.lam rfl (fun _ _ _ z=>z)) (qY (kI (dv 0) aL) (ao (dv 1) aA))) (ao (dv 3) aA))) aA))))) (fO (aN (cu [110,111]) (aN (cu [110,111,32,116,97,98,108,101]) aA))) (aM _)) (aj (aQ xU)
  au) au)⟩
theorem afv{σ0:L2.St}{A:Around}{outer:List Env}{s:Shared}{H:Hp}{E:XK}(C:LC P w K mg base a (XL P w K mg base a (.ref a.code) A outer s H E) E):QS (XL P w K mg base a (.ref a.code) A outer s H E) (xH 8) (tS Pg (cn a) E 14 σ0 (.ret (.pr .eq [(.told 6 [4,12] (.call 6 [(.var 0),(.pr .tup [(.cst (.int 0)),(.var 1)])])),(.pr .tup [(.cst (.str [110,111])),(.cst (.str [98,97,100,32,115,105,100,101]))])]))):=by
 have T:=C.T;have A2:=C.A2;have hr:=C.hr;have hp:=C.hp;have AL:=C.AL;have LH:=C.LH;have hrT:=C.hrT;have hrL:=C.hrL
 exact⟨(aQ (Ik pW (jj hr.units) (Mm (w2:="") (NT:=[]) (nx:=6) LH (fun _=>rfl) hrT T.b_.fn wU T.b_.bd rfl T.b_.mg T.b_.fn.kp rfl (by decide +kernel) (by decide +kernel) (by decide +kernel) rfl (Or.inl rfl) rfl T.dH T.vH (by decide) (by decide) (by decide) (by decide) (by decide) (hXs T)
  (fM (N':=["_law_plan","_law_odd"]) (nt:=0) (idx:=[4,12]) (N:=["_law_script","_law_row","_law_kind","_law_t","_law_plan","_law_ways","_law_table","_law_side","_law_word","_law_found","_law_pair","_law_at","_law_odd"]) (osc:=aa dm) rfl rfl (by decide +kernel)) rfl rfl rfl (fun _ _ _ _ _=>rfl)
  (fun cdv s1 H1 E2 E' pn f c' clos s H E3=>by
    exact(mV (AL.vz) ((hrL _ _).mono (by omega)) rfl T.dR.mg T.dR.fn.kp T.dR.bd (qT (E:=E3) Own.lam rfl (fun _ _ _ z=>z)) (ao (dv 0) (oV (fO (aN aL (ao (dv 1) aA))) aA))))) (fO (aN (cu [110,111]) (aN (cu [98,97,100,32,115,105,100,101]) aA))) (aM _)))⟩
def RD(a:Adr)(E:XK):TS:=(tSt Pg (cn a) E 14 tl0 (tSt Pg (cn a) E 14 tl1 (Nh (Hx (L2.GQ (tA Pg (cn a) E 14 [(.var 3)])) (tG (cn a) (.nm 6)) (tSt Pg (cn a) E 14 tl2 xM)) (tSt Pg (cn a) E 14 tl3 (tSt Pg (cn a) E 14 tl4 xM)))))
theorem aaC{E:XK}{σ:L2.St}{H:Hp}{r:Addr}{l:List Int}{D:Ends}(hn:σ.length=13)(hr:σ[1]? =some (some (.ref r)))(hH:H r=some (.lst ((Int.ofNat 0::l).map V.int)))(t:Tb (cn a) H)(hl:l ∈ rowsOf [5,4])(kk:∀ H',D.rt (.bl true) H'):RD a E D σ H:=by
 refine dN (m0:=60) (kv:=JX) hn hr hH t rfl (List.all_eq_true.mp ZL l hl) fun σ0 H0 c0=>?_;refine bL (kv':=pQ) (os':=Tv) c0 ZM fun σ1 H1 c1=>?_;refine oX (D:={ D with nx:=_ }) (nn:=3) (m:=5000) (os:=m9) c1 (by decide) Tw (fun j hj=>match j,hj with | 0,_=>Tz | 1,_=>TF | 2,_=>TJ | j+3,h=>absurd h (by omega)) fun σ2 H2 c2=>?_;refine bL (kv':=JZ) (os':=Bc) c2 ZP fun σ3 H3 c3=>?_;exact iI c3 (List.all_eq_true.mp ZQ l hl) kk
theorem aaD{E:XK}{σ:L2.St}{H:Hp}{r:Addr}{l:List Int}{D:Ends}(hn:σ.length=13)(hr:σ[1]? =some (some (.ref r)))(hH:H r=some (.lst ((Int.ofNat 1::l).map V.int)))(t:Tb (cn a) H)(hl:l ∈ rowsOf [5,4])(kk:∀ H',D.rt (.bl true) H'):RD a E D σ H:=by
 refine dN (m0:=60) (kv:=J0) hn hr hH t rfl (List.all_eq_true.mp ZR l hl) fun σ0 H0 c0=>?_;refine bL (kv':=n_) (os':=TQ) c0 ZS fun σ1 H1 c1=>?_;refine oX (D:={ D with nx:=_ }) (nn:=4) (m:=5000) (os:=lz) c1 (by decide) TV (fun j hj=>match j,hj with | 0,_=>TX | 1,_=>TY | 2,_=>T3 | 3,_=>T4 | j+4,h=>absurd h (by omega)) fun σ2 H2 c2=>?_;refine bL (kv':=J6) (os':=Bd) c2 ZV fun σ3 H3 c3=>?_;exact iI c3 (List.all_eq_true.mp ZW l hl) kk
theorem aaE{E:XK}{σ:L2.St}{H:Hp}{r:Addr}{l:List Int}{D:Ends}(hn:σ.length=13)(hr:σ[1]? =some (some (.ref r)))(hH:H r=some (.lst ((Int.ofNat 2::l).map V.int)))(t:Tb (cn a) H)(hl:l ∈ rowsOf [5,4])(kk:∀ H',D.rt (.bl true) H'):RD a E D σ H:=by
 refine dN (m0:=60) (kv:=J7) hn hr hH t rfl (List.all_eq_true.mp ZX l hl) fun σ0 H0 c0=>?_;refine bL (kv':=oh) (os':=T5) c0 ZZ fun σ1 H1 c1=>?_;refine oX (D:={ D with nx:=_ }) (nn:=4) (m:=5000) (os:=lA) c1 (by decide) T6 (fun j hj=>match j,hj with | 0,_=>T7 | 1,_=>T8 | 2,_=>T9 | 3,_=>T_ | j+4,h=>absurd h (by omega)) fun σ2 H2 c2=>?_;refine bL (kv':=J8) (os':=Be) c2 Z0 fun σ3 H3 c3=>?_;exact iI c3 (List.all_eq_true.mp Z1 l hl) kk
theorem aaF{E:XK}{σ:L2.St}{H:Hp}{r:Addr}{l:List Int}{D:Ends}(hn:σ.length=13)(hr:σ[1]? =some (some (.ref r)))(hH:H r=some (.lst ((Int.ofNat 3::l).map V.int)))(t:Tb (cn a) H)(hl:l ∈ rowsOf [5,4])(kk:∀ H',D.rt (.bl true) H'):RD a E D σ H:=by
 refine dN (m0:=60) (kv:=J9) hn hr hH t rfl (List.all_eq_true.mp Z2 l hl) fun σ0 H0 c0=>?_;refine bL (kv':=lX) (os':=Ua) c0 Z3 fun σ1 H1 c1=>?_;refine oX (D:={ D with nx:=_ }) (nn:=5) (m:=5000) (os:=jC) c1 (by decide) Ub (fun j hj=>match j,hj with | 0,_=>Uc | 1,_=>Ud | 2,_=>Ue | 3,_=>Ug | 4,_=>Uh | j+5,h=>absurd h (by omega)) fun σ2 H2 c2=>?_;refine bL (kv':=J_) (os':=Bf) c2 Z4 fun σ3 H3 c3=>?_;exact iI c3 (List.all_eq_true.mp Z5 l hl) kk
theorem aaG{E:XK}{σ:L2.St}{H:Hp}{r:Addr}{l:List Int}{D:Ends}(hn:σ.length=13)(hr:σ[1]? =some (some (.ref r)))(hH:H r=some (.lst ((Int.ofNat 4::l).map V.int)))(t:Tb (cn a) H)(hl:l ∈ rowsOf [5,4])(kk:∀ H',D.rt (.bl true) H'):RD a E D σ H:=by
 refine dN (m0:=60) (kv:=Ka) hn hr hH t rfl (List.all_eq_true.mp Z6 l hl) fun σ0 H0 c0=>?_;refine bL (kv':=ou) (os':=Ui) c0 Z7 fun σ1 H1 c1=>?_;refine oX (D:={ D with nx:=_ }) (nn:=4) (m:=5000) (os:=lB) c1 (by decide) Uj (fun j hj=>match j,hj with | 0,_=>Uk | 1,_=>Ul | 2,_=>Um | 3,_=>Uo | j+4,h=>absurd h (by omega)) fun σ2 H2 c2=>?_;refine bL (kv':=Kc) (os':=Bg) c2 Z8 fun σ3 H3 c3=>?_;exact iI c3 (List.all_eq_true.mp Z9 l hl) kk
theorem aaH{E:XK}{σ:L2.St}{H:Hp}{r:Addr}{l:List Int}{D:Ends}(hn:σ.length=13)(hr:σ[1]? =some (some (.ref r)))(hH:H r=some (.lst ((Int.ofNat 5::l).map V.int)))(t:Tb (cn a) H)(hl:l ∈ rowsOf [5,4])(kk:∀ H',D.rt (.bl true) H'):RD a E D σ H:=by
 refine dN (m0:=60) (kv:=Kd) hn hr hH t rfl (List.all_eq_true.mp Z_ l hl) fun σ0 H0 c0=>?_;refine bL (kv':=j9) (os':=Uq) c0 aaa fun σ1 H1 c1=>?_;refine oX (D:={ D with nx:=_ }) (nn:=6) (m:=5000) (os:=iT) c1 (by decide) Ur (fun j hj=>match j,hj with | 0,_=>Us | 1,_=>Ut | 2,_=>Uu | 3,_=>Uv | 4,_=>Uw | 5,_=>Ux | j+6,h=>absurd h (by omega)) fun σ2 H2 c2=>?_;refine bL (kv':=Ke) (os':=Bh) c2 aab fun σ3 H3 c3=>?_;exact iI c3 (List.all_eq_true.mp aac l hl) kk
theorem aaI{E:XK}{σ:L2.St}{H:Hp}{r:Addr}{l:List Int}{D:Ends}(hn:σ.length=13)(hr:σ[1]? =some (some (.ref r)))(hH:H r=some (.lst ((Int.ofNat 6::l).map V.int)))(t:Tb (cn a) H)(hl:l ∈ rowsOf [5,4])(kk:∀ H',D.rt (.bl true) H'):RD a E D σ H:=by
 refine dN (m0:=60) (kv:=Kf) hn hr hH t rfl (List.all_eq_true.mp aad l hl) fun σ0 H0 c0=>?_;refine bL (kv':=j_) (os':=Uy) c0 aae fun σ1 H1 c1=>?_;refine oX (D:={ D with nx:=_ }) (nn:=6) (m:=5000) (os:=iU) c1 (by decide) Uz (fun j hj=>match j,hj with | 0,_=>UG | 1,_=>UJ | 2,_=>UL | 3,_=>UT | 4,_=>UW | 5,_=>U0 | j+6,h=>absurd h (by omega)) fun σ2 H2 c2=>?_;refine bL (kv':=Kg) (os':=Bj) c2 aaf fun σ3 H3 c3=>?_;exact iI c3 (List.all_eq_true.mp aag l hl) kk
theorem aaJ{E:XK}{σ:L2.St}{H:Hp}{r:Addr}{l:List Int}{D:Ends}(hn:σ.length=13)(hr:σ[1]? =some (some (.ref r)))(hH:H r=some (.lst ((Int.ofNat 7::l).map V.int)))(t:Tb (cn a) H)(hl:l ∈ rowsOf [5,4])(kk:∀ H',D.rt (.bl true) H'):RD a E D σ H:=by
 refine dN (m0:=60) (kv:=Kh) hn hr hH t rfl (List.all_eq_true.mp aah l hl) fun σ0 H0 c0=>?_;refine bL (kv':=jn) (os':=U3) c0 aai fun σ1 H1 c1=>?_;refine oX (D:={ D with nx:=_ }) (nn:=7) (m:=5000) (os:=gM) c1 (by decide) U4 (fun j hj=>match j,hj with | 0,_=>U5 | 1,_=>U6 | 2,_=>U7 | 3,_=>U8 | 4,_=>U9 | 5,_=>U_ | 6,_=>Va | j+7,h=>absurd h (by omega)) fun σ2 H2 c2=>?_;refine bL (kv':=Kl) (os':=Bk) c2 aaj fun σ3 H3 c3=>?_;exact iI c3 (List.all_eq_true.mp aak l hl) kk
theorem aaK{E:XK}{σ:L2.St}{H:Hp}{r:Addr}{l:List Int}{D:Ends}(hn:σ.length=13)(hr:σ[1]? =some (some (.ref r)))(hH:H r=some (.lst ((Int.ofNat 8::l).map V.int)))(t:Tb (cn a) H)(hl:l ∈ rowsOf [5,4])(kk:∀ H',D.rt (.bl true) H'):RD a E D σ H:=by
 refine dN (m0:=60) (kv:=Km) hn hr hH t rfl (List.all_eq_true.mp aal l hl) fun σ0 H0 c0=>?_;refine bL (kv':=lY) (os':=Vb) c0 aam fun σ1 H1 c1=>?_;refine oX (D:={ D with nx:=_ }) (nn:=5) (m:=5000) (os:=jD) c1 (by decide) Vc (fun j hj=>match j,hj with | 0,_=>Vd | 1,_=>Ve | 2,_=>Vf | 3,_=>Vg | 4,_=>Vh | j+5,h=>absurd h (by omega)) fun σ2 H2 c2=>?_;refine bL (kv':=Ko) (os':=Bl) c2 aan fun σ3 H3 c3=>?_;exact iI c3 (List.all_eq_true.mp aao l hl) kk
theorem aaL{E:XK}{σ:L2.St}{H:Hp}{r:Addr}{l:List Int}{D:Ends}(hn:σ.length=13)(hr:σ[1]? =some (some (.ref r)))(hH:H r=some (.lst ((Int.ofNat 9::l).map V.int)))(t:Tb (cn a) H)(hl:l ∈ rowsOf [5,4])(kk:∀ H',D.rt (.bl true) H'):RD a E D σ H:=by
 refine dN (m0:=60) (kv:=Kq) hn hr hH t rfl (List.all_eq_true.mp aap l hl) fun σ0 H0 c0=>?_;refine bL (kv':=iV) (os':=Vi) c0 aaq fun σ1 H1 c1=>?_;refine oX (D:={ D with nx:=_ }) (nn:=8) (m:=5000) (os:=fJ) c1 (by decide) Vj (fun j hj=>match j,hj with | 0,_=>Vk | 1,_=>Vl | 2,_=>Vm | 3,_=>Vn | 4,_=>Vo | 5,_=>Vp | 6,_=>Vq | 7,_=>Vr | j+8,h=>absurd h (by omega)) fun σ2 H2 c2=>?_;refine bL (kv':=Kr) (os':=Bm) c2 aar fun σ3 H3 c3=>?_;exact iI c3 (List.all_eq_true.mp aas l hl) kk
theorem Xn{E:XK}{σ:L2.St}{H:Hp}{r:Addr}{l:List Int}{D:Ends}(hn:σ.length=13)(hr:σ[1]? =some (some (.ref r)))(hH:H r=some (.lst ((Int.ofNat 10::l).map V.int)))(t:Tb (cn a) H)(hl:l ∈ rowsOf [5,4])(kk:∀ H',D.rt (.bl true) H'):RD a E D σ H:=by
 refine dN (m0:=60) (kv:=DG) hn hr hH t rfl (List.all_eq_true.mp Xb l hl) fun σ0 H0 c0=>?_;refine bL (kv':=fK) (os':=Nb) c0 Xc fun σ1 H1 c1=>?_;refine oX (D:={ D with nx:=_ }) (nn:=8) (m:=5000) (os:=dY) c1 (by decide) Qs (fun j hj=>match j,hj with | 0,_=>Qt | 1,_=>Qu | 2,_=>Qv | 3,_=>Qw | 4,_=>Qx | 5,_=>Qy | 6,_=>Qz | 7,_=>QB | j+8,h=>absurd h (by omega)) fun σ2 H2 c2=>?_;refine bL (kv':=DN) (os':=yf) c2 Xd fun σ3 H3 c3=>?_;exact iI c3 (List.all_eq_true.mp Xe l hl) kk
theorem Xo{E:XK}{σ:L2.St}{H:Hp}{r:Addr}{l:List Int}{D:Ends}(hn:σ.length=13)(hr:σ[1]? =some (some (.ref r)))(hH:H r=some (.lst ((Int.ofNat 11::l).map V.int)))(t:Tb (cn a) H)(hl:l ∈ rowsOf [5,4])(kk:∀ H',D.rt (.bl true) H'):RD a E D σ H:=by
 refine dN (m0:=60) (kv:=DP) hn hr hH t rfl (List.all_eq_true.mp Xf l hl) fun σ0 H0 c0=>?_;refine bL (kv':=eU) (os':=Nf) c0 Xg fun σ1 H1 c1=>?_;refine oX (D:={ D with nx:=_ }) (nn:=9) (m:=5000) (os:=dF) c1 (by decide) QC (fun j hj=>match j,hj with | 0,_=>QD | 1,_=>QF | 2,_=>QG | 3,_=>QH | 4,_=>QJ | 5,_=>QK | 6,_=>QL | 7,_=>QM | 8,_=>QT | j+9,h=>absurd h (by omega)) fun σ2 H2 c2=>?_;refine bL (kv':=DQ) (os':=yg) c2 Xh fun σ3 H3 c3=>?_;exact iI c3 (List.all_eq_true.mp Xi l hl) kk
theorem Xp{E:XK}{σ:L2.St}{H:Hp}{r:Addr}{l:List Int}{D:Ends}(hn:σ.length=13)(hr:σ[1]? =some (some (.ref r)))(hH:H r=some (.lst ((Int.ofNat 12::l).map V.int)))(t:Tb (cn a) H)(hl:l ∈ rowsOf [5,4])(kk:∀ H',D.rt (.bl true) H'):RD a E D σ H:=by
 refine dN (m0:=60) (kv:=DR) hn hr hH t rfl (List.all_eq_true.mp Xj l hl) fun σ0 H0 c0=>?_;refine bL (kv':=iW) (os':=Ng) c0 Xk fun σ1 H1 c1=>?_;refine oX (D:={ D with nx:=_ }) (nn:=6) (m:=5000) (os:=fZ) c1 (by decide) QV (fun j hj=>match j,hj with | 0,_=>QW | 1,_=>QX | 2,_=>QZ | 3,_=>Q0 | 4,_=>Q3 | 5,_=>Q4 | j+6,h=>absurd h (by omega)) fun σ2 H2 c2=>?_;refine bL (kv':=DW) (os':=yh) c2 Xl fun σ3 H3 c3=>?_;exact iI c3 (List.all_eq_true.mp Xm l hl) kk
theorem adF(T:Txt w K mg a){oc kV doc pm ct:Value}{od an:Option Addr}{osl:Array (Option Value)}
 (lk:K.lookup a.rY=some ⟨oc,od,.func (PySem.W.fnOf "law" "law" (fD dm) (bG dm) (aa dm) .none kV doc pm an (.ref a.code) ct),osl⟩) (hcd:PySem.W.codeIn K (.ref a.code) "law" =true)
 (hch:PySem.W.codeHdIn K a.code a.tbl=true) (KX:K.In base) (bm:base.BuiltinsAt mg a.tbl):
 aP P w K mg base (CXE P w) 192 a.rY (PySem.W.fnOf "law" "law" (fD dm) (bG dm) (aa dm) .none kV doc pm an (.ref a.code) ct) ["_law_script"] (Ac K a.tbl):=by
 have La:=JM (P:=P) (w:=w) (base:=base) T;have Lb:=JP (P:=P) (w:=w) (base:=base) T;refine NK (k:=191) lk hcd iJ (fun vs H Q E h=>?_) (fun A outer s H vs Q E hr h=>?_)
 · obtain⟨_,_,rfl,_⟩:=h;rfl
 obtain⟨l,ns,rfl,hO,hS,h63,q⟩:=h;have C:LC P w K mg base a (XL P w K mg base a (.ref a.code) A outer s H E) E:=⟨T,xu (P:=P) (w:=w) (base:=base) T 13,JW T 14,hr,qT ⟨rfl,rfl,rfl⟩ rfl (fun _ _ _ z=>z),JW T 12,⟨rfl,rfl,PySem.W.codeHd_of_K KX hch,bm,rfl⟩,hr.mono (by omega),fun e1 e2=>((hr.mono (show 184<=191 by omega)).deeper e1).deeper e2⟩;have z:QSs (XL P w K mg base a (.ref a.code) A outer s H E) ((bG dm).drop 1) (RD a E):=(wI (Pg:=Pg) (cl:=cn a) (E:=E) (d:=14) (a:=tl0) fun σ0=>(jY (afp C) (uq (wI (Pg:=Pg) (cl:=cn a) (E:=E) (d:=14) (a:=tl1) fun σ0=>(jY (afq C) (jY (afr C) (uq (WK (acv PassesOwn.leaving rfl (gP rfl T.fH (ao (dv 3) aA)) (bx 6 iJ.nd) (wI (Pg:=Pg) (cl:=cn a) (E:=E) (d:=14) (a:=tl2) fun σ0=>(jY (adE C) (uq Mr)))) (wI (Pg:=Pg) (cl:=cn a) (E:=E) (d:=14) (a:=tl3) fun σ0=>(jY (afs C) (uq (wI (Pg:=Pg) (cl:=cn a) (E:=E) (d:=14) (a:=tl4) fun σ0=>(jY (aft C) (jY (afu C) (jY (afv C) (uq Mr))))))))))))))));refine⟨_,(aR (lM (i:=1) iJ.nd rfl (Or.inr rfl) (qm T.jA La (hr.mono (by omega)) rfl (aq (qm T.jB Lb (hr.mono (by omega)) rfl (aq (pv 0) (aq bJ aD))) (aq (qP (aq bJ (aq bJ (aq bJ aD)))) aD)))) z.h),?_⟩;refine⟨_,rfl,l,ns,_,rfl,hS,h63,by omega,fun cz=>?_⟩;refine⟨(by show 3<=sizeLine;decide),fun pl hpl=>?_⟩;refine⟨cz,pl,[13,5,4],rfl,az,by decide,?_,fun r ds H3 hr3 s3 hD o8=>?_⟩
 · intro z hz;have:z=13\/z=5\/z=4:=by simpa using hz
   exact⟨by omega,Sq (by omega) (by omega)⟩
 obtain⟨r0,dl,rfl,h0,ht⟩:∃ r0 dl,ds=r0::dl/\(0<=r0/\r0<13)/\L2.Drawn dl [5,4]:=by cases hD with | cons h0 ht=>exact⟨_,_,rfl,h0,ht⟩
 have hl:dl ∈ rowsOf [5,4]:=Jc (ls:=[5,4]) ht;have tb:Tb (cn a) H3:=((Sim.none (Zg hO rfl)).same ((cD hpl _).trans s3)).1.tb;have kk:∀ H',Q (.bl true) H':=fun H'=>q H';have:r0=0\/r0=1\/r0=2\/r0=3\/r0=4\/r0=5\/r0=6\/r0=7\/r0=8\/r0=9\/r0=10\/r0=11\/r0=12:=by omega
 rcases this with rfl | rfl | rfl | rfl | rfl | rfl | rfl | rfl | rfl | rfl | rfl | rfl | rfl
 · exact aaC rfl rfl o8 tb hl kk
 · exact aaD rfl rfl o8 tb hl kk
 · exact aaE rfl rfl o8 tb hl kk
 · exact aaF rfl rfl o8 tb hl kk
 · exact aaG rfl rfl o8 tb hl kk
 · exact aaH rfl rfl o8 tb hl kk
 · exact aaI rfl rfl o8 tb hl kk
 · exact aaJ rfl rfl o8 tb hl kk
 · exact aaK rfl rfl o8 tb hl kk
 · exact aaL rfl rfl o8 tb hl kk
 · exact Xn rfl rfl o8 tb hl kk
 · exact Xo rfl rfl o8 tb hl kk
 · exact Xp rfl rfl o8 tb hl kk
end
end My
namespace My
open PySem L2 PyProof.Rows Ev PySem.W
theorem all_mk{l:OpenLaw}{w:World}{K:Frag}{h:Heap}{mg:Str->Option Value}{fa tbl:Addr}{kO qJ mW qK oZ uw o4 jy iK o5 jf nU ux iM gC mY kW j5 lV lW nY fB pB bC gF rY code aK mZ m5 m6 m7 o6 m8 bV c7 dO fV eX b7 b8 cF eY fW bD bF aY cG cH cI cJ dh cL fC qd qe qg qi qL:Addr}(X:K.In h)(G:h.Ns mainGlobals mg)(hfa:mg "law" =some (.ref fa))
 {adG Vs DX DY D_ Ea:Option Addr} {adH Eb Ec Ed Ef:Array (Option Value)} {adI Vt Vu Vv Vw:Value} {vI vJ vK vL:Int} {Gm Gn Gp Gq:Tok} {xJ:Nat} {Bo Bp Bq Br:Tok} {Gr:Nat} {Bs Bu Bv:Tok} {Gs:Nat} {Bw Bx By:Tok} {Gu:Nat} {BJ BK BL BP BR:Tok} {Gv:Nat} {Fo Fp:Tok} {Ku:Nat} {Kv:Array (Option Value)} {jN:Tok} {nZ:Tok}
 (jh:∃ fd,DK K "seats_in" uT kO fd)
 (gG:∃ fd,DK K "where" Dj qJ fd)
 (iZ:∃ fd,DK K "meeting" wO mW fd)
 (qM:∃ fd,DK K "guide" xY qK fd)
 (mL:∃ fd,DK K "sitter" zj oZ fd)
 (pL:∃ fd,DK K "goes" Ju uw fd)
 (dR:∃ fd,DK K "walked" uU o4 fd)
 (ig:∃ fd,DK K "need_ring" sU jy fd)
 (eG:∃ fd,DK K "all_unlike" rm iK fd)
 (o7:∃ fd,DK K "differ" rz o5 fd)
 (ji:∃ fd,DK K "pairings" qw jf fd)
 (kY:∃ fd,DK K "starters" qx nU fd)
 (uy:∃ fd,DK K "fits" Ai ux fd)
 (fX:∃ fd,DK K "first_from" rA iM fd)
 (gH:∃ fd,DK K "first_adder" pX gC fd)
 (i_:∃ fd,DK K "planned" wR mY fd)
 (kZ:∃ fd,DK K "trios_of" qy kW fd)
 (iR:∃ fd,DK K "_law_mixed" rB j5 fd)
 (jA:∃ fd,DK K "_law_draw" sW lV fd)
 (jB:∃ fd,DK K "_law_cell" sX lW fd)
 (k_:∃ fd,DK K "_law_num" uW nY fd)
 (ir:∃ fd,DK K "_law_same" pq fB fd)
 (b_:∃ fd,DK K "_law_told" sY pB fd)
 (dU:∃ fd,DK K "_law_some_plan" bw bC fd)
 (dG:∃ fd,DK K "_law_far_of" pY gF fd)
 (Yo:nsIn K mainGlobals "law" =some (some (.ref rY)))
 (Yp:K.lookup rY=some ⟨adI,adG,.func (fnOf "law" "law" (fD dm) (bG dm) (aa dm) .none Vt Vu Vv Vs (.ref code) Vw),adH⟩)
 (Vx:codeIn K (.ref code) "law" =true)
 (adJ:keepIn K (.ref rY)=true)
 (Kw:nsIn K mainGlobals "StandError" =some (some (.ref aK)))
 (Vy:nsIn K mainGlobals "BadRing" =some (some (.ref mZ)))
 (Vz:nsIn K mainGlobals "BadPlan" =some (some (.ref m5)))
 (VB:nsIn K mainGlobals "NoRound" =some (some (.ref m6)))
 (VD:nsIn K mainGlobals "NoTable" =some (some (.ref m7)))
 (Xq:nsIn K mainGlobals "NoPair" =some (some (.ref o6)))
 (VG:nsIn K mainGlobals "BadSide" =some (some (.ref m8)))
 (adK:nsIn K mainGlobals "Plan" =some (some (.ref bV)))
 (dZ:∃ fd,MK K bV "__init__" "Plan.__init__" mK c7 fd)
 (iY:∃ fd,MK K bV "rounds" "Plan.rounds" oY dO fd)
 (kh:∃ fd,MK K bV "sets" "Plan.sets" rC fV fd)
 (jo:∃ fd,MK K bV "pairs" "Plan.pairs" pZ eX fd)
 (eN:∃ fd,MK K bV "need_round" "Plan.need_round" jZ b7 fd)
 (eO:∃ fd,MK K bV "need_table" "Plan.need_table" j0 b8 fd)
 (e_:∃ fd,MK K bV "need_pair" "Plan.need_pair" lH cF fd)
 (jq:∃ fd,MK K bV "field" "Plan.field" p_ eY fd)
 (kj:∃ fd,MK K bV "seat" "Plan.seat" rD fW fd)
 (cV:∃ fd,MK K bV "one_field_seat" "Plan.one_field_seat" g_ bD fd)
 (cW:∃ fd,MK K bV "two_field_seat" "Plan.two_field_seat" h_ bF fd)
 (cX:∃ fd,IK K aK "__init__" "StandError.__init__" ie aY fd)
 (cM:∃ fd,IK K mZ "__init__" "BadRing.__init__" jH cG fd)
 (cN:∃ fd,IK K m5 "__init__" "BadPlan.__init__" jJ cH fd)
 (cO:∃ fd,IK K m6 "__init__" "NoRound.__init__" jK cI fd)
 (cP:∃ fd,IK K m7 "__init__" "NoTable.__init__" jL cJ fd)
 (dj:∃ fd,IK K o6 "__init__" "NoPair.__init__" j4 dh fd)
 (cQ:∃ fd,IK K m8 "__init__" "BadSide.__init__" jM cL fd)
 (aaM:plainGet K bV Str.empty=true)
 (aaN:hasDictIn K bV=true)
 (aaO:plainOver K bV=true)
 (aaP:findIn K (.ref bV) "__setattr__" =some (some (.builtin "object.__setattr__")))
 (dD:findIn K (.ref bV) "kind" =some none)
 (bH:findIn K (.ref bV) "tables" =some none)
 (mF:findIn K (.ref bV) "trios" =some none)
 (Dt:makesIn K bV=true)
 (aaQ:keepIn K (.ref bV)=true)
 (Ky:iD K aK)
 (rZ:XK1 K mZ aK)
 (sr:XK1 K m5 aK)
 (su:XK1 K m6 aK)
 (sE:XK1 K m7 aK)
 (vA:XK1 K o6 aK)
 (sG:XK1 K m8 aK)
 (ci1:specialIn K (.ref aK) "__getattribute__" =some (some (.builtin "type.__getattribute__")))
 (ci2:readsIn K aK (.type "type")=true)
 (ci3:findCls K (.ref aK) (.type "type") "__init__" =some (.val (.ref aY)))
 (ci4:handedIn (.ref aY)=true)
 (Ld:nsIn K mainGlobals "TABLES_OF" =some (some (.ref fC)))
 (Kz:K.lookup fC=some ⟨.type "dict",none,.dict (List.toArray [⟨vI,.str (nm [115,116,114,97,105,103,104,116]) Gm,.ref qd⟩,⟨vJ,.str (nm [115,107,105,112]) Gn,.ref qe⟩,⟨vK,.str (nm [115,104,97,114,101,100]) Gp,.ref qg⟩,⟨vL,.str (nm [114,105,110,103]) Gq,.ref qi⟩]) xJ,#[]⟩)
 (Gw:vI=PyData.keyHash w.params (nm [115,116,114,97,105,103,104,116]))
 (Gx:K.lookup qd=some ⟨.type "tuple",DX,.seq (List.toArray [.int 3 Bo,.int 5 Bp,.int 7 Bq,.int 9 Br]) Gr,Eb⟩)
 (Gy:vJ=PyData.keyHash w.params (nm [115,107,105,112]))
 (Gz:K.lookup qe=some ⟨.type "tuple",DY,.seq (List.toArray [.int 4 Bs,.int 6 Bu,.int 8 Bv]) Gs,Ec⟩)
 (GC:vK=PyData.keyHash w.params (nm [115,104,97,114,101,100]))
 (GD:K.lookup qg=some ⟨.type "tuple",D_,.seq (List.toArray [.int 4 Bw,.int 6 Bx,.int 8 By]) Gu,Ed⟩)
 (GF:vL=PyData.keyHash w.params (nm [114,105,110,103]))
 (GJ:K.lookup qi=some ⟨.type "tuple",Ea,.seq (List.toArray [.int 2 BJ,.int 3 BK,.int 4 BL,.int 5 BP,.int 6 BR]) Gv,Ef⟩)
 (KC:(fC==sysModules)=false)
 (aaR:nsIn K mainGlobals "SIDES" =some (some (.ref qL)))
 (Xr:K.lookup qL=some ⟨.type "tuple",none,.seq (List.toArray [.str (nm [102,105,114,115,116]) Fo,.str (nm [115,101,99,111,110,100]) Fp]) Ku,Kv⟩)
 (zB:nsIn K mainGlobals "GREATEST_RING" =some (some (.int (11) jN)))
 (GK:nsIn K mainGlobals "LEAST_RING" =some (some (.int (3) nZ)))
 (rH:nsIn K mainGlobals "ValueError" =some none)
 (Qc:nsIn K mainGlobals "abs" =some none)
 (Qd:nsIn K mainGlobals "all" =some none)
 (xq:nsIn K mainGlobals "bool" =some none)
 (Hi:nsIn K mainGlobals "int" =some none)
 (bI:nsIn K mainGlobals "isinstance" =some none)
 (jO:nsIn K mainGlobals "len" =some none)
 (uz:nsIn K mainGlobals "list" =some none)
 (fH:nsIn K mainGlobals "range" =some none)
 (Hj:nsIn K mainGlobals "set" =some none)
 (Hl:nsIn K mainGlobals "str" =some none)
 (yd:nsIn K mainGlobals "tuple" =some none)
 (Ho:nsIn K mainGlobals "zip" =some none)
 (hch:codeHdIn K code tbl=true):
 ∃ fd:FuncData,(∀(s:Shared) (v:Value),BindsTo s fd ⟨[v],[]⟩ [("_law_script",v)])/\∀ base:Heap,K.In base->base.Ns mainGlobals mg->base.BuiltinsAt mg tbl->aP l.prog w K mg base (CXE l.prog w) 192 fa fd ["_law_script"] (Ac K tbl):=by
 have e:=hfa.symm.trans (mg_of X G Yo);cases e;obtain⟨qz,jh⟩:=jh;obtain⟨xZ,gG⟩:=gG;obtain⟨rT,iZ⟩:=iZ;obtain⟨x_,qM⟩:=qM;obtain⟨u9,mL⟩:=mL;obtain⟨Ak,pL⟩:=pL;obtain⟨u_,dR⟩:=dR;obtain⟨pA,ig⟩:=ig;obtain⟨nQ,eG⟩:=eG;obtain⟨vd,o7⟩:=o7;obtain⟨nR,ji⟩:=ji;obtain⟨vf,kY⟩:=kY;obtain⟨Am,uy⟩:=uy;obtain⟨nW,fX⟩:=fX;obtain⟨mz,gH⟩:=gH;obtain⟨rW,i_⟩:=i_;obtain⟨qC,kZ⟩:=kZ;obtain⟨rG,iR⟩:=iR;obtain⟨tD,jA⟩:=jA;obtain⟨tH,jB⟩:=jB;obtain⟨vg,k_⟩:=k_;obtain⟨jz,ir⟩:=ir;obtain⟨yD,b_⟩:=b_;obtain⟨jg,dU⟩:=dU;obtain⟨mC,dG⟩:=dG;obtain⟨fU,dZ⟩:=dZ;obtain⟨iQ,iY⟩:=iY;obtain⟨j6,kh⟩:=kh;obtain⟨jl,jo⟩:=jo;obtain⟨eE,eN⟩:=eN;obtain⟨eF,eO⟩:=eO;obtain⟨eZ,e_⟩:=e_;obtain⟨jm,jq⟩:=jq;obtain⟨j7,kj⟩:=kj;obtain⟨cT,cV⟩:=cV;obtain⟨cU,cW⟩:=cW;obtain⟨d8,cX⟩:=cX;obtain⟨f9,cM⟩:=cM;obtain⟨gb,cN⟩:=cN;obtain⟨gf,cO⟩:=cO;obtain⟨gh,cP⟩:=cP;obtain⟨gY,dj⟩:=dj;obtain⟨gj,cQ⟩:=cQ;have Yq:=zR (st:=dm) Yp Vx adJ;have Eg:KTup K qd [3,5,7,9]:=fun H=>.inr ⟨_,_,_,Gx,rfl,rfl,(show 4<=sizeLine by decide),.cons ⟨_,rfl⟩ (.cons ⟨_,rfl⟩ (.cons ⟨_,rfl⟩ (.cons ⟨_,rfl⟩ (.nil))))⟩;have Eh:KTup K qe [4,6,8]:=fun H=>.inr ⟨_,_,_,Gz,rfl,rfl,(show 3<=sizeLine by decide),.cons ⟨_,rfl⟩ (.cons ⟨_,rfl⟩ (.cons ⟨_,rfl⟩ (.nil)))⟩;have Ei:KTup K qg [4,6,8]:=fun H=>.inr ⟨_,_,_,GD,rfl,rfl,(show 3<=sizeLine by decide),.cons ⟨_,rfl⟩ (.cons ⟨_,rfl⟩ (.cons ⟨_,rfl⟩ (.nil)))⟩;have Ej:KTup K qi [2,3,4,5,6]:=fun H=>.inr ⟨_,_,_,GJ,rfl,rfl,(show 5<=sizeLine by decide),.cons ⟨_,rfl⟩ (.cons ⟨_,rfl⟩ (.cons ⟨_,rfl⟩ (.cons ⟨_,rfl⟩ (.cons ⟨_,rfl⟩ (.nil)))))⟩;have mG:O4 K w fC rE:=⟨⟨_,xJ,Kz,⟨⟨_,_,rfl,Gw⟩,⟨⟨_,_,rfl,Gy⟩,⟨⟨_,_,rfl,GC⟩,⟨⟨_,_,rfl,GF⟩,trivial⟩⟩⟩⟩,.cons Eg (.cons Eh (.cons Ei (.cons Ej (.nil))))⟩,KC⟩;have T:Txt w K mg ⟨kO,_,qJ,_,mW,_,qK,_,oZ,_,uw,_,o4,_,jy,_,iK,_,o5,_,jf,_,nU,_,ux,_,iM,_,gC,_,mY,_,kW,_,j5,_,lV,_,lW,_,nY,_,fB,_,pB,_,bC,_,gF,_,fa,_,c7,_,dO,_,fV,_,eX,_,b7,_,b8,_,cF,_,eY,_,fW,_,bD,_,bF,_,aY,_,cG,_,cH,_,cI,_,cJ,_,dh,_,cL,_,aK,mZ,m5,m6,m7,o6,m8,bV,fC,qL,jN,nZ,tbl,code⟩:=⟨jh.df X G,gG.df X G,iZ.df X G,qM.df X G,mL.df X G,pL.df X G,dR.df X G,ig.df X G,eG.df X G,o7.df X G,ji.df X G,kY.df X G,uy.df X G,fX.df X G,gH.df X G,i_.df X G,kZ.df X G,iR.df X G,jA.df X G,jB.df X G,k_.df X G,ir.df X G,b_.df X G,dU.df X G,dG.df X G,⟨Yq,fbn Yq,mg_of X G Yo⟩,dZ.F,fbn dZ.F,iY.F,fbn iY.F,iY.mt,kh.F,fbn kh.F,kh.mt,jo.F,fbn jo.F,jo.mt,eN.F,fbn eN.F,eN.mt,eO.F,fbn eO.F,eO.mt,e_.F,fbn e_.F,e_.mt,jq.F,fbn jq.F,jq.mt,kj.F,fbn kj.F,kj.mt,cV.F,fbn cV.F,cV.mt,cW.F,fbn cW.F,cW.mt,cX.F,fbn cX.F,cM.F,fbn cM.F,cN.F,fbn cN.F,cO.F,fbn cO.F,cP.F,fbn cP.F,dj.F,fbn dj.F,cQ.F,fbn cQ.F,⟨aaM,aaN,aaO,aaP⟩,dD,bH,mF,⟨Dt,dZ.a,dZ.n,aaQ⟩,mg_of X G adK,⟨rZ.X,cM.a,cM.n,rZ.k⟩,rZ.s,rZ.w,mg_of X G Vy,⟨sr.X,cN.a,cN.n,sr.k⟩,sr.s,sr.w,mg_of X G Vz,⟨su.X,cO.a,cO.n,su.k⟩,su.s,su.w,mg_of X G VB,⟨sE.X,cP.a,cP.n,sE.k⟩,sE.s,sE.w,mg_of X G VD,⟨vA.X,dj.a,dj.n,vA.k⟩,vA.s,vA.w,mg_of X G Xq,⟨sG.X,cQ.a,cQ.n,sG.k⟩,sG.s,sG.w,mg_of X G VG,Ky,⟨ci1,ci2,ci3,ci4,cX.F.kp⟩,mg_of X G Kw,mG,mg_of X G Ld,⟨Fo,Fp,Ku,Kv,Xr⟩,mg_of X G aaR,mg_of X G zB,mg_of X G GK,mg_none_of X G rH,mg_none_of X G Qc,mg_none_of X G Qd,mg_none_of X G xq,mg_none_of X G Hi,mg_none_of X G bI,mg_none_of X G jO,mg_none_of X G uz,mg_none_of X G fH,mg_none_of X G Hj,mg_none_of X G Hl,mg_none_of X G yd,mg_none_of X G Ho⟩;exact⟨fnOf "law" "law" (fD dm) (bG dm) (aa dm) .none Vt Vu Vv Vs (.ref code) Vw,fun s v=>.of_eq rfl,fun base KB _ bm=>adF T Yp Vx hch KB bm⟩
theorem walk{l:OpenLaw}{q:Program}{loose:List Str}{XP:(Str->Option Value)->Heap->Prop}{YP:World->Heap->Prop}{d:DefRec}{K:Params->Frag}{tbl c:Addr}(hn:l.most=some 63)(hdf:d.params.defaults= [])
 (hY:∀(w:World) (h:Heap),YP w h->(K w.params).In h/\h.get? tbl=some (tabObj #[])) (hK:∀ P:Params,(K P).lookup tbl=none/\codeHdIn (K P) c tbl=true)
 (F:∀(w:World) (mg:Str->Option Value) (fa:Addr) (h:Heap),(K w.params).In h->h.Ns mainGlobals mg->mg d.name=some (.ref fa)->
   ∃ fd:FuncData,(∀(s:Shared) (u:Value),BindsTo s fd ⟨[u],[]⟩ [("_law_script",u)])/\∀ base:Heap,(K w.params).In base->base.Ns mainGlobals mg->base.BuiltinsAt mg tbl->aP l.prog w (K w.params) mg base (CXE l.prog w) 192 fa fd ["_law_script"] (Ac (K w.params) tbl)):
 WalkO q loose XP YP l.row.toRowW d [] (fun f vs=>PySem.call f vs):=
 aeb (n:=63) (k:=192) (x:="_law_script") (CX:=fun w=>CXE l.prog w) (sp:=fun w=>Ac (K w.params) tbl) hn (by decide) hdf ⟨rfl,by decide,by decide⟩ hY hK F (fun _ _ a ns hl hO hS=>⟨a,ns,rfl,hO,hS,hl,fun _=>rfl⟩) fun _ _ _ _ _ z=>uI z
end My
end
namespace PySem.W.Fast
def tw10341504007449895589:=Nat
def tw11689062468227378853:=Nat
def tw6601497463413184229:=Nat
def tw11731523213082368261:=Nat
def tw12584393849697004389:=Nat
def tw11670242697729529733:=Nat
def tw4073851924360375941:=Nat
def tw5868167511169503397:=Nat
def tw588181849056484549:=Nat
def tw6939296279906416869:=Nat
def tw14790388361048108357:=Nat
def tw16552649546542822757:=Nat
def tw17435480698561881477:=Nat
def tw7125496579889119108:=Nat
def tw13905202767990895492:=Nat
def tw13628719043503364548:=Nat
def tw2893965099467353540:=Nat
def tw14480739482923231908:=Nat
def tw2148738090147782468:=Nat
def tw16735082258764237156:=Nat
def tw6092823028175588740:=Nat
def tw11602463797562296708:=Nat
def tw17366035949538318276:=Nat
def tw14242987665453247428:=Nat
def tw13349063399654192708:=Nat
def tw7969464159405877348:=Nat
def tw16566664805096163460:=Nat
def tw11122736417419046596:=Nat
def tw15653612062629076676:=Nat
def tw16664310726935211332:=Nat
def tw15928788219312594295:=Nat
def tw11380534479956210679:=Nat
def tw3536070558144667959:=Nat
def tw5247751637239284183:=Nat
def tw17845059493186202679:=Nat
def tw9935074748412189335:=Nat
def tw1723230238738401975:=Nat
def tw9612147769241380055:=Nat
def tw1830877007326664503:=Nat
def tw9208261517475291862:=Nat
def tw15473724463887692566:=Nat
def tw2858817180063913270:=Nat
def tw3602433389553824054:=Nat
def tw11476826230805765462:=Nat
def tw2391539137504611862:=Nat
def tw15809335185112359446:=Nat
def tw11547392154141640758:=Nat
def tw17172743819542637654:=Nat
def tw14531348921983218806:=Nat
def tw3517893950779009142:=Nat
def tw10229766711773004918:=Nat
def tw4413324101551317654:=Nat
def tw6725263776799540470:=Nat
def tw11409173915580499350:=Nat
def tw232749764014574582:=Nat
def tw2247575175940773409:=Nat
def tw18355457855831494721:=Nat
def tw7252227689239475329:=Nat
def tw12747920631771388161:=Nat
def tw3355633878716292961:=Nat
def tw1282101725161560513:=Nat
def tw11004575676568090657:=Nat
def tw8461678869533050913:=Nat
def tw4270835432982277281:=Nat
def tw5405147877289488577:=Nat
def tw4052221582639405280:=Nat
def tw721352685817759744:=Nat
def tw4529410364967901056:=Nat
def tw1964507931250852896:=Nat
def tw3190606730678711360:=Nat
def tw17441769845284586112:=Nat
def tw10082854670757505696:=Nat
def tw14758067319537329824:=Nat
def tw8124233204732522688:=Nat
def tw17245630264108556480:=Nat
def tw13670266536026121395:=Nat
def tw9121950434202017555:=Nat
def tw5262639393243639091:=Nat
def tw1685815018434905427:=Nat
def tw6322412245404536275:=Nat
def tw14890647148612632051:=Nat
def tw3979325005725198387:=Nat
def tw2252324112807582771:=Nat
def tw17616467704841367155:=Nat
def tw6173534269918581427:=Nat
def tw1453640084838797555:=Nat
def tw11249969025389121363:=Nat
def tw16368793400664604499:=Nat
def tw18064763317674524019:=Nat
def tw14735858403079491539:=Nat
def tw14035598218318310419:=Nat
def tw15559344637010726931:=Nat
def tw13752922975815595123:=Nat
def tw13822058649975035954:=Nat
def tw2985578457661074514:=Nat
def tw15179303040241600626:=Nat
def tw17952921267584254610:=Nat
def tw1555929944816232114:=Nat
def tw11274206098764039890:=Nat
def tw17360794682096680370:=Nat
def tw9275203730131905138:=Nat
def tw13327731808740597362:=Nat
def tw12087111038503243954:=Nat
def tw4014827857168507058:=Nat
def tw1044553145614984402:=Nat
def tw8232685961665136402:=Nat
def tw6460654239543583026:=Nat
def tw1345671058396782962:=Nat
def tw2277266162380872626:=Nat
def tw80164450181074:=Nat
def tw13086070135533255634:=Nat
def tw14223554729750196669:=Nat
def tw7972912257833745437:=Nat
def tw17275252906640656989:=Nat
def tw16950645348142542429:=Nat
def tw6399261754110518013:=Nat
def tw17005990425098654525:=Nat
def tw6285983909471880541:=Nat
def tw17628239266812226941:=Nat
def tw1452359823331446333:=Nat
def tw3932330761504727709:=Nat
def tw13842863628815389949:=Nat
def tw411073349356363069:=Nat
def tw6160000145260003645:=Nat
def tw4270575369175324028:=Nat
def tw4183658843108952476:=Nat
def tw8930983737452821916:=Nat
def tw5979635987191854012:=Nat
def tw5193407337070172732:=Nat
def tw15007827563780799196:=Nat
def tw1924765662253437244:=Nat
def tw13571878727493236636:=Nat
def tw1828347384905503644:=Nat
def tw9787662664528914076:=Nat
def tw11205499077847938236:=Nat
def tw16817551838113639951:=Nat
def tw2744802332975533583:=Nat
def tw8062625398069795887:=Nat
def tw13637789123401517263:=Nat
def tw9162904960121051983:=Nat
def tw11814473956459496271:=Nat
def tw10239205983074588623:=Nat
def tw8353770040489520239:=Nat
def tw11425276257289029775:=Nat
def tw16737223214279550990:=Nat
def tw4567556412525064750:=Nat
def tw1285207196161042030:=Nat
def tw11522557538910166638:=Nat
def tw17094431234653060302:=Nat
def tw6263896793225733902:=Nat
def tw6810557333097045294:=Nat
def tw4034880295147912142:=Nat
def tw678092915604612814:=Nat
def tw13682586405544938734:=Nat
def tw11505519257191252238:=Nat
def tw17265685711546368878:=Nat
def tw11874336987859886905:=Nat
def tw1509930034933839193:=Nat
def tw3431825322752308601:=Nat
def tw3346268603924131737:=Nat
def tw1383034977248749497:=Nat
def tw8548198906223861721:=Nat
def tw4967452887184110553:=Nat
def tw1200775624214060537:=Nat
def tw1847096111836409337:=Nat
def tw17270685521765544473:=Nat
def tw4400673569340147225:=Nat
def tw13166333732095078521:=Nat
def tw5324060409859817113:=Nat
def tw17575732478899847865:=Nat
def tw15718139399106178777:=Nat
def tw6255136773151880473:=Nat
def tw3020952445714829721:=Nat
def tw14694848340733966361:=Nat
def tw1537943718508367449:=Nat
def tw15638900436972039801:=Nat
def tw681954206330271288:=Nat
def tw1932416341075515064:=Nat
def tw17937037643349385944:=Nat
def tw11605756268717854616:=Nat
def tw10943985686972682136:=Nat
def tw8445602653892141272:=Nat
def tw8746823360979604696:=Nat
def tw11779000511386824920:=Nat
def tw15341063053185083640:=Nat
def tw2945690820586063800:=Nat
def tw14118924612590787544:=Nat
def tw12313474991766223864:=Nat
def tw2495746126648530987:=Nat
def tw3283804911841986603:=Nat
def tw15762308058375949387:=Nat
def tw11816771841033925259:=Nat
def tw17494794764967582955:=Nat
def tw13033280420626408235:=Nat
def tw4313846678442733387:=Nat
def tw3810706848364371531:=Nat
def tw10061869751054462539:=Nat
def tw1297345221313698091:=Nat
def tw15031525378225262923:=Nat
def tw13135445285170372075:=Nat
def tw11818408653437075178:=Nat
def tw5869213804039016202:=Nat
def tw12749517540702602602:=Nat
def tw13667827642661207978:=Nat
def tw3130293541237211690:=Nat
def tw16510618854469257322:=Nat
def tw13536385660830306954:=Nat
def tw11503740594117339850:=Nat
def tw17768612410810895658:=Nat
def tw5390397475047245642:=Nat
def tw4515665212059171690:=Nat
def tw4732485648022817226:=Nat
def tw4100257029158436842:=Nat
def tw3521780305974102026:=Nat
def tw14183304176513118794:=Nat
def tw9160770235828440682:=Nat
def tw10761851949993558186:=Nat
def tw7100470461573603530:=Nat
def tw17113304663746122293:=Nat
def tw9194470590966465653:=Nat
def tw2385917703974821589:=Nat
def tw9777528507285149941:=Nat
def tw10109370180504274229:=Nat
def tw7752002813023217493:=Nat
def tw9418015338344207189:=Nat
def tw9877749429474662869:=Nat
def tw1033979590499883029:=Nat
def tw14540589937887833909:=Nat
def tw13946003063551619508:=Nat
def tw14519191988834790836:=Nat
def tw12050978778751656980:=Nat
def tw3829585707164587636:=Nat
def tw17747614657507232948:=Nat
def tw17072246619690012852:=Nat
def tw4040675816452536084:=Nat
def tw5589707645219212052:=Nat
def tw3239937842444695316:=Nat
def tw17463825831376491316:=Nat
def tw2094261779755648820:=Nat
def tw7703580645561762964:=Nat
def tw11999960899467260596:=Nat
def tw1960348442196755188:=Nat
def tw3265968847236863252:=Nat
def tw14613997890419505460:=Nat
def tw10233569047393062759:=Nat
def tw8977984527253949831:=Nat
def tw11331595123569219975:=Nat
def tw15251565848608425383:=Nat
def tw2404518925006467495:=Nat
def tw1089437121793797063:=Nat
def tw7142930701764706855:=Nat
def tw5852016095610151463:=Nat
def tw14283452296831365703:=Nat
def tw8935099447306067239:=Nat
def tw17195108289376741735:=Nat
def tw10748814567562331015:=Nat
def tw716854777527707079:=Nat
def tw15683201116149965863:=Nat
def tw12347123530259159079:=Nat
def tw14209563030433673255:=Nat
def tw2418706630755516487:=Nat
def tw1344451651575888103:=Nat
def tw7566825244356086599:=Nat
def tw7456223776899875590:=Nat
def tw6397810019422526246:=Nat
def tw13207639162211984902:=Nat
def tw8684904129640117798:=Nat
def tw16204710297914941990:=Nat
def tw715119966806433894:=Nat
def tw7202208165627343494:=Nat
def tw8224025509426431654:=Nat
def tw17447653758319915686:=Nat
def tw4900652825456025830:=Nat
def tw14350812858219752710:=Nat
def tw6183708585640270118:=Nat
def tw7718497400832962406:=Nat
def tw4606865951757194214:=Nat
def tw3690547254648284198:=Nat
def tw6939946036160671302:=Nat
def tw4991410388165219462:=Nat
def tw7656825598899079302:=Nat
def tw16887234484247188678:=Nat
def tw8355916050385470662:=Nat
def tw226132630664119857:=Nat
def tw17754778400259777617:=Nat
def tw1322745044197332817:=Nat
def tw13883931167489013745:=Nat
def tw5955930194496527345:=Nat
def tw9187011994236621841:=Nat
def tw7347832732656255153:=Nat
def tw8953604267224863473:=Nat
def tw16874053341016417041:=Nat
def tw10697755497144175537:=Nat
def tw16394056295884613585:=Nat
def tw5328148947915858160:=Nat
def tw2001276800659408688:=Nat
def tw10558817148154024912:=Nat
def tw5996918727000367056:=Nat
def tw15200765235451276816:=Nat
def tw12600418551745869328:=Nat
def tw12035910302481063440:=Nat
def tw15444526155786519664:=Nat
def tw8270228531791239312:=Nat
def tw14406150707821229936:=Nat
def tw11681951601964867056:=Nat
def tw1254758918897606704:=Nat
def tw9705240501029046352:=Nat
def tw8044126360439312099:=Nat
def tw15566935619703683363:=Nat
def tw14806980693080265027:=Nat
def tw17460495097949153603:=Nat
def tw604080935038292291:=Nat
def tw2793929866324067203:=Nat
def tw7032218145646649795:=Nat
def tw3926001122915632611:=Nat
def tw8397911657593605603:=Nat
def tw934644788435171843:=Nat
def tw16025398542066454627:=Nat
def tw14519545513256442691:=Nat
def tw14114306622575155043:=Nat
def tw731872414919935363:=Nat
def tw13749300003293887907:=Nat
def tw3681491269675220931:=Nat
def tw6375794605586262563:=Nat
def tw15466352320027404354:=Nat
def tw12295263069366395522:=Nat
def tw6025383721123996322:=Nat
def tw12405799465711067362:=Nat
def tw15278661053148597506:=Nat
def tw2463629332766450082:=Nat
def tw10102732127639591330:=Nat
def tw432338034258786754:=Nat
def tw7126740359085425698:=Nat
def tw16526942926851916386:=Nat
def tw12107820803601455714:=Nat
def tw5044168201536691970:=Nat
def tw465756851338454786:=Nat
def tw14430696518857168674:=Nat
def tw16010850528934483842:=Nat
def tw3647041818541866946:=Nat
def tw3491213263838791138:=Nat
def tw14886264303601053218:=Nat
def tw3791698247276160461:=Nat
def tw5644008688658845677:=Nat
def tw3342829140639281773:=Nat
def tw6142309447291098765:=Nat
def tw14971649045061534925:=Nat
def tw3991044410860791565:=Nat
def tw16925595275634481933:=Nat
def tw10202660077978735981:=Nat
def tw6974678215564519789:=Nat
def tw16205518730559692173:=Nat
def tw7379248939276248013:=Nat
def tw1369847136991586829:=Nat
def tw11975772174986382861:=Nat
def tw9962597323441894477:=Nat
def tw4411710428690624205:=Nat
def tw5864877777353525485:=Nat
def tw10864634281759059213:=Nat
def tw11284707312723183437:=Nat
def tw15888249929998730476:=Nat
def tw8245668754235912716:=Nat
def tw6581607000313329164:=Nat
def tw7622342474687232588:=Nat
def tw6370399086766972620:=Nat
def tw17232488744669104460:=Nat
def tw10874589509124586348:=Nat
def tw134535692815612812:=Nat
def tw10344641910755723692:=Nat
def tw4574791612737551852:=Nat
def tw1140897512522989612:=Nat
def tw5759799108215805996:=Nat
def tw10247684012472087180:=Nat
def tw8208843957988472012:=Nat
def tw16215998791359496396:=Nat
def tw9276069345102706751:=Nat
def tw7644645901185393503:=Nat
def tw12087032102608908671:=Nat
def tw13147580189373359071:=Nat
def tw2945966343049315327:=Nat
def tw17421421756989021727:=Nat
def tw17209989496806408767:=Nat
def tw1046462737267700927:=Nat
def tw15196832626807909695:=Nat
def tw16994049599903191391:=Nat
def tw10775438786398666079:=Nat
def tw12311232282575122303:=Nat
def tw11221916943045279647:=Nat
def tw2010395955500995998:=Nat
def tw11002672537518351390:=Nat
def tw11311086150202837566:=Nat
def tw90691305648394846:=Nat
def tw15724023854256845982:=Nat
def tw4064970060708140190:=Nat
def tw4005997385640520894:=Nat
def tw9643850322673862398:=Nat
def tw10238215505963213598:=Nat
def tw1026761691827749822:=Nat
def tw7720661756708634558:=Nat
def tw16974772290128803358:=Nat
def tw6837763558111804478:=Nat
def tw3515196823063402142:=Nat
def tw2847940328025435806:=Nat
def tw8946800715112571102:=Nat
def tw7289494524918061342:=Nat
def tw13565149268823114953:=Nat
def tw10486744777372174569:=Nat
def tw716321114384788809:=Nat
def tw13984027331653336041:=Nat
def tw5253132200705021801:=Nat
def tw14160901948128356201:=Nat
def tw9307812610685655913:=Nat
def tw4777274414501695945:=Nat
def tw8131221512379847689:=Nat
def tw15170946996150326889:=Nat
def tw2093413190961603688:=Nat
def tw15850008566263651464:=Nat
def tw3926467644233143432:=Nat
def tw11152420679831159976:=Nat
def tw10618373990676466984:=Nat
def tw6440514299986954120:=Nat
def tw15820915787821525000:=Nat
def tw11395932344111028296:=Nat
def tw8376778062399839432:=Nat
def tw2307518575496431400:=Nat
def tw13166538418887702888:=Nat
def tw6274731106960049544:=Nat
def tw10807414526390196648:=Nat
def tw16217100914439511016:=Nat
def tw10044680187412095976:=Nat
def tw8061966311685402120:=Nat
def tw10184226236175345691:=Nat
def tw13628490510313215003:=Nat
def tw8823078580598864923:=Nat
def tw10736099854018449467:=Nat
def tw16945208066343900251:=Nat
def tw6796036615998320731:=Nat
def tw14206903800727016059:=Nat
def tw5327245776692017851:=Nat
def tw1202900515407560507:=Nat
def tw12597622705808018811:=Nat
def tw15437251879597782459:=Nat
def tw3752305359692742619:=Nat
def tw4933626921767639003:=Nat
def tw9955858366417047067:=Nat
def tw941556567265914459:=Nat
def tw8996245071438158555:=Nat
def tw16360277052341497115:=Nat
def tw7075966349253552443:=Nat
def tw8879391863921393563:=Nat
def tw553116775018376123:=Nat
def tw532336395253263291:=Nat
def tw9202655417022355387:=Nat
def tw16245070275570490875:=Nat
def tw3331753794671590907:=Nat
def tw8523890553156610555:=Nat
def tw11036298308240615194:=Nat
def tw5092375220803064602:=Nat
def tw16028975026566739322:=Nat
def tw536052762648847738:=Nat
def tw3666568208626343834:=Nat
def tw18379828753487342522:=Nat
def tw1142719426417632794:=Nat
def tw16634181027145926298:=Nat
def tw13544369414999573754:=Nat
def tw9126991363728835866:=Nat
def tw10556920320902002490:=Nat
def tw7867224822464305978:=Nat
def tw12876044018003623770:=Nat
def tw390800143468856954:=Nat
def tw11025508209104347290:=Nat
def tw11349645846641285274:=Nat
def tw9551218317777735218:=Nat
def tw6812314048793400444:=Nat
def tw13442049905096049167:=Nat
def tw5084548151572226080:=Nat
def tw2483087762541921098:=Nat
def tw14839021936354295891:=Nat
def tw540665654869136683:=Nat
def tw4490068622305353356:=Nat
def tw13593572926431056369:=Nat
def tw9920181262845769084:=Nat
def tw968603743163880614:=Nat
def tw11182524764162287924:=Nat
def tw16011307047308716045:=Nat
def tw6723136929485025999:=Nat
def tw10617009120522567911:=Nat
def tw17435999543758055841:=Nat
def tw9630940261796235696:=Nat
end PySem.W.Fast
open PySem PySem.W PyProof.Rows
set_option maxRecDepth 100000 in
set_option maxHeartbeats 0 in
theorem PySem.Challenge.cw_byestand_k16_whole_walked_as_guided_holds : PySem.Challenge.rw_byestand_k16_whole_walked_as_guided.Holds := by
 w_on;o_law;k_head;(case hw=>w_witness2)
 k_fill
 first | refine My.walk (l:=PySem.Challenge.rw_byestand_k16_whole_walked_as_guided) (tbl:=446) (c:=448) rfl rfl (fun w h Y=>⟨PySem.W.km_in_of Y,PySem.W.km_tabs_of Y _ (by decide)⟩) (fun P=>⟨rfl,rfl⟩) ?F
 case F=>
  intro w mg fa h KX G hmg;refine' My.all_mk KX G hmg (Ev.cZ ?_ ?_ ?_ ?_) (Ev.cZ ?_ ?_ ?_ ?_) (Ev.cZ ?_ ?_ ?_ ?_) (Ev.cZ ?_ ?_ ?_ ?_) (Ev.cZ ?_ ?_ ?_ ?_) (Ev.cZ ?_ ?_ ?_ ?_) (Ev.cZ ?_ ?_ ?_ ?_) (Ev.cZ ?_ ?_ ?_ ?_) (Ev.cZ ?_ ?_ ?_ ?_) (Ev.cZ ?_ ?_ ?_ ?_) (Ev.cZ ?_ ?_ ?_ ?_) (Ev.cZ ?_ ?_ ?_ ?_) (Ev.cZ ?_ ?_ ?_ ?_) (Ev.cZ ?_ ?_ ?_ ?_) (Ev.cZ ?_ ?_ ?_ ?_) (Ev.cZ ?_ ?_ ?_ ?_) (Ev.cZ ?_ ?_ ?_ ?_) (Ev.cZ ?_ ?_ ?_ ?_) (Ev.cZ ?_ ?_ ?_ ?_) (Ev.cZ ?_ ?_ ?_ ?_) (Ev.cZ ?_ ?_ ?_ ?_) (Ev.cZ ?_ ?_ ?_ ?_) (Ev.cZ ?_ ?_ ?_ ?_) (Ev.cZ ?_ ?_ ?_ ?_) (Ev.cZ ?_ ?_ ?_ ?_) ?_ ?_ ?_ ?_ ?_ ?_ ?_ ?_ ?_ ?_ ?_ ?_ (Ev.nP ?_ ?_ ?_ ?_ ?_) (Ev.nP ?_ ?_ ?_ ?_ ?_) (Ev.nP ?_ ?_ ?_ ?_ ?_) (Ev.nP ?_ ?_ ?_ ?_ ?_) (Ev.nP ?_ ?_ ?_ ?_ ?_) (Ev.nP ?_ ?_ ?_ ?_ ?_) (Ev.nP ?_ ?_ ?_ ?_ ?_) (Ev.nP ?_ ?_ ?_ ?_ ?_) (Ev.nP ?_ ?_ ?_ ?_ ?_) (Ev.nP ?_ ?_ ?_ ?_ ?_) (Ev.nP ?_ ?_ ?_ ?_ ?_) (Ev.uR ?_ ?_ ?_ ?_ ?_) (Ev.uR ?_ ?_ ?_ ?_ ?_) (Ev.uR ?_ ?_ ?_ ?_ ?_) (Ev.uR ?_ ?_ ?_ ?_ ?_) (Ev.uR ?_ ?_ ?_ ?_ ?_) (Ev.uR ?_ ?_ ?_ ?_ ?_) (Ev.uR ?_ ?_ ?_ ?_ ?_) ?_ ?_ ?_ ?_ ?_ ?_ ?_ ?_ ?_ (Ev.aef ?_ ?_ ?_ ?_) (Ev.xW ?_ ?_ ?_ ?_ ?_ ?_ ?_ ?_) (Ev.xW ?_ ?_ ?_ ?_ ?_ ?_ ?_ ?_) (Ev.xW ?_ ?_ ?_ ?_ ?_ ?_ ?_ ?_) (Ev.xW ?_ ?_ ?_ ?_ ?_ ?_ ?_ ?_) (Ev.xW ?_ ?_ ?_ ?_ ?_ ?_ ?_ ?_) (Ev.xW ?_ ?_ ?_ ?_ ?_ ?_ ?_ ?_) ?_ ?_ ?_ ?_ ?_ ?_ ?_ ?_ ?_ ?_ ?_ ?_ ?_ ?_ ?_ ?_ ?_ ?_ ?_ ?_ ?_ ?_ ?_ ?_ ?_ ?_ ?_ ?_ ?_ ?_ ?_ ?_ ?_
  all_goals try first | k_is | rfl
