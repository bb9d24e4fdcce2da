import PyProof.Rows.All
import Wide.All
import OpenK.AllK
import Wide.FinOn
import Lean
import PyProof.EqAt
import PyProof.EqKinds
import PyProof.TupleCall
import PySem.Challenge.RW_byestand_k22_turned_rounds_refused
import KE.KNestM
import KE.KRevSl
set_option Elab.async false
set_option linter.all false
set_option maxRecDepth 100000
set_option genSizeOf false
noncomputable section
theorem a_{a b c:Nat}(h:a<b)(k:b<=c):a<c:=Nat.lt_of_lt_of_le h k
theorem aG(n:Nat):n<=n:=Nat.le_refl n
theorem bB{α:Type _}{xs:List α}{i:Nat}{a:α}(h:xs[i]? =some a):∃ h:i<xs.length,xs[i] =a:=List.getElem?_eq_some_iff.mp h
abbrev ao:=PySem.W.Frag
def bK:= @List.length_map
def bH:= @decide_eq_true
def bM:= @decide_eq_false
def dJ:= @PySem.Heap.get?_push_of_some
def gY:= @List.getElem?_eq_getElem
def dw:= @of_decide_eq_true
def lJ:= @List.getElem?_append_right
def eN:= @List.getElem?_map
def cF:= @PySem.Heap.lt_size
def ji:= @List.length_append
def iI:= @List.mem_cons_of_mem
def gF:= @Bool.false_ne_true
def gj:= @List.size_toArray
def ju:= @List.mem_of_getElem?
def gG:= @List.length_cons
def jT:= @PySem.Heap.get?_push_size
def pG:= @List.getElem?_append_left
def gH:= @Option.some.inj
def kE:= @List.prefix_append
def aA:= @if_neg
def aB:= @if_pos
def aO:= @PySem.wpAny_bind
def bN:= @PySem.wpAny_pure
def aK:= @absurd
def qI:= @List.mem_cons_self
abbrev aj:=PySem.Shared
abbrev aR:=PySem.FuncData
namespace L2
open PySem PySem.Spec PyProof.Rows
abbrev Key:=Sum Int Str
def Dl:Key->Value->Bool
 | .inl k,v=>Value.isInt k v
 | .inr x,v=>Value.isStrOf x v
def afd(w:World):Key->Int
 | .inl k=>hashInt k
 | .inr x=>hashStr w x
def iJ:∀ {k:Key} {v:Value},Dl k v=true->(∃ i t,k=Sum.inl i/\v=Value.int i t)\/(∃ x t,k=Sum.inr x/\v=Value.str x t)
 | .inl i,v,h=>by
   obtain⟨t,e⟩:=Value.isInt_shape (k:=i) (v:=v) h
   exact .inl ⟨i,t,rfl,e⟩
 | .inr x,v,h=>by
   obtain⟨t,e⟩:=Value.isStrOf_shape (x:=x) (v:=v) h;exact .inr ⟨x,t,rfl,e⟩
def Vy(i:Int)(t:Tok):Dl (.inl i) (.int i t)=true:=by simp[Dl,Value.isInt]
def Vz(x:Str)(t:Tok):Dl (.inr x) (.str x t)=true:=by simp[Dl,Value.isStrOf]
def abQ(a b:Int):decide ((Sum.inl a:Key)=Sum.inl b)=(a==b):=by
 by_cases e:a=b
 · subst e;simp
 · have h:¬ (Sum.inl a:Key)=Sum.inl b:=fun q=>e (Sum.inl.inj q);rw[bM h];exact(beq_eq_false_iff_ne.mpr e).symm
def abR(a b:Str):decide ((Sum.inr a:Key)=Sum.inr b)=decide (a=b):=by
 by_cases e:a=b
 · subst e;simp
 · have h:¬ (Sum.inr a:Key)=Sum.inr b:=fun q=>e (Sum.inr.inj q);rw[bM h,bM e]
def abS(a:Int)(b:Str):decide ((Sum.inl a:Key)=Sum.inr b)=false:=bM (fun q=>nomatch q)
def abT(a:Str)(b:Int):decide ((Sum.inr a:Key)=Sum.inl b)=false:=bM (fun q=>nomatch q)
def gM(prog:Program)(w:World):PySem.KeyKind prog w Key where
 is:=Dl
 hash:=afd w
 inj:=fun v a b ha hb=>by
  rcases iJ ha with ⟨i,t,rfl,rfl⟩ | ⟨x,t,rfl,rfl⟩
  · rcases iJ hb with ⟨j,u,rfl,e⟩ | ⟨y,u,rfl,e⟩
    · injection e with e1 _;rw[e1]
    · exact nomatch e
  · rcases iJ hb with ⟨j,u,rfl,e⟩ | ⟨y,u,rfl,e⟩
    · exact nomatch e
    · injection e with e1 _;rw[e1]
 byValue:=fun k v h=>by
  rcases iJ h with ⟨i,t,rfl,rfl⟩ | ⟨x,t,rfl,rfl⟩ <;> rfl
 pyHash:=fun hv h=>by
  rcases iJ hv with ⟨i,t,rfl,rfl⟩ | ⟨x,t,rfl,rfl⟩
  · exact wpAny_pyHash_int h
  · exact wpAny_pyHash_str h
 eqBool:=fun hu hv h=>by
  rcases iJ hu with ⟨i,t,rfl,rfl⟩ | ⟨x,t,rfl,rfl⟩
  · rcases iJ hv with ⟨j,u,rfl,rfl⟩ | ⟨y,u,rfl,rfl⟩
    · rw[abQ]at h;exact wpAny_eqBool_int h
    · rw[abS]at h;exact SeqAt.EqAt.int_str i t y u _ _ _ _ h
  · rcases iJ hv with ⟨j,u,rfl,rfl⟩ | ⟨y,u,rfl,rfl⟩
    · rw[abT]at h;exact SeqAt.EqAt.str_int x t j u _ _ _ _ h
    · rw[abR]at h;exact wpAny_eqBool_str h
 «strs»:=fun k x t v h=>by
  rcases iJ h with ⟨i,u,rfl,e⟩ | ⟨y,u,rfl,e⟩
  · exact nomatch e
  · injection e with e1 _;subst e1;cases v <;> rfl
def QV(prog:Program)(w:World)(i:Int)(t:Tok):(gM prog w).is (.inl i) (.int i t)=true:=Vy i t
def QW(prog:Program)(w:World)(x:Str)(t:Tok):(gM prog w).is (.inr x) (.str x t)=true:=Vz x t
inductive V where
 | non | bl (b:Bool) | int (i:Int) | str (x:Str) | byt (b:Array UInt8) | flt (b:UInt64) | ref (a:Addr) | ty (n:String)
 deriving DecidableEq
def RelV:V->Value->Prop
 | .non,u=>u=Value.none
 | .bl b,u=>u=Value.bool b
 | .int i,u=>∃ t,u=Value.int i t
 | .str x,u=>∃ t,u=Value.str x t
 | .byt b,u=>∃ t,u=Value.bytes b t
 | .flt b,u=>∃ t,u=Value.float b t
 | .ref a,u=>u=Value.ref a
 | .ty n,u=>u=Value.type n
abbrev Vals:List V->List Value->Prop:=Paired RelV
def Vals.length{xs:List V}{us:List Value}(r:Vals xs us):xs.length=us.length:=Paired.length r
def Vals.get:∀ {xs:List V} {us:List Value} {i:Nat} {x:V},Vals xs us->xs[i]? =some x->∃ u,us[i]? =some u/\RelV x u
 | _,_,_,_,.nil,e=>by simp at e
 | _,_,0,_,.cons r _,e=>by simp at e;subst e;exact⟨_,rfl,r⟩
 | _,_,i+1,x,.cons _ t,e=>by
   obtain⟨u,h1,h2⟩:=Vals.get (i:=i) (x:=x) t (by simpa using e);exact⟨u,by simpa using h1,h2⟩
def Vals.append:∀ {xs ys:List V} {us ws:List Value},Vals xs us->Vals ys ws->Vals (xs++ys) (us++ws)
 | _,_,_,_,.nil,s=>s
 | _,_,_,_,.cons r t,s=>.cons r (Vals.append t s)
def Vals.take:∀ {xs:List V} {us:List Value} (n:Nat),Vals xs us->Vals (xs.take n) (us.take n)
 | _,_,0,_=>.nil
 | _,_,_+1,.nil=>.nil
 | _,_,n+1,.cons r t=>.cons r (Vals.take n t)
def Vals.drop:∀ {xs:List V} {us:List Value} (n:Nat),Vals xs us->Vals (xs.drop n) (us.drop n)
 | _,_,0,r=>r
 | _,_,_+1,.nil=>.nil
 | _,_,n+1,.cons _ t=>Vals.drop n t
def oN:Option V->Option Value->Prop
 | some v,some u=>RelV v u
 | none,none=>True
 | _,_=>False
def KV{κ:Type}:List (κ × V)->List (κ × Value)->Prop:=Paired fun(p:κ × V) (q:κ × Value)=>p.1=q.1/\RelV p.2 q.2
def kV:Key->V
 | .inl i=>.int i
 | .inr x=>.str x
inductive HO where
 | lst (xs:List V)
 | tup (xs:List V)
 | dK (kvs:List (Key × V)) | dT (kvs:List (List Key × V))
 | set (S:Int->Bool) (n:Nat)
 | ins (C dx:Addr) (fs:List (Str × V))
 | own (x:Addr)
 | xd (fs:List (Str × V))
 | met (f x:Addr)
 | rng (lo hi:Int)
 | frz (o:Obj) (u:HO)
 | tbl (ps:Array Value)
 | ext (φ:Heap->Prop)
abbrev Hp:=Addr->Option HO
def upd(H:Hp)(a:Addr)(o:HO):Hp:=fun b=>if b=a then some o else H b
def aJ{H:Hp}{a:Addr}{o:HO}:upd H a o a=some o:=by unfold upd;rw[aB rfl]
def aN{H:Hp}{a b:Addr}{o:HO}(h:b ≠ a):upd H a o b=H b:=by unfold upd;rw[aA h]
def aaI{H:Hp}{a:Addr}{o u:HO}:upd (upd H a o) a u=upd H a u:=by
 funext b;unfold upd;split <;> rfl
def ZS{H:Hp}{a b:Addr}{o u:HO}(h:H a=some o)(h':H b=some u)(d:o ≠ u):a ≠ b:=by
 intro e;subst e;rw[h]at h';exact d (gH h')
def cu{H:Hp}{a b:Addr}{o:HO}(h:H a=some o)(h':H b=none):a ≠ b:=by
 intro e;subst e;rw[h]at h';cases h'
section
variable(P:Program)(w:World)
def dg(H:Hp)(h:Heap)(a:Addr):HO->Prop
 | .lst xs=>xs.length<=sizeLine/\∃(its:List Value) (n:Nat),Vals xs its/\h.get? a=some { cls:=.type "list",data:=.seq its.toArray n }
 | .tup xs=>xs.length<=sizeLine/\∃ its:List Value,Vals xs its/\IsTup h a its.toArray
 | .dK kvs=>kvs.length<=sizeLine/\(a==sysModules)=false/\∃ vs,KV kvs vs/\h.DictOf (gM P w) a vs
 | .dT kvs=>kvs.length<=sizeLine/\(a==sysModules)=false/\∃ xs:List (List Key × Addr × Value),
    Paired (fun(p:List Key × V) (q:List Key × Addr × Value)=>p.1=q.1/\H q.2.1=some (.tup (p.1.map kV))/\RelV p.2 q.2.2) kvs xs/\
    ∃ o es ep,h.get? a=some o/\o.ExactDict/\o.data= .dict es ep/\es.toList=xs.map (entryOfKey (tupleKind (gM P w)))/\(xs.map (·.1)).Nodup
 | .set S n=>h.SetOf (intKind P w) a S n
 | .ins C dx fs=>H dx=some (.own a)/\fs.length<=1000/\dx ≠ a/\h.get? a=some (PySem.W.instObj C dx)/\
    ∃ mA,h.Ns1 dx mA/\(∀ f,oN (fs.lookup f) (mA f))/\PySem.Within mA (fs.map (·.1))
 | .own _=>∃ o,h.get? a=some o
 | .xd fs=>∃ mA,h.Ns1 a mA/\∀ f,oN (fs.lookup f) (mA f)
 | .rng lo hi=>∃ t u v,h.get? a=some { cls:=.type "range",data:=.fields #[.int lo t,.int hi u,.int 1 v] }
 | .frz o u=>h.get? a=some o/\dg H h a u
 | .tbl ps=>h.get? a=some { cls:=.none,data:=.fields ps }
 | .met f x=>h.get? a=some (PySem.W.methodObj (.ref f) (.ref x))
 | .ext φ=>φ h/\(∃ o,h.get? a=some o)/\∀ h1 h2:Heap,φ h1->(∀ o,h1.get? a=some o->h2.get? a=some o)->φ h2
def HOk(H:Hp)(h:Heap):Prop:=∀ a o,H a=some o->dg P w H h a o
end
section
variable{P:Program}{w:World}{H H':Hp}{h h':Heap}{a:Addr}{o:HO}
def dg.lt(x:dg P w H h a o):a<h.objs.size:=by
 cases o with
 | lst xs=>obtain⟨_,_,_,_,e⟩:=x;exact cF e
 | tup xs=>obtain⟨_,_,_,p⟩:=x;exact p.lt
 | dK kvs=>obtain⟨_,_,_,_,o,_,_,e,_⟩:=x;exact cF e
 | dT kvs=>obtain⟨_,_,_,_,o,_,_,e,_⟩:=x;exact cF e
 | set S n=>obtain⟨o,_,_,_,e,_⟩:=x;exact cF e
 | ins C dx fs=>obtain⟨_,_,_,e,_⟩:=x;exact cF e
 | own y=>obtain⟨_,e⟩:=x;exact cF e
 | xd fs=>obtain⟨_,⟨_,_,_,e,_⟩,_⟩:=x;exact cF e
 | rng lo hi=>obtain⟨_,_,_,e⟩:=x;exact cF e
 | frz ob u=>obtain⟨e,_⟩:=x;exact cF e
 | tbl ps=>exact cF (show h.get? a=some _ from x)
 | met f y=>exact cF (show h.get? a=some _ from x)
 | ext φ=>obtain⟨_,⟨_,e⟩,_⟩:=x;exact cF e
def Paired.pZ{α β:Type}{F G:α->β->Prop}:∀ {l₁:List α} {l₂:List β},Paired F l₁ l₂->(∀ a b,F a b->G a b)->Paired G l₁ l₂
 | _,_,.nil,_=>.nil
 | _,_,.cons r t,f=>.cons (f _ _ r) (Paired.pZ t f)
def dg.stay(x:dg P w H h a o)(k:∀ b u,(b=a\/H b=some (.own a))->h.get? b=some u->h'.get? b=some u)
    (ho:∀ b,H b=some (.own a)->H' b=some (.own a)) (ht:∀ b xs,H b=some (.tup xs)->H' b=some (.tup xs)):dg P w H' h' a o:=by
 induction o with
 | lst xs=>obtain⟨z,its,n,r,e⟩:=x;exact⟨z,its,n,r,k _ _ (.inl rfl) e⟩
 | tup xs=>obtain⟨z,its,r,ob,e,c⟩:=x;exact⟨z,its,r,ob,k _ _ (.inl rfl) e,c⟩
 | dK kvs=>obtain⟨z,y,vs,r,ob,es,ep,e,c⟩:=x;exact⟨z,y,vs,r,ob,es,ep,k _ _ (.inl rfl) e,c⟩
 | dT kvs=>
   obtain⟨z,y,xs,r,ob,es,ep,e,c⟩:=x
   exact⟨z,y,xs,Paired.pZ r fun p q z=>⟨z.1,ht _ _ z.2.1,z.2.2⟩,ob,es,ep,k _ _ (.inl rfl) e,c⟩
 | set S n=>obtain⟨ob,es,ep,t,e,c⟩:=x;exact⟨ob,es,ep,t,k _ _ (.inl rfl) e,c⟩
 | ins C dx fs=>
   obtain⟨d,z,ne,e,mA,⟨od,es,ep,e2,c⟩,r⟩:=x
   exact⟨ho _ d,z,ne,k _ _ (.inl rfl) e,mA,⟨od,es,ep,k _ _ (.inr d) e2,c⟩,r⟩
 | own y=>obtain⟨ob,e⟩:=x;exact⟨ob,k _ _ (.inl rfl) e⟩
 | xd fs=>obtain⟨mA,⟨od,es,ep,e,c⟩,r⟩:=x;exact⟨mA,⟨od,es,ep,k _ _ (.inl rfl) e,c⟩,r⟩
 | rng lo hi=>obtain⟨t,u,v,e⟩:=x;exact⟨t,u,v,k _ _ (.inl rfl) e⟩
 | frz ob u ih=>obtain⟨e,q⟩:=x;exact⟨k _ _ (.inl rfl) e,ih q⟩
 | tbl ps=>
   have e:h.get? a=some { cls:=.none,data:=.fields ps }:=x;show h'.get? a=some { cls:=.none,data:=.fields ps }
   exact k a _ (.inl rfl) e
 | met f y=>
   have e:h.get? a=some (PySem.W.methodObj (.ref f) (.ref y)):=x;show h'.get? a=some (PySem.W.methodObj (.ref f) (.ref y))
   exact k a _ (.inl rfl) e
 | ext φ=>obtain⟨p,⟨o,e⟩,st⟩:=x;exact⟨st _ _ p fun o q=>k _ _ (.inl rfl) q,⟨o,k _ _ (.inl rfl) e⟩,st⟩
def HOk.lt(x:HOk P w H h)(e:H a=some o):a<h.objs.size:=(x a o e).lt
def HOk.fresh(x:HOk P w H h)(e:h.objs.size<=a):H a=none:=by
 cases q:H a with
 | none=>rfl
 | some u=>exact aK (a_ (x.lt q) e) (Nat.lt_irrefl _)
def HOk.kept(x:HOk P w H h)(k:∀ b u,h.get? b=some u->h'.get? b=some u):HOk P w H h':=fun a o e=>
 (x a o e).stay (fun b u _ q=>k b u q) (fun _ q=>q) fun _ _ q=>q
def HOk.laid(x:HOk P w H h)(k:∀ b u,h.get? b=some u->h'.get? b=some u)(hp:h.objs.size<=a)(new:dg P w (upd H a o) h' a o):HOk P w (upd H a o) h':=fun b u e=>by
 have hn:=x.fresh hp
 by_cases hb:b=a
 · subst hb;rw[aJ]at e;cases e;exact new
 · rw[aN hb]at e;exact(x b u e).stay (fun c v _ q=>k c v q) (fun c q=>by rw[aN (cu q hn)];exact q) fun c xs q=>by rw[aN (cu q hn)];exact q
end
def Rd(H:Hp)(a:Addr)(u:HO):Prop:=H a=some u\/∃ o,H a=some (.frz o u)
def Rd.ok{P:Program}{w:World}{H:Hp}{h:Heap}{a:Addr}{u:HO}(r:Rd H a u)(x:HOk P w H h):dg P w H h a u:=by
 rcases r with r | ⟨o,r⟩
 · exact x a u r
 · obtain⟨_,q⟩:=x a _ r;exact q
def Mut:Option HO->Prop
 | some (.lst _)=>True
 | some (.dK _)=>True
 | some (.dT _)=>True
 | some (.set _ _)=>True
 | some (.ins _ _ _)=>True
 | some (.ext _)=>True
 | _=>False
section
variable{P:Program}{w:World}{H:Hp}{h h':Heap}{x e:Addr}{o':HO}
def HOk.write(ok:HOk P w H h)(mu:Mut (H x))(he:e=x\/H e=some (.own x))(k:∀ b u,b ≠ e->h.get? b=some u->h'.get? b=some u)(heo:∃ u,h'.get? e=some u)
    (new:dg P w (upd H x o') h' x o'):HOk P w (upd H x o') h':=fun b u q=>by
 have abU:∀ c y,H c=some (.own y)->c ≠ x:=fun c y r z=>by subst z;rw[r]at mu;exact mu
 have afe:∀ c xs,H c=some (.tup xs)->c ≠ x:=fun c xs r z=>by subst z;rw[r]at mu;exact mu
 by_cases hb:b=x
 · subst hb;rw[aJ]at q;cases q;exact new
 · rw[aN hb]at q
   by_cases hbe:b=e
   · have q':H b=some (.own x):=by
      rcases he with z | z
      · exact aK (hbe.trans z) hb
      · rw[hbe];exact z
     rw[q]at q';cases q';obtain⟨v,hv⟩:=heo;exact⟨v,by rw[hbe];exact hv⟩
   · refine(ok b u q).stay (fun c v hc r=>k c v ?_ r) (fun c r=>by rw[aN (abU c b r)];exact r) fun c xs r=>by rw[aN (afe c xs r)];exact r
     rcases hc with rfl | hc
     · exact hbe
     · rintro rfl
       rcases he with z | z
       · exact abU c b hc z
       · rw[hc]at z;cases z;exact hb rfl
end
structure Un (fs ex:List Addr)(H H':Hp)(h h':Heap):Prop where
 keep:∀ b o,h.get? b=some o->H b=none->b ∉ fs->b ∉ ex->h'.get? b=some o
 slot:∀ b o,h.get? b=some o->H b=none->b ∈ fs->b ∉ ex->∃ sl,h'.get? b=some { o with slots:=sl }
 free:∀ b o,h.get? b=some o->H b=none->b ∉ ex->H' b=none
 there:∀ b o,h.get? b=some o->b ∉ ex->∃ o',h'.get? b=some o'
 tups:∀ b xs,H b=some (.tup xs)->H' b=some (.tup xs)
 oO:∀ b o u,H b=some (.frz o u)->H' b=some (.frz o u)
 oR:∀ b ps,H b=some (.tbl ps)->∃ more,H' b=some (.tbl (ps++more))
section
variable{fs fs' ex ex':List Addr}{H H1 H2:Hp}{h h1 h2 h':Heap}{a x e:Addr}{o:HO}
def Un.any(u:Un fs ex H H1 h h1){b:Addr}{ob:Obj}(q:h.get? b=some ob)(n:H b=none)(hx:b ∉ ex):∃ sl,h1.get? b=some { ob with slots:=sl }:=by
 by_cases hb:b ∈ fs
 · exact u.slot b ob q n hb hx
 · exact⟨ob.slots,u.keep b ob q n hb hx⟩
def Un.trans(a:Un fs ex H H1 h h1)(b:Un fs ex H1 H2 h1 h2):Un fs ex H H2 h h2 where
 keep:=fun c ob q n hc hx=>b.keep c ob (a.keep c ob q n hc hx) (a.free c ob q n hx) hc hx
 slot:=fun c ob q n hc hx=>by
  obtain⟨sl,e1⟩:=a.slot c ob q n hc hx;obtain⟨sl',e2⟩:=b.slot c _ e1 (a.free c ob q n hx) hc hx;exact⟨sl',e2⟩
 free:=fun c ob q n hx=>by
  obtain⟨o',e1⟩:=a.there c ob q hx;exact b.free c o' e1 (a.free c ob q n hx) hx
 there:=fun c ob q hx=>by
  obtain⟨o',e1⟩:=a.there c ob q hx;exact b.there c o' e1 hx
 tups:=fun c xs q=>b.tups c xs (a.tups c xs q)
 oO:=fun c ob xs q=>b.oO c ob xs (a.oO c ob xs q)
 oR:=fun c ps q=>by
  obtain⟨m1,e1⟩:=a.oR c ps q;obtain⟨m2,e2⟩:=b.oR c _ e1;exact⟨m1++m2,by rw[e2,Array.append_assoc]⟩
def Un.kept(k:∀ b u,h.get? b=some u->h'.get? b=some u):Un fs ex H H h h':=
 ⟨fun b ob q _ _ _=>k b ob q,fun b ob q _ _ _=>⟨ob.slots,k b ob q⟩,fun _ _ _ n _=>n,fun b ob q _=>⟨ob,k b ob q⟩,fun _ _ q=>q,fun _ _ _ q=>q,fun _ ps q=>⟨#[],by rw[q];simp⟩⟩
def Un.refl:Un fs ex H H h h:=Un.kept fun _ _ q=>q
def Un.laid(k:∀ b u,h.get? b=some u->h'.get? b=some u)(hp:h.objs.size<=a)(hn:H a=none):Un fs ex H (upd H a o) h h' where
 keep:=fun b u q _ _ _=>k b u q
 slot:=fun b u q _ _ _=>⟨u.slots,k b u q⟩
 free:=fun b u q n _=>by rw[aN (Nat.ne_of_lt (a_ (cF q) hp))];exact n
 there:=fun b u q _=>⟨u,k b u q⟩
 tups:=fun b xs q=>by rw[aN (cu q hn)];exact q
 oO:=fun b u xs q=>by rw[aN (cu q hn)];exact q
 oR:=fun b ps q=>⟨#[],by rw[aN (cu q hn),q];simp⟩
def Un.write(mu:Mut (H x))(he:e=x\/H e=some (.own x))(k:∀ b u,b ≠ e->h.get? b=some u->h'.get? b=some u)(heo:∃ u,h'.get? e=some u):Un fs ex H (upd H x o) h h':=by
 have hx:∀ b,H b=none->b ≠ x:=fun b n z=>by subst z;rw[n]at mu;exact mu
 have hb:∀ b,H b=none->b ≠ e:=fun b n z=>by
  subst z
  rcases he with r | r
  · exact hx b n r
  · rw[n]at r;cases r
 have hm:∀ b u,H b=some u->¬ Mut (some u)->b ≠ x:=fun b u q nm z=>by subst z;rw[q]at mu;exact nm mu
 refine⟨fun b u q n _ _=>k b u (hb b n) q,fun b u q n _ _=>⟨u.slots,k b u (hb b n) q⟩,fun b u q n _=>by rw[aN (hx b n)];exact n,fun b u q _=>?_,
  fun b xs q=>by rw[aN (hm b _ q fun z=>z)];exact q,fun b u xs q=>by rw[aN (hm b _ q fun z=>z)];exact q,fun b ps q=>⟨#[],by rw[aN (hm b _ q fun z=>z),q];simp⟩⟩
 by_cases hbe:b=e
 · subst hbe;exact heo
 · exact⟨u,k b u hbe q⟩
def Un.mono(u:Un fs ex H H1 h h1)(hs:∀ b ∈ fs,b ∈ fs')(hx:∀ b ∈ ex,b ∈ ex'):Un fs' ex' H H1 h h1:=
 ⟨fun b ob q n hb he=>u.keep b ob q n (fun z=>hb (hs b z)) fun z=>he (hx b z),fun _ _ q n _ he=>u.any q n fun z=>he (hx _ z),fun b ob q n he=>u.free b ob q n fun z=>he (hx b z),fun b ob q he=>u.there b ob q fun z=>he (hx b z),u.tups,u.oO,u.oR⟩
end
def trk(h:Heap)(H:Hp):List Addr:=(List.range h.objs.size).filter fun a=>(H a).isSome
def xV(h:Heap)(H:Hp):Heap:=PySem.W.hideAll h (trk h H)
def VB(h:Heap)(H:Hp):(xV h H).objs.size=h.objs.size:=PySem.W.hideAll_size _ _
def Yg{h:Heap}{H:Hp}{b:Addr}{o:Obj}(e:h.get? b=some o)(n:H b=none):(xV h H).get? b=some o:=
 PySem.W.hideAll_get _ e fun hm=>by
  have q:(H b).isSome=true:=(List.mem_filter.mp hm).2;rw[n]at q;simp at q
def aaJ{h:Heap}{H:Hp}{b:Addr}{o:Obj}(e:(xV h H).get? b=some o):h.get? b=some o/\H b=none:=by
 have e':h.get? b=some o:=PySem.W.of_hideAll (trk h H) e;refine⟨e',?_⟩
 cases q:H b with
 | none=>rfl
 | some x=>
   have hm:b ∈ trk h H:=List.mem_filter.mpr ⟨List.mem_range.mpr (cF e'),by simp[q]⟩;have z:(xV h H).get? b=none:=PySem.W.hideAll_none (trk h H) hm;rw[z]at e;cases e
def aaK(g h:Heap)(L:Addr):List (Addr × Obj):=(List.range h.objs.size).filterMap fun a=>if a=L\/(g.get? a).isSome=true then none else(h.get? a).map fun o=>(a,o)
def rest(g h:Heap)(L d:Addr):List (Addr × Obj):=(aaK g h L).filter fun p=>decide (p.1 ≠ d)
structure Mod (K:ao)(mg:Str->Option Value)(base:Heap):Prop where
 kin:K.In base
 glob:base.Ns mainGlobals mg
 blt:∃ mb,base.Ns builtinsNs mb/\∀ x:Str,x ≠ "__name__"->mb x=bootBuiltins x
 nolimit:base.NoLimit
structure Cx where
 prog:Program
 w:World
 K:ao
 mg:Str->Option Value
 base:Heap
 A:Around
 N:List Str
 s₀:aj
 H₀:Hp
 env:Env
 outer:List Env
 stack:List Env
 ex:List Addr
 fn:Str->Bool
 calm:Bool
 pn:List (Addr × Obj)
 xe:Value->aj->Prop
def frs(l:List Env):List Addr:=l.filterMap (·.frame)
abbrev Cx.fs(X:Cx):List Addr:=frs X.outer
def Vis(sc:Scope)(x:Str):Prop:=sc.names.lookup x=some .local\/sc.names.lookup x=some .cell\/sc.names.lookup x=some .free
def Loc(sc:Scope)(x:Str):Prop:=sc.names.lookup x=some .local\/sc.names.lookup x=some .cell
def Look(env:Env)(h:Heap)(m:Str->Option Value)(x:Str)(u:Value):Prop:=
 (env.kindOf x=some .local/\m x=some u)\/((env.kindOf x=some .cell\/env.kindOf x=some .free)/\∃ c,env.cells.lookup x=some c/\h.IsCell c (some u))
structure Cx.Ok (X:Cx):Prop where
 mod:Mod X.K X.mg X.base
 kind:X.env.scope.kind= .function
 glob:X.env.globals=mainGlobals
 blt:X.env.builtins=builtinsNs
 above:X.s₀.heap.objs.size<=X.env.locals
 inj:∀ x y c,X.env.cells.lookup x=some c->X.env.cells.lookup y=some c->x=y
 has:∀ x,(X.env.kindOf x=some .cell\/X.env.kindOf x=some .free)->∃ c,X.env.cells.lookup x=some c
 cab:∀ x c,X.fn x=true->X.env.cells.lookup x=some c->X.s₀.heap.objs.size<=c
 hd:X.calm=true->X.A.handled=none
 frames:X.A.frames=some X.stack
 stk:X.stack=X.outer\/(X.stack=X.env::X.outer/\X.env.frame=some X.env.locals)
 exf:∀ b ∈ X.ex,b ≠ X.env.locals/\∀ x c,X.env.cells.lookup x=some c->c ≠ b
 bs:∀ b o,X.base.get? b=some o->X.s₀.heap.get? b=some o/\X.H₀ b=none
 bsz:X.base.objs.size<=X.s₀.heap.objs.size
 uq:∀ b o,X.base.get? b=some o->b ∉ X.ex
 Bq:∀ b ∈ X.ex,b ∉ X.fs
 oU:X.s₀.heap.FunFrames X.base X.outer
 frf:∀ b ∈ X.fs,X.H₀ b=none
structure Inv (X:Cx)(pins:List (Addr × Obj))(σ:List (Option V))(H:Hp)(s:aj):Prop where
 ok:X.Ok
 os:s.os=X.s₀.os
 bare:AllBare s.gens
 base:Un X.fs X.ex X.H₀ H X.s₀.heap s.heap
 loc:∃ m,s.heap.Ns X.env.locals m/\∀(i:Nat) (x:Str) (v:V),X.N[i]? =some x->σ[i]? =some (some v)->Vis X.env.scope x->∃ u,RelV v u/\Look X.env s.heap m x u
 cell:∀ x c,X.env.cells.lookup x=some c->∃ v,s.heap.IsCell c v
 free:H X.env.locals=none
 kI:∀ x c,X.env.cells.lookup x=some c->H c=none
 pin:∀ p ∈ X.pn++pins,s.heap.get? p.1=some p.2/\H p.1=none/\p.1 ≠ X.env.locals/\p.1 ∉ X.fs/\∀ v,p.2.data ≠ .cell v
 hok:HOk X.prog X.w H s.heap
 len:σ.length=X.N.length
section
variable{X:Cx}{pins:List (Addr × Obj)}{σ:List (Option V)}{H H':Hp}{s:aj}{h':Heap}
def Cx.Ok.afg(ok:X.Ok){b:Addr}{o:Obj}(e:X.base.get? b=some o):b ∉ X.fs:=fun hb=>by
 have:=(ok.oU.mem hb).1;rw[e]at this;cases this
def Inv.bs(I:Inv X pins σ H s):∀ b o,X.base.get? b=some o->s.heap.get? b=some o/\H b=none:=fun b o e=>
 ⟨I.base.keep b o (I.ok.bs b o e).1 (I.ok.bs b o e).2 (I.ok.afg e) (I.ok.uq b o e),I.base.free b o (I.ok.bs b o e).1 (I.ok.bs b o e).2 (I.ok.uq b o e)⟩
def Inv.bk(I:Inv X pins σ H s):∀ b o,X.base.get? b=some o->s.heap.get? b=some o:=fun b o e=>(I.bs b o e).1
def Inv.mod(I:Inv X pins σ H s):Mod X.K X.mg X.base:=I.ok.mod
def Inv.kIn(I:Inv X pins σ H s):X.K.In s.heap:=I.ok.mod.kin.keeps I.bk
def Inv.nolimit(I:Inv X pins σ H s):s.heap.NoLimit:=I.ok.mod.nolimit.keeps I.bk
def Inv.fr(I:Inv X pins σ H s):∃ m,Fr X.base X.env.locals s.heap m:=
 let ⟨m,hn,_⟩:=I.loc
 ⟨m,hn,I.bk,Nat.le_trans I.ok.bsz I.ok.above⟩
def Inv.lt(I:Inv X pins σ H s):X.env.locals<s.heap.objs.size:=let ⟨_,hn,_⟩:=I.loc;hn.lt
def Inv.sz(I:Inv X pins σ H s):X.s₀.heap.objs.size<=s.heap.objs.size:=Nat.le_trans I.ok.above (Nat.le_of_lt I.lt)
def Inv.abV(I:Inv X pins σ H s){a:Addr}(h:s.heap.objs.size<=a):a ∉ X.fs:=fun hb=>by
 obtain⟨_,o,ho,_⟩:=I.ok.oU.mem hb;exact aK (a_ (cF ho) (Nat.le_trans I.sz h)) (Nat.lt_irrefl _)
def Inv.cne(I:Inv X pins σ H s):∀ x c,X.env.cells.lookup x=some c->c ≠ X.env.locals:=fun x c e z=>by
 obtain⟨v,o,ho,hd⟩:=I.cell x c e;obtain⟨m,⟨o',es,ep,ho',hd',_⟩,_⟩:=I.loc;rw[z,ho']at ho;cases ho;rw[hd']at hd;cases hd
def Inv.oU(I:Inv X pins σ H s):s.heap.FunFrames X.base X.outer:=by
 have all:∀(l:List Env),(∀ b ∈ frs l,b ∈ X.fs)->X.s₀.heap.FunFrames X.base l->s.heap.FunFrames X.base l:=by
  intro l
  induction l with
  | nil=>intro _ _;trivial
  | cons env r ih=>
    intro hs hl;obtain⟨hk,⟨L,o,hf,hn,ho,hd⟩,hr⟩:=hl;have hL:L ∈ X.fs:=hs L (by unfold frs;rw[List.filterMap_cons,hf];exact qI);obtain⟨sl,e⟩:=I.base.slot L o ho (I.ok.frf L hL) hL fun z=>I.ok.Bq L z hL;exact⟨hk,⟨L,_,hf,hn,e,hd⟩,ih (fun b hb=>hs b (by unfold frs;rw[List.filterMap_cons,hf];exact iI _ hb)) hr⟩
 exact all X.outer (fun _ hb=>hb) I.ok.oU
def Inv.stack(I:Inv X pins σ H s):s.heap.FunFrames X.base X.stack:=by
 rcases I.ok.stk with e | ⟨e,hf⟩
 · rw[e];exact I.oU
 · rw[e];obtain⟨m,hn,_⟩:=I.loc;refine .cons (by rw[I.ok.kind];decide) hf hn ?_ I.oU;exact Heap.get?_none_of_le (Nat.le_trans I.ok.bsz I.ok.above)
def Inv.Br(I:Inv X pins σ H s):∀ b ∈ frs X.stack,b ∈ X.env.locals::X.fs:=fun b hb=>by
 rcases I.ok.stk with e | ⟨e,hf⟩
 · rw[e]at hb;exact iI _ hb
 · rw[e]at hb;unfold frs at hb;rw[List.filterMap_cons,hf]at hb;exact hb
def Inv.sJ(I:Inv X pins σ H s):∀ b ∈ frs X.stack,H b=none:=fun b hb=>by
 rcases List.mem_cons.mp (I.Br b hb) with e | hb
 · rw[e];exact I.free
 · obtain⟨_,o,ho,_⟩:=I.ok.oU.mem hb;exact I.base.free b o ho (I.ok.frf b hb) fun z=>I.ok.Bq b z hb
def Inv.step{g':Array GenState}{t':Nat}{d':Drawn}{ch:List Addr}(I:Inv X pins σ H s)
    (hch:∀ b ∈ ch,(b ∈ X.ex\/X.s₀.heap.objs.size<=b)/\b ≠ X.env.locals/\(∀ x c,X.env.cells.lookup x=some c->c ≠ b)/\∀ p ∈ X.pn++pins,p.1 ≠ b)
    (keep:∀ b o,b ≠ X.env.locals->b ∉ X.fs->b ∉ ch->s.heap.get? b=some o->H b=none->h'.get? b=some o)
    (slot:∀ b o,b ≠ X.env.locals->b ∈ X.fs->b ∉ ch->s.heap.get? b=some o->H b=none->∃ sl,h'.get? b=some { o with slots:=sl }) (free:∀ b o,b ∉ ch->s.heap.get? b=some o->H b=none->H' b=none)
    (there:∀ b o,b ∉ ch->s.heap.get? b=some o->∃ o',h'.get? b=some o')
    (tups:∀ b xs,H b=some (.tup xs)->H' b=some (.tup xs)) (oO:∀ b o u,H b=some (.frz o u)->H' b=some (.frz o u)) (oR:∀ b ps,H b=some (.tbl ps)->∃ more,H' b=some (.tbl (ps++more)))
    (ns:∀ m,s.heap.Ns X.env.locals m->h'.Ns X.env.locals m) (hok:HOk X.prog X.w H' h') (hg:AllBare g'):
    Inv X pins σ H' { s with heap:=h',gens:=g',drawn:=d',toks:=t' }:=by
 have neL:∀ b o,X.s₀.heap.get? b=some o->b ≠ X.env.locals:=fun b o e=>Nat.ne_of_lt (a_ (cF e) I.ok.above)
 have neC:∀ b o,X.s₀.heap.get? b=some o->b ∉ X.ex->b ∉ ch:=fun b o e hx hb=>by
  rcases (hch b hb).1 with z | z
  · exact hx z
  · exact aK (a_ (cF e) z) (Nat.lt_irrefl _)
 have cellK:∀ x c,X.env.cells.lookup x=some c->∀ v,s.heap.IsCell c v->h'.IsCell c v:=fun x c e v ⟨o,ho,hd⟩=>by
  have nch:c ∉ ch:=fun z=>(hch c z).2.2.1 x c e rfl
  by_cases hc:c ∈ X.fs
  · obtain⟨sl,q⟩:=slot c o (I.cne x c e) hc nch ho (I.kI x c e);exact⟨_,q,hd⟩
  · exact⟨o,keep c o (I.cne x c e) hc nch ho (I.kI x c e),hd⟩
 refine⟨I.ok,I.os,hg,⟨fun b o e n hb hx=>?_,fun b o e n hb hx=>?_,fun b o e n hx=>?_,fun b o e hx=>?_,fun b xs e=>tups b xs (I.base.tups b xs e),fun b o xs e=>oO b o xs (I.base.oO b o xs e),fun b ps e=>?_⟩,?_,fun x c e=>?_,?_,fun x c e=>?_,fun p hp=>?_,hok,I.len⟩
 · exact keep b o (neL b o e) hb (neC b o e hx) (I.base.keep b o e n hb hx) (I.base.free b o e n hx)
 · obtain⟨sl,e1⟩:=I.base.slot b o e n hb hx;obtain⟨sl',e2⟩:=slot b _ (neL b o e) hb (neC b o e hx) e1 (I.base.free b o e n hx);exact⟨sl',e2⟩
 · obtain⟨o',e1⟩:=I.base.there b o e hx;exact free b o' (neC b o e hx) e1 (I.base.free b o e n hx)
 · obtain⟨o',e1⟩:=I.base.there b o e hx;exact there b o' (neC b o e hx) e1
 · obtain⟨m1,e1⟩:=I.base.oR b ps e;obtain⟨m2,e2⟩:=oR b _ e1;exact⟨m1++m2,by rw[e2,Array.append_assoc]⟩
 · obtain⟨m,hn,hl⟩:=I.loc;refine⟨m,ns m hn,fun i x v e1 e2 e3=>?_⟩;obtain⟨u,r,l⟩:=hl i x v e1 e2 e3;refine⟨u,r,?_⟩
   rcases l with l | ⟨k,c,e,z⟩
   · exact .inl l
   · exact .inr ⟨k,c,e,cellK x c e _ z⟩
 · obtain⟨v,z⟩:=I.cell x c e;exact⟨v,cellK x c e v z⟩
 · obtain⟨m,⟨o,_,_,ho,_⟩,_⟩:=I.loc;exact free _ o (fun z=>(hch _ z).2.1 rfl) ho I.free
 · obtain⟨v,o,ho,hd⟩:=I.cell x c e;exact free c o (fun z=>(hch c z).2.2.1 x c e rfl) ho (I.kI x c e)
 · obtain⟨e,n,ne,nf,d⟩:=I.pin p hp;have nch:p.1 ∉ ch:=fun z=>(hch p.1 z).2.2.2 p hp rfl;exact⟨keep p.1 p.2 ne nf nch e n,free p.1 p.2 nch e n,ne,nf,d⟩
def Inv.un{t':Nat}(I:Inv X pins σ H s)(u:Un X.fs [] H H' s.heap h')(hok:HOk X.prog X.w H' h'):Inv X pins σ H' { s with heap:=h',toks:=t' }:=by
 obtain⟨m,⟨o,es,ep,ho,r⟩,_⟩:=id I.loc;obtain⟨sl,hL⟩:=u.any ho I.free (by simp)
 exact I.step (g':=s.gens) (d':=s.drawn) (ch:=[]) (fun _ z=>nomatch z) (fun b o _ hb _ e n=>u.keep b o e n hb (by simp)) (fun b o _ hb _ e n=>u.slot b o e n hb (by simp)) (fun b o _ e n=>u.free b o e n (by simp)) (fun b o _ e=>u.there b o e (by simp)) u.tups u.oO u.oR (fun m' hm=>by
  obtain⟨o',es',ep',ho',r'⟩:=hm;rw[ho]at ho';cases ho'
  exact⟨_,es',ep',hL,r'⟩) hok I.bare
def Inv.call{g':Array GenState}{t':Nat}{d':Drawn}{ch:List Addr}(I:Inv X pins σ H s)(u:Un (frs X.stack) ch H H' s.heap h')(hok:HOk X.prog X.w H' h')(hg:AllBare g')
    (hch:∀ b ∈ ch,(b ∈ X.ex\/X.s₀.heap.objs.size<=b)/\b ≠ X.env.locals/\(∀ x c,X.env.cells.lookup x=some c->c ≠ b)/\∀ p ∈ X.pn++pins,p.1 ≠ b):
    Inv X pins σ H' { s with heap:=h',gens:=g',drawn:=d',toks:=t' }:=by
 obtain⟨m,⟨o,es,ep,ho,r⟩,_⟩:=id I.loc;obtain⟨sl,hL⟩:=u.any ho I.free fun z=>(hch _ z).2.1 rfl
 exact I.step (ch:=ch) hch (fun b o hL hb hc e n=>u.keep b o e n (fun z=>(List.mem_cons.mp (I.Br b z)).elim hL hb) hc) (fun b o _ _ hc e n=>u.any e n hc) (fun b o hc e n=>u.free b o e n hc) (fun b o hc e=>u.there b o e hc) u.tups u.oO u.oR (fun m' hm=>by
  obtain⟨o',es',ep',ho',r'⟩:=hm;rw[ho]at ho';cases ho'
  exact⟨_,es',ep',hL,r'⟩) hok hg
def Inv.turned{t':Nat}{it:Addr}(I:Inv X pins σ H s)(k:∀ b o,b ≠ it->s.heap.get? b=some o->h'.get? b=some o)(hn:H it=none)(hL:it ≠ X.env.locals)
    (h1:it ∈ X.ex\/X.s₀.heap.objs.size<=it) (h2:∀ x c,X.env.cells.lookup x=some c->c ≠ it) (h3:∀ p ∈ X.pn++pins,p.1 ≠ it):Inv X pins σ H { s with heap:=h',toks:=t' }:=by
 have nit:∀ b u,H b=some u->b ≠ it:=fun b u e z=>by rw[z,hn]at e;cases e
 refine I.step (g':=s.gens) (d':=s.drawn) (ch:=[it]) (fun b hb=>?_) (fun b o _ _ hc e _=>k b o (fun z=>hc (by simp[z])) e) (fun b o _ _ hc e _=>⟨o.slots,k b o (fun z=>hc (by simp[z])) e⟩) (fun _ _ _ _ n=>n)
  (fun b o hc e=>⟨o,k b o (fun z=>hc (by simp[z])) e⟩) (fun _ _ e=>e) (fun _ _ _ e=>e) (fun b ps e=>⟨#[],by rw[e];simp⟩) (fun m hm=>?_) (fun b u e=>?_) I.bare
 · have e:b=it:=by simpa using hb
   subst e;exact⟨h1,hL,h2,h3⟩
 · obtain⟨o,es,ep,ho,r⟩:=hm;exact⟨o,es,ep,k _ o (Ne.symm hL) ho,r⟩
 · refine(I.hok b u e).stay (fun c v hc q=>k c v ?_ q) (fun _ q=>q) fun _ _ q=>q
   rcases hc with z | z
   · rw[z];exact nit b u e
   · exact nit c _ z
def Inv.tok(I:Inv X pins σ H s)(t:Nat):Inv X pins σ H { s with toks:=t }:=I.un (h':=s.heap) (t':=t) Un.refl I.hok
def Inv.kept{t':Nat}(I:Inv X pins σ H s)(k:∀ b u,s.heap.get? b=some u->h'.get? b=some u):Inv X pins σ H { s with heap:=h',toks:=t' }:=I.un (Un.kept k) (I.hok.kept k)
def Inv.laid{a:Addr}{o:HO}{t':Nat}(I:Inv X pins σ H s)(k:∀ b u,s.heap.get? b=some u->h'.get? b=some u)(hp:s.heap.objs.size<=a)(new:dg X.prog X.w (upd H a o) h' a o):
    Inv X pins σ (upd H a o) { s with heap:=h',toks:=t' }:=I.un (Un.laid k hp (I.hok.fresh hp)) (I.hok.laid k hp new)
def Inv.write{x e:Addr}{o:HO}{t':Nat}(I:Inv X pins σ H s)(mu:Mut (H x))(he:e=x\/H e=some (.own x))(k:∀ b u,b ≠ e->s.heap.get? b=some u->h'.get? b=some u)(heo:∃ u,h'.get? e=some u)
    (new:dg X.prog X.w (upd H x o) h' x o):Inv X pins σ (upd H x o) { s with heap:=h',toks:=t' }:=I.un (Un.write mu he k heo) (I.hok.write mu he k heo new)
def Inv.weak{σ':List (Option V)}(I:Inv X pins σ H s)(hl:σ'.length=σ.length)(w:∀(i:Nat) v,σ'[i]? =some (some v)->σ[i]? =some (some v)):Inv X pins σ' H s:=
 ⟨I.ok,I.os,I.bare,I.base,let ⟨m,hn,hl'⟩:=I.loc;⟨m,hn,fun i x v e1 e2 e3=>hl' i x v e1 (w i v e2) e3⟩,I.cell,I.free,I.kI,I.pin,I.hok,hl.trans I.len⟩
def Inv.Ij{Gk:List (Addr × Obj)}(I:Inv X pins σ H s)(h:∀ p ∈ Gk,s.heap.get? p.1=some p.2/\H p.1=none/\p.1 ≠ X.env.locals/\p.1 ∉ X.fs/\∀ v,p.2.data ≠ .cell v):Inv X Gk σ H s:=
 ⟨I.ok,I.os,I.bare,I.base,I.loc,I.cell,I.free,I.kI,fun p hp=>(List.mem_append.mp hp).elim (fun z=>I.pin p (List.mem_append_left _ z)) (h p),I.hok,I.len⟩
def Nv{N:List Str}(hN:N.Nodup){i j:Nat}{x:Str}(a:N[i]? =some x)(b:N[j]? =some x):i=j:=by
 obtain⟨h1,e1⟩:=bB a;obtain⟨h2,e2⟩:=bB b;exact(List.getElem_inj hN).mp (e1.trans e2.symm)
def VD{M:Model}{A:Around}{E:Value->aj->Prop}{i:Nat}{x:Str}{v:V}{u:Value}{Q:Unit->aj->Prop}(I:Inv X pins σ H s)(hN:X.N.Nodup)(hi:X.N[i]? =some x)(hx:Loc X.env.scope x)(r:RelV v u)
    (h:∀ s',Inv X pins (σ.set i (some v)) H s'->(∃ a,Heap.SameBut a s.heap s'.heap/\(a=X.env.locals\/X.env.cells.lookup x=some a))->Q () s') (hf:X.fn x=true\/X.env.scope.names.lookup x=some .local:=by first | exact .inl rfl | exact .inr rfl | assumption):wpAny M A (storeName X.env x u) Q E s:=by
 obtain⟨m,hn,hl⟩:=id I.loc;have hcls:(X.env.scope.kind == .class||(X.env.scope.kind == .module&&X.env.locals != X.env.globals))=false:=by rw[I.ok.kind];rfl
 have abW:i<σ.length:=by rw[I.len];exact(bB hi).1
 have cne:=I.cne
 have tracked:∀ {a:Addr} {h':Heap},(∃ o,s.heap.get? a=some o/\H a=none)->Heap.SameBut a s.heap h'->HOk X.prog X.w H h':=fun {a h'} ha hs b ob e=>by
  obtain⟨_,_,hfree⟩:=ha;refine(I.hok b ob e).stay (fun c w' hc q=>(hs.2 c ?_).trans q) (fun _ q=>q) fun _ _ q=>q;rintro rfl
  rcases hc with rfl | hc
  · rw[hfree]at e;cases e
  · rw[hfree]at hc;cases hc
 rcases hx with hk | hk
 · refine wpAny_storeName_local hk hn (fun h' hn' hs=>?_) hcls;obtain⟨oL,_,_,hoL,_⟩:=id hn;refine h _ ⟨I.ok,I.os,I.bare,⟨fun b o e n hb hx=>?_,fun b o e n hb hx=>?_,I.base.free,fun b o e hx=>?_,I.base.tups,I.base.oO,I.base.oR⟩,⟨_,hn',fun j y v' e1 e2 e3=>?_⟩,fun y c e=>?_,I.free,I.kI,fun p hp=>?_,tracked ⟨oL,hoL,I.free⟩ hs,by simpa using I.len⟩ ⟨_,hs,.inl rfl⟩
   · exact(hs.2 b (Nat.ne_of_lt (a_ (cF e) I.ok.above))).trans (I.base.keep b o e n hb hx)
   · obtain⟨sl,e1⟩:=I.base.slot b o e n hb hx;exact⟨sl,(hs.2 b (Nat.ne_of_lt (a_ (cF e) I.ok.above))).trans e1⟩
   · obtain⟨o',e1⟩:=I.base.there b o e hx;exact⟨o',(hs.2 b (Nat.ne_of_lt (a_ (cF e) I.ok.above))).trans e1⟩
   · by_cases hj:j=i
     · subst hj;rw[hi]at e1;cases e1;rw[List.getElem?_set_self abW]at e2;cases e2;exact⟨u,r,.inl ⟨hk,by simp⟩⟩
     · rw[List.getElem?_set_ne (Ne.symm hj)]at e2;obtain⟨u',r',q⟩:=hl j y v' e1 e2 e3;refine⟨u',r',?_⟩
       rcases q with ⟨k,e⟩ | ⟨k,c,e,z⟩
       · refine .inl ⟨k,?_⟩;have:y ≠ x:=fun e=>hj (Nv hN e1 (e ▸ hi));simp[this,e]
       · exact .inr ⟨k,c,e,z.sameBut hs (cne y c e)⟩
   · obtain⟨w',z⟩:=I.cell y c e;exact⟨w',z.sameBut hs (cne y c e)⟩
   · obtain⟨e,n,ne,nf,d⟩:=I.pin p hp;exact⟨(hs.2 p.1 ne).trans e,n,ne,nf,d⟩
 · have hfn:X.fn x=true:=by
    rcases hf with z | z
    · exact z
    · rw[z]at hk;cases hk
   obtain⟨c,hc⟩:=I.ok.has x (.inl hk);obtain⟨w',z⟩:=I.cell x c hc;refine wpAny_storeName_cell I.ok.kind hk hc z (fun h' hc' hs=>?_);obtain⟨oc,hoc,afh⟩:=id z;refine h { s with heap:=h' } ⟨I.ok,I.os,I.bare,⟨fun b o e n hb hx=>?_,fun b o e n hb hx=>?_,I.base.free,fun b o e hx=>?_,I.base.tups,I.base.oO,I.base.oR⟩,⟨m,hn.sameBut hs (Ne.symm (cne x c hc)),fun j y v' e1 e2 e3=>?_⟩,fun y c' e=>?_,I.free,I.kI,fun p hp=>?_,tracked ⟨oc,hoc,I.kI x c hc⟩ hs,by simpa using I.len⟩ ⟨c,hs,.inr hc⟩
   · exact(hs.2 b (Nat.ne_of_lt (a_ (cF e) (I.ok.cab x c hfn hc)))).trans (I.base.keep b o e n hb hx)
   · obtain⟨sl,e1⟩:=I.base.slot b o e n hb hx;exact⟨sl,(hs.2 b (Nat.ne_of_lt (a_ (cF e) (I.ok.cab x c hfn hc)))).trans e1⟩
   · obtain⟨o',e1⟩:=I.base.there b o e hx;exact⟨o',(hs.2 b (Nat.ne_of_lt (a_ (cF e) (I.ok.cab x c hfn hc)))).trans e1⟩
   · by_cases hj:j=i
     · subst hj;rw[hi]at e1;cases e1;rw[List.getElem?_set_self abW]at e2;cases e2;exact⟨u,r,.inr ⟨.inl hk,c,hc,hc'⟩⟩
     · rw[List.getElem?_set_ne (Ne.symm hj)]at e2;obtain⟨u',r',q⟩:=hl j y v' e1 e2 e3;refine⟨u',r',?_⟩
       rcases q with q | ⟨k,c',e,z'⟩
       · exact .inl q
       · refine .inr ⟨k,c',e,z'.sameBut hs ?_⟩;rintro rfl;exact hj (Nv hN e1 (I.ok.inj _ _ _ e hc ▸ hi))
   · by_cases hcc:c'=c
     · subst hcc;exact⟨_,hc'⟩
     · obtain⟨w2,z2⟩:=I.cell y c' e;exact⟨w2,z2.sameBut hs hcc⟩
   · obtain⟨e,n,ne,nf,d⟩:=I.pin p hp;refine⟨(hs.2 p.1 ?_).trans e,n,ne,nf,d⟩;intro q;rw[q,hoc]at e;have q':oc=p.2:=gH e;exact d w' (by rw[<- q'];exact afh)
def y_{M:Model}{A:Around}{E:Value->aj->Prop}{i:Nat}{x:Str}{v:V}{u:Value}{Q:Unit->aj->Prop}(I:Inv X pins σ H s)(hN:X.N.Nodup)(hi:X.N[i]? =some x)(hx:Loc X.env.scope x)(r:RelV v u)
    (h:∀ s',Inv X pins (σ.set i (some v)) H s'->Q () s') (hf:X.fn x=true\/X.env.scope.names.lookup x=some .local:=by first | exact .inl rfl | exact .inr rfl | assumption):wpAny M A (storeName X.env x u) Q E s:=
 VD I hN hi hx r (fun s' I' _=>h s' I') hf
def Inv.call'{s':aj}{ch:List Addr}(I:Inv X pins σ H s)(ho:s'.os=s.os)(u:Un (frs X.stack) ch H H' s.heap s'.heap)(hok:HOk X.prog X.w H' s'.heap)(hg:AllBare s'.gens)
    (hch:∀ b ∈ ch,(b ∈ X.ex\/X.s₀.heap.objs.size<=b)/\b ≠ X.env.locals/\(∀ x c,X.env.cells.lookup x=some c->c ≠ b)/\∀ p ∈ X.pn++pins,p.1 ≠ b):Inv X pins σ H' s':=by
 obtain⟨h',g',d',t',o'⟩:=s';have e:o'=s.os:=ho;subst e;exact I.call (g':=g') (t':=t') (d':=d') u hok hg hch
end
abbrev XK:=Value->Option Addr->Hp->Prop
abbrev St:=List (Option V)
abbrev VK:=V->Hp->Prop
abbrev TE:=St->Hp->VK->Prop
abbrev TT:=St->Hp->(Bool->Hp->Prop)->Prop
abbrev TA:=St->Hp->(List V->Hp->Prop)->Prop
structure Ends where
 nx:St->Hp->Prop
 rt:VK
 bk:St->Hp->Prop:=fun _ _=>False
 ct:St->Hp->Prop:=fun _ _=>False
abbrev TS:=Ends->St->Hp->Prop
def EP(X:Cx)(pins:List (Addr × Obj))(σ:St)(Q:VK)(u:Value)(s':aj):Prop:=∃ v H',Inv X pins σ H' s'/\RelV v u/\Q v H'
def TP(X:Cx)(pins:List (Addr × Obj))(σ:St)(Q:Bool->Hp->Prop)(b:Bool)(s':aj):Prop:=∃ H',Inv X pins σ H' s'/\Q b H'
def AP(X:Cx)(pins:List (Addr × Obj))(σ:St)(Q:List V->Hp->Prop)(us:List Value)(s':aj):Prop:=∃ vs H',Inv X pins σ H' s'/\Vals vs us/\Q vs H'
def SP(X:Cx)(pins:List (Addr × Obj))(D:Ends)(f:Flow)(s':aj):Prop:=
 match f with
 | .next=>∃ σ' H',Inv X pins σ' H' s'/\D.nx σ' H'
 | .brk=>∃ σ' H',Inv X pins σ' H' s'/\D.bk σ' H'
 | .cont=>∃ σ' H',Inv X pins σ' H' s'/\D.ct σ' H'
 | .ret u=>∃ v σ' H',Inv X pins σ' H' s'/\RelV v u/\D.rt v H'
def PE(X:Cx)(e:Expr)(t:TE):Prop:=
 ∀(pins:List (Addr × Obj)) (s:aj) (σ:St) (H:Hp) (Q:VK),Inv X pins σ H s->t σ H Q->wpAny (model X.prog X.w) X.A (eval e X.env) (EP X pins σ Q) X.xe s
def PT(X:Cx)(e:Expr)(t:TT):Prop:=
 ∀(pins:List (Addr × Obj)) (s:aj) (σ:St) (H:Hp) (Q:Bool->Hp->Prop),Inv X pins σ H s->t σ H Q->wpAny (model X.prog X.w) X.A (isTrue e X.env (eval e X.env)) (TP X pins σ Q) X.xe s
def PW(X:Cx)(e:Expr)(t:TT):Prop:=
 ∀(whole:Sem Value) (pins:List (Addr × Obj)) (s:aj) (σ:St) (H:Hp) (Q:Bool->Hp->Prop),Inv X pins σ H s->t σ H Q->wpAny (model X.prog X.w) X.A (isTrue e X.env whole) (TP X pins σ Q) X.xe s
def PW.pt{X:Cx}{e:Expr}{t:TT}(h:PW X e t):PT X e t:=h _
def PA(X:Cx)(es:List Expr)(t:TA):Prop:=
 ∀(pos:Pos) (pins:List (Addr × Obj)) (s:aj) (σ:St) (H:Hp) (Q:List V->Hp->Prop),Inv X pins σ H s->t σ H Q->wpAny (model X.prog X.w) X.A (spliced (backTo pos (starEach es X.env))) (AP X pins σ Q) X.xe s
def PS(X:Cx)(st:Stmt)(t:TS):Prop:=
 ∀(pins:List (Addr × Obj)) (s:aj) (σ:St) (H:Hp) (D:Ends),Inv X pins σ H s->t D σ H->wpAny (model X.prog X.w) X.A (exec st X.env) (SP X pins D) X.xe s
def PSs(X:Cx)(st:List Stmt)(t:TS):Prop:=
 ∀(pins:List (Addr × Obj)) (s:aj) (σ:St) (H:Hp) (D:Ends),Inv X pins σ H s->t D σ H->wpAny (model X.prog X.w) X.A (execs st X.env) (SP X pins D) X.xe s
def thn{α:Type}{t:Sem α}{Q Q':α->aj->Prop}{M:Model}{A:Around}{E:Value->aj->Prop}{s:aj}(h:wpAny M A t Q E s)(hQ:∀ a s,Q a s->Q' a s):wpAny M A t Q' E s:=wpAny_mono h hQ fun _ _ x=>x
section
variable{X:Cx}
def abX(i:Nat):TE:=fun σ H Q=>∃ v,σ[i]? =some (some v)/\Q v H
def tC(v:V):TE:=fun _ H Q=>Q v H
def Gm{i:Nat}{x:Str}{pos:Pos}(hN:X.N[i]? =some x)(hv:Vis X.env.scope x)(hd:(x==("__debug__":Str))=false:=by decide)(hcd:(x==("__classdict__":Str))=false:=by decide):PE X (.Name x pos) (abX i):=by
 intro pins s σ H Q I h;obtain⟨v,e,h⟩:=h;obtain⟨m,hn,hl⟩:=I.loc;obtain⟨u,r,l⟩:=hl i x v hN e hv;have fin:EP X pins σ Q u s:=⟨v,H,I,r,h⟩
 rcases l with ⟨hk,hm⟩ | ⟨hk,c,hc,hcell⟩
 · exact wpAny_Name (wpAny_loadName_local I.ok.kind hk hn hm fin) hd
 · rcases hk with hk | hk
   · exact wpAny_Name (wpAny_loadName_cell I.ok.kind hk hc hcell fin) hd
   · exact wpAny_Name (wpAny_loadName_free I.ok.kind hk hc hcell fin hcd) hd
def d8{i j pos}:PE X (.Constant (.int i) j pos) (tC (.int i)):=fun _ _ _ H _ I h=>wpAny_Constant_int ⟨.int i,H,I.tok _,⟨_,rfl⟩,h⟩
def aeg{b j pos}:PE X (.Constant (.bool b) j pos) (tC (.bl b)):=fun _ _ _ H _ I h=>Constant_bool ⟨.bl b,H,I,rfl,h⟩
def abY{j pos}:PE X (.Constant .none j pos) (tC .non):=fun _ _ _ H _ I h=>Constant_none ⟨.non,H,I,rfl,h⟩
def qp{x j pos}:PE X (.Constant (.str x) j pos) (tC (.str x)):=fun _ _ _ H _ I h=>Calls.Constant_str ⟨.str x,H,I.tok _,⟨_,rfl⟩,h⟩
def Gl(X:Cx)(x:Str):Prop:=X.env.kindOf x=some .globalImplicit
def qZ{E:Value->aj->Prop}{pins:List (Addr × Obj)}{s:aj}{σ:St}{H:Hp}{x:Str}{u:Value}{pos:Pos}{Q:Value->aj->Prop}(I:Inv X pins σ H s)(hg:Gl X x)(hm:X.mg x=some u)(h:Q u s)
    (hd:(x==("__debug__":Str))=false:=by decide):wpAny (model X.prog X.w) X.A (eval (.Name x pos) X.env) Q E s:=
 Calls.Name_function_global I.ok.kind hg (Calls.loadGlobal_global (by rw[I.ok.glob];exact I.mod.glob.keeps I.bk) hm h) hd
def vG{E:Value->aj->Prop}{pins:List (Addr × Obj)}{s:aj}{σ:St}{H:Hp}{x:Str}{u:Value}{pos:Pos}{Q:Value->aj->Prop}(I:Inv X pins σ H s)(hg:Gl X x)(hm:X.mg x=none)(hv:bootBuiltins x=some u)(h:Q u s)
    (hn:x ≠ "__name__":=by decide) (hd:(x==("__debug__":Str))=false:=by decide):wpAny (model X.prog X.w) X.A (eval (.Name x pos) X.env) Q E s:=by
 obtain⟨mb,h1,h2⟩:=I.mod.blt;exact Calls.Name_function_global I.ok.kind hg (Calls.loadGlobal_builtin (by rw[I.ok.glob];exact I.mod.glob.keeps I.bk) hm (by rw[I.ok.blt];exact h1.keeps I.bk) ((h2 x hn).trans hv) h) hd
def Ik{x:Str}{v:V}{u:Value}{pos:Pos}(hg:Gl X x)(hm:X.mg x=some u)(r:RelV v u)(hd:(x==("__debug__":Str))=false:=by decide):PE X (.Name x pos) (tC v):=
 fun _ _ _ H _ I h=>qZ I hg hm ⟨v,H,I,r,h⟩ hd
variable{a b:Expr}{ta tb:TE}{pos:Pos}
def PC(X:Cx)(op:CmpOp)(a b:Expr)(t:TE):Prop:=
 ∀(pins:List (Addr × Obj)) (s:aj) (σ:St) (H:Hp) (Q:VK),Inv X pins σ H s->t σ H Q->
  wpAny (model X.prog X.w) X.A (eval a X.env) (fun v s₁=>wpAny (model X.prog X.w) X.A (eval b X.env) (fun u s₂=>wpAny (model X.prog X.w) X.A (compareOp op v u) (EP X pins σ Q) X.xe s₂) X.xe s₁) X.xe s
def Yh(b:Expr){op:CmpOp}(h:op ≠ .In)(h2:op ≠ .NotIn):behindInMarks op b=false:=by
 have e1:(op==CmpOp.In)=false:=by cases op <;> first | rfl | exact aK rfl h
 have e2:(op==CmpOp.NotIn)=false:=by cases op <;> first | rfl | exact aK rfl h2
 cases b <;> simp[behindInMarks,e1,e2]
def afi(ta:TE):TE:=fun σ H Q=>ta σ H fun x H1=>Q (.bl (decide (x= .non))) H1
def aeh(ta:TE):TE:=fun σ H Q=>ta σ H fun x H1=>Q (.bl (!decide (x= .non))) H1
def RelV.Nx{x:V}{v:Value}(r:RelV x v):(v==Value.none)=decide (x= .non):=by
 cases x with
 | non=>cases r;rfl
 | bl _=>cases r;rfl
 | int _=>obtain⟨t,rfl⟩:=r;rfl
 | str _=>obtain⟨t,rfl⟩:=r;rfl
 | byt _=>obtain⟨t,rfl⟩:=r;rfl
 | flt _=>obtain⟨t,rfl⟩:=r;rfl
 | ref _=>cases r;rfl
 | ty _=>cases r;rfl
def abZ{j pos'}(ha:PE X a ta):PC X .Is a (.Constant .none j pos') (afi ta):=by
 intro pins s σ H Q I h;refine thn (ha pins s σ H _ I h) fun v s1 ⟨x,H1,I1,r1,q1⟩=>?_;exact Constant_none (is_none_gen ⟨.bl _,H1,I1,by rw[r1.Nx];rfl,q1⟩)
def Rc{j pos'}(ha:PE X a ta):PC X .IsNot a (.Constant .none j pos') (aeh ta):=by
 intro pins s σ H Q I h;refine thn (ha pins s σ H _ I h) fun v s1 ⟨x,H1,I1,r1,q1⟩=>?_;exact Constant_none (isnot_none_gen ⟨.bl _,H1,I1,by rw[r1.Nx];rfl,q1⟩)
def tB(t:TE):TT:=fun σ H Q=>t σ H fun x H1=>∃ c,x= .bl c/\Q c H1
def Ny{op:CmpOp}{t:TE}(h:PC X op a b t)(h1:behindInMarks op b=false:=by first | exact Yh _ (by decide) (by decide) | rfl):PT X (.Compare a [op] [b] pos) (tB t):=by
 intro pins s σ H Q I hw;refine wpAny_isTrue_Compare1 (thn (h pins s σ H _ I hw) fun v s1 h1=>thn h1 fun u s2 h2=>thn h2 fun c s3 ⟨x,H1,I1,r1,q1⟩=>?_) h1;obtain⟨d,rfl,q⟩:=q1;cases r1;exact wpAny_truthy_bool ⟨H1,I1,q⟩
def ab0{e:Expr}{t:TE}(h:PE X e t)(he:∀ whole,isTrue e X.env whole=(do let v <- whole;standAt e.pos;holding [v] (truthy v)):=by intro _;rfl):PT X e (tB t):=by
 intro pins s σ H Q I hw;refine isTrue_plain (thn (h pins s σ H _ I hw) fun v s1 ⟨x,H1,I1,r1,q1⟩=>?_) (he _);obtain⟨d,rfl,q⟩:=q1;cases r1;exact wpAny_truthy_bool ⟨H1,I1,q⟩
variable{tA tB':TT}{rest:List Expr}
def ab1(t u:TT):TT:=fun σ H Q=>t σ H fun c H1=>if c=true then u σ H1 Q else Q false H1
def tOr(t u:TT):TT:=fun σ H Q=>t σ H fun c H1=>if c=true then Q true H1 else u σ H1 Q
def afj(t:TT):TT:=fun σ H Q=>t σ H fun c H1=>Q (!c) H1
def pw_and1(ha:PT X a tA):PW X (.BoolOp .And [a] pos) tA:=by
 intro wh pins s σ H Q I h;refine isTrue_and (thn (ha pins s σ H Q I h) fun c s1 e=>?_)
 cases c with
 | true=>exact isTrue_and_nil e
 | false=>exact e
def pw_or1(ha:PT X a tA):PW X (.BoolOp .Or [a] pos) tA:=by
 intro wh pins s σ H Q I h;refine isTrue_or (thn (ha pins s σ H Q I h) fun c s1 e=>?_)
 cases c with
 | false=>exact isTrue_or_nil e
 | true=>exact e
def pw_and(ha:PT X a tA)(hb:PW X (.BoolOp .And (b::rest) pos) tB'):PW X (.BoolOp .And (a::b::rest) pos) (ab1 tA tB'):=by
 intro wh pins s σ H Q I h;refine isTrue_and (thn (ha pins s σ H _ I h) fun c s1 ⟨H1,I1,q1⟩=>?_)
 cases c with
 | true=>exact hb wh pins s1 σ H1 Q I1 q1
 | false=>exact⟨H1,I1,q1⟩
def pw_or(ha:PT X a tA)(hb:PW X (.BoolOp .Or (b::rest) pos) tB'):PW X (.BoolOp .Or (a::b::rest) pos) (tOr tA tB'):=by
 intro wh pins s σ H Q I h;refine isTrue_or (thn (ha pins s σ H _ I h) fun c s1 ⟨H1,I1,q1⟩=>?_)
 cases c with
 | true=>exact⟨H1,I1,q1⟩
 | false=>exact hb wh pins s1 σ H1 Q I1 q1
def VG(ha:PT X a tA):PT X (.UnaryOp .Not a pos) (afj tA):=by
 intro pins s σ H Q I h;exact isTrue_not (ha pins s σ H (fun c H1=>Q (!c) H1) I h)
def ZV(ta tb:TE):TE:=fun σ H Q=>ta σ H fun x H1=>∃ c,x= .bl c/\if c=true then tb σ H1 Q else Q (.bl false) H1
def afk(ta tb:TE):TE:=fun σ H Q=>ta σ H fun x H1=>∃ c,x= .bl c/\if c=true then Q (.bl true) H1 else tb σ H1 Q
def ab2{op}{t:TE}(h:PE X a t):PE X (.BoolOp op [a] pos) t:=fun pins s σ H Q I hw=>BoolOp_one (h pins s σ H Q I hw)
def ab3(ha:PE X a ta)(hb:PE X (.BoolOp .And (b::rest) pos) tb):PE X (.BoolOp .And (a::b::rest) pos) (ZV ta tb):=by
 intro pins s σ H Q I h;refine BoolOp_and (thn (ha pins s σ H _ I h) fun v s1 ⟨x,H1,I1,r1,q1⟩=>?_);obtain⟨c,rfl,q1⟩:=q1;cases r1;refine wpAny_truthy_bool ?_
 cases c with
 | true=>exact hb pins s1 σ H1 Q I1 q1
 | false=>exact⟨.bl false,H1,I1,rfl,q1⟩
def tIf(t:TT)(ta tb:TE):TE:=fun σ H Q=>t σ H fun c H1=>if c=true then ta σ H1 Q else tb σ H1 Q
def Nz{c:Expr}(hc:PT X c tA)(ha:PE X a ta)(hb:PE X b tb):PE X (.IfExp c a b pos) (tIf tA ta tb):=by
 intro pins s σ H Q I h;refine wpAny_IfExp (thn (hc pins s σ H _ I h) fun d s1 ⟨H1,I1,q1⟩=>?_)
 cases d with
 | true=>exact ha pins s1 σ H1 Q I1 q1
 | false=>exact hb pins s1 σ H1 Q I1 q1
end
def SqL(K:ao)(H:Hp)(a:Addr)(xs:List V):Prop:=
 Rd H a (.lst xs)\/
  ∃(o:Obj) (its:Array Value) (n:Nat),K.lookup a=some o/\o.cls= .type "list"/\o.dict=none/\o.data= .seq its n/\its.size<=sizeLine/\Vals xs its.toList
def SqT(K:ao)(H:Hp)(a:Addr)(xs:List V):Prop:=
 Rd H a (.tup xs)\/
  ∃(o:Obj) (its:Array Value) (n:Nat),K.lookup a=some o/\o.cls= .type "tuple"/\o.data= .seq its n/\its.size<=sizeLine/\Vals xs its.toList
def afl:Value->Option V
 | .none=>some .non
 | .bool b=>some (.bl b)
 | .int i _=>some (.int i)
 | .str x _=>some (.str x)
 | .bytes b _=>some (.byt b)
 | .float b _=>some (.flt b)
 | .ref a=>some (.ref a)
 | .type n=>some (.ty n)
 | _=>none
def RelV.abs{x:V}{u:Value}(r:RelV x u):afl u=some x:=by
 cases x with
 | non=>cases r;rfl
 | bl _=>cases r;rfl
 | int _=>obtain⟨t,rfl⟩:=r;rfl
 | str _=>obtain⟨t,rfl⟩:=r;rfl
 | byt _=>obtain⟨t,rfl⟩:=r;rfl
 | flt _=>obtain⟨t,rfl⟩:=r;rfl
 | ref _=>cases r;rfl
 | ty _=>cases r;rfl
def RelV.inj{x y:V}{u:Value}(r:RelV x u)(q:RelV y u):x=y:=gH (r.abs.symm.trans q.abs)
def Vals.inj:∀ {xs ys:List V} {us:List Value},Vals xs us->Vals ys us->xs=ys
 | _,_,_,.nil,.nil=>rfl
 | _,_,_,.cons r t,.cons r' t'=>by rw[r.inj r',Vals.inj t t']
section
variable{X:Cx}{pins:List (Addr × Obj)}{σ:St}{H:Hp}{s:aj}{a:Addr}{xs ys:List V}
def SqL.of{K:ao}(h:H a=some (.lst xs)):SqL K H a xs:=.inl (.inl h)
def SqT.of{K:ao}(h:H a=some (.tup xs)):SqT K H a xs:=.inl (.inl h)
def Inv.list(I:Inv X pins σ H s)(h:SqL X.K H a xs):∃ its:List Value,Vals xs its/\PlainL s.heap a its.toArray/\xs.length<=sizeLine:=by
 rcases h with h | ⟨o,its,n,hk,hc,hd,hs,hz,r⟩
 · obtain⟨z,its,n,r,e⟩:=h.ok I.hok;exact⟨its,r,⟨_,n,e,rfl,rfl,rfl⟩,z⟩
 · refine⟨its.toList,r,⟨o,n,I.kIn a o hk,hc,hd,by simpa using hs⟩,?_⟩;have e:=r.length;simp only[Array.length_toList]at e;omega
def Inv.tuple(I:Inv X pins σ H s)(h:SqT X.K H a xs):∃ its:List Value,Vals xs its/\IsTup s.heap a its.toArray/\xs.length<=sizeLine:=by
 rcases h with h | ⟨o,its,n,hk,hc,hs,hz,r⟩
 · obtain⟨z,its,r,p⟩:=h.ok I.hok;exact⟨its,r,p,z⟩
 · refine⟨its.toList,r,⟨o,I.kIn a o hk,hc,n,by simpa using hs⟩,?_⟩;have e:=r.length;simp only[Array.length_toList]at e;omega
def Inv.zf(I:Inv X pins σ H s)(h:SqL X.K H a xs)(h':SqL X.K H a ys):xs=ys:=by
 obtain⟨its,r,⟨o,n,e,_,_,d⟩,_⟩:=I.list h;obtain⟨its',r',⟨o',n',e',_,_,d'⟩,_⟩:=I.list h';rw[e]at e';cases e';rw[d]at d';injection d' with d1 _;have:its=its':=by simpa using congrArg Array.toList d1
 subst this;exact r.inj r'
def Inv.VH(I:Inv X pins σ H s)(h:SqT X.K H a xs)(h':SqT X.K H a ys):xs=ys:=by
 obtain⟨its,r,⟨o,e,_,n,d⟩,_⟩:=I.tuple h;obtain⟨its',r',⟨o',e',_,n',d'⟩,_⟩:=I.tuple h';rw[e]at e';cases e';rw[d]at d';injection d' with d1 _;have:its=its':=by simpa using congrArg Array.toList d1
 subst this;exact r.inj r'
end
abbrev Cx.wish(X:Cx)(E:Value->aj->Prop):Cx:={ X with xe:=E }
abbrev Cx.nox(X:Cx):Cx:=X.wish fun _ _=>False
def Cx.Ok.wish{X:Cx}(ok:X.Ok)(E:Value->aj->Prop):(X.wish E).Ok:=
 ⟨ok.mod,ok.kind,ok.glob,ok.blt,ok.above,ok.inj,ok.has,ok.cab,ok.hd,ok.frames,ok.stk,ok.exf,ok.bs,ok.bsz,ok.uq,ok.Bq,ok.oU,ok.frf⟩
def Cx.Ok.ud{X:Cx}{E:Value->aj->Prop}(ok:(X.wish E).Ok):X.Ok:=
 ⟨ok.mod,ok.kind,ok.glob,ok.blt,ok.above,ok.inj,ok.has,ok.cab,ok.hd,ok.frames,ok.stk,ok.exf,ok.bs,ok.bsz,ok.uq,ok.Bq,ok.oU,ok.frf⟩
section
variable{X:Cx}{pins:List (Addr × Obj)}{σ:St}{H:Hp}{s:aj}{E:Value->aj->Prop}
def Inv.wish(I:Inv X pins σ H s)(E:Value->aj->Prop):Inv (X.wish E) pins σ H s:=⟨I.ok.wish E,I.os,I.bare,I.base,I.loc,I.cell,I.free,I.kI,I.pin,I.hok,I.len⟩
def Inv.ud(I:Inv (X.wish E) pins σ H s):Inv X pins σ H s:=⟨I.ok.ud,I.os,I.bare,I.base,I.loc,I.cell,I.free,I.kI,I.pin,I.hok,I.len⟩
def SP.ud{D:Ends}{f:Flow}{s':aj}(h:SP (X.wish E) pins D f s'):SP X pins D f s':=by
 cases f with
 | next=>obtain⟨σ',H',I,q⟩:=h;exact⟨σ',H',I.ud,q⟩
 | brk=>obtain⟨σ',H',I,q⟩:=h;exact⟨σ',H',I.ud,q⟩
 | cont=>obtain⟨σ',H',I,q⟩:=h;exact⟨σ',H',I.ud,q⟩
 | ret u=>obtain⟨v,σ',H',I,r,q⟩:=h;exact⟨v,σ',H',I.ud,r,q⟩
def PSs.nox{st:List Stmt}{t:TS}(h:PSs X.nox st t):PSs X st t:=fun pins s σ H D I hw=>
 wpAny_mono (h pins s σ H D (I.wish _) hw) (fun _ _ q=>q.ud) fun _ _ z=>False.elim z
end
section
variable{X:Cx}{st:Stmt}{rest:List Stmt}{t u:TS}{e:Expr}{te:TE}{pos:Pos}
def aei:TS:=fun D σ H=>D.nx σ H
def afm(t u:TS):TS:=fun D σ H=>t { D with nx:=u D } σ H
def yx:PSs X [] aei:=fun _ _ σ H _ I h=>wpAny_execs_nil ⟨σ,H,I,h⟩
def dz(h1:PS X st t)(h2:PSs X rest u):PSs X (st::rest) (afm t u):=by
 intro pins s σ H D I h;refine wpAny_execs_cons (thn (h1 pins s σ H { D with nx:=u D } I h) fun f s1 q=>?_)
 cases f with
 | next=>
   obtain⟨σ',H',I',q⟩:=q
   exact h2 pins s1 σ' H' D I' q
 | ret v=>exact q
 | brk=>exact q
 | cont=>exact q
def cA(h1:PS X st t):PSs X [st] t:=by
 intro pins s σ H D I h;refine wpAny_execs_cons (thn (h1 pins s σ H D I h) fun f s1 q=>?_)
 cases f with
 | next=>exact wpAny_execs_nil q
 | ret v=>exact q
 | brk=>exact q
 | cont=>exact q
def Inv.quiet{pins:List (Addr × Obj)}{σ:St}{H:Hp}{s:aj}(I:Inv X pins σ H s):interactive X.env=false:=by simp[interactive,I.ok.kind]
def aej(te:TE):TS:=fun D σ H=>te σ H fun _ H1=>D.nx σ H1
def jF(he:PE X e te)(hs:swapsWith e none pos.line X.env=pure false:=by rfl):PS X (.Expr e pos) (aej te):=by
 intro pins s σ H D I h;exact wpAny_Expr_any (thn (he pins s σ H _ I h) fun v s1 ⟨x,H1,I1,r1,q1⟩=>⟨σ,H1,I1,q1⟩) I.quiet hs
def afn(te:TE):TS:=fun D σ H=>te σ H D.rt
def nG(he:PE X e te):PS X (.Return (some e) pos) (afn te):=by
 intro pins s σ H D I h;exact wpAny_Return_some (thn (he pins s σ H _ I h) fun v s1 ⟨x,H1,I1,r1,q1⟩=>⟨x,σ,H1,I1,r1,q1⟩)
def afo(c:TT)(t u:TS):TS:=fun D σ H=>c σ H fun b H1=>if b=true then t D σ H1 else u D σ H1
def Dm{c:Expr}{a b:List Stmt}{tc:TT}(hc:PT X c tc)(ha:PSs X a t)(hb:PSs X b u):PS X (.If c a b pos) (afo tc t u):=by
 intro pins s σ H D I h;refine wpAny_If (thn (hc pins s σ H _ I h) fun d s1 ⟨H1,I1,q1⟩=>?_)
 cases d with
 | true=>exact ha pins s1 σ H1 D I1 q1
 | false=>exact hb pins s1 σ H1 D I1 q1
end
abbrev TG:=V->St->Hp->(St->Hp->Prop)->Prop
abbrev TGs:=List V->St->Hp->(St->Hp->Prop)->Prop
def PG(X:Cx)(target:Expr)(t:TG):Prop:=
 ∀(pins:List (Addr × Obj)) (s:aj) (σ:St) (H:Hp) (v:V) (u:Value) (Q:St->Hp->Prop),Inv X pins σ H s->RelV v u->t v σ H Q->
  wpAny (model X.prog X.w) X.A (assign target X.env u) (fun _ s'=>∃ σ' H',Inv X pins σ' H' s'/\Q σ' H') X.xe s
def PGs(X:Cx)(ts:List Expr)(t:TGs):Prop:=
 ∀(pins:List (Addr × Obj)) (s:aj) (σ:St) (H:Hp) (vs:List V) (us:List Value) (Q:St->Hp->Prop),Inv X pins σ H s->Vals vs us->t vs σ H Q->
  wpAny (model X.prog X.w) X.A (assignInOrder ((assignEach ts X.env).map (·.2)) us) (fun _ s'=>∃ σ' H',Inv X pins σ' H' s'/\Q σ' H') X.xe s
section
variable{X:Cx}{pos:Pos}
def MF(i:Nat):TG:=fun v σ H Q=>Q (σ.set i (some v)) H
def sO{i:Nat}{x:Str}(hN:X.N.Nodup)(hi:X.N[i]? =some x)(hx:Loc X.env.scope x)(hf:X.fn x=true\/X.env.scope.names.lookup x=some .local:=by first | exact .inl rfl | exact .inr rfl | assumption):PG X (.Name x pos) (MF i):=by
 intro pins s σ H v u Q I r h;exact wpAny_assign_Name (y_ I hN hi hx r (fun s' I'=>⟨_,H,I',h⟩) hf)
def afp:TGs:=fun vs σ H Q=>vs= []/\Q σ H
def aek(t:TG)(u:TGs):TGs:=fun vs σ H Q=>∃ v r,vs=v::r/\t v σ H fun σ' H'=>u r σ' H' Q
def aaL:PGs X [] afp:=by
 intro pins s σ H vs us Q I r h;obtain⟨e,h⟩:=h;subst e;cases r;exact assignInOrder_nil ⟨σ,H,I,h⟩
def Yi{e:Expr}{es:List Expr}{t:TG}{u:TGs}(h1:PG X e t)(h2:PGs X es u)
    (hs:(assignEach (e::es) X.env).map (·.2)=assign e X.env::(assignEach es X.env).map (·.2):=by rfl):PGs X (e::es) (aek t u):=by
 intro pins s σ H vs us Q I r h;obtain⟨v,vr,e1,h⟩:=h;subst e1
 cases r with
 | cons r rr=>
   rw[hs];refine assignInOrder_cons (thn (h1 pins s σ H _ _ _ I r h) fun _ s1 ⟨σ1,H1,I1,q1⟩=>?_);exact h2 pins s1 σ1 H1 _ _ Q I1 rr q1
def afq(K:ao)(n:Nat)(t:TGs):TG:=fun v σ H Q=>∃ a xs,v= .ref a/\SqT K H a xs/\xs.length=n/\t xs σ H Q
def ab4{es:List Expr}{k:Nat}{t:TGs}{n:Nat}(hc:X.calm=true)(h:PGs X es t)
    (hn:(assignEach es X.env).length=n:=by rfl) (hst:(assignEach es X.env).findIdx? (·.1)=none:=by rfl):PG X (.Tuple es k pos) (afq X.K n t):=by
 intro pins s σ H v u Q I r hw;obtain⟨a,xs,e1,hq,hl,hw⟩:=hw;subst e1;cases r;obtain⟨its,rv,ht,hz⟩:=I.tuple hq;refine assign_Tuple_tuple (I.ok.hd hc) ht (by simp[hn,<- hl,rv.length]) hst fun h' hx=>?_;have I1:Inv X pins σ H { s with heap:=h' }:=I.kept (t':=s.toks) fun b o e=>hx b o (Nat.ne_of_lt (cF e)) e;exact h pins _ σ H xs _ Q I1 (by simpa using rv) hw
def S_(te:TE)(g:TG):TS:=fun D σ H=>te σ H fun x H1=>g x σ H1 D.nx
def ab5{tg e:Expr}{te:TE}{g:TG}(he:PE X e te)(hg:PG X tg g)(hs:swapsWithSole [tg] e pos.line X.env=pure false:=by rfl)(hw:swappedStores [tg] e X.env=pure none:=by rfl)
    (h1:(assignEach [tg] X.env).map (·.2)= [assign tg X.env]:=by rfl):PS X (.Assign [tg] e pos) (S_ te g):=by
 intro pins s σ H D I h;refine wpAny_Assign_stores (thn (he pins s σ H _ I h) fun v s1 ⟨x,H1,I1,r1,q1⟩=>?_) hs hw;rw[h1];exact thn (hg pins s1 σ H1 x v _ I1 r1 q1) fun _ s2 q=>q
def rJ{i:Nat}{x:Str}{e:Expr}{te:TE}{pos':Pos}(hN:X.N.Nodup)(hi:X.N[i]? =some x)(hx:Loc X.env.scope x)(he:PE X e te)(hs:swapsWith e (some (.Name x pos')) pos.line X.env=pure false:=by rfl)(hf:X.fn x=true\/X.env.scope.names.lookup x=some .local:=by first | exact .inl rfl | exact .inr rfl | assumption):
    PS X (.Assign [.Name x pos'] e pos) (S_ te (MF i)):=by
 intro pins s σ H D I h;refine wpAny_Assign_Name (thn (he pins s σ H _ I h) fun v s1 ⟨y,H1,I1,r1,q1⟩=>?_) hs;exact y_ I1 hN hi hx r1 (fun s2 I2=>⟨_,H1,I2,q1⟩) hf
end
structure It where
 go:Nat->Hp->Prop
 yld:Nat->Hp->V->Hp->Prop
 stop:Nat->Hp->Prop
def n8(X:Cx)(pins:List (Addr × Obj))(H:Hp)(b:Addr):Prop:=
 H b=none/\b ≠ X.env.locals/\b ∉ X.fs/\(b ∈ X.ex\/X.s₀.heap.objs.size<=b)/\(∀ x c,X.env.cells.lookup x=some c->c ≠ b)/\∀ p ∈ X.pn++pins,p.1 ≠ b
def Inv.NB{X:Cx}{pins:List (Addr × Obj)}{σ:St}{H H':Hp}{s:aj}{b:Addr}(I:Inv X pins σ H s)(hb:s.heap.objs.size<=b)(hn:H' b=none):n8 X pins H' b:=by
 refine⟨hn,Nat.ne_of_gt (a_ I.lt hb),I.abV hb,.inr (Nat.le_trans I.sz hb),fun x c e z=>?_,fun p hp z=>?_⟩
 · obtain⟨v,q⟩:=I.cell x c e;exact aK (a_ q.lt (by rw[z];exact hb)) (Nat.lt_irrefl _)
 · exact aK (a_ (cF (I.pin p hp).1) (by rw[z];exact hb)) (Nat.lt_irrefl _)
structure Turn (P:Program)(w:World)(K:ao)(tg:Expr)(J:It)(fp:List Addr)(it:Addr)(tn:Nat->Heap->Prop):Prop where
 mem:it ∈ fp
 obj:∀ i h,tn i h->∀ b ∈ fp,∃ o,h.get? b=some o/\∀ v,o.data ≠ .cell v
 keep:∀ i h h',tn i h->(∀ b ∈ fp,∀ o,h.get? b=some o->h'.get? b=some o)->tn i h'
 item:∀(X:Cx),X.prog=P->X.w=w->X.K=K->X.calm=true->∀(i:Nat) (pins:List (Addr × Obj)) (s:aj) (σ:St) (H:Hp) (E:Value->aj->Prop),Inv X pins σ H s->(∀ b ∈ fp,n8 X pins H b)->tn i s.heap->J.go i H->
  wpAny (model P w) X.A (pyNext (.ref it)) (fun r s1=>∃ u,r=some u/\
   wpAny (model P w) X.A (letOwnedTupleGo tg (.ref it) u) (fun _ s2=>∃ x H',Inv X pins σ H' s2/\RelV x u/\J.yld i H x H'/\tn (i+1) s2.heap/\∀ b ∈ fp,H' b=none) E s1) E s
 done:∀(X:Cx),X.prog=P->X.w=w->X.K=K->X.calm=true->∀(i:Nat) (pins:List (Addr × Obj)) (s:aj) (σ:St) (H:Hp) (E:Value->aj->Prop),Inv X pins σ H s->(∀ b ∈ fp,n8 X pins H b)->tn i s.heap->J.stop i H->
  wpAny (model P w) X.A (pyNext (.ref it)) (fun r s1=>r=none/\Inv X pins σ H s1) E s
 self:∀(A:Around) (i:Nat) (s:aj) (Q:Value->aj->Prop) (E:Value->aj->Prop),tn i s.heap->Q (.ref it) s->wpAny (model P w) A (pyIter (.ref it)) Q E s
abbrev TI:=St->Hp->(It->Hp->Prop)->Prop
def PIE(X:Cx)(pins:List (Addr × Obj))(σ:St)(tg:Expr)(R:It->Hp->Prop)(itv:Value)(s2:aj):Prop:=
 ∃(it:Addr) (fp:List Addr) (tn:Nat->Heap->Prop) (J:It) (H':Hp),itv= .ref it/\Inv X pins σ H' s2/\Turn X.prog X.w X.K tg J fp it tn/\tn 0 s2.heap/\(∀ b ∈ fp,n8 X pins H' b)/\R J H'
def PI(X:Cx)(tg iter:Expr)(wi:TI):Prop:=
 ∀(pins:List (Addr × Obj)) (s:aj) (σ:St) (H:Hp) (R:It->Hp->Prop),Inv X pins σ H s->wi σ H R->
  wpAny (model X.prog X.w) X.A (eval iter X.env) (fun v s1=>wpAny (model X.prog X.w) X.A (pyIter v) (PIE X pins σ tg R) X.xe s1) X.xe s
def Tc{M:Model}{A:Around}{E:Value->aj->Prop}{s:aj}{tg:Expr}{it:Addr}{u:Value}{o:Obj}{n:String}{vs:Array Value}{Q:Unit->aj->Prop}(ho:s.heap.get? it=some o)(hc:o.cls= .type n)(hd:o.data= .fields vs)
    (hn:["enumerate","zip","dict_itemiterator","dict_reverseitemiterator","odict_iterator","itertools.zip_longest","itertools.pairwise"].contains n=false) (hQ:Q () s):wpAny M A (letOwnedTupleGo tg (.ref it) u) Q E s:=by
 unfold letOwnedTupleGo
 cases tg <;> first
  | exact bN hQ
  | (cases u <;> first
      | exact bN hQ
      | (refine aO (wpAny_load ho ?_)
         rw[hc,hd];show wpAny M A (if(["enumerate","zip","dict_itemiterator","dict_reverseitemiterator","odict_iterator","itertools.zip_longest","itertools.pairwise"].contains n&&vs[0]? == some (rawInt _))=true then _ else _) Q E s;rw[aA (by intro h;rw[hn,Bool.false_and]at h;cases h)]
         exact bN hQ))
def Itl(K:ao)(a:Addr):It:=
 ⟨fun i H=>∃ xs x,SqL K H a xs/\xs[i]? =some x,fun i H x H'=>H'=H/\∀ xs,SqL K H a xs->xs[i]? =some x,fun i H=>∃ xs,SqL K H a xs/\xs.length<=i⟩
def Itt(K:ao)(a:Addr):It:=
 ⟨fun i H=>∃ xs x,SqT K H a xs/\xs[i]? =some x,fun i H x H'=>H'=H/\∀ xs,SqT K H a xs->xs[i]? =some x,fun i H=>∃ xs,SqT K H a xs/\xs.length<=i⟩
def Itr(lo:Int)(n:Nat):It:=⟨fun i _=>i<n,fun i H x H'=>H'=H/\x= .int (lo+i),fun i _=>n<=i⟩
def VJ{P:Program}{w:World}{K:ao}{tg:Expr}(a it:Addr):Turn P w K tg (Itl K a) [it] it (fun i h=>h.IsListIter it a i) where
 mem:=by simp
 obj:=fun i h st b hb=>by
  have e:b=it:=by simpa using hb
  subst e;obtain⟨o,e,c,d⟩:=st;exact⟨o,e,fun v z=>by rw[d]at z;cases z⟩
 keep:=fun i h h' st k=>st.at fun o e=>k it (by simp) o e
 item:=by
  intro X hP hw hK hc i pins s σ H E I hf st hg;subst hP hw hK;obtain⟨xs,x,hq,hx⟩:=hg;obtain⟨its,rv,p,hz⟩:=I.list hq;obtain⟨u,hu,ru⟩:=rv.get hx;obtain⟨f0,f1,f2,f3,f4,f5⟩:=hf it (by simp);refine wpAny_pyNext_list_item st p.isList (x:=u) (by simpa using hu) fun h' st' sb=>?_;have I1:Inv X pins σ H { s with heap:=h' }:=I.turned (t':=s.toks) (fun b o hb e=>(sb.2 b hb).trans e) f0 f1 f3 f4 f5;obtain⟨o,e,c,d⟩:=id st';exact⟨u,rfl,Tc (s:={ s with heap:=h' }) e c d (by decide) ⟨x,H,I1,ru,⟨rfl,fun ys hy=>by rw[I.zf hy hq];exact hx⟩,st',fun b hb=>(hf b hb).1⟩⟩
 done:=by
  intro X hP hw hK hc i pins s σ H E I hf st hg;subst hP hw hK;obtain⟨xs,hq,hx⟩:=hg;obtain⟨its,rv,p,hz⟩:=I.list hq;obtain⟨f0,f1,f2,f3,f4,f5⟩:=hf it (by simp);have hl:=rv.length;exact wpAny_pyNext_list_end (I.ok.hd hc) st p.isList (by simp;omega) fun h' eb=>⟨rfl,I.turned (t':=s.toks) (fun b o hb e=>eb b o hb e) f0 f1 f3 f4 f5⟩
 self:=fun _ _ _ _ _ st h=>wpAny_pyIter_listiter st h
def Td{P:Program}{w:World}{K:ao}{tg:Expr}(a it:Addr):Turn P w K tg (Itt K a) [it] it (fun i h=>h.IsTupleIter it a i) where
 mem:=by simp
 obj:=fun i h st b hb=>by
  have e:b=it:=by simpa using hb
  subst e;obtain⟨o,e,c,d⟩:=st;exact⟨o,e,fun v z=>by rw[d]at z;cases z⟩
 keep:=fun i h h' st k=>st.at fun o e=>k it (by simp) o e
 item:=by
  intro X hP hw hK hc i pins s σ H E I hf st hg;subst hP hw hK;obtain⟨xs,x,hq,hx⟩:=hg;obtain⟨its,rv,p,hz⟩:=I.tuple hq;obtain⟨u,hu,ru⟩:=rv.get hx;obtain⟨f0,f1,f2,f3,f4,f5⟩:=hf it (by simp);refine wpAny_pyNext_tuple_item st (show s.heap.IsTuple a its.toArray from p) (x:=u) (by simpa using hu) fun h' st' sb=>?_;have I1:Inv X pins σ H { s with heap:=h' }:=I.turned (t':=s.toks) (fun b o hb e=>(sb.2 b hb).trans e) f0 f1 f3 f4 f5;obtain⟨o,e,c,d⟩:=id st';exact⟨u,rfl,Tc (s:={ s with heap:=h' }) e c d (by decide) ⟨x,H,I1,ru,⟨rfl,fun ys hy=>by rw[I.VH hy hq];exact hx⟩,st',fun b hb=>(hf b hb).1⟩⟩
 done:=by
  intro X hP hw hK hc i pins s σ H E I hf st hg;subst hP hw hK;obtain⟨xs,hq,hx⟩:=hg;obtain⟨its,rv,p,hz⟩:=I.tuple hq;obtain⟨f0,f1,f2,f3,f4,f5⟩:=hf it (by simp);have hl:=rv.length;exact wpAny_pyNext_tuple_end (I.ok.hd hc) st (show s.heap.IsTuple a its.toArray from p) (by simp;omega) fun h' eb=>⟨rfl,I.turned (t':=s.toks) (fun b o hb e=>eb b o hb e) f0 f1 f3 f4 f5⟩
 self:=fun _ _ _ _ _ st h=>wpAny_pyIter_tupleiter st h
def Te{P:Program}{w:World}{K:ao}{tg:Expr}(it:Addr)(lo:Int)(n:Nat):Turn P w K tg (Itr lo n) [it] it (fun i h=>IsRangeIter h it (lo+(i:Nat)*1) ((n:Int) - (i:Nat)) 1) where
 mem:=by simp
 obj:=fun i h st b hb=>by
  have e:b=it:=by simpa using hb
  subst e
  exact⟨_,st,fun v z=>by
   have z':Data.fields _=Data.cell v:=z
   cases z'⟩
 keep:=fun i h h' st k=>k it (by simp) _ st
 item:=by
  intro X hP hw hK hc i pins s σ H E I hf st hg;subst hP hw hK;obtain⟨f0,f1,f2,f3,f4,f5⟩:=hf it (by simp);have W:=Walks.range (prog:=X.prog) (w:=X.w) (I.ok.hd hc) it lo 1 n;refine W.item i s _ _ hg st fun v h' tk hv st' kk=>?_;obtain⟨t,rfl⟩:=hv;have I1:Inv X pins σ H { s with heap:=h',toks:=tk }:=I.turned (fun b o hb e=>kk b o (by simpa using hb) e) f0 f1 f3 f4 f5;refine⟨_,rfl,Tc (s:={ s with heap:=h',toks:=tk }) (n:="range_iterator") st' rfl rfl (by decide) ⟨.int (lo+i),H,I1,⟨t,?_⟩,⟨rfl,rfl⟩,st',fun b hb=>(hf b hb).1⟩⟩;rw[Int.mul_one]
 done:=by
  intro X hP hw hK hc i pins s σ H E I hf st hg;subst hP hw hK;obtain⟨f0,f1,f2,f3,f4,f5⟩:=hf it (by simp);exact wpAny_pyNext_range_end (I.ok.hd hc) st (by have:n<=i:=hg;omega) fun h' eb=>⟨rfl,I.turned (t':=s.toks) (fun b o hb e=>eb b o hb e) f0 f1 f3 f4 f5⟩
 self:=fun _ _ _ _ _ st h=>wpAny_pyIter_rangeiter st h
section
variable{X:Cx}{tg:Expr}
def Tf(K:ao)(tl:TE):TI:=fun σ H R=>tl σ H fun x H1=>∃ a,x= .ref a/\(∃ xs,SqL K H1 a xs)/\R (Itl K a) H1
def Yj(K:ao)(tl:TE):TI:=fun σ H R=>tl σ H fun x H1=>∃ a,x= .ref a/\(∃ xs,SqT K H1 a xs)/\R (Itt K a) H1
def sS{l:Expr}{tl:TE}(hl:PE X l tl):PI X tg l (Tf X.K tl):=by
 intro pins s σ H R I h;refine thn (hl pins s σ H _ I h) fun v s1 ⟨x,H1,I1,r1,q1⟩=>?_;obtain⟨a,e,⟨xs,hq⟩,q⟩:=q1;subst e;cases r1;obtain⟨its,rv,p,hz⟩:=I1.list hq;refine wpAny_pyIter_list p.isList ?_;refine⟨s1.heap.objs.size,[s1.heap.objs.size],_,_,H1,rfl,I1.kept (t':=s1.toks) fun b o e=>dJ _ e,VJ a _,⟨_,jT _ rfl,rfl,rfl⟩,fun b hb=>?_,q⟩;have e:b=s1.heap.objs.size:=by simpa using hb
 subst e;exact I1.NB (aG _) (I1.hok.fresh (aG _))
def ab6{l:Expr}{tl:TE}(hl:PE X l tl):PI X tg l (Yj X.K tl):=by
 intro pins s σ H R I h;refine thn (hl pins s σ H _ I h) fun v s1 ⟨x,H1,I1,r1,q1⟩=>?_;obtain⟨a,e,⟨xs,hq⟩,q⟩:=q1;subst e;cases r1;obtain⟨its,rv,p,hz⟩:=I1.tuple hq;refine wpAny_pyIter_tuple (show s1.heap.IsTuple a its.toArray from p) ?_;refine⟨s1.heap.objs.size,[s1.heap.objs.size],_,_,H1,rfl,I1.kept (t':=s1.toks) fun b o e=>dJ _ e,Td a _,⟨_,jT _ rfl,rfl,rfl⟩,fun b hb=>?_,q⟩;have e:b=s1.heap.objs.size:=by simpa using hb
 subst e;exact I1.NB (aG _) (I1.hok.fresh (aG _))
def NK{pins:List (Addr × Obj)}{σ:St}{H:Hp}{s:aj}{R:It->Hp->Prop}{E:Value->aj->Prop}{lo hi:Int}{t u v:Tok}{tk:Nat}(I:Inv X pins σ H s)(h1: -(2 ^ 62)<=lo)(h2:lo<2 ^ 62)(h3: -(2 ^ 62)<=hi)(h4:hi<2 ^ 62)
    (q:R (Itr lo (hi - lo).toNat) H):wpAny (model X.prog X.w) X.A (pyIter (.ref s.heap.objs.size)) (PIE X pins σ tg R) E { s with heap:=s.heap.push { cls:=.type "range",data:=.fields #[.int lo t,.int hi u,.int 1 v] },toks:=tk }:=by
 refine wpAny_pyIter_range (IsRange.new ..) (small_one h1 h2 h3 h4) ?_;have I1:Inv X pins σ H { s with heap:=s.heap.push { cls:=.type "range",data:=.fields #[.int lo t,.int hi u,.int 1 v] },toks:=tk }:=I.kept fun b o e=>dJ _ e
 refine⟨(s.heap.push { cls:=.type "range",data:=.fields #[.int lo t,.int hi u,.int 1 v] }).objs.size,[(s.heap.push { cls:=.type "range",data:=.fields #[.int lo t,.int hi u,.int 1 v] }).objs.size],_,_,H,rfl,
  I1.kept (t':=tk) fun b o e=>dJ _ e,Te _ lo (hi - lo).toNat,?_,fun b hb=>?_,q⟩
 · have e1:lo+((0:Nat):Int)*1=lo:=by simp
   have e2:(((hi - lo).toNat:Nat):Int) - ((0:Nat):Int)=Builtin.Range.rangeSize lo hi 1:=by rw[rangeSize_one];split <;> omega
   show IsRangeIter _ _ (lo+((0:Nat):Int)*1) ((((hi - lo).toNat:Nat):Int) - ((0:Nat):Int)) 1;rw[e1,e2];exact jT _ rfl
 · have e:b=(s.heap.push { cls:=.type "range",data:=.fields #[.int lo t,.int hi u,.int 1 v] }).objs.size:=by simpa using hb
   subst e;exact I1.NB (aG _) (I1.hok.fresh (aG _))
def ZW(ta:TA):TI:=fun σ H R=>ta σ H fun vs H1=>∃ j:Int,vs= [.int j]/\-(2 ^ 62)<=j/\j<2 ^ 62/\R (Itr 0 j.toNat) H1
def ZX(ta:TA):TI:=fun σ H R=>ta σ H fun vs H1=>∃ i j:Int,vs= [.int i,.int j]/\(-(2 ^ 62)<=i/\i<2 ^ 62/\-(2 ^ 62)<=j/\j<2 ^ 62)/\R (Itr i (j - i).toNat) H1
def kJ{a:Expr}{ta:TA}{p pos:Pos}(hg:Gl X "range")(hm:X.mg "range" =none)(ha:PA X [a] ta)(hs:starEach [a] X.env= [(false,eval a X.env)]:=by rfl):PI X tg (.Call (.Name "range" p) [a] [] pos) (ZW ta):=by
 intro pins s σ H R I h;refine Call_ (vG I hg hm boot_range (PyProof.Rows.callWith_type1 (thn (ha pos pins s σ H _ I h) fun us s1 ⟨vs,H1,I1,r1,q1⟩=>?_) hs rfl));obtain⟨j,e,q1,q2,q⟩:=q1;subst e
 cases r1 with
 | cons r rr=>
   cases rr;obtain⟨t,rfl⟩:=r;exact call_range_1 (NK I1 (by omega) (by omega) q1 q2 (by simpa using q))
def VL{a b:Expr}{ta:TA}{p pos:Pos}(hg:Gl X "range")(hm:X.mg "range" =none)(ha:PA X [a,b] ta)(hs:starEach [a,b] X.env= [(false,eval a X.env),(false,eval b X.env)]:=by rfl)(hs2:starEach [b] X.env= [(false,eval b X.env)]:=by rfl):
    PI X tg (.Call (.Name "range" p) [a,b] [] pos) (ZX ta):=by
 intro pins s σ H R I h;refine Call_ (vG I hg hm boot_range (PyProof.Rows.callWith_type1 (thn (ha pos pins s σ H _ I h) fun us s1 ⟨vs,H1,I1,r1,q1⟩=>?_) (by rw[hs,hs2]) (by rw[hs2];rfl)));obtain⟨i,j,e,⟨q1,q2,q3,q4⟩,q⟩:=q1;subst e
 cases r1 with
 | cons r rr=>
   cases rr with
   | cons r' rr=>
     cases rr;obtain⟨t,rfl⟩:=r;obtain⟨t',rfl⟩:=r';exact call_range_2 (NK I1 q1 q2 q3 q4 q)
def ab7(wi:TI)(g:TG)(tb:TS):TS:=fun D σ H=>wi σ H fun J H1=>∃ W:Nat->Nat->St->Hp->Prop,(∃ m,W 0 m σ H1)/\∀ i m σ H,W i m σ H->
 (J.stop i H/\D.nx σ H)\/(J.go i H/\∃ N:St->Hp->Prop,(∀ σ' H',N σ' H'->∃ m',m'<m/\W (i+1) m' σ' H')/\∀ x H',J.yld i H x H'->g x σ H' fun σ2 H2=>tb { D with nx:=N,ct:=N,bk:=D.nx } σ2 H2)
def Bs(fp:List Addr)(h:Heap):List (Addr × Obj):=fp.filterMap fun b=>(h.get? b).map fun o=>(b,o)
def uP{fp:List Addr}{h:Heap}{b:Addr}{o:Obj}(hb:b ∈ fp)(e:h.get? b=some o):(b,o) ∈ Bs fp h:=List.mem_filterMap.mpr ⟨b,hb,by rw[e];rfl⟩
def VM{fp:List Addr}{h:Heap}{p:Addr × Obj}(hp:p ∈ Bs fp h):p.1 ∈ fp/\h.get? p.1=some p.2:=by
 obtain⟨b,hb,e⟩:=List.mem_filterMap.mp hp
 cases q:h.get? b with
 | none=>rw[q]at e;cases e
 | some o=>
   rw[q]at e;have e':(b,o)=p:=gH e;subst e';exact⟨hb,q⟩
def Inv.pinned{pins:List (Addr × Obj)}{σ:St}{H:Hp}{s:aj}{fp:List Addr}(I:Inv X pins σ H s)(hf:∀ b ∈ fp,n8 X pins H b)(ho:∀ b ∈ fp,∃ o,s.heap.get? b=some o/\∀ v,o.data ≠ .cell v):Inv X (pins++Bs fp s.heap) σ H s:=
 I.Ij fun p hp=>(List.mem_append.mp hp).elim (fun z=>I.pin p (List.mem_append_right _ z)) fun z=>by
  obtain⟨hb,e⟩:=VM z;obtain⟨f0,f1,f2,_⟩:=hf p.1 hb;obtain⟨o,e',d⟩:=ho p.1 hb;rw[e]at e';cases e';exact⟨e,f0,f1,f2,d⟩
def Inv.vH{pins pl:List (Addr × Obj)}{σ:St}{H:Hp}{s:aj}(I:Inv X (pins++pl) σ H s):Inv X pins σ H s:=I.Ij fun p hp=>I.pin p (List.mem_append_right _ (List.mem_append_left _ hp))
def Bu{iter:Expr}{body:List Stmt}{wi:TI}{g:TG}{tb:TS}{pos:Pos}(hp:PassesOwn (model X.prog X.w) X.A X.env X.xe)(hc:X.calm=true)(hi:PI X tg iter wi)(hg:PG X tg g)(hb:PSs X body tb)
    (hs:∀ x,foldedSetIterable iter X.env x=pure x:=by intro _;rfl):PS X (.For tg iter body [] pos) (ab7 wi g tb):=by
 intro pins s σ H D I h;refine wpAny_For (thn (hi pins s σ H _ I h) fun v s1 h1=>thn h1 fun itv s2 h2=>?_) hs;obtain⟨it,fp,tn,J,H2,e,I2,T,st2,f2,W,⟨m0,w0⟩,turn⟩:=h2;subst e;have stat:∀ {H':Hp},(∀ b ∈ fp,H' b=none)->∀ b ∈ fp,n8 X pins H' b:=fun hn b hb=>⟨hn b hb,(f2 b hb).2⟩;refine codeAny_forLoop_any (fun n s'=>∃ i σ' H',Inv X pins σ' H' s'/\tn i s'.heap/\(∀ b ∈ fp,H' b=none)/\W i n σ' H') ?_ m0 ⟨0,σ,H2,I2,st2,fun b hb=>(f2 b hb).1,w0⟩;rintro n s3 ⟨i,σ3,H3,I3,st3,fr3,w3⟩
 rcases turn i n σ3 H3 w3 with ⟨stop,qn⟩ | ⟨go,N,hN,step⟩
 · refine wpAny_passesOwn hp (thn (T.done X rfl rfl rfl hc i pins s3 σ3 H3 X.xe I3 (stat fr3) st3 stop) fun r s4 ⟨hr,I4⟩=>?_);subst hr;exact wpAny_execs_nil ⟨σ3,H3,I4,qn⟩
 · refine wpAny_passesOwn hp (thn (T.item X rfl rfl rfl hc i pins s3 σ3 H3 X.xe I3 (stat fr3) st3 go) fun r s4 ⟨u,hr,h4⟩=>?_);subst hr;refine wpAny_passesOwn hp (thn h4 fun _ s5 ⟨x,H5,I5,r5,y5,st5,fr5⟩=>?_);have I5':=I5.pinned (stat fr5) (T.obj _ _ st5);refine wpAny_passesOwn hp (thn (hg _ s5 σ3 H5 x u _ I5' r5 (step x H5 y5)) fun _ s6 ⟨σ6,H6,I6,q6⟩=>?_);refine wpAny_passesOwn hp (thn (hb _ s6 σ6 H6 _ I6 q6) fun f s7 q7=>?_)
   have again:∀ {σ7:St} {H7:Hp},Inv X (pins++Bs fp s5.heap) σ7 H7 s7->N σ7 H7->∃ m,m<n/\∃ i σ' H',Inv X pins σ' H' s7/\tn i s7.heap/\(∀ b ∈ fp,H' b=none)/\W i m σ' H':=fun {σ7 H7} I7 n7=>by
    obtain⟨m',hm,w7⟩:=hN σ7 H7 n7;refine⟨m',hm,i+1,σ7,H7,I7.vH,T.keep _ _ _ st5 fun b hb o e=>(I7.pin (b,o) (List.mem_append_right _ (List.mem_append_right _ (uP hb e)))).1,fun b hb=>?_,w7⟩;obtain⟨o,e,d⟩:=T.obj _ _ st5 b hb;exact(I7.pin (b,o) (List.mem_append_right _ (List.mem_append_right _ (uP hb e)))).2.1
   cases f with
   | next=>obtain⟨σ7,H7,I7,n7⟩:=q7;exact again I7 n7
   | cont=>obtain⟨σ7,H7,I7,n7⟩:=q7;exact again I7 n7
   | brk=>obtain⟨σ7,H7,I7,q7⟩:=q7;exact⟨σ7,H7,I7.vH,q7⟩
   | ret v=>obtain⟨x7,σ7,H7,I7,r7,q7⟩:=q7;exact⟨x7,σ7,H7,I7.vH,r7,q7⟩
end
def zg{K:ao}{a:Addr}{xs:List V}{g:TG}{tb:TS}{D:Ends}{σ:St}{H:Hp}(Pv:Nat->St->Hp->Prop)(h0:Pv 0 σ H)(hl:∀ i σ H,i<=xs.length->Pv i σ H->SqL K H a xs)
    (hs:∀ i x σ H,xs[i]? =some x->Pv i σ H->g x σ H fun σ2 H2=>tb { D with nx:=Pv (i+1),ct:=Pv (i+1),bk:=D.nx } σ2 H2) (hd:∀ σ H,Pv xs.length σ H->D.nx σ H):
    ∃ W:Nat->Nat->St->Hp->Prop,(∃ m,W 0 m σ H)/\∀ i m σ H,W i m σ H->
      ((Itl K a).stop i H/\D.nx σ H)\/((Itl K a).go i H/\∃ N:St->Hp->Prop,(∀ σ' H',N σ' H'->∃ m',m'<m/\W (i+1) m' σ' H')/\∀ x H',(Itl K a).yld i H x H'->g x σ H' fun σ2 H2=>tb { D with nx:=N,ct:=N,bk:=D.nx } σ2 H2):=by
 refine⟨fun i m σ H=>m=xs.length - i/\i<=xs.length/\Pv i σ H,⟨xs.length,by simp,Nat.zero_le _,h0⟩,?_⟩;rintro i m σ H ⟨rfl,hi,p⟩;have q:=hl i σ H hi p
 by_cases hlt:i<xs.length
 · refine .inr ⟨⟨xs,xs[i],q,by simp[hlt]⟩,Pv (i+1),fun σ' H' p'=>⟨xs.length - (i+1),by omega,rfl,hlt,p'⟩,fun x H' y=>?_⟩;obtain⟨e,y⟩:=y;subst e;exact hs i x σ _ (y xs q) p
 · have e:i=xs.length:=by omega
   subst e;exact .inl ⟨⟨xs,q,aG _⟩,hd σ H p⟩
abbrev R2:=V->V->Hp->VK->Prop
def OpR(X:Cx)(f:Value->Value->Sem Value)(r:R2):Prop:=
 ∀(pins:List (Addr × Obj)) (s:aj) (σ:St) (H:Hp) (x y:V) (v u:Value) (Q:VK),Inv X pins σ H s->RelV x v->RelV y u->r x y H Q->
  wpAny (model X.prog X.w) X.A (f v u) (EP X pins σ Q) X.xe s
def UnR(X:Cx)(f:Value->Sem Value)(r:V->Hp->VK->Prop):Prop:=
 ∀(pins:List (Addr × Obj)) (s:aj) (σ:St) (H:Hp) (x:V) (v:Value) (Q:VK),Inv X pins σ H s->RelV x v->r x H Q->
  wpAny (model X.prog X.w) X.A (f v) (EP X pins σ Q) X.xe s
def oH(X:Cx)(f:Value)(r:List V->Hp->VK->Prop):Prop:=
 ∀(pins:List (Addr × Obj)) (s:aj) (σ:St) (H:Hp) (xs:List V) (us:List Value) (Q:VK),Inv X pins σ H s->Vals xs us->r xs H Q->
  wpAny (model X.prog X.w) X.A (call f us) (EP X pins σ Q) X.xe s
def afr(X:Cx)(r:V->Hp->(Bool->Hp->Prop)->Prop):Prop:=
 ∀(pins:List (Addr × Obj)) (s:aj) (σ:St) (H:Hp) (x:V) (v:Value) (Q:Bool->Hp->Prop),Inv X pins σ H s->RelV x v->r x H Q->
  wpAny (model X.prog X.w) X.A (truthy v) (TP X pins σ Q) X.xe s
def tOp(r:R2)(ta tb:TE):TE:=fun σ H Q=>ta σ H fun x H1=>tb σ H1 fun y H2=>r x y H2 Q
def tUn(r:V->Hp->VK->Prop)(ta:TE):TE:=fun σ H Q=>ta σ H fun x H1=>r x H1 Q
def rI(C:Int->Int->Prop)(g:Int->Int->V):R2:=fun x y H Q=>∃ i j,x= .int i/\y= .int j/\C i j/\Q (g i j) H
def rI0(g:Int->Int->V):R2:=fun x y H Q=>∃ i j,x= .int i/\y= .int j/\Q (g i j) H
def rU(g:Int->V):V->Hp->VK->Prop:=fun x H Q=>∃ i,x= .int i/\Q (g i) H
section
variable{X:Cx}{a b c:Expr}{ta tb tc:TE}{pos:Pos}
def Yk(ha:PE X a ta)(hb:PE X b tb){pins:List (Addr × Obj)}{s:aj}{σ:St}{H:Hp}{R:V->V->Hp->Prop}(I:Inv X pins σ H s)
    (h:ta σ H fun x H1=>tb σ H1 fun y H2=>R x y H2) {Q:Value->aj->Prop} {f:Value->Value->Sem Value}
    (hf:∀ v u s2 x y H2,Inv X pins σ H2 s2->RelV x v->RelV y u->R x y H2->wpAny (model X.prog X.w) X.A (f v u) Q X.xe s2):
    wpAny (model X.prog X.w) X.A (eval a X.env) (fun v s₁=>wpAny (model X.prog X.w) X.A (eval b X.env) (fun u s₂=>wpAny (model X.prog X.w) X.A (f v u) Q X.xe s₂) X.xe s₁) X.xe s:=by
 refine thn (ha pins s σ H _ I h) fun v s1 ⟨x,H1,I1,r1,q1⟩=>?_;refine thn (hb pins s1 σ H1 _ I1 q1) fun u s2 ⟨y,H2,I2,r2,q2⟩=>?_;exact hf v u s2 x y H2 I2 r1 r2 q2
def gJ{op:Operator}{r:R2}(ho:OpR X (binaryOp op) r)(ha:PE X a ta)(hb:PE X b tb):PE X (.BinOp a op b pos) (tOp r ta tb):=by
 intro pins s σ H Q I h;exact wpAny_BinOp (Yk ha hb I h fun v u s2 x y H2 I2 rx ry q=>ho pins s2 σ H2 x y v u Q I2 rx ry q)
def ael{op:UnaryOp}{r:V->Hp->VK->Prop}(ho:UnR X (unaryOp op) r)(ha:PE X a ta):PE X (.UnaryOp op a pos) (tUn r ta):=by
 intro pins s σ H Q I h;exact UnaryOp_ (thn (ha pins s σ H _ I h) fun v s1 ⟨x,H1,I1,r1,q1⟩=>ho pins s1 σ H1 x v Q I1 r1 q1)
def opI{f:Value->Value->Sem Value}{C:Int->Int->Prop}{g:Int->Int->Int}
    (rule:∀(i j:Int) (t u:Tok) (s:aj) (Q:Value->aj->Prop) (E:Value->aj->Prop),C i j->Q (.int (g i j) s.toks) { s with toks:=s.toks+1 }->wpAny (model X.prog X.w) X.A (f (.int i t) (.int j u)) Q E s):
    OpR X f (rI C fun i j=>.int (g i j)):=by
 intro pins s σ H x y v u Q I rx ry h;obtain⟨i,j,rfl,rfl,hc,q⟩:=h;obtain⟨t,rfl⟩:=rx;obtain⟨t',rfl⟩:=ry;exact rule i j t t' s _ _ hc ⟨.int (g i j),H,I.tok _,⟨_,rfl⟩,q⟩
def ab8{f:Value->Value->Sem Value}{g:Int->Int->Int}
    (rule:∀(i j:Int) (t u:Tok) (s:aj) (Q:Value->aj->Prop) (E:Value->aj->Prop),Q (.int (g i j) s.toks) { s with toks:=s.toks+1 }->wpAny (model X.prog X.w) X.A (f (.int i t) (.int j u)) Q E s):
    OpR X f (rI0 fun i j=>.int (g i j)):=by
 intro pins s σ H x y v u Q I rx ry h;obtain⟨i,j,rfl,rfl,q⟩:=h;obtain⟨t,rfl⟩:=rx;obtain⟨t',rfl⟩:=ry;exact rule i j t t' s _ _ ⟨.int (g i j),H,I.tok _,⟨_,rfl⟩,q⟩
def Th{f:Value->Value->Sem Value}{g:Int->Int->Bool}
    (rule:∀(i j:Int) (t u:Tok) (s:aj) (Q:Value->aj->Prop) (E:Value->aj->Prop),Q (.bool (g i j)) s->wpAny (model X.prog X.w) X.A (f (.int i t) (.int j u)) Q E s):
    OpR X f (rI0 fun i j=>.bl (g i j)):=by
 intro pins s σ H x y v u Q I rx ry h;obtain⟨i,j,rfl,rfl,q⟩:=h;obtain⟨t,rfl⟩:=rx;obtain⟨t',rfl⟩:=ry;exact rule i j t t' s _ _ ⟨.bl (g i j),H,I,rfl,q⟩
def Ti(i j:Int):Prop:=0<=j/\j<=1000000/\i.natAbs<2 ^ 64
def Yl(i j:Int):Prop:=(-(2 ^ 64)<i/\i<2 ^ 64)\/(-(2 ^ 64)<j/\j<2 ^ 64)
def Yl.ok{i j:Int}(h:Yl i j):IntMulOk i j:=by
 rcases h with ⟨h1,h2⟩ | ⟨h1,h2⟩
 · exact .of_left (intBits_le_64 h1 h2)
 · exact .of_right (intBits_le_64 h1 h2)
def d9:OpR X (binaryOp .Add) (rI0 fun i j=>.int (i+j)):=ab8 fun _ _ _ _ _ _ _ q=>add_int q
def qt:OpR X (binaryOp .Sub) (rI0 fun i j=>.int (i - j)):=ab8 fun _ _ _ _ _ _ _ q=>sub_int q
def cX:OpR X (binaryOp .Mod) (rI (fun _ j=>0<j) fun i j=>.int (i % j)):=opI fun i j _ _ _ _ _ hc q=>by
 have h1:(0:Int)<j:=hc;exact mod_int' (by omega) (by rw[Int.fmod_eq_emod_of_nonneg i (by omega)];exact q)
def Gn:OpR X (binaryOp .Pow) (rI Ti fun i j=>.int (i ^ j.toNat)):=opI fun _ _ _ _ _ _ _ hc q=>pow_int_small hc.1 hc.2.1 hc.2.2 q
def unI{f:Value->Sem Value}{g:Int->Int}
    (rule:∀(i:Int) (t:Tok) (s:aj) (Q:Value->aj->Prop) (E:Value->aj->Prop),Q (.int (g i) s.toks) { s with toks:=s.toks+1 }->wpAny (model X.prog X.w) X.A (f (.int i t)) Q E s):
    UnR X f (rU fun i=>.int (g i)):=by
 intro pins s σ H x v Q I rx h;obtain⟨i,rfl,q⟩:=h;obtain⟨t,rfl⟩:=rx;exact rule i t s _ _ ⟨.int (g i),H,I.tok _,⟨_,rfl⟩,q⟩
def VN:UnR X (unaryOp .USub) (rU fun i=>.int (-i)):=unI fun _ _ _ _ _ q=>neg_int q
end
def ab9:V->V->Bool
 | .non,.non=>true | .non,.int _=>true | .int _,.non=>true | .non,.bl _=>true | .bl _,.non=>true | .non,.str _=>true | .str _,.non=>true
 | .int _,.int _=>true | .bl _,.bl _=>true | .str _,.str _=>true | .byt _,.byt _=>true
 | .int _,.str _=>true | .str _,.int _=>true | .bl _,.str _=>true | .str _,.bl _=>true
 | _,_=>false
def rEq:R2:=fun x y H Q=>ab9 x y=true/\Q (.bl (decide (x=y))) H
def rNe:R2:=fun x y H Q=>ab9 x y=true/\Q (.bl (!decide (x=y))) H
def Rg{i j:Int}:decide (V.int i=V.int j)=(i==j):=by
 rw[Bool.eq_iff_iff];simp
def VR{i j:Bool}:decide (V.bl i=V.bl j)=(i==j):=by
 rw[Bool.eq_iff_iff];simp
def Rh{i j:Str}:decide (V.str i=V.str j)=(i==j):=by
 rw[Bool.eq_iff_iff];simp
def Ri{i j:Array UInt8}:decide (V.byt i=V.byt j)=(i.toList==j.toList):=by
 rw[Bool.eq_iff_iff];cases i;cases j;simp
section
variable{X:Cx}{a b c:Expr}{ta tb tc:TE}{pos:Pos}
def cD{pins:List (Addr × Obj)}{σ:St}{H:Hp}{s:aj}{Q:VK}{k k':Bool}(I:Inv X pins σ H s)(q:Q (.bl k) H)(e:k=k'):EP X pins σ Q (.bool k') s:=by
 subst e;exact⟨.bl k,H,I,rfl,q⟩
def aem:OpR X (compareOp .Eq) rEq:=by
 intro pins s σ H x y v u Q I rx ry h;obtain⟨hs,q⟩:=h
 cases x with
 | non=>
   cases rx
   cases y with
   | non=>cases ry;exact PySem.EqNone.eq_none_none (cD I q (by simp))
   | bl j=>cases ry;exact PySem.EqNone.eq_none_bool (cD I q (by simp))
   | int j=>obtain⟨t',rfl⟩:=ry;exact PySem.EqNone.eq_none_int (cD I q (by simp))
   | str j=>obtain⟨t',rfl⟩:=ry;exact PySem.EqNone.eq_none_str (cD I q (by simp))
   | _=>exact aK (show false=true from hs) gF
 | bl i=>
   cases rx
   cases y with
   | non=>cases ry;exact PySem.EqNone.eq_bool_none (cD I q (by simp))
   | bl j=>cases ry;exact eq_bool (cD I q VR)
   | str j=>obtain⟨t',rfl⟩:=ry;exact PySem.EqMixed.eq_bool_str (cD I q (by simp))
   | _=>exact aK (show false=true from hs) gF
 | int i=>
   obtain⟨t,rfl⟩:=rx
   cases y with
   | non=>cases ry;exact PySem.EqNone.eq_int_none (cD I q (by simp))
   | int j=>obtain⟨t',rfl⟩:=ry;exact eq_int (cD I q Rg)
   | str j=>obtain⟨t',rfl⟩:=ry;exact PySem.EqMixed.eq_int_str (cD I q (by simp))
   | _=>exact aK (show false=true from hs) gF
 | str i=>
   obtain⟨t,rfl⟩:=rx
   cases y with
   | non=>cases ry;exact PySem.EqNone.eq_str_none (cD I q (by simp))
   | bl j=>cases ry;exact PySem.EqMixed.eq_str_bool (cD I q (by simp))
   | int j=>obtain⟨t',rfl⟩:=ry;exact PySem.EqMixed.eq_str_int (cD I q (by simp))
   | str j=>obtain⟨t',rfl⟩:=ry;exact eq_str (cD I q Rh)
   | _=>exact aK (show false=true from hs) gF
 | byt i=>
   obtain⟨t,rfl⟩:=rx
   cases y with
   | byt j=>obtain⟨t',rfl⟩:=ry;exact PySem.W.eq_bytes (cD I q Ri)
   | _=>exact aK (show false=true from hs) gF
 | _=>cases y <;> exact aK (show false=true from hs) gF
def aen:OpR X (compareOp .NotEq) rNe:=by
 intro pins s σ H x y v u Q I rx ry h;obtain⟨hs,q⟩:=h
 cases x with
 | non=>
   cases rx
   cases y with
   | non=>cases ry;exact PySem.EqNone.ne_none_none (cD I q (by simp))
   | bl j=>cases ry;exact PySem.EqNone.ne_none_bool (cD I q (by simp))
   | int j=>obtain⟨t',rfl⟩:=ry;exact PySem.EqNone.ne_none_int (cD I q (by simp))
   | str j=>obtain⟨t',rfl⟩:=ry;exact PySem.EqNone.ne_none_str (cD I q (by simp))
   | _=>exact aK (show false=true from hs) gF
 | bl i=>
   cases rx
   cases y with
   | non=>cases ry;exact PySem.EqNone.ne_bool_none (cD I q (by simp))
   | bl j=>cases ry;exact ne_bool (cD I q (congrArg not VR))
   | str j=>obtain⟨t',rfl⟩:=ry;exact PySem.EqMixed.ne_bool_str (cD I q (by simp))
   | _=>exact aK (show false=true from hs) gF
 | int i=>
   obtain⟨t,rfl⟩:=rx
   cases y with
   | non=>cases ry;exact PySem.EqNone.ne_int_none (cD I q (by simp))
   | int j=>obtain⟨t',rfl⟩:=ry;exact ne_int (cD I q (congrArg not Rg))
   | str j=>obtain⟨t',rfl⟩:=ry;exact PySem.EqMixed.ne_int_str (cD I q (by simp))
   | _=>exact aK (show false=true from hs) gF
 | str i=>
   obtain⟨t,rfl⟩:=rx
   cases y with
   | non=>cases ry;exact PySem.EqNone.ne_str_none (cD I q (by simp))
   | bl j=>cases ry;exact PySem.EqMixed.ne_str_bool (cD I q (by simp))
   | int j=>obtain⟨t',rfl⟩:=ry;exact PySem.EqMixed.ne_str_int (cD I q (by simp))
   | str j=>obtain⟨t',rfl⟩:=ry;exact ne_str (cD I q (congrArg not Rh))
   | _=>exact aK (show false=true from hs) gF
 | byt i=>
   obtain⟨t,rfl⟩:=rx
   cases y with
   | byt j=>obtain⟨t',rfl⟩:=ry;exact PySem.W.ne_bytes (cD I q (congrArg not Ri))
   | _=>exact aK (show false=true from hs) gF
 | _=>cases y <;> exact aK (show false=true from hs) gF
def xg:OpR X (compareOp .Lt) (rI0 fun i j=>.bl (decide (i<j))):=Th fun _ _ _ _ _ _ _ q=>lt_int q
def ZZ:OpR X (compareOp .LtE) (rI0 fun i j=>.bl (decide (i<=j))):=Th fun _ _ _ _ _ _ _ q=>le_int q
def MJ:OpR X (compareOp .Gt) (rI0 fun i j=>.bl (decide (j<i))):=Th fun _ _ _ _ _ _ _ q=>gt_int q
def Dp:OpR X (compareOp .GtE) (rI0 fun i j=>.bl (decide (j<=i))):=Th fun _ _ _ _ _ _ _ q=>ge_int q
def OpR.or{f:Value->Value->Sem Value}{r r':R2}(h:OpR X f r)(h':OpR X f r'):OpR X f (fun x y H Q=>r x y H Q\/r' x y H Q):=by
 intro pins s σ H x y v u Q I rx ry q
 rcases q with q | q
 · exact h pins s σ H x y v u Q I rx ry q
 · exact h' pins s σ H x y v u Q I rx ry q
def bD(b:Expr){op:CmpOp}(h:op ≠ .In:=by decide)(h2:op ≠ .NotIn:=by decide):behindInMarks op b=false:=by
 have e1:(op==CmpOp.In)=false:=by cases op <;> first | rfl | exact aK rfl h
 have e2:(op==CmpOp.NotIn)=false:=by cases op <;> first | rfl | exact aK rfl h2
 cases b <;> simp[behindInMarks,e1,e2]
def aaM{op:CmpOp}{r:R2}(ho:OpR X (compareOp op) r)(ha:PE X a ta)(hb:PE X b tb)(hm:behindInMarks op b=false):PE X (.Compare a [op] [b] pos) (tOp r ta tb):=by
 intro pins s σ H Q I h;exact wpAny_Compare1 (Yk ha hb I h fun v u s2 x y H2 I2 rx ry q=>ho pins s2 σ H2 x y v u Q I2 rx ry q) hm
def Z0(t:TE):TT:=fun σ H Q=>t σ H fun x H'=>∃ k,x= .bl k/\Q k H'
def sU{op:CmpOp}{r:R2}(ho:OpR X (compareOp op) r)(ha:PE X a ta)(hb:PE X b tb)(hm:behindInMarks op b=false):PT X (.Compare a [op] [b] pos) (Z0 (tOp r ta tb)):=by
 intro pins s σ H Q I h
 refine wpAny_isTrue_Compare1 (thn (ha pins s σ H _ I h) fun v s1 ⟨x,H1,I1,r1,q1⟩=>thn (hb pins s1 σ H1 _ I1 q1) fun u s2 ⟨y,H2,I2,r2,q2⟩=>
  thn (ho pins s2 σ H2 x y v u _ I2 r1 r2 q2) fun c s3 ⟨z,H3,I3,r3,k,e,q3⟩=>?_) hm
 subst e;cases r3;exact wpAny_truthy_bool ⟨H3,I3,q3⟩
def NP(r r':R2)(ta tb tc:TE):TE:=fun σ H Q=>ta σ H fun x H1=>tb σ H1 fun y H2=>r x y H2 fun z H3=>∃ k,z= .bl k/\
 (if k=true then tc σ H3 fun w' H4=>r' y w' H4 Q else Q (.bl false) H3)
def Ym{op op':CmpOp}{r r':R2}(ho:OpR X (compareOp op) r)(ho':OpR X (compareOp op') r')(ha:PE X a ta)(hb:PE X b tb)(hc:PE X c tc)
    (hm:lastMarks [op,op'] [b,c] =false:=by with_unfolding_all rfl):PE X (.Compare a [op,op'] [b,c] pos) (NP r r' ta tb tc):=by
 intro pins s σ H Q I h
 refine Compare_chain (thn (ha pins s σ H _ I h) fun v s1 ⟨x,H1,I1,r1,q1⟩=>chain_link (thn (hb pins s1 σ H1 _ I1 q1) fun u s2 ⟨y,H2,I2,r2,q2⟩=>
  thn (ho pins s2 σ H2 x y v u _ I2 r1 r2 q2) fun d s3 ⟨z,H3,I3,r3,k,e,q3⟩=>?_)) hm
 subst e;cases r3;refine wpAny_truthy_bool ?_
 cases k with
 | false=>exact ite_ff ⟨.bl false,H3,I3,rfl,q3⟩
 | true=>exact ite_tt (chain_last (thn (hc pins s3 σ H3 _ I3 q3) fun w' s4 ⟨z',H4,I4,r4,q4⟩=>ho' pins s4 σ H4 y z' u w' Q I4 r2 r4 q4))
def Yn{op op':CmpOp}{r r':R2}(ho:OpR X (compareOp op) r)(ho':OpR X (compareOp op') r')(ha:PE X a ta)(hb:PE X b tb)(hc:PE X c tc)
    (hm:lastMarks [op,op'] [b,c] =false:=by with_unfolding_all rfl):PT X (.Compare a [op,op'] [b,c] pos) (Z0 (NP r r' ta tb tc)):=by
 intro pins s σ H Q I h
 refine isTrue_chain (thn (ha pins s σ H _ I h) fun v s1 ⟨x,H1,I1,r1,q1⟩=>test_link (thn (hb pins s1 σ H1 _ I1 q1) fun u s2 ⟨y,H2,I2,r2,q2⟩=>
  thn (ho pins s2 σ H2 x y v u _ I2 r1 r2 q2) fun d s3 ⟨z,H3,I3,r3,k,e,q3⟩=>?_)) hm
 subst e;cases r3;refine wpAny_truthy_bool ?_
 cases k with
 | false=>
   obtain⟨k',e',q'⟩:=q3;cases e'
   exact ite_ff ⟨H3,I3,q'⟩
 | true=>
   refine ite_tt (test_last (thn (hc pins s3 σ H3 _ I3 q3) fun w' s4 ⟨z',H4,I4,r4,q4⟩=>thn (ho' pins s4 σ H4 y z' u w' _ I4 r2 r4 q4) fun d' s5 ⟨z2,H5,I5,r5,k2,e2,q5⟩=>?_));subst e2;cases r5;exact wpAny_truthy_bool ⟨H5,I5,q5⟩
def Tj(K:ao)(x:V)(H:Hp)(k:Bool):Prop:=
 match x with
 | .non=>k=false
 | .bl b=>k=b
 | .int i=>k=(i != 0)
 | .str y=>y.length<=sizeLine/\k=((y.length:Int) != 0)
 | .byt y=>y.size<=sizeLine/\k=((y.size:Int) != 0)
 | .ref p=>(∃ xs,SqL K H p xs/\k= !xs.isEmpty)\/(∃ xs,SqT K H p xs/\k= !xs.isEmpty)\/∃ kvs,H p=some (.dK kvs)/\k= !kvs.isEmpty
 | _=>False
def Tn{κ:Type}{kvs:List (κ × V)}{vs:List (κ × Value)}(r:KV kvs vs):(!vs.isEmpty)= !kvs.isEmpty:=by
 cases r <;> rfl
def Gp{xs:List V}{its:List Value}(r:Vals xs its):(!its.toArray.isEmpty)= !xs.isEmpty:=by
 cases r <;> simp
def Bv:(sizeLine:Nat)<2 ^ 63:=by rw[sizeLine_eq];decide
def ab_:afr X (fun x H Q=>∃ k,Tj X.K x H k/\Q k H):=by
 intro pins s σ H x v Q I rx h;obtain⟨k,e,q⟩:=h;have hl:=Bv;have hs:sizeLine=16777216:=sizeLine_eq
 cases x with
 | non=>
   cases rx;have e':k=false:=e;subst e'
   exact truthy_none ⟨H,I,q⟩
 | bl b=>
   cases rx;have e':k=b:=e;subst e'
   exact wpAny_truthy_bool ⟨H,I,q⟩
 | int i=>
   obtain⟨t,rfl⟩:=rx;have e':k=(i != 0):=e;subst e'
   exact PySem.P.truthy_int ⟨H,I,q⟩
 | str y=>
   obtain⟨t,rfl⟩:=rx;obtain⟨hy,e'⟩:y.length<=sizeLine/\k=((y.length:Int) != 0):=e;subst e'
   exact PySem.P.truthy_str (by omega) ⟨H,I.tok _,q⟩
 | byt y=>
   obtain⟨t,rfl⟩:=rx;obtain⟨hy,e'⟩:y.size<=sizeLine/\k=((y.size:Int) != 0):=e;subst e'
   exact PySem.W.truthy_bytes (by omega) ⟨H,I.tok _,q⟩
 | ref p=>
   cases rx;have e':(∃ xs,SqL X.K H p xs/\k= !xs.isEmpty)\/(∃ xs,SqT X.K H p xs/\k= !xs.isEmpty)\/∃ kvs,H p=some (.dK kvs)/\k= !kvs.isEmpty:=e
   rcases e' with ⟨xs,hx,e'⟩ | ⟨xs,hx,e'⟩ | ⟨kvs,hx,e'⟩
   · subst e';obtain⟨its,r,pl,hz⟩:=I.list hx;have hlen:=r.length;exact wpAny_truthy_list pl.isList (by simp only[gj];omega) ⟨H,I.tok _,by rw[Gp r];exact q⟩
   · subst e';obtain⟨its,r,pl,hz⟩:=I.tuple hx;have hlen:=r.length;exact truthy_tuple pl (by simp only[gj];omega) ⟨H,I.tok _,by rw[Gp r];exact q⟩
   · subst e';obtain⟨hz,hS,vs,r,m⟩:kvs.length<=sizeLine/\(p==sysModules)=false/\∃ vs,KV kvs vs/\s.heap.DictOf (gM X.prog X.w) p vs:=I.hok p _ hx;have hlen:kvs.length=vs.length:=Paired.length r
     exact wpAny_truthy_dict hS m (by omega) ⟨H,I.tok _,by rw[Tn r];exact q⟩
 | _=>exact(show False from e).elim
def NQ(ha:PE X a ta)(he:∀ whole,isTrue a X.env whole=(do let v <- whole;standAt a.pos;holding [v] (truthy v))):
    PT X a (fun σ H Q=>ta σ H fun x H'=>∃ k,Tj X.K x H' k/\Q k H'):=by
 intro pins s σ H Q I h;exact isTrue_plain (thn (ha pins s σ H _ I h) fun v s1 ⟨x,H1,I1,r1,q1⟩=>ab_ pins s1 σ H1 x v Q I1 r1 q1) (he _)
def vals1{x:V}{us:List Value}(r:Vals [x] us):∃ u,us= [u]/\RelV x u:=by
 cases r with
 | cons r1 r2=>cases r2;exact⟨_,rfl,r1⟩
def vals2{x y:V}{us:List Value}(r:Vals [x,y] us):∃ u w',us= [u,w']/\RelV x u/\RelV y w':=by
 cases r with
 | cons r1 r2=>
   cases r2 with
   | cons r3 r4=>cases r4;exact⟨_,_,rfl,r1,r3⟩
def Yo:oH X (.builtin "abs") (fun xs H Q=>∃ i,xs= [.int i]/\Q (.int (if i<0 then -i else i)) H):=by
 intro pins s σ H xs us Q I r h;obtain⟨i,rfl,q⟩:=h;obtain⟨u,rfl,t,rfl⟩:=vals1 r;exact call_abs_int fun u tk=>⟨.int (if i<0 then -i else i),H,I.tok _,⟨_,rfl⟩,q⟩
def V0(hc:X.calm=true):oH X (.builtin "min") (fun xs H Q=>∃ i j,xs= [.int i,.int j]/\Q (.int (if j<i then j else i)) H):=by
 intro pins s σ H xs us Q I r h;obtain⟨i,j,rfl,q⟩:=h;obtain⟨u,w',rfl,⟨t,rfl⟩,⟨t',rfl⟩⟩:=vals2 r;refine min_two_ints (I.ok.hd hc) fun h' tk k=>⟨_,H,I.kept k,?_,q⟩
 by_cases hj:j<i
 · rw[aB hj,aB hj];exact⟨_,rfl⟩
 · rw[aA hj,aA hj];exact⟨_,rfl⟩
end
structure E_ (h:Heap)(x dx C:Addr)(mA:Str->Option Value):Prop where
 obj:h.get? x=some (PySem.W.instObj C dx)
 ns:h.Ns1 dx mA
 ne:dx ≠ x
def V1{h:Heap}{dx:Addr}{mA:Str->Option Value}(n:h.Ns1 dx mA):∃ od,h.get? dx=some od/\∀ name,PySem.W.lookIn name od=some (mA name):=by
 obtain⟨o,es,ep,ho,hd,hk,_,hm⟩:=n;refine⟨o,ho,fun name=>?_⟩;have e:=hm name;unfold nsFind findBy at e;rw[<- Array.find?_toList]at e;unfold PySem.W.lookIn;rw[hd];dsimp only
 split
 · rename_i y q;rw[q]at e;exact congrArg some e
 · rename_i q;rw[q]at e
   have a:es.toList.any (·.refKey)=false:=by
    rw[List.any_eq_false];intro y hy;obtain⟨z,t,hkey⟩:=hk y (Array.mem_toList_iff.mp hy);simp[DictEntry.refKey,hkey]
   have a':¬ es.toList.any (·.refKey)=true:=by rw[a];exact gF
   rw[aA a'];exact congrArg some e
def E_.look{h:Heap}{x dx C:Addr}{mA:Str->Option Value}(I:E_ h x dx C mA):∃ od,PySem.W.InstAt h x (PySem.W.instObj C dx) C (some od)/\∀ name,PySem.W.lookIn name od=some (mA name):=
 let ⟨od,ho,hl⟩:=V1 I.ns
 ⟨od,⟨I.obj,rfl,rfl,ho⟩,hl⟩
section
variable{prog:Program}{w:World}{A:Around}{E:Value->aj->Prop}{s:aj}{K:ao}{x dx C f:Addr}{mA:Str->Option Value}{name:Str}{v:Value}
def get_map{expr:Bool}{Q:Value->aj->Prop}(X:K.In s.heap)(I:E_ s.heap x dx C mA)(hg:PySem.W.plainGet K C name=true)(hh:PySem.W.hasDictIn K C=true)
    (ha:PySem.W.findIn K (.ref C) name=some none) (hv:mA name=some v) (hv':PySem.W.handedIn v=true) (h:Q v { s with toks:=s.toks+1 }):
    wpAny (model prog w) A (getAttr (.ref x) name expr) Q E s:=by
 obtain⟨od,J,hl⟩:=I.look;exact PySem.W.get_value X J (PySem.W.plainGet_of hg).1 (PySem.W.findObj_own hh ha rfl (by rw[hl,hv])) hv' h
def Yp{pl:Sem Bool}{Q:Value × List Value->aj->Prop}(X:K.In s.heap)(I:E_ s.heap x dx C mA)(hg:PySem.W.plainGet K C name=true)
    (hf:PySem.W.findIn K (.ref C) name=some (some (.ref f))) (ht:PySem.W.isFn K (.ref f)=true) (hv:mA name=none) (h:Q (.ref f,[.ref x]) s):
    wpAny (model prog w) A (getMethod (.ref x) name pl) Q E s:=by
 obtain⟨od,J,hl⟩:=I.look;exact PySem.W.method_fn X J (PySem.W.plainGet_of hg).1 (PySem.W.plainGet_of hg).2 hf (beq_iff_eq.mp ht) (by show(PySem.W.lookIn name od).map (·.isSome)=some false;rw[hl,hv];rfl) h
def aaN{ns:List Str}{Q:Unit->aj->Prop}(X:K.In s.heap)(I:E_ s.heap x dx C mA)
    (hs:PySem.W.findIn K (.ref C) "__setattr__" =some (some (.builtin "object.__setattr__"))) (hp:PySem.W.plainOver K C=true) (ht:PySem.W.takerIn K C name=some none) (hh:PySem.W.hasDictIn K C=true)
    (hw:PySem.Within mA ns) (hsz:ns.length<=sizeLine)
    (h:∀ h',E_ h' x dx C (fun y=>if y=name then some v else mA y)->Heap.SameBut dx s.heap h'->Q () { s with heap:=h',toks:=s.toks+2 }):
    wpAny (model prog w) A (setAttr (.ref x) name v) Q E s:=by
 obtain⟨od,J,hl⟩:=I.look;refine PySem.W.set_plain X J hs (PySem.W.osa_open (s:={ s with toks:=s.toks+1 }) (r:=none) X J hp ht fun b=>?_);obtain⟨cd,hc,hd'⟩:=PySem.W.any_some hh;have hx:s.heap.get? x=some ⟨.ref C,some dx,.plain,#[]⟩:=I.obj;refine aO (bN (aO (aO (wpAny_loadPart hx (aO (PySem.W.Looks.here (s:={ s with toks:=s.toks+1 }) (PySem.W.looks_clsIn X hc) ?_))))));rw[hd'];refine bN (a:=some dx) (aO (bN (aO ?_)));refine wpAny_nsSet1 (s:={ s with toks:=s.toks+1 }) I.ns fun h' hn2 hs2=>?_;obtain⟨oD,esD,epD,hoD,hdD,hcD⟩:=hn2.count (PySem.Within.cons name v hw);refine aO (wpAny_lookBehind hoD (by rw[hdD];exact pastItsLine_dict (Nat.le_trans hcD (by rw[gG];omega))) ?_);exact bN (h _ ⟨(hs2.2 _ (Ne.symm I.ne)).trans I.obj,hn2,I.ne⟩ hs2)
def Yq{R:Result->aj->Prop}{vs:List Value}{kw:List (Str × Value)}(X:K.In s.heap)(hm:PySem.W.makesIn K C=true)
    (hi:PySem.W.findIn K (.ref C) "__init__" =some (some (.ref f))) (hf:PySem.W.typeIn K (.ref f)=some (.type "function"))
    (h:codeAny (model prog w) (A.under (.builtin "type.__call__" ⟨.ref C::vs,kw⟩)) (.call (.ref f) ⟨.ref (s.heap.objs.size+1)::vs,kw⟩) (PySem.W.InitBack (s.heap.objs.size+1) R)
      { s with heap:=(s.heap.push PySem.W.emptyDict).push (PySem.W.instObj C s.heap.objs.size) }):
    codeAny (model prog w) A (.call (.ref C) ⟨vs,kw⟩) R s:=by
 obtain⟨hh,g,d,t,os⟩:=s;exact PySem.W.make_core (PySem.W.makes_of X hm) (PySem.W.looks_findIn X hi) (fun self=>PySem.W.bind_fn X self hf) (.inl rfl) h
end
def m5(f:Str)(v:V):List (Str × V)->List (Str × V)
 | []=>[(f,v)]
 | (g,x)::r=>if g=f then(g,v)::r else(g,x)::m5 f v r
def Eo(f g:Str)(v:V):∀ fs:List (Str × V),(m5 f v fs).lookup g=if g=f then some v else fs.lookup g
 | []=>by
   show List.lookup g [(f,v)] =_
   by_cases h:g=f
   · have hb:(g==f)=true:=beq_iff_eq.mpr h;simp only[List.lookup,hb,aB h]
   · have hb:(g==f)=false:=beq_eq_false_iff_ne.mpr h
     simp only[List.lookup,hb,aA h]
 | (k,x)::r=>by
   have ih:=Eo f g v r;rw[show m5 f v ((k,x)::r)=(if k=f then(k,v)::r else(k,x)::m5 f v r) from rfl]
   by_cases hk:k=f
   · rw[aB hk]
     by_cases h:g=k
     · have hb:(g==k)=true:=beq_iff_eq.mpr h;simp only[List.lookup,hb,aB (h.trans hk)]
     · have hb:(g==k)=false:=beq_eq_false_iff_ne.mpr h;simp only[List.lookup,hb,aA (fun e:g=f=>h (e.trans hk.symm))]
   · rw[aA hk]
     by_cases h:g=k
     · have hb:(g==k)=true:=beq_iff_eq.mpr h;simp only[List.lookup,hb,aA (fun e:g=f=>hk (h.symm.trans e))]
     · have hb:(g==k)=false:=beq_eq_false_iff_ne.mpr h;simp only[List.lookup,hb];exact ih
def Bw(f:Str)(v:V):∀ fs:List (Str × V),f ∈ (m5 f v fs).map (·.1)/\∀ g,g ∈ fs.map (·.1)->g ∈ (m5 f v fs).map (·.1)
 | []=>⟨by simp[m5],fun g h=>by simp at h⟩
 | (k,x)::r=>by
   obtain⟨i1,i2⟩:=Bw f v r;rw[show m5 f v ((k,x)::r)=(if k=f then(k,v)::r else(k,x)::m5 f v r) from rfl]
   by_cases hk:k=f
   · rw[aB hk];subst hk;exact⟨by simp,fun g h=>by simpa using h⟩
   · rw[aA hk];refine⟨?_,fun g h=>?_⟩
     · rw[List.map_cons];exact iI _ i1
     · rw[List.map_cons]at h ⊢
       rcases List.mem_cons.mp h with e | e
       · exact List.mem_cons.mpr (.inl e)
       · exact iI _ (i2 g e)
def Ep(f:Str)(v:V):∀ fs:List (Str × V),(m5 f v fs).length<=fs.length+1
 | []=>by simp[m5]
 | (k,x)::r=>by
   have ih:=Ep f v r;rw[show m5 f v ((k,x)::r)=(if k=f then(k,v)::r else(k,x)::m5 f v r) from rfl]
   by_cases hk:k=f
   · rw[aB hk,gG,gG];omega
   · rw[aA hk,gG,gG];omega
def oN.some_of{v:V}{o:Option Value}(r:oN (some v) o):∃ u,o=some u/\RelV v u:=by
 cases o with
 | none=>exact(show False from r).elim
 | some u=>exact⟨u,rfl,r⟩
def oN.none_of{o:Option Value}(r:oN none o):o=none:=by
 cases o with
 | none=>rfl
 | some u=>exact(show False from r).elim
def Kg{v:V}{u:Value}(r:RelV v u):PySem.W.handedIn u=true:=by
 cases v with
 | non=>cases (show u=Value.none from r);rfl
 | bl b=>cases (show u=Value.bool b from r);rfl
 | int i=>obtain⟨t,e⟩:=(show ∃ t,u=Value.int i t from r);cases e;rfl
 | str x=>obtain⟨t,e⟩:=(show ∃ t,u=Value.str x t from r);cases e;rfl
 | byt b=>obtain⟨t,e⟩:=(show ∃ t,u=Value.bytes b t from r);cases e;rfl
 | flt b=>obtain⟨t,e⟩:=(show ∃ t,u=Value.float b t from r);cases e;rfl
 | ref a=>cases (show u=Value.ref a from r);rfl
 | ty n=>cases (show u=Value.type n from r);rfl
section
variable{P:Program}{w:World}{H H':Hp}{h h':Heap}{a C dx:Addr}{fs fs':List (Str × V)}
def Il(hok:HOk P w H h)(e:H a=some (.ins C dx fs)):∃ mA,E_ h a dx C mA/\(∀ f,oN (fs.lookup f) (mA f))/\PySem.Within mA (fs.map (·.1))/\fs.length<=1000/\H dx=some (.own a):=by
 obtain⟨d,z,ne,ob,mA,n,r,q⟩:=(show dg P w H h a (.ins C dx fs) from hok a _ e);exact⟨mA,⟨ob,n,ne⟩,r,q,z,d⟩
end
structure Cls (K:ao)(C:Addr):Prop where
 pg:PySem.W.plainGet K C Str.empty=true
 hd:PySem.W.hasDictIn K C=true
 po:PySem.W.plainOver K C=true
 sa:PySem.W.findIn K (.ref C) "__setattr__" =some (some (.builtin "object.__setattr__"))
def Cls.get{K:ao}{C:Addr}(c:Cls K C)(f:Str):PySem.W.plainGet K C f=true:=c.pg
def cY(K:ao)(C:Addr)(f:Str):Prop:=PySem.W.findIn K (.ref C) f=some none
def cY.taker{K:ao}{C:Addr}{f:Str}(n:cY K C f):PySem.W.takerIn K C f=some none:=by
 unfold PySem.W.takerIn;rw[show PySem.W.findIn K (.ref C) f=some none from n];rfl
structure Con (K:ao)(C:Addr)(f:Str)(v:V)(u:Value):Prop where
 at_:PySem.W.findIn K (.ref C) f=some (some u)
 rel:RelV v u
 get:PySem.W.specialIn K u "__get__" =some none
 cp:PySem.W.copiedNames.contains f=false
structure Meth (K:ao)(C:Addr)(m:Str)(f:Addr):Prop where
 at_:PySem.W.findIn K (.ref C) m=some (some (.ref f))
 fn:PySem.W.isFn K (.ref f)=true
 kp:PySem.W.keepIn K (.ref f)=true
section
variable{X:Cx}{pins:List (Addr × Obj)}{σ:St}{H:Hp}{s:aj}{a C dx:Addr}{fs:List (Str × V)}{f:Str}{v:V}{A:Around}{E:Value->aj->Prop}
def Tp{b:Bool}{Q:Value->aj->Prop}(I:Inv X pins σ H s)(e:H a=some (.ins C dx fs))(c:Cls X.K C)(n:cY X.K C f)(l:fs.lookup f=some v)
    (h:∀ u s',Inv X pins σ H s'->RelV v u->Q u s'):wpAny (model X.prog X.w) A (getAttr (.ref a) f b) Q E s:=by
 obtain⟨mA,O,r,_,_,_⟩:=Il I.hok e;obtain⟨u,hu,ru⟩:=oN.some_of (v:=v) (o:=mA f) (by rw[<- l];exact r f);exact get_map I.kIn O (c.get f) c.hd n hu (Kg ru) (h u _ (I.tok _) ru)
def Gq{m:Str}{g:Addr}{pl:Sem Bool}{Q:Value × List Value->aj->Prop}(I:Inv X pins σ H s)(e:H a=some (.ins C dx fs))(c:Cls X.K C)(k:Meth X.K C m g)(l:fs.lookup m=none)
    (h:Q (.ref g,[.ref a]) s):wpAny (model X.prog X.w) A (getMethod (.ref a) m pl) Q E s:=by
 obtain⟨mA,O,r,_,_,_⟩:=Il I.hok e;have hn:mA m=none:=oN.none_of (by rw[<- l];exact r m);exact Yp I.kIn O (c.get m) k.at_ k.fn hn h
def Tq{y:V}{u:Value}{Q:Unit->aj->Prop}(I:Inv X pins σ H s)(e:H a=some (.ins C dx fs))(c:Cls X.K C)(n:cY X.K C f)(hl:fs.length<1000)(ry:RelV y u)
    (h:∀ s',Inv X pins σ (upd H a (.ins C dx (m5 f y fs))) s'->Q () s'):wpAny (model X.prog X.w) A (setAttr (.ref a) f u) Q E s:=by
 obtain⟨mA,O,r,wi,_,ho⟩:=Il I.hok e;have hz:(fs.map (·.1)).length<=sizeLine:=by rw[bK,sizeLine_eq];omega
 refine aaN I.kIn O c.sa c.po n.taker c.hd wi hz fun h' O' sb=>h _ ?_;have hd:∃ o,h'.get? dx=some o:=let ⟨o,_,_,e',_⟩:=O'.ns;⟨o,e'⟩;refine I.write (x:=a) (e:=dx) (by rw[e];exact True.intro) (.inr ho) (fun b q hb z=>(sb.2 b hb).trans z) hd ?_;refine⟨by rw[aN O.ne];exact ho,?_,O.ne,O'.obj,_,O'.ns,fun g=>?_,fun g hg=>?_⟩
 · have:=Ep f y fs;omega
 · show oN ((m5 f y fs).lookup g) (if g=f then some u else mA g);rw[Eo]
   by_cases q:g=f
   · rw[aB q,aB q];exact ry
   · rw[aA q,aA q];exact r g
 · by_cases q:g=f
   · rw[q];exact(Bw f y fs).1
   · refine(Bw f y fs).2 g (wi g fun z=>hg ?_);show(if g=f then some u else mA g)=none;rw[aA q];exact z
def Inv.made(I:Inv X pins σ H s):Inv X pins σ (upd (upd H s.heap.objs.size (.own (s.heap.objs.size+1))) (s.heap.objs.size+1) (.ins C s.heap.objs.size []))
    { s with heap:=(s.heap.push PySem.W.emptyDict).push (PySem.W.instObj C s.heap.objs.size) }:=by
 have e1:(s.heap.push PySem.W.emptyDict).get? s.heap.objs.size=some PySem.W.emptyDict:=jT s.heap rfl
 have e2:((s.heap.push PySem.W.emptyDict).push (PySem.W.instObj C s.heap.objs.size)).get? (s.heap.objs.size+1)=some (PySem.W.instObj C s.heap.objs.size):=by
  have:=jT (s.heap.push PySem.W.emptyDict) (o:=PySem.W.instObj C s.heap.objs.size) rfl
  rwa[Heap.size_push]at this
 have e3:(s.heap.push PySem.W.emptyDict).Ns s.heap.objs.size (fun _=>none):=⟨PySem.W.emptyDict,#[],_,e1,rfl,(fun e he=>aK he (by simp)),fun _=>rfl⟩;have I1:=I.laid (a:=s.heap.objs.size) (o:=.own (s.heap.objs.size+1)) (h':=s.heap.push PySem.W.emptyDict) (t':=s.toks) (fun b u q=>dJ _ q) (aG _) ⟨_,e1⟩;refine I1.laid (a:=s.heap.objs.size+1) (o:=.ins C s.heap.objs.size []) (t':=s.toks) (fun b u q=>dJ _ q) (Nat.le_of_eq (Heap.size_push _ _)) ?_;have ne:s.heap.objs.size ≠ s.heap.objs.size+1:=Nat.ne_of_lt (Nat.lt_succ_self _);refine⟨by rw[aN ne,aJ],Nat.zero_le _,ne,e2,fun _=>none,(Heap.Ns1.of_empty e3).at fun o q=>dJ _ q,fun _=>True.intro,fun y hy=>aK rfl hy⟩
def Rj{prog:Program}{w:World}{env:Env}{e:Expr}{f:Str}{pos:Pos}{s:aj}{Q:Value->aj->Prop}(hb:attributeBase e f env (eval e env)=eval e env)
    (h:wpAny (model prog w) A (eval e env) (fun o s₁=>wpAny (model prog w) A (getAttr o f true) Q E s₁) E s):wpAny (model prog w) A (eval (.Attribute e f pos) env) Q E s:=
 Attribute_any_ h (by rw[arm_eval_Attribute,hb])
end
def acd(K:ao)(ta:TE)(f:Str):TE:=fun σ H Q=>ta σ H fun x H1=>∃ a C dx fs v,x= .ref a/\H1 a=some (.ins C dx fs)/\Cls K C/\cY K C f/\fs.lookup f=some v/\Q v H1
def afs(K:ao)(ta tv:TE)(f:Str):TS:=fun D σ H=>tv σ H fun y H1=>ta σ H1 fun x H2=>∃ a C dx fs,x= .ref a/\H2 a=some (.ins C dx fs)/\Cls K C/\cY K C f/\fs.length<1000/\
 D.nx σ (upd H2 a (.ins C dx (m5 f y fs)))
section
variable{X:Cx}{o e value:Expr}{f:Str}{pos pos' tpos:Pos}{ta tv:TE}
def ace(he:PE X e ta)(hb:attributeBase e f X.env (eval e X.env)=eval e X.env):PE X (.Attribute e f pos) (acd X.K ta f):=by
 intro pins s σ H Q I h;refine Rj hb (thn (he pins s σ H _ I h) fun u s1 ⟨x,H1,I1,rx,a,C,dx,fs,v,ex,ea,c,n,l,q⟩=>?_);subst ex;obtain rfl:u=Value.ref a:=rx;exact Tp I1 ea c n l fun u' s2 I2 ru=>⟨v,H1,I2,ru,q⟩
def acf(ha:PE X o ta)(hv:PE X value tv)(hs:swapsWith value (some (.Attribute o f pos')) pos.line X.env=pure false):PS X (.Assign [.Attribute o f pos'] value pos) (afs X.K ta tv f):=by
 intro pins s σ H D I h;refine plainObj_wpAny_Assign_Attribute (thn (hv pins s σ H _ I h) fun u s1 ⟨y,H1,I1,ry,q⟩=>thn (ha pins s1 σ H1 _ I1 q) fun ov s2 ⟨x,H2,I2,rx,a,C,dx,fs,ex,ea,c,n,l,q2⟩=>?_) hs;subst ex;obtain rfl:ov=Value.ref a:=rx;exact Tq I2 ea c n l ry fun s3 I3=>⟨σ,_,I3,q2⟩
end
section
variable{X:Cx}{pins:List (Addr × Obj)}{σ:St}{H:Hp}{s:aj}{A:Around}{E:Value->aj->Prop}{Q:Value->aj->Prop}{c:Value}{b:Bool}
inductive vI (K:ao)(H:Hp):V->Value->Prop where
 | non:vI K H .non (.type "NoneType")
 | bl (x:Bool):vI K H (.bl x) (.type "bool")
 | int (i:Int):vI K H (.int i) (.type "int")
 | str (x:Str):vI K H (.str x) (.type "str")
 | flt (x:UInt64):vI K H (.flt x) (.type "float")
 | lst {a:Addr} {xs:List V} (e:H a=some (.lst xs)):vI K H (.ref a) (.type "list")
 | frz {a:Addr} {o:Obj} {xs:List V} (e:H a=some (.frz o (.lst xs))):vI K H (.ref a) (.type "list")
 | tup {a:Addr} {xs:List V} (e:H a=some (.tup xs)):vI K H (.ref a) (.type "tuple")
 | dK {a:Addr} {kvs:List (Key × V)} (e:H a=some (.dK kvs)):vI K H (.ref a) (.type "dict")
 | dT {a:Addr} {kvs:List (List Key × V)} (e:H a=some (.dT kvs)):vI K H (.ref a) (.type "dict")
 | ins {a C dx:Addr} {fs:List (Str × V)} (e:H a=some (.ins C dx fs)) (cl:Cls K C) (ha:PySem.W.findIn K (.ref C) "__class__" =some (some (.builtin "object.__class__")))
    (hn:PySem.W.specialIn K (.builtin "object.__class__") "__get__" =some (some (.builtin "getset_descriptor.__get__"))) (htk:PySem.W.takesIn K (.builtin "object.__class__")=some true)
    (hm:PySem.W.mroIn K C (.type "object")=some true):vI K H (.ref a) (.ref C)
end
structure bZ (k:Nat)(A:Around):Prop where
 hd:A.handled=none
 dp:A.depth+3*k+5<recursionLimit
 un:A.units+16*k+200<cLine
def bZ.mono{j k:Nat}{A:Around}(r:bZ k A)(h:j<=k):bZ j A:=⟨r.hd,by have:=r.dp;omega,by have:=r.un;omega⟩
def bZ.deeper{k:Nat}{A:Around}(r:bZ (k+1) A)(env:Env):bZ k (A.deeper env):=
 ⟨r.hd,by have:=r.dp;show A.depth+1+3*k+5<_;omega,by have:=r.un;show A.units+3+16*k+200<_;omega⟩
def Tt{A:Around}{C:Addr}{us:List Value}{kw:List (Str × Value)}:(A.under (.builtin "type.__call__" ⟨.ref C::us,kw⟩)).depth=A.depth+1:=by
 first | rfl | simp[Around.under,Code.weight,Code.isCreation,Code.isGuard,Code.isCaller,Code.frames,Code.isFrame,guardIds]
def Tu{A:Around}{C:Addr}{us:List Value}{kw:List (Str × Value)}:(A.under (.builtin "type.__call__" ⟨.ref C::us,kw⟩)).units=A.units+1:=by
 first | rfl | simp[Around.under,Code.cUnits,Code.frames,Code.isFrame]
def bZ.make{k:Nat}{A:Around}(r:bZ (k+1) A)(C:Addr)(us:List Value)(kw:List (Str × Value)):bZ k (A.under (.builtin "type.__call__" ⟨.ref C::us,kw⟩)):=
 ⟨r.hd,by have:=r.dp;rw[Tt];omega,by have:=r.un;rw[Tu];omega⟩
def bZ.depth{k:Nat}{A:Around}(r:bZ k A):A.depth<recursionLimit:=by have:=r.dp;omega
def bZ.units{k:Nat}{A:Around}(r:bZ k A):A.units+64<cLine:=by have:=r.un;omega
def bZ.rK{k:Nat}{A:Around}(r:bZ k A):A.units<cLine:=by have:=r.un;omega
def Tv:TA:=fun _ H Q=>Q [] H
def aeo(ta:TE)(tr:TA):TA:=fun σ H Q=>ta σ H fun x H1=>tr σ H1 fun xs H2=>Q (x::xs) H2
section
variable{X:Cx}{e:Expr}{es:List Expr}{te:TE}{t:TA}{pos:Pos}
def bO:PA X [] Tv:=fun _ _ _ _ H Q I h=>Calls.spliced_nil ⟨[],H,I,.nil,h⟩
def aX(ha:PE X e te)(hr:PA X es t)(hs:starEach (e::es) X.env=(false,eval e X.env)::starEach es X.env:=by rfl):PA X (e::es) (aeo te t):=by
 intro pos pins s σ H Q I h;rw[hs];show wpAny _ _ (spliced ((false,eval e X.env)::backTo pos (starEach es X.env))) _ _ s;refine Calls.spliced_cons (thn (ha pins s σ H _ I h) fun u s1 ⟨x,H1,I1,r1,q1⟩=>?_);exact thn (hr pos pins s1 σ H1 _ I1 q1) fun us s2 ⟨xs,H2,I2,r2,q2⟩=>⟨x::xs,H2,I2,.cons r1 r2,q2⟩
def aft(t:TA):TE:=fun σ H Q=>t σ H fun xs H1=>xs.length<=sizeLine/\∀ p,H1 p=none->Q (.ref p) (upd H1 p (.tup xs))
def afu(t:TA):TE:=fun σ H Q=>t σ H fun xs H1=>xs.length<=sizeLine/\∀ p,H1 p=none->Q (.ref p) (upd H1 p (.lst xs))
def yz{x1}(h:PA X es t):PE X (.Tuple es x1 pos) (aft t):=by
 intro pins s σ H Q I hq;refine wpAny_Tuple_spliced (thn (h pos pins s σ H _ I hq) fun us s1 ⟨xs,H1,I1,r,z,q⟩=>⟨by rw[<- r.length];exact z,?_⟩);have hf:H1 s1.heap.objs.size=none:=I1.hok.fresh (aG _);refine⟨.ref s1.heap.objs.size,upd H1 s1.heap.objs.size (.tup xs),I1.laid (t':=s1.toks) (fun b u e=>dJ _ e) (aG _) ?_,rfl,q _ hf⟩;exact⟨z,us,r,⟨_,jT _ rfl,rfl,_,rfl⟩⟩
def yC(h:PA X es t):PE X (.List es pos) (afu t):=by
 intro pins s σ H Q I hq;refine wpAny_List_spliced (thn (h pos pins s σ H _ I hq) fun us s1 ⟨xs,H1,I1,r,z,q⟩=>⟨by rw[<- r.length];exact z,?_⟩);have hf:H1 s1.heap.objs.size=none:=I1.hok.fresh (aG _);refine⟨.ref s1.heap.objs.size,upd H1 s1.heap.objs.size (.lst xs),I1.laid (t':=s1.toks) (fun b u e=>dJ _ e) (aG _) ?_,rfl,q _ hf⟩;exact⟨z,us,0,r,jT _ rfl⟩
end
abbrev Sp:=List V->Hp->VK->XK->Prop
abbrev CXT:=List Env->Hp->aj->XK->Value->aj->Prop
structure Bx (P:Program)(w:World)(K:ao)(mg:Str->Option Value)(base:Heap)(A:Around)(outer:List Env)(s:aj)(H:Hp):Prop where
 frames:A.frames=some outer
 mod:Mod K mg base
 bs:∀ b o,base.get? b=some o->s.heap.get? b=some o/\H b=none
 bsz:base.objs.size<=s.heap.objs.size
 oU:s.heap.FunFrames base outer
 frf:∀ b ∈ frs outer,H b=none
 hok:HOk P w H s.heap
 bare:AllBare s.gens
def CE(outer:List Env)(P:Program)(w:World)(H:Hp)(s:aj)(Q:VK)(u:Value)(s':aj):Prop:=
 ∃ v H',s'.os=s.os/\AllBare s'.gens/\Un (frs outer) [] H H' s.heap s'.heap/\HOk P w H' s'.heap/\RelV v u/\Q v H'
def CR(CX:CXT)(outer:List Env)(P:Program)(w:World)(H:Hp)(s:aj)(Q:VK)(E:XK)(r:Result)(s':aj):Prop:=
 match r with
 | .ok (.ret u)=>CE outer P w H s Q u s'
 | .ok _=>False
 | .error e=>CX outer H s E e s'
structure bU (P:Program)(w:World)(K:ao)(mg:Str->Option Value)(base:Heap)(CX:CXT)(k:Nat)(f:Addr)(fd:aR)(ps:List Str)(sp:Sp):Prop where
 len:∀ vs H Q E,sp vs H Q E->vs.length=ps.length
 run:∀(A:Around) (outer:List Env) (s:aj) (H:Hp) (args:Args) (us:List Value) (vs:List V) (Q:VK) (E:XK),bZ k A->Bx P w K mg base A outer s H->BindsTo s fd args (ps.zip us)->Vals vs us->sp vs H Q E->
  codeAny (model P w) A (.call (.ref f) args) (CR CX outer P w H s Q E) s
def bU.mono{P:Program}{w:World}{K:ao}{mg:Str->Option Value}{base:Heap}{CX:CXT}{j k:Nat}{f:Addr}{fd:aR}{ps:List Str}{sp:Sp}(F:bU P w K mg base CX j f fd ps sp)(h:j<=k):
    bU P w K mg base CX k f fd ps sp:=⟨F.len,fun A outer s H args us vs Q E hr=>F.run A outer s H args us vs Q E (hr.mono h)⟩
def bU.imp{P:Program}{w:World}{K:ao}{mg:Str->Option Value}{base:Heap}{CX:CXT}{k:Nat}{f:Addr}{fd:aR}{ps:List Str}{sp sp':Sp}(F:bU P w K mg base CX k f fd ps sp)
    (h:∀ vs H Q E,sp' vs H Q E->sp vs H Q E):bU P w K mg base CX k f fd ps sp':=
 ⟨fun vs H Q E q=>F.len vs H Q E (h _ _ _ _ q),fun A outer s H args us vs Q E hr he hb hv hs=>F.run A outer s H args us vs Q E hr he hb hv (h _ _ _ _ hs)⟩
def Bx.make{P:Program}{w:World}{K:ao}{mg:Str->Option Value}{base:Heap}{A:Around}{outer:List Env}{s:aj}{H:Hp}(e:Bx P w K mg base A outer s H)(C:Addr)(us:List Value)(kw:List (Str × Value)):
    Bx P w K mg base (A.under (.builtin "type.__call__" ⟨.ref C::us,kw⟩)) outer s H:=⟨by first | exact e.frames | (simpa [Around.under,Code.envs,Code.isFrame,pushEnvs] using e.frames),e.mod,e.bs,e.bsz,e.oU,e.frf,e.hok,e.bare⟩
section
variable{X:Cx}{pins:List (Addr × Obj)}{σ:St}{H:Hp}{s s':aj}
def Inv.env0(I:Inv X pins σ H s):Bx X.prog X.w X.K X.mg X.base X.A X.stack s H:=
 ⟨I.ok.frames,I.ok.mod,I.bs,Nat.le_trans I.ok.bsz I.sz,I.stack,I.sJ,I.hok,I.bare⟩
def Inv.after{Q:VK}{u:Value}(I:Inv X pins σ H s)(h:CE X.stack X.prog X.w H s Q u s'):EP X pins σ Q u s':=by
 obtain⟨v,H',os,bare,un,hok,r,q⟩:=h;obtain⟨hh,g,d,t,os'⟩:=s';obtain rfl:os'=s.os:=os;exact⟨v,H',I.call (h':=hh) (g':=g) (d':=d) (t':=t) (ch:=[]) un hok bare (fun b z=>aK z (by simp)),r,q⟩
end
def Dq(sp:Sp)(dvs:List V)(E:XK)(t:TA):TE:=fun σ H Q=>t σ H fun vs H1=>sp (vs++dvs) H1 Q E
def Tw(C:Addr)(m:Str)(sp:Sp)(dvs:List V)(E:XK)(ta:TE)(t:TA):TE:=fun σ H Q=>ta σ H fun x H1=>∃ a dx fs,x= .ref a/\H1 a=some (.ins C dx fs)/\fs.lookup m=none/\
 t σ H1 fun vs H2=>sp (x::(vs++dvs)) H2 Q E
def Z1(C:Addr)(sp:Sp)(dvs:List V)(E:XK)(t:TA):TE:=fun σ H Q=>t σ H fun vs H1=>∀ x dx,H1 x=none->H1 dx=none->dx ≠ x->
 sp (.ref x::(vs++dvs)) (upd (upd H1 dx (.own x)) x (.ins C dx [])) (fun v H2=>v= .non/\Q (.ref x) H2) E
def Binds(K:ao)(fd:aR)(ps:List Str)(ds:List Value):Prop:=
 ∀(s:aj) (us:List Value),K.In s.heap->(us++ds).length=ps.length->BindsTo s fd ⟨us,[]⟩ (ps.zip (us++ds))
def Binds.all{K:ao}{fd:aR}{ps:List Str}(h:∀ us:List Value,us.length=ps.length->bindArgs fd ⟨us,[]⟩ =pure (ps.zip us)):Binds K fd ps []:=fun s us _ hl=>by
 rw[List.append_nil]at hl ⊢;exact .of_eq (h us hl)
def Passes(CX:CXT)(X:Cx)(E:XK):Prop:=∀(pins:List (Addr × Obj)) (σ:St) (H:Hp) (s:aj) (e:Value) (s':aj),Inv X pins σ H s->CX X.stack H s E e s'->X.xe e s'
section
variable{X:Cx}{CX:CXT}{k:Nat}{f C:Addr}{fd:aR}{ps:List Str}{sp:Sp}{dvs:List V}{ds:List Value}{E:XK}{x m:Str}{p pos apos:Pos}{e o:Expr}{es:List Expr}{ta:TE}{t:TA}
def Gr{pins:List (Addr × Obj)}{σ:St}{H:Hp}{s:aj}{Q:VK}{us:List Value}{vs:List V}(F:bU X.prog X.w X.K X.mg X.base CX k f fd ps sp)(hr:bZ k X.A)(hb:Binds X.K fd ps ds)(hd:Vals dvs ds)(hx:Passes CX X E)
    (I:Inv X pins σ H s) (r:Vals vs us) (h:sp (vs++dvs) H Q E):wpAny (model X.prog X.w) X.A (call (.ref f) us) (EP X pins σ Q) X.xe s:=by
 have r2:Vals (vs++dvs) (us++ds):=r.append hd;have hl:(us++ds).length=ps.length:=by rw[<- r2.length];exact F.len _ _ _ _ h
 refine wpAny_call (codeAny_mono (F.run X.A X.stack s H ⟨us,[]⟩ (us++ds) (vs++dvs) Q E hr I.env0 (hb s us I.kIn hl) r2 h) fun r s' hq=>?_)
 cases r with
 | error e=>exact hx pins σ H s e s' I hq
 | ok fl=>
   cases fl with
   | ret u=>exact I.after hq
   | next=>exact False.elim hq
   | brk=>exact False.elim hq
   | cont=>exact False.elim hq
def yD(F:bU X.prog X.w X.K X.mg X.base CX k f fd ps sp)(hr:bZ k X.A)(hg:Gl X x)(hm:X.mg x=some (.ref f))(hk:PySem.W.keepIn X.K (.ref f)=true)(hb:Binds X.K fd ps ds)(hd:Vals dvs ds)(hx:Passes CX X E)
    (ha:PA X (e::es) t) (hdb:(x==("__debug__":Str))=false:=by decide) (he:starEach (e::es) X.env=(false,eval e X.env)::starEach es X.env:=by rfl) (hpl:(backTo pos (starEach es X.env)).any (·.1)=false:=by rfl):
    PE X (.Call (.Name x p) (e::es) [] pos) (Dq sp dvs E t):=by
 intro pins s σ H Q I h;refine wpAny_Call_Name_kw (qZ I hg hm ?_ hdb);refine PySem.W.callWith_K (h₀:=X.base) I.ok.mod.kin hk (thn (ha pos pins s σ H _ I h) fun us s1 ⟨vs,H1,I1,r,q⟩=>⟨I1.kIn,?_⟩) he hpl;exact Gr F hr hb hd hx I1 r q
def aaO{pl:Sem Bool}(he:PE X o ta)(c:Cls X.K C)(hm:Meth X.K C m f)(F:bU X.prog X.w X.K X.mg X.base CX k f fd ps sp)(hr:bZ k X.A)(hb:Binds X.K fd ps ds)(hd:Vals dvs ds)(hx:Passes CX X E)(ha:PA X (e::es) t)
    (hst:starEach (e::es) X.env=(false,eval e X.env)::starEach es X.env:=by rfl) (hpl:(backTo pos (starEach es X.env)).any (·.1)=false:=by rfl)
    (ht:eval (.Call (.Attribute o m apos) (e::es) [] pos) X.env=(do
      let ov <- eval o X.env
      standAt apos.atName
      let (f,first) <- holding [ov] (getMethod ov m pl)
      callWith pos f first (backTo pos (starEach (e::es) X.env)) (backToKw pos (keywordEach [] X.env))):=by rfl):
    PE X (.Call (.Attribute o m apos) (e::es) [] pos) (Tw C m sp dvs E ta t):=by
 intro pins s σ H Q I h;refine PySem.W.methodCall_KW (pl:=pl) (thn (he pins s σ H _ I h) fun u s1 ⟨x,H1,I1,rx,a,dx,fs,ex,ea,l,q⟩=>?_) ht;subst ex;obtain rfl:u=Value.ref a:=rx;refine Gq I1 ea c hm l ?_;refine PySem.W.callWith_K (first:=[.ref a]) (h₀:=X.base) I.ok.mod.kin hm.kp (thn (ha pos pins s1 σ H1 _ I1 q) fun us s2 ⟨vs,H2,I2,r,q2⟩=>⟨I2.kIn,?_⟩) hst hpl;exact Gr (us:=.ref a::us) (vs:=.ref a::vs) F hr hb hd hx I2 (.cons rfl r) q2
def Yr{pl:Sem Bool}(he:PE X o ta)(c:Cls X.K C)(hm:Meth X.K C m f)(F:bU X.prog X.w X.K X.mg X.base CX k f fd ps sp)(hr:bZ k X.A)(hb:Binds X.K fd ps ds)(hd:Vals dvs ds)(hx:Passes CX X E)
    (ht:eval (.Call (.Attribute o m apos) [] [] pos) X.env=(do
      let ov <- eval o X.env
      standAt apos.atName
      let (f,first) <- holding [ov] (getMethod ov m pl)
      callWith pos f first (backTo pos (starEach [] X.env)) (backToKw pos (keywordEach [] X.env))):=by rfl):
    PE X (.Call (.Attribute o m apos) [] [] pos) (Tw C m sp dvs E ta Tv):=by
 intro pins s σ H Q I h;refine PySem.W.methodCall_KW (pl:=pl) (thn (he pins s σ H _ I h) fun u s1 ⟨x,H1,I1,rx,a,dx,fs,ex,ea,l,q⟩=>?_) ht;subst ex;obtain rfl:u=Value.ref a:=rx;refine Gq I1 ea c hm l ?_;exact PySem.W.callWith_K0 (first:=[.ref a]) I1.kIn hm.kp (Gr (us:=[.ref a]) (vs:=[.ref a]) F hr hb hd hx I1 (.cons rfl .nil) q)
structure Mk (K:ao)(C f:Addr):Prop where
 makes:PySem.W.makesIn K C=true
 init:PySem.W.findIn K (.ref C) "__init__" =some (some (.ref f))
 fn:PySem.W.isFn K (.ref f)=true
 kp:PySem.W.keepIn K (.ref C)=true
def Ys{pins:List (Addr × Obj)}{σ:St}{H:Hp}{s:aj}{Q:VK}{us:List Value}{vs:List V}(M:Mk X.K C f)(F:bU X.prog X.w X.K X.mg X.base CX k f fd ps sp)(hr:bZ (k+1) X.A)(hb:Binds X.K fd ps ds)(hd:Vals dvs ds)
    (hx:Passes CX X E) (I:Inv X pins σ H s) (r:Vals vs us)
    (h:∀ x dx,H x=none->H dx=none->dx ≠ x->sp (.ref x::(vs++dvs)) (upd (upd H dx (.own x)) x (.ins C dx [])) (fun v H2=>v= .non/\Q (.ref x) H2) E):
    wpAny (model X.prog X.w) X.A (call (.ref C) us) (EP X pins σ Q) X.xe s:=by
 have hq:=h (s.heap.objs.size+1) s.heap.objs.size (I.hok.fresh (Nat.le_succ _)) (I.hok.fresh (aG _)) (Nat.ne_of_lt (Nat.lt_succ_self _));have I2:=Inv.made (C:=C) I;have r2:Vals (V.ref (s.heap.objs.size+1)::(vs++dvs)) (Value.ref (s.heap.objs.size+1)::(us++ds)):=.cons rfl (r.append hd)
 have hl:(Value.ref (s.heap.objs.size+1)::us++ds).length=ps.length:=by
  have e:=r2.length;rw[F.len _ _ _ _ hq]at e;exact e.symm
 refine wpAny_call (Yq (f:=f) I.kIn M.makes M.init (beq_iff_eq.mp M.fn) (codeAny_mono (F.run _ X.stack _ _ ⟨Value.ref (s.heap.objs.size+1)::us,[]⟩ (Value.ref (s.heap.objs.size+1)::(us++ds)) _ _ E (hr.make C us [])
  (I2.env0.make C us []) (hb _ (Value.ref (s.heap.objs.size+1)::us) I2.kIn hl) r2 hq) fun r s' hq'=>?_))
 cases r with
 | error e=>exact hx pins σ _ _ e s' I2 hq'
 | ok fl=>
   cases fl with
   | ret u=>
     obtain⟨v,H',I3,rv,ev,q3⟩:=I2.after hq';subst ev
     exact⟨rv,⟨V.ref (s.heap.objs.size+1),H',I3,rfl,q3⟩⟩
   | next=>exact False.elim hq'
   | brk=>exact False.elim hq'
   | cont=>exact False.elim hq'
def aaP(M:Mk X.K C f)(F:bU X.prog X.w X.K X.mg X.base CX k f fd ps sp)(hr:bZ (k+1) X.A)(hg:Gl X x)(hm:X.mg x=some (.ref C))(hb:Binds X.K fd ps ds)(hd:Vals dvs ds)(hx:Passes CX X E)
    (ha:PA X (e::es) t) (hdb:(x==("__debug__":Str))=false:=by decide) (he:starEach (e::es) X.env=(false,eval e X.env)::starEach es X.env:=by rfl) (hpl:(backTo pos (starEach es X.env)).any (·.1)=false:=by rfl):
    PE X (.Call (.Name x p) (e::es) [] pos) (Z1 C sp dvs E t):=by
 intro pins s σ H Q I h;refine wpAny_Call_Name_kw (qZ I hg hm ?_ hdb);refine PySem.W.callWith_K (h₀:=X.base) I.ok.mod.kin M.kp (thn (ha pos pins s σ H _ I h) fun us s1 ⟨vs,H1,I1,r,q⟩=>⟨I1.kIn,?_⟩) he hpl;exact Ys M F hr hb hd hx I1 r q
end
section
variable{X:Cx}{CX:CXT}{k:Nat}{f C:Addr}{fd:aR}{ps ks:List Str}{sp:Sp}{E:XK}{x m:Str}{p pos apos kpos:Pos}{e o:Expr}{es:List Expr}{kws:List Keyword}{te ta:TE}{t tk:TA}{nm:Option Str}
structure agg (K:ao)(fd:aR)(ps ks:List Str)(g:List Value->List Value->List Value)(gV:List V->List V->List V):Prop where
 to:∀(s:aj) (us ws:List Value),K.In s.heap->(g us ws).length=ps.length->BindsTo s fd ⟨us,ks.zip ws⟩ (ps.zip (g us ws))
 rel:∀ {vs:List V} {us:List Value} {zs:List V} {ws:List Value},Vals vs us->Vals zs ws->Vals (gV vs zs) (g us ws)
variable{g:List Value->List Value->List Value}{gV:List V->List V->List V}
end
structure aQ (N P:List Str)(sc:Scope):Prop where
 kind:sc.kind= .function
 co:sc.isCoroutine=false
 gen:sc.isGenerator=false
 nd:N.Nodup
 pre:N.take P.length=P
 par:∀ x ∈ P,sc.names.lookup x=some .local\/sc.names.lookup x=some .cell
 acg:∀ y ∈ sc.names,y.2 ≠ .free
def Kh{kindOf:Str->Option NameKind}{x:Str}:∀ {binds:List (Str × Value)} {m:Str->Option Value},(∀ v,(x,v) ∉ binds)->bindL kindOf binds m x=m x
 | [],_,_=>rfl
 | (n,v)::r,m,h=>by
   unfold bindL;rw[Kh fun w hw=>h w (iI _ hw)]
   split
   · have:x ≠ n:=by rintro rfl;exact h v qI
     simp[this]
   · rfl
def Kl{kindOf:Str->Option NameKind}{x:Str}:∀ {binds:List (Str × Value)} {m:Str->Option Value},(∀ v,(x,v) ∉ binds)->bindC kindOf binds m x=m x
 | [],_,_=>rfl
 | (n,v)::r,m,h=>by
   unfold bindC;rw[Kl fun w hw=>h w (iI _ hw)]
   split
   · rfl
   · have:x ≠ n:=by rintro rfl;exact h v qI
     simp[this]
def Km{kindOf:Str->Option NameKind}{x:Str}{v:Value}:∀ {P:List Str} {vs:List Value} {i:Nat} {m:Str->Option Value},P.Nodup->P[i]? =some x->vs[i]? =some v->kindOf x=some .local->
    bindL kindOf (P.zip vs) m x=some v
 | [],_,_,_,_,h,_,_=>by simp at h
 | _::_,[],_,_,_,_,h,_=>by simp at h
 | p::P,w::vs,0,m,nd,h1,h2,hk=>by
   simp at h1 h2;subst h1;subst h2;show bindL kindOf ((p,w)::P.zip vs) m p=_;unfold bindL;rw[Kh fun v hv=>(List.nodup_cons.mp nd).1 (List.of_mem_zip hv).1,aB hk]
   simp
 | p::P,w::vs,i+1,m,nd,h1,h2,hk=>by
   show bindL kindOf ((p,w)::P.zip vs) m x=_;unfold bindL;exact Km (i:=i) (List.nodup_cons.mp nd).2 (by simpa using h1) (by simpa using h2) hk
def Ko{kindOf:Str->Option NameKind}{x:Str}{v:Value}:∀ {P:List Str} {vs:List Value} {i:Nat} {m:Str->Option Value},P.Nodup->P[i]? =some x->vs[i]? =some v->kindOf x ≠ some .local->
    bindC kindOf (P.zip vs) m x=some v
 | [],_,_,_,_,h,_,_=>by simp at h
 | _::_,[],_,_,_,_,h,_=>by simp at h
 | p::P,w::vs,0,m,nd,h1,h2,hk=>by
   simp at h1 h2;subst h1;subst h2;show bindC kindOf ((p,w)::P.zip vs) m p=_;unfold bindC;rw[Kl fun v hv=>(List.nodup_cons.mp nd).1 (List.of_mem_zip hv).1,aA hk]
   simp
 | p::P,w::vs,i+1,m,nd,h1,h2,hk=>by
   show bindC kindOf ((p,w)::P.zip vs) m x=_;unfold bindC;exact Ko (i:=i) (List.nodup_cons.mp nd).2 (by simpa using h1) (by simpa using h2) hk
def start(N:List Str)(vs:List V):St:=vs.map some++List.replicate (N.length - vs.length) none
def ie(CX:CXT)(P:Program)(w:World)(K:ao)(mg:Str->Option Value)(base:Heap)(N:List Str)(qual:Str)(scope:Scope)(f:Addr)(cd:Value)(A:Around)(outer:List Env)(s:aj)(H:Hp)(E:XK):Cx where
 prog:=P
 w:=w
 K:=K
 mg:=mg
 base:=base
 A:=A.deeper (envOfC qual scope s.heap.objs.size f cd)
 N:=N
 s₀:=s
 H₀:=H
 env:=envOfC qual scope s.heap.objs.size f cd
 outer:=outer
 stack:=envOfC qual scope s.heap.objs.size f cd::outer
 ex:=[]
 calm:=true
 fn:=fun _=>true
 pn:=[]
 xe:=fun e s'=>wpAny (model P w) (A.deeper (envOfC qual scope s.heap.objs.size f cd)) (leaving (envOfC qual scope s.heap.objs.size f cd) e) (fun _ s''=>CX outer H s E e s'') (fun e' s''=>CX outer H s E e' s'') s'
def NZ{sc:Scope}{n:Nat}{x:Str}(h:sc.names.lookup x=some .cell):∃ c,(cellsFrom n sc.names []).lookup x=some c:=by
 have q:=PySem.W.cellsFrom_some sc.names n [] (.inl h);exact Option.isSome_iff_exists.mp q
def Kq{CX:CXT}{P:Program}{w:World}{K:ao}{mg:Str->Option Value}{base:Heap}{N ps:List Str}{qual:Str}{scope:Scope}{f:Addr}{cd:Value}{A:Around}{outer:List Env}{s s1:aj}{H:Hp}{E:XK}{us:List Value}{vs:List V}
    (S:aQ N ps scope) (hd:A.handled=none) (e0:Bx P w K mg base A outer s H) (hl:vs.length=ps.length) (r:Vals vs us)
    (x:InCallC s s.heap.objs.size (bindL (envOfC qual scope s.heap.objs.size f cd).kindOf (ps.zip us) fun _=>none) (cellsFrom (s.heap.objs.size+1) scope.names []) (bindC (envOfC qual scope s.heap.objs.size f cd).kindOf (ps.zip us) fun _=>none) s1):
    Inv (ie CX P w K mg base N qual scope f cd A outer s H E) [] (start N vs) H s1:=by
 have hpl:ps.length<=N.length:=by have:=congrArg List.length S.pre;rw[List.length_take]at this;omega
 obtain⟨h1,tk,rfl,hk⟩:=x.done;have noA:∀ b:Addr,b ∉ (ie CX P w K mg base N qual scope f cd A outer s H E).ex:=fun b z=>aK (show b ∈ ([]:List Addr) from z) (by simp)
 refine⟨⟨e0.mod,S.kind,rfl,rfl,aG _,fun y z c h1 h2=>?_,fun y hy=>?_,fun y c _ h=>?_,fun _=>hd,Around.frames_deeper e0.frames,.inr ⟨rfl,rfl⟩,fun b z=>aK z (noA b),e0.bs,e0.bsz,fun b _ _=>noA b,fun b z=>aK z (noA b),e0.oU,e0.frf⟩,
  rfl,e0.bare,Un.kept hk,⟨_,x.toInCall.ns,fun i y v h1 h2 h3=>?_⟩,fun y c h=>⟨_,x.cell y c h⟩,e0.hok.fresh (aG _),fun y c h=>?_,fun p hp=>aK (show p ∈ ([]:List (Addr × Obj)) from hp) (by simp),e0.hok.kept hk,?_⟩
 · exact name_of_addr x.apart (PySem.mem_of_lookup h1) (PySem.mem_of_lookup h2)
 · have hy:scope.names.lookup y=some .cell\/scope.names.lookup y=some .free:=hy
   rcases hy with hy | hy
   · exact NZ hy
   · exact aK rfl (S.acg _ (PySem.mem_of_lookup hy))
 · exact Nat.le_of_lt (x.above y c (PySem.mem_of_lookup h))
 · have hi:i<vs.length:=by
    unfold start at h2
    by_cases hi:i<vs.length
    · exact hi
    · rw[lJ (by simpa using hi)]at h2;rw[List.getElem?_replicate]at h2
      split at h2 <;> cases h2
   have ha:vs[i]? =some v:=by
    unfold start at h2;rw[pG (by simpa using hi),eN]at h2
    cases e:vs[i]? with
    | none=>rw[e]at h2;cases h2
    | some a=>rw[e]at h2;cases h2;rfl
   obtain⟨u,hu,rv⟩:=r.get ha
   have hp:ps[i]? =some y:=by
    rw[<- S.pre,List.getElem?_take_of_lt (by omega)];exact h1
   have ndP:ps.Nodup:=by rw[<- S.pre];exact S.nd.sublist (List.take_sublist _ _)
   refine⟨u,rv,?_⟩
   rcases S.par y (ju hp) with k | k
   · exact .inl ⟨k,Km ndP hp hu k⟩
   · obtain⟨c,e⟩:=NZ (n:=s.heap.objs.size+1) k;refine .inr ⟨.inl k,c,e,?_⟩;have q:=x.cell y c e;rw[Ko ndP hp hu (by show scope.names.lookup y ≠ _;rw[k];decide)]at q;exact q
 · exact e0.hok.fresh (Nat.le_of_lt (x.above y c (PySem.mem_of_lookup h)))
 · unfold start;show _=N.length;rw[ji,bK,List.length_replicate];omega
def Tz{CX:CXT}{P:Program}{w:World}{K:ao}{mg:Str->Option Value}{base:Heap}{k:Nat}{f:Addr}{name qual:Str}{params:Arguments}{body:List Stmt}{scope:Scope}{dV kV doc pm cdv ct oc:Value}{an od:Option Addr}
    {osl:Array (Option Value)} {N ps:List Str} {sp:Sp} (lk:K.lookup f=some ⟨oc,od,.func (PySem.W.fnOf name qual params body scope dV kV doc pm an cdv ct),osl⟩) (hcd:PySem.W.codeIn K cdv qual=true) (S:aQ N ps scope)
    (len:∀ vs H Q E,sp vs H Q E->vs.length=ps.length)
    (hbody:∀(A:Around) (outer:List Env) (s:aj) (H:Hp) (vs:List V) (Q:VK) (E:XK),bZ k (A.deeper (envOfC qual scope s.heap.objs.size f cdv))->sp vs H Q E->
      ∃ t,PSs (ie CX P w K mg base N qual scope f cdv A outer s H E) body t/\t { nx:=fun _ H'=>Q .non H',rt:=Q } (start N vs) H):
    bU P w K mg base CX (k+1) f (PySem.W.fnOf name qual params body scope dV kV doc pm an cdv ct) ps sp:=by
 refine⟨len,fun A outer s H args us vs Q E hr e0 hb r hsp=>?_⟩;have hl:=len _ _ _ _ hsp;have KX:K.In s.heap:=e0.mod.kin.keeps fun b o e=>(e0.bs b o e).1;have lim:s.heap.NoLimit:=e0.mod.nolimit.keeps fun b o e=>(e0.bs b o e).1
 have hkind:∀ y ∈ ps.zip us,scope.names.lookup y.1=some .local\/(scope.names.lookup y.1=some .cell/\((cellsFrom (s.heap.objs.size+1) scope.names []).lookup y.1).isSome=true):=fun⟨n,v⟩ hy=>by
  rcases S.par n (List.of_mem_zip hy).1 with q | q
  · exact .inl q
  · exact .inr ⟨q,PySem.W.cellsFrom_some _ _ _ (.inl q)⟩
 refine codeAny_call_function hr.depth (KX _ _ lk) rfl S.co S.gen rfl (PySem.W.codeRec_of KX hcd) (hb _ _ _ _ ?_);refine wpAny_newFunctionEnv_cells S.kind hkind fun env he s1 x=>?_;subst he;refine⟨lim.keeps x.toInCall.keep,codeAny_func ?_⟩;obtain⟨t,ht,hq⟩:=hbody A outer s H vs Q E (hr.deeper _) hsp;have I:Inv (ie CX P w K mg base N qual scope f cdv A outer s H E) [] (start N vs) H s1:=Kq S hr.hd e0 hl r x;refine wpAny_mono (ht [] s1 (start N vs) H _ I hq) (fun fl s' hs=>?_) fun e s' hs=>hs
 have fin:∀ {σ':St} {H':Hp} {v:V} {u:Value},Inv (ie CX P w K mg base N qual scope f cdv A outer s H E) [] σ' H' s'->RelV v u->Q v H'->CE outer P w H s Q u s':=
  fun {σ' H' v u} J rv q=>⟨v,H',J.os,J.bare,J.base,J.hok,rv,q⟩
 cases fl with
 | ret u=>
   obtain⟨v,σ',H',J,rv,q⟩:=hs
   exact fin J rv q
 | next=>
   obtain⟨σ',H',J,q⟩:=hs
   exact fin (v:=V.non) (u:=Value.none) J rfl q
 | brk=>
   obtain⟨_,_,_,q⟩:=hs
   exact False.elim q
 | cont=>
   obtain⟨_,_,_,q⟩:=hs;exact False.elim q
section
variable{X:Cx}{x:Str}{p pos:Pos}{e:Expr}{es:List Expr}{t:TA}{id T:String}{r:List V->Hp->VK->Prop}
def tCB(r:List V->Hp->VK->Prop)(t:TA):TE:=fun σ H Q=>t σ H fun vs H1=>r vs H1 Q
def qT(hc:oH X (.builtin id) r)(hg:Gl X x)(hm:X.mg x=none)(hv:bootBuiltins x=some (.builtin id))(ha:PA X (e::es) t)(hn:x ≠ "__name__":=by decide)(hdb:(x==("__debug__":Str))=false:=by decide)
    (he:starEach (e::es) X.env=(false,eval e X.env)::starEach es X.env:=by rfl) (hpl:(backTo pos (starEach es X.env)).any (·.1)=false:=by rfl):PE X (.Call (.Name x p) (e::es) [] pos) (tCB r t):=by
 intro pins s σ H Q I h;refine wpAny_Call_Name_kw (vG I hg hm hv ?_ hn hdb);exact PyProof.Rows.callWith_builtin1 (thn (ha pos pins s σ H _ I h) fun us s1 ⟨vs,H1,I1,r1,q1⟩=>hc pins s1 σ H1 vs us Q I1 r1 q1) he hpl
def xj(hc:oH X (.type T) r)(hg:Gl X x)(hm:X.mg x=none)(hv:bootBuiltins x=some (.type T))(ha:PA X (e::es) t)(hn:x ≠ "__name__":=by decide)(hdb:(x==("__debug__":Str))=false:=by decide)
    (he:starEach (e::es) X.env=(false,eval e X.env)::starEach es X.env:=by rfl) (hpl:(backTo pos (starEach es X.env)).any (·.1)=false:=by rfl):PE X (.Call (.Name x p) (e::es) [] pos) (tCB r t):=by
 intro pins s σ H Q I h;refine wpAny_Call_Name_kw (vG I hg hm hv ?_ hn hdb);exact PyProof.Rows.callWith_type1 (thn (ha pos pins s σ H _ I h) fun us s1 ⟨vs,H1,I1,r1,q1⟩=>hc pins s1 σ H1 vs us Q I1 r1 q1) he hpl
end
end L2
namespace HT
open PySem PyProof.Rows
def lexLt:List Int->List Int->Bool
 | [],[]=>false
 | [],_::_=>true
 | _::_,[]=>false
 | x::xs,y::ys=>if x=y then lexLt xs ys else decide (x<y)
def TF(x y:Int)(xs ys:List Int):lexLt (x::xs) (y::ys)=if x=y then lexLt xs ys else decide (x<y):=rfl
def Lf:lexLt [] [] =false:=rfl
def Im(y:Int)(ys:List Int):lexLt [] (y::ys)=true:=rfl
def Io(x:Int)(xs:List Int):lexLt (x::xs) [] =false:=rfl
def Yt(A:Around)(s:aj)(a:Int)(t:Tok)(c:Int)(u:Tok):∃ e,SeqAt.EqAt A s (.int a t) (.int c u) e/\(e=true ↔ a=c):=
 ⟨(a==c),SeqAt.EqAt.int_int a t c u,by simp⟩
def Yu(A:Around)(s:aj)(a:Int)(t:Tok)(c:Int)(u:Tok)(prog:Program)(w:World)(E:Value->aj->Prop)(Q:Value->aj->Prop)(h:Q (.bool (decide (a<c))) s):
    wpAny (model prog w) A (richCompare .Lt (.int a t) (.int c u)) Q E s:=
 (PyProof.Rows.lt_int h:wpAny (model prog w) A (compareOp .Lt (.int a t) (.int c u)) Q E s)
section
open PySem.SeqAt
open PySem.AutoSeq1 (wpAny_loadPart')
open PySem.MeetsSeq PySem.MeetsSeq2 PySem.MeetsSeq3
def Lg(l b:Addr)(items items2:Array Value)(n n2:Nat)(dd dd2:Option Addr)(sl sl2:Array (Option Value))(ns ms:List Int)(hi:IntsAre items.toList ns)(hj:IntsAre items2.toList ms):
    Meets (Builtin.«tuple.__lt__» ⟨[.ref l,.ref b],[]⟩)
     (fun _ R s=>s.heap.get? l=some { cls:=.type "tuple",dict:=dd,data:=.seq items n,slots:=sl }/\s.heap.get? b=some { cls:=.type "tuple",dict:=dd2,data:=.seq items2 n2,slots:=sl2 }/\
       R (.ok (.ret (.bool (lexLt ns ms)))) s):=
 .of_wp fun prog w A R s h=>by
  obtain⟨hp,g,d,tk,os⟩:=s;obtain⟨hl,hb,h⟩:=h;have f2:=AutoSeq1.sub_tuple_tuple;have z1:items.size=ns.length:=by rw[<- hi.length];simp
  have z2:items2.size=ms.length:=by rw[<- hj.length];simp
  wp_walk using wpAny_loadPart' hl,wpAny_loadPart' hb,wpAny_forIn_list _ (fun rest b s'=>b.1=none/\s'= ⟨hp,g,d,tk,os⟩/\∃(vs ws:List Value) (ns' ms':List Int),rest=vs.zip ws/\
   IntsAre vs ns'/\IntsAre ws ms'/\ns'.length+items2.size=ms'.length+items.size/\R (.ok (.ret (.bool (lexLt ns' ms')))) ⟨hp,g,d,tk,os⟩) _
  case turn=>
   rintro⟨y,x⟩ rest b s' ⟨hb',rfl,vs,ws,ns',ms',hz,hvi,hwi,hlen,hR⟩
   cases hvi with
   | nil=>rw[List.zip_nil_left]at hz;cases hz
   | cons a t afv=>
     cases hwi with
     | nil=>rw[List.zip_nil_right]at hz;cases hz
     | cons c u afw=>
       rw[List.zip_cons_cons]at hz;injection hz with hyx hrest;injection hyx with hy hx;subst hy hx;rw[TF]at hR;simp only[gG]at hlen;obtain⟨e,he,hiff⟩:=Yt A.in1 ⟨hp,g,d,tk,os⟩ a t c u;refine aO (he prog w _ _ ?_)
       cases e with
       | true=>
         rw[aB (hiff.mp rfl)]at hR
         wp_walk
         exact⟨rfl,rfl,_,_,_,_,hrest,afv,afw,by omega,hR⟩
       | false=>
         rw[aA (fun q=>aK (hiff.mpr q) gF)]at hR;have hri:=Yu A.in1 ⟨hp,g,d,tk,os⟩ a t c u prog w
         wp_walk using hri
         exact⟨_,rfl,by simpa using hR⟩
  case fin=>
   rintro⟨b1,b2⟩ s' ⟨hb',rfl,vs,ws,ns',ms',hz,hvi,hwi,hlen,hR⟩;simp only at hb';subst hb'
   have hv:lexLt ns' ms'=decide (items.size<items2.size):=by
    cases hvi with
    | nil=>
      cases hwi with
      | nil=>
        simp only[List.length_nil]at hlen;rw[Lf]
        exact(bM (by omega)).symm
      | cons c u hw=>
        simp only[List.length_nil,gG]at hlen;rw[Im]
        exact(bH (by omega)).symm
    | cons a t hv=>
      cases hwi with
      | nil=>
        simp only[List.length_nil,gG]at hlen;rw[Io]
        exact(bM (by omega)).symm
      | cons c u hw=>
        rw[List.zip_cons_cons]at hz;cases hz
   rw[hv]at hR
   wp_walk
   exact⟨_,rfl,by simpa [Builtin.Tuple.tupleCompareSizes] using hR⟩
  case h=>
   exact⟨rfl,rfl,items.toList,items2.toList,ns,ms,rfl,hi,hj,by omega,h⟩
end
section
variable{prog:Program}{w:World}{A:Around}{E:Value->aj->Prop}{s:aj}
def TJ{l b:Addr}{items items2:Array Value}{ns ms:List Int}{Q:Value->aj->Prop}(hl:IsTup s.heap l items)(hb:IsTup s.heap b items2)(hi:IntsAre items.toList ns)(hj:IntsAre items2.toList ms)
    (hu:A.units<cLine) (h:Q (.bool (lexLt ns ms)) s):wpAny (model prog w) A (compareOp .Lt (.ref l) (.ref b)) Q E s:=by
 obtain⟨⟨cls,dd,data,sl⟩,ho,hc,n,hd⟩:=id hl;obtain⟨⟨cls2,dd2,data2,sl2⟩,ho2,hc2,n2,hd2⟩:=id hb;simp only at hc hd hc2 hd2;subst hc hd hc2 hd2
 exact richCompare_meets_room (op:=.Lt) ⟨_,ho,rfl⟩ ⟨_,ho2,rfl⟩ PySem.F.slot_tuple_lt PySem.F.entry_tuple_lt (PySem.F.args_tuple_lt_2 _ _) (Lg l b items items2 n n2 dd dd2 sl sl2 ns ms hi hj)
  ⟨ho,ho2,show Value.bool (lexLt ns ms) ≠ Value.notImplemented/\Q (.bool (lexLt ns ms)) s from ⟨(fun x=>nomatch x),h⟩⟩ hu
def sIx(n d:Nat):Option Int->Nat
 | none=>d
 | some v=>if v<0 then(v+(n:Int)).toNat else min v.toNat n
def ach(n d:Nat)(hd:d<=n)(o:Option Int):sIx n d o<=n:=by
 cases o with
 | none=>exact hd
 | some v=>
   show(if v<0 then(v+(n:Int)).toNat else min v.toNat n)<=n
   by_cases hv:v<0
   · rw[aB hv];omega
   · rw[aA hv];exact Nat.min_le_right _ _
def Rk(v:Int)(n d:Nat):(if v<0 then max (v+(n:Int)) 0 else min v (n:Int))=((sIx n d (some v):Nat):Int):=by
 show(if v<0 then max (v+(n:Int)) 0 else min v (n:Int))=(((if v<0 then(v+(n:Int)).toNat else min v.toNat n):Nat):Int)
 by_cases hv:v<0
 · simp only[aB hv];omega
 · simp only[aA hv];omega
def TQ(lo hi:Option Int)(n:Nat):Builtin.Slice.sliceAdjust lo hi 1 (n:Int)=(((sIx n 0 lo:Nat):Int),((sIx n n hi:Nat):Int)):=by
 have h1:¬ ((1:Int)<0):=by omega
 unfold Builtin.Slice.sliceAdjust;simp only[h1,if_false];refine Prod.ext ?_ ?_
 · cases lo with
   | none=>rfl
   | some v=>exact Rk v n 0
 · cases hi with
   | none=>rfl
   | some v=>exact Rk v n n
def TV(i j:Nat):Builtin.Slice.slicePlaces (i:Int) (j:Int) 1=j - i:=by
 unfold Builtin.Slice.slicePlaces;have h1:(1:Int) > 0:=by omega
 simp only[h1,if_true,Int.ediv_one]
 split <;> omega
def Gs{v:Value}{o:Option Int}{Q:Option Int->aj->Prop}(p:IsPart v o)(h:Q o s):wpAny (model prog w) A (Builtin.Slice.slicePartIndex v) Q E s:=by
 cases p with
 | none=>exact slicePart_none h
 | int i t=>exact slicePart_int h
def Fb{sl:Addr}{vl vu:Value}{lo hi:Option Int}{n:Nat}{Q:Int × Int × Nat->aj->Prop}(hs:s.heap.IsSliceOf sl vl vu .none)(pl:IsPart vl lo)(pu:IsPart vu hi)
    (h:Q (((sIx n 0 lo:Nat):Int),1,sIx n n hi - sIx n 0 lo) s):wpAny (model prog w) A (Builtin.Slice.sliceApplied (.ref sl) (pure (n:Int))) Q E s:=by
 obtain⟨os,hos,hcs,hds⟩:=id hs;unfold Builtin.Slice.sliceApplied Builtin.Slice.sliceFields;refine aO (aO (wpAny_field hos hds (x:=vl) rfl (aO (wpAny_field hos hds (x:=vu) rfl (aO (wpAny_field hos hds (x:=.none) rfl (bN ?_)))))));refine aO (slicePart_none ?_);show wpAny _ _ (if((1:Int)==0)=true then _ else _) _ _ s;rw[aA (by decide)];refine aO (Gs pl (aO (Gs pu (aO (bN ?_)))));show wpAny _ _ (match Builtin.Slice.sliceAdjust lo hi 1 (n:Int) with | (lo,hi)=>pure (lo,(1:Int),Builtin.Slice.slicePlaces lo hi 1)) _ _ s;rw[TQ lo hi n];show wpAny _ _ (pure (((sIx n 0 lo:Nat):Int),(1:Int),Builtin.Slice.slicePlaces ((sIx n 0 lo:Nat):Int) ((sIx n n hi:Nat):Int) 1)) _ _ s;rw[TV];exact bN h
def Yv(xs:Array Value)(i k:Nat):((List.range k).filterMap fun(m:Nat)=>xs[((i:Int)+(m:Int)*1).toNat]?).toArray=((xs.toList.drop i).take k).toArray:=by
 have e:(fun(m:Nat)=>xs[((i:Int)+(m:Int)*1).toNat]?)=fun m=>xs[i+m]?:=by
  funext m
  have:((i:Int)+(m:Int)*1).toNat=i+m:=by omega
  rw[this]
 rw[e];have:=pick_run xs i k;rw[List.filterMap_map]at this;have e2:((fun x=>xs[x]?) ∘ fun x=>i+x)=fun m=>xs[i+m]?:=rfl;rw[e2]at this;rw[this]
def Eg{t sl:Addr}{items:Array Value}{vl vu:Value}{lo hi:Option Int}{Q:Value->aj->Prop}(ht:IsTup s.heap t items)(hs:s.heap.IsSliceOf sl vl vu .none)(pl:IsPart vl lo)(pu:IsPart vu hi)
    (hw:¬ (sIx items.size 0 lo=0/\sIx items.size items.size hi=items.size))
    (h:Q (.ref s.heap.objs.size) { s with heap:=s.heap.push { cls:=.type "tuple",data:=.seq ((items.toList.drop (sIx items.size 0 lo)).take (sIx items.size items.size hi - sIx items.size 0 lo)).toArray } })
    (hsz:items.size<=sizeLine):wpAny (model prog w) A (getItem (.ref t) (.ref sl)) Q E s:=by
 have MN:sizeOk (.seq ((items.toList.drop (sIx items.size 0 lo)).take (sIx items.size items.size hi - sIx items.size 0 lo)).toArray):=by
  show((items.toList.drop (sIx items.size 0 lo)).take (sIx items.size items.size hi - sIx items.size 0 lo)).toArray.size<=sizeLine;rw[gj,List.length_take,List.length_drop,Array.length_toList];omega
 have hj:sIx items.size items.size hi<=items.size:=ach _ _ (aG _) hi;obtain⟨os,hos,hcs,hds⟩:=id hs;have hTs:s.TypeIs (.ref sl) "slice":=⟨os,hos,hcs⟩;unfold getItem
 try with_reducible refine wpAny_holding ?_
 first | refine aO (bN ?_) | skip
 refine aO (wpAny_sequenceKey ht.typeIs (by decide) ?_)
 refine aO (wpAny_callSpecial?_slot (name:=Str.ofString "__getitem__") ht.typeIs PyProof.Rows.slot_tuple_getitem
  (wpAny_call_entry PyProof.Rows.slot_tuple_getitem ht.typeIs entry_tuple_getitem ?_ (args_tuple_getitem _ _)))
 show wpAny _ _ (Builtin.Tuple.tupleItemsOf (.ref t) >>= _) _ _ s;refine aO (tupleItemsOf_ ht ?_);refine aO (wpAny_typeOf hTs ?_);rw[aB (by decide)];refine aO (Fb hs pl pu ?_)
 have hno:¬ ((((sIx items.size 0 lo:Nat):Int)==0&&(1:Int)==1&&(sIx items.size items.size hi - sIx items.size 0 lo)==items.size)=true):=by
  intro q;rw[Bool.and_eq_true,Bool.and_eq_true]at q;have q1:((sIx items.size 0 lo:Nat):Int)=0:=eq_of_beq q.1.1;have q2:sIx items.size items.size hi - sIx items.size 0 lo=items.size:=eq_of_beq q.2;exact hw ⟨by omega,by omega⟩
 show wpAny _ _ (if(((sIx items.size 0 lo:Nat):Int)==0&&(1:Int)==1&&(sIx items.size items.size hi - sIx items.size 0 lo)==items.size)=true then _ else _) _ _ s;rw[aA hno,Yv]
 first
  | exact aO (m:=Builtin.Tuple.tupleExact _) (wpAny_newObj_type (bN ⟨_,rfl,bN h⟩) MN)
  | exact aO (m:=Builtin.Tuple.tupleExact _) (wpAny_newObj_type (aO (bN (bN ⟨_,rfl,bN h⟩))) MN)
  | exact aO (aO (m:=Builtin.Tuple.tupleExact _) (wpAny_newObj_type (bN (bN ⟨_,rfl,bN h⟩)) MN))
  | exact aO (aO (m:=Builtin.Tuple.tupleExact _) (wpAny_newObj_type (bN ⟨_,rfl,bN h⟩) MN))
end
end HT
namespace L2
open PySem PySem.Spec PyProof.Rows
abbrev TO:=St->Hp->(Option Int->Hp->Prop)->Prop
def PO(X:Cx)(e:Option Expr)(t:TO):Prop:=
 ∀(pins:List (Addr × Obj)) (s:aj) (σ:St) (H:Hp) (Q:Option Int->Hp->Prop),Inv X pins σ H s->t σ H Q->
  wpAny (model X.prog X.w) X.A (evalPart e X.env) (fun u s'=>∃ o H',Inv X pins σ H' s'/\IsPart u o/\Q o H') X.xe s
def Rm:TO:=fun _ H Q=>Q none H
def Z2(t:TE):TO:=fun σ H Q=>t σ H fun x H1=>∃ i,x= .int i/\Q (some i) H1
def intsAre_of{ns:List Int}:∀ {us:List Value},Vals (ns.map V.int) us->IntsAre us ns:=by
 induction ns with
 | nil=>intro us r;rw[List.map_nil]at r;cases r;exact .nil
 | cons n ns ih=>
   intro us r;rw[List.map_cons]at r
   cases r with
   | cons r1 r2=>
     obtain⟨t,e⟩:=r1;subst e;exact .cons n t (ih r2)
section
variable{X:Cx}{e:Expr}{te:TE}{lo hi:Option Expr}{tl th:TO}{pos p2:Pos}
def Ip:PO X none Rm:=by
 intro pins s σ H Q I h;rw[evalPart_none];exact bN ⟨none,H,I,.none,h⟩
def Ir(h:PE X e te):PO X (some e) (Z2 te):=by
 intro pins s σ H Q I hw;rw[evalPart_some];refine thn (h pins s σ H _ I hw) fun u s1 ⟨x,H1,I1,r1,q1⟩=>?_;obtain⟨i,rfl,q⟩:=q1;obtain⟨t,rfl⟩:=r1;exact⟨some i,H1,I1,.int i t,q⟩
def SlR(X:Cx)(r:V->Option Int->Option Int->Hp->VK->Prop):Prop:=
 ∀(pins:List (Addr × Obj)) (s:aj) (σ:St) (H:Hp) (x:V) (v vl vu:Value) (lo hi:Option Int) (sl:Addr) (Q:VK),Inv X pins σ H s->RelV x v->s.heap.IsSliceOf sl vl vu .none->IsPart vl lo->IsPart vu hi->r x lo hi H Q->
  ∃ T id,typeLookup (.type T) "__getitem__" =pure (some (.builtin id))/\s.TypeIs v T/\wpAny (model X.prog X.w) X.A (getItem v (.ref sl)) (EP X pins σ Q) X.xe s
def SlR.or{r r':V->Option Int->Option Int->Hp->VK->Prop}(h:SlR X r)(h':SlR X r'):SlR X (fun x lo hi H Q=>r x lo hi H Q\/r' x lo hi H Q):=by
 intro pins s σ H x v vl vu lo hi sl Q I rx hs pl pu q
 rcases q with q | q
 · exact h pins s σ H x v vl vu lo hi sl Q I rx hs pl pu q
 · exact h' pins s σ H x v vl vu lo hi sl Q I rx hs pl pu q
def tSl(r:V->Option Int->Option Int->Hp->VK->Prop)(te:TE)(tl th:TO):TE:=fun σ H Q=>te σ H fun x H1=>tl σ H1 fun l H2=>th σ H2 fun u H3=>r x l u H3 Q
def Fd{r:V->Option Int->Option Int->Hp->VK->Prop}(hr:SlR X r)(he:PE X e te)(hl:PO X lo tl)(hu:PO X hi th):PE X (.Subscript e (.Slice lo hi none p2) pos) (tSl r te tl th):=by
 intro pins s σ H Q I h;refine Subscript_ (thn (he pins s σ H _ I h) fun v s1 ⟨x,H1,I1,r1,q1⟩=>?_);refine wpAny_Slice (thn (hl pins s1 σ H1 _ I1 q1) fun vl s2 ⟨l,H2,I2,pl,q2⟩=>thn (hu pins s2 σ H2 _ I2 q2) fun vu s3 ⟨u,H3,I3,pu,q3⟩=>?_);rw[evalPart_none];refine bN ?_;have I4:Inv X pins σ H3 { s3 with heap:=s3.heap.push { cls:=.type "slice",data:=.fields #[vl,vu,.none] } }:=I3.kept (t':=s3.toks) fun b ob q=>dJ _ q;obtain⟨T,id,hT,ht,hg⟩:=hr pins { s3 with heap:=s3.heap.push { cls:=.type "slice",data:=.fields #[vl,vu,.none] } } σ H3 x v vl vu l u s3.heap.objs.size Q I4 r1 (Heap.IsSliceOf.new ..) pl pu q3;show wpAny (model X.prog X.w) X.A (subscriptTail e (.Slice lo hi none p2) v (.ref s3.heap.objs.size)) (EP X pins σ Q) X.xe { s3 with heap:=s3.heap.push { cls:=.type "slice",data:=.fields #[vl,vu,.none] } };exact tail_any (ops:=[.ref s3.heap.objs.size,v]) ht hT hg (by with_unfolding_all rfl)
def By(xs:List V)(lo hi:Option Int):List V:=(xs.drop (HT.sIx xs.length 0 lo)).take (HT.sIx xs.length xs.length hi - HT.sIx xs.length 0 lo)
def Er(xs:List V)(lo hi:Option Int):(By xs lo hi).length<=xs.length:=by
 unfold By;rw[List.length_take,List.length_drop];omega
def aci(K:ao):V->Option Int->Option Int->Hp->VK->Prop:=fun x lo hi H Q=>∃ a xs,x= .ref a/\SqT K H a xs/\
 ¬ (HT.sIx xs.length 0 lo=0/\HT.sIx xs.length xs.length hi=xs.length)/\∀ p,H p=none->Q (.ref p) (upd H p (.tup (By xs lo hi)))
def acj:SlR X (aci X.K):=by
 intro pins s σ H x v vl vu lo hi sl Q I rx hs pl pu h;obtain⟨a,xs,rfl,hx,hw,q⟩:=h;cases rx;obtain⟨its,r,ht,hz⟩:=I.tuple hx;have hlen:its.toArray.size=xs.length:=by rw[gj];exact r.length.symm
 refine⟨"tuple",_,PyProof.Rows.slot_tuple_getitem.lookup,ht.typeIs,?_⟩;refine HT.Eg ht hs pl pu (by rw[hlen];exact hw) ?_ (by rw[hlen];exact hz);rw[hlen];refine⟨.ref s.heap.objs.size,_,I.laid (t':=s.toks) (o:=.tup (By xs lo hi)) (fun b ob q=>dJ _ q) (aG _) ?_,rfl,q _ (I.hok.fresh (aG _))⟩;exact⟨Nat.le_trans (Er xs lo hi) hz,_,(r.drop (HT.sIx xs.length 0 lo)).take (HT.sIx xs.length xs.length hi - HT.sIx xs.length 0 lo),IsTup.new _ _⟩
def ack(K:ao):R2:=fun x y H Q=>∃ a b ns ms,x= .ref a/\y= .ref b/\SqT K H a (ns.map V.int)/\SqT K H b (ms.map V.int)/\Q (.bl (HT.lexLt ns ms)) H
def vJ(hu:X.A.units<cLine):OpR X (compareOp .Lt) (ack X.K):=by
 intro pins s σ H x y v u Q I rx ry h;obtain⟨a,b,ns,ms,rfl,rfl,ha,hb,q⟩:=h;cases rx;cases ry;obtain⟨its,r1,p1,_⟩:=I.tuple ha;obtain⟨its2,r2,p2,_⟩:=I.tuple hb;have i1:IntsAre its.toArray.toList ns:=intsAre_of r1;have i2:IntsAre its2.toArray.toList ms:=intsAre_of r2;exact HT.TJ p1 p2 i1 i2 hu ⟨.bl (HT.lexLt ns ms),H,I,rfl,q⟩
end
def ixN(n:Nat)(i:Int):Option Nat:=if 0<=i then(if i<n then some i.toNat else none) else if -(n:Int)<=i then some (i+n).toNat else none
def atI{α:Type}(xs:List α)(i:Int):Option α:=(ixN xs.length i).bind fun j=>xs[j]?
def aaQ{n:Nat}{i:Int}{j:Nat}(h:ixN n i=some j):seqIndex? i n=some j/\j<n/\-(n:Int)<=i/\i<n:=by
 unfold ixN at h
 by_cases h0:0<=i
 · rw[aB h0]at h
   by_cases h1:i<n
   · rw[aB h1]at h;have e:i.toNat=j:=gH h;exact⟨by rw[seqIndex_of h0 h1,e],by omega,by omega,h1⟩
   · rw[aA h1]at h;cases h
 · rw[aA h0]at h
   by_cases h1: -(n:Int)<=i
   · rw[aB h1]at h;have e:(i+n).toNat=j:=gH h;exact⟨by rw[seqIndex_neg (by omega) h1,e],by omega,h1,by omega⟩
   · rw[aA h1]at h;cases h
def Iu{α:Type}{xs:List α}{i:Int}{v:α}(h:atI xs i=some v):∃ j,seqIndex? i xs.length=some j/\xs[j]? =some v/\j<xs.length/\-(xs.length:Int)<=i/\i<xs.length:=by
 unfold atI at h
 cases e:ixN xs.length i with
 | none=>rw[e]at h;cases h
 | some j=>
   rw[e]at h;obtain⟨h1,h2,h3,h4⟩:=aaQ e;exact⟨j,h1,h,h2,h3,h4⟩
def Rn{α:Type}{xs:List α}{j:Nat}{v:α}(h:xs[j]? =some v):atI xs (j:Int)=some v:=by
 have hj:j<xs.length:=(bB h).1
 have e:ixN xs.length (j:Int)=some j:=by
  unfold ixN;rw[aB (by omega),aB (by omega)];simp
 unfold atI;rw[e];exact h
def Dr(b:Expr):Prop:=∀ o i,subscripted b false o i=operate [o,i] (getItem o i)
def IxR(X:Cx)(r:R2):Prop:=
 ∀(value slice:Expr) (pins:List (Addr × Obj)) (s:aj) (σ:St) (H:Hp) (x y:V) (v u:Value) (Q:VK),Inv X pins σ H s->RelV x v->RelV y u->r x y H Q->
  subscripted slice false v u=operate [v,u] (getItem v u)->wpAny (model X.prog X.w) X.A (subscriptTail value slice v u) (EP X pins σ Q) X.xe s
def MtR(X:Cx)(id:String)(r:V->List V->Hp->VK->Prop):Prop:=
 ∀(pins:List (Addr × Obj)) (s:aj) (σ:St) (H:Hp) (x:V) (xs:List V) (v:Value) (us:List Value) (Q:VK),Inv X pins σ H s->RelV x v->Vals xs us->r x xs H Q->
  wpAny (model X.prog X.w) X.A (call (.builtin id) (v::us)) (EP X pins σ Q) X.xe s
section
variable{X:Cx}{a b:Expr}{ta tb:TE}{pos:Pos}
def IxR.or{r r':R2}(h:IxR X r)(h':IxR X r'):IxR X (fun x y H Q=>r x y H Q\/r' x y H Q):=by
 intro value slice pins s σ H x y v u Q I rx ry q hs
 rcases q with q | q
 · exact h value slice pins s σ H x y v u Q I rx ry q hs
 · exact h' value slice pins s σ H x y v u Q I rx ry q hs
def Ds{r:R2}(hr:IxR X r)(ha:PE X a ta)(hb:PE X b tb)(hs:Dr b):PE X (.Subscript a b pos) (tOp r ta tb):=by
 intro pins s σ H Q I h;exact Subscript_ (Yk ha hb I h fun v u s2 x y H2 I2 rx ry q=>hr a b pins s2 σ H2 x y v u Q I2 rx ry q (hs _ _))
def acn(K:ao):R2:=fun x y H Q=>∃ p xs i v,x= .ref p/\y= .int i/\SqL K H p xs/\atI xs i=some v/\Q v H
def aco(K:ao):R2:=fun x y H Q=>∃ p xs i v,x= .ref p/\y= .int i/\SqT K H p xs/\atI xs i=some v/\Q v H
def acp:R2:=fun x y H Q=>∃ z i c,x= .str z/\y= .int i/\z.length<=sizeLine/\atI z.cps.toList i=some c/\Q (.str ⟨#[c]⟩) H
def Dt:IxR X (acn X.K):=by
 intro value slice pins s σ H x y v u Q I rx ry h hs;obtain⟨p,xs,i,z,rfl,rfl,hq,he,q⟩:=h;cases rx;obtain⟨t,rfl⟩:=ry;obtain⟨its,r,pl,hz⟩:=I.list hq;obtain⟨j,h1,h2,h3,h4,h5⟩:=Iu he;obtain⟨w,ew,rw'⟩:=r.get h2;have hl:=r.length;have hn:=Bv;have fin:EP X pins σ Q w s:=⟨z,H,I,rw',q⟩
 by_cases h0:0<=i
 · have hj:i.toNat=j:=by
    rw[seqIndex_of h0 h5]at h1;exact gH h1
   exact item_listR pl.isList h0 (by omega) (by rw[hj];simpa using ew) fin hs
 · have hj:(i+(its.toArray.size:Int)).toNat=j:=by
    rw[seqIndex_neg (by omega) h4]at h1;rw[gj,<- hl];exact gH h1
   exact subscriptTail_builtinR (x:=w) pl.isList.typeIs slot_list_getitem.lookup
    (wpAny_getItem_list_neg (Q:=fun r s'=>r=w/\EP X pins σ Q r s') pl.isList (by omega) (by rw[gj] <;> omega) (by omega) (by rw[hj];simpa using ew) ⟨rfl,fin⟩) hs
def acq:IxR X (aco X.K):=by
 intro value slice pins s σ H x y v u Q I rx ry h hs;obtain⟨p,xs,i,z,rfl,rfl,hq,he,q⟩:=h;cases rx;obtain⟨t,rfl⟩:=ry;obtain⟨its,r,pl,hz⟩:=I.tuple hq;obtain⟨j,h1,h2,h3,h4,h5⟩:=Iu he;obtain⟨w,ew,rw'⟩:=r.get h2;have hl:=r.length;have hn:=Bv;have fin:EP X pins σ Q w s:=⟨z,H,I,rw',q⟩
 exact subscriptTail_builtinR (x:=w) pl.typeIs slot_tuple_getitem.lookup
  (getItem_tuple (j:=j) (Q:=fun r s'=>r=w/\EP X pins σ Q r s') pl (by omega) (by omega) (by rw[gj,<- hl];exact h1) (by simpa using ew) ⟨rfl,fin⟩) hs
def acr:IxR X acp:=by
 intro value slice pins s σ H x y v u Q I rx ry h hs;obtain⟨z,i,c,rfl,rfl,hz,he,q⟩:=h;obtain⟨t,rfl⟩:=rx;obtain⟨t',rfl⟩:=ry;obtain⟨j,h1,h2,h3,h4,h5⟩:=Iu he;have hl:z.cps.toList.length=z.length:=by simp[Str.length]
 rw[hl]at h1 h4 h5;have hn:=Bv
 exact tail_any (typeIs_str s z t) slot_str_getitem.lookup (getItem_str (c:=c) (by
  have e1:decide (i < -(2 ^ 63:Int))=false:=bM (by omega);have e2:decide (i >= 2 ^ 63)=false:=bM (by omega)
  rw[e1,e2,Bool.or_false]) (by rw[h1];simpa using h2) ⟨.str ⟨#[c]⟩,H,I.tok _,⟨_,rfl⟩,q⟩) hs
def rIx(K:ao):R2:=fun x y H Q=>acn K x y H Q\/aco K x y H Q\/acp x y H Q
def V2:IxR X (rIx X.K):=Dt.or (acq.or acr)
def N5(lo hi:Option Int)(n:Nat):(sliceBounds lo hi none n).1=((HT.sIx n 0 lo:Nat):Int)/\(sliceBounds lo hi none n).2.1=((HT.sIx n n hi:Nat):Int)/\(sliceBounds lo hi none n).2.2=1:=by
 refine⟨?_,?_,rfl⟩
 · cases lo with
   | none=>simp[sliceBounds,HT.sIx]
   | some i=>
     simp only[sliceBounds,HT.sIx,Option.getD_none,show(1:Int) > 0 by decide,if_true]
     by_cases h:i<0
     · simp only[h,if_true] <;> omega
     · simp only[h,if_false] <;> omega
 · cases hi with
   | none=>simp[sliceBounds,HT.sIx]
   | some i=>
     simp only[sliceBounds,HT.sIx,Option.getD_none,show(1:Int) > 0 by decide,if_true]
     by_cases h:i<0
     · simp only[h,if_true] <;> omega
     · simp only[h,if_false] <;> omega
def Lh(its:List Value)(lo hi:Option Int):slicePick its.toArray lo hi none=((its.drop (HT.sIx its.length 0 lo)).take (HT.sIx its.length its.length hi - HT.sIx its.length 0 lo)).toArray:=by
 obtain⟨h1,h2,h3⟩:=N5 lo hi its.toArray.size;unfold slicePick;rw[h1,h2,h3];simp only[sliceRange_one,pick_run,gj] <;> rfl
def acs(K:ao):V->Option Int->Option Int->Hp->VK->Prop:=fun x lo hi H Q=>∃ a xs,x= .ref a/\SqL K H a xs/\∀ p,H p=none->Q (.ref p) (upd H p (.lst (By xs lo hi)))
def Iw:SlR X (acs X.K):=by
 intro pins s σ H x v vl vu lo hi sl Q I rx hs pl pu h;obtain⟨a,xs,rfl,hx,q⟩:=h;cases rx;obtain⟨its,r,ht,hz⟩:=I.list hx;have hlen:=r.length;refine⟨"list",_,slot_list_getitem.lookup,ht.isList.typeIs,?_⟩;refine wpAny_getItem_list_slice ht.isList hs pl pu .none (by simp) ?_ (by rw[gj] <;> omega);rw[Lh,<- hlen];refine⟨.ref s.heap.objs.size,_,I.laid (t':=s.toks) (o:=.lst (By xs lo hi)) (fun b ob q=>dJ _ q) (aG _) ?_,rfl,q _ (I.hok.fresh (aG _))⟩;exact⟨Nat.le_trans (Er xs lo hi) hz,_,0,(r.drop (HT.sIx xs.length 0 lo)).take (HT.sIx xs.length xs.length hi - HT.sIx xs.length 0 lo),jT _ rfl⟩
def qJ:V->Bool
 | .non=>true
 | .bl _=>true
 | .int _=>true
 | .str _=>true
 | _=>false
def eqV:V->V->Bool
 | .non,.non=>true
 | .bl a,.bl b=>a==b
 | .bl a,.int b=>(if a then 1 else 0)==b
 | .int a,.bl b=>a==(if b then 1 else 0)
 | .int a,.int b=>a==b
 | .str a,.str b=>a==b
 | _,_=>false
def acu{A:Around}{s:aj}{y x:V}{u v:Value}(ry:RelV y u)(rx:RelV x v)(fy:qJ y=true)(fx:qJ x=true):SeqAt.EqAt A s u v (eqV y x):=by
 cases y with
 | non=>
   cases ry
   cases x with
   | non=>cases rx;exact SeqAt.EqAt.same _
   | bl b=>cases rx;exact SeqAt.EqAt.none_bool b
   | int b=>obtain⟨t,rfl⟩:=rx;exact SeqAt.EqAt.none_int b t
   | str b=>obtain⟨t,rfl⟩:=rx;exact SeqAt.EqAt.none_str b t
   | _=>exact aK (show false=true from fx) gF
 | bl a=>
   cases ry
   cases x with
   | non=>cases rx;exact SeqAt.EqAt.bool_none a
   | bl b=>cases rx;exact SeqAt.EqAt.bool_bool a b
   | int b=>obtain⟨t,rfl⟩:=rx;exact SeqAt.EqAt.bool_int a b t
   | str b=>obtain⟨t,rfl⟩:=rx;exact SeqAt.EqAt.bool_str a b t
   | _=>exact aK (show false=true from fx) gF
 | int a=>
   obtain⟨t',rfl⟩:=ry
   cases x with
   | non=>cases rx;exact SeqAt.EqAt.int_none a t'
   | bl b=>cases rx;exact SeqAt.EqAt.int_bool a t' b
   | int b=>obtain⟨t,rfl⟩:=rx;exact SeqAt.EqAt.int_int a t' b t
   | str b=>obtain⟨t,rfl⟩:=rx;exact SeqAt.EqAt.int_str a t' b t
   | _=>exact aK (show false=true from fx) gF
 | str a=>
   obtain⟨t',rfl⟩:=ry
   cases x with
   | non=>cases rx;exact SeqAt.EqAt.str_none a t'
   | bl b=>cases rx;exact SeqAt.EqAt.str_bool a t' b
   | int b=>obtain⟨t,rfl⟩:=rx;exact SeqAt.EqAt.str_int a t' b t
   | str b=>obtain⟨t,rfl⟩:=rx;exact SeqAt.EqAt.str_str a t' b t
   | _=>exact aK (show false=true from fx) gF
 | _=>exact aK (show false=true from fy) gF
def eqU(x:V)(u:Value):Bool:=match u with
 | .none=>eqV .non x
 | .bool b=>eqV (.bl b) x
 | .int i _=>eqV (.int i) x
 | .str z _=>eqV (.str z) x
 | _=>false
def V3{x y:V}{u:Value}(r:RelV y u)(f:qJ y=true):eqU x u=eqV y x:=by
 cases y with
 | non=>cases r;rfl
 | bl b=>cases r;rfl
 | int i=>obtain⟨t,rfl⟩:=r;rfl
 | str z=>obtain⟨t,rfl⟩:=r;rfl
 | _=>exact aK (show false=true from f) gF
def yE{x:V}:∀ {xs:List V} {us:List Value},Vals xs us->xs.all qJ=true->us.any (eqU x)=xs.any fun y=>eqV y x
 | _,_,.nil,_=>rfl
 | y::xs,u::us,.cons r t,f=>by
   rw[List.all_cons,Bool.and_eq_true]at f;rw[List.any_cons,List.any_cons,V3 r f.1,yE t f.2]
def vK{A:Around}{s:aj}{x:V}{v:Value}(rx:RelV x v)(fx:qJ x=true):∀ {xs:List V} {us:List Value},Vals xs us->xs.all qJ=true->∀ u ∈ us,SeqAt.EqAt A s u v (eqU x u)
 | _,_,.nil,_=>fun u hu=>by cases hu
 | y::xs,u::us,.cons r t,f=>fun u' hu=>by
   rw[List.all_cons,Bool.and_eq_true]at f
   rcases List.mem_cons.mp hu with rfl | hu
   · rw[V3 r f.1];exact acu r rx f.1 fx
   · exact vK rx fx t f.2 u' hu
def inV(x:V)(xs:List V):Bool:=xs.any fun y=>eqV y x
def rIn(K:ao)(neg:Bool):R2:=fun x y H Q=>∃ p xs,y= .ref p/\(SqL K H p xs\/SqT K H p xs)/\qJ x=true/\xs.all qJ=true/\Q (.bl (if neg then !inV x xs else inV x xs)) H
def Kr:OpR X (compareOp .In) (rIn X.K false):=by
 intro pins s σ H x y v u Q I rx ry h;obtain⟨p,xs,rfl,hq,fx,fs,q⟩:=h;cases ry
 rcases hq with hq | hq
 · obtain⟨its,r,pl,hz⟩:=I.list hq;refine SeqAt.in_listAt (eqU x) pl.isList (fun w hw=>vK rx fx r fs w (by simpa using hw)) ⟨.bl _,H,I,rfl,?_⟩;rw[show its.toArray.any (eqU x)=its.any (eqU x) by simp,yE r fs];exact q
 · obtain⟨its,r,pl,hz⟩:=I.tuple hq;refine SeqAt.in_tupleAt (eqU x) pl (fun w hw=>vK rx fx r fs w (by simpa using hw)) ⟨.bl _,H,I,rfl,?_⟩;rw[show its.toArray.any (eqU x)=its.any (eqU x) by simp,yE r fs];exact q
def BJ:OpR X (compareOp .NotIn) (rIn X.K true):=by
 intro pins s σ H x y v u Q I rx ry h;obtain⟨p,xs,rfl,hq,fx,fs,q⟩:=h;cases ry
 rcases hq with hq | hq
 · obtain⟨its,r,pl,hz⟩:=I.list hq;refine SeqAt.notIn_listAt (eqU x) pl.isList (fun w hw=>vK rx fx r fs w (by simpa using hw)) ⟨.bl _,H,I,rfl,?_⟩;rw[show its.toArray.any (eqU x)=its.any (eqU x) by simp,yE r fs];exact q
 · obtain⟨its,r,pl,hz⟩:=I.tuple hq;refine SeqAt.notIn_tupleAt (eqU x) pl (fun w hw=>vK rx fx r fs w (by simpa using hw)) ⟨.bl _,H,I,rfl,?_⟩;rw[show its.toArray.any (eqU x)=its.any (eqU x) by simp,yE r fs];exact q
def cI:oH X (.builtin "len") (fun xs H Q=>∃ p ys,xs= [.ref p]/\(SqL X.K H p ys\/SqT X.K H p ys)/\Q (.int ys.length) H):=by
 intro pins s σ H xs us Q I r h;obtain⟨p,ys,rfl,hq,q⟩:=h;obtain⟨u,rfl,rx⟩:=vals1 r;cases rx;have hn:=Bv
 rcases hq with hq | hq
 · obtain⟨its,r',pl,hz⟩:=I.list hq;have hlen:=r'.length;exact Calls.call_len_list pl.isList (by simp only[gj] <;> omega) ⟨.int ys.length,H,I.tok _,⟨s.toks+1,by rw[gj,hlen]⟩,q⟩
 · obtain⟨its,r',pl,hz⟩:=I.tuple hq;have hlen:=r'.length;exact len_tuple pl (by simp only[gj] <;> omega) ⟨.int ys.length,H,I.tok _,⟨s.toks+1,by rw[gj,hlen]⟩,q⟩
def N6:oH X (.type "list") (fun xs H Q=>∃ p ys,xs= [.ref p]/\(SqL X.K H p ys\/SqT X.K H p ys)/\∀ l,H l=none->Q (.ref l) (upd H l (.lst ys))):=by
 intro pins s σ H xs us Q I r h;obtain⟨p,ys,rfl,hq,q⟩:=h;obtain⟨u,rfl,rx⟩:=vals1 r;cases rx
 have fin:∀(its:List Value),Vals ys its->ys.length<=sizeLine->∀(h':Heap) (c':Nat),(∀ b o',s.heap.get? b=some o'->h'.get? b=some o')->
  h'.get? s.heap.objs.size=some { cls:=.type "list",dict:=none,data:=.seq its.toArray c',slots:=#[] }->EP X pins σ Q (.ref s.heap.objs.size) { s with heap:=h' }:=fun its r' hz h' c' kp e=>
  ⟨.ref s.heap.objs.size,_,I.laid (t':=s.toks) kp (aG _) (show dg X.prog X.w _ h' _ (.lst ys) from ⟨hz,its,c',r',e⟩),rfl,q _ (I.hok.fresh (aG _))⟩
 rcases hq with hq | hq
 · obtain⟨its,r',pl,hz⟩:=I.list hq;have hlen:=r'.length;obtain⟨o,ho,hc,n,hd⟩:=pl.isList;exact call_list_seq p (.inl rfl) ho hc hd (fun h' c' kp e=>fin its r' hz h' c' kp e) (by simp only[gj] <;> omega)
 · obtain⟨its,r',pl,hz⟩:=I.tuple hq;have hlen:=r'.length;obtain⟨o,ho,hc,n,hd⟩:=pl;exact call_list_seq p (.inr rfl) ho hc hd (fun h' c' kp e=>fin its r' hz h' c' kp e) (by simp only[gj] <;> omega)
def tyV(K:ao)(T:String)(x:V)(H:Hp):Prop:=match x with
 | .str _=>T= "str"
 | .int _=>T= "int"
 | .ref p=>(T= "list"/\∃ xs,SqL K H p xs)\/(T= "tuple"/\∃ o,K.lookup p=some o/\o.cls= .type "tuple"/\o.dict=none)\/
    (T= "dict"/\((∃ kvs,H p=some (.dK kvs))\/∃ kvs,H p=some (.dT kvs)))\/(T= "set"/\∃ S n,H p=some (.set S n))
 | _=>False
def acv{pins:List (Addr × Obj)}{σ:St}{H:Hp}{s:aj}{T:String}{x:V}{v:Value}(I:Inv X pins σ H s)(r:RelV x v)(ty:tyV X.K T x H):
    s.TypeIs v T/\∀ a,v= .ref a->∃ ob,s.heap.get? a=some ob/\ob.dict=none:=by
 cases x with
 | str z=>
   obtain⟨t,rfl⟩:=r;cases (show T= "str" from ty)
   exact⟨typeIs_str s z t,fun _ e=>nomatch e⟩
 | int i=>
   obtain⟨t,rfl⟩:=r;cases (show T= "int" from ty)
   exact⟨typeIs_int s i t,fun _ e=>nomatch e⟩
 | ref p=>
   cases r
   rcases ty with ⟨rfl,xs,hq⟩ | ⟨rfl,o,hk,hc,hd⟩ | ⟨rfl,hk⟩ | ⟨rfl,S,n,hk⟩
   · obtain⟨its,_,pl,_⟩:=I.list hq;refine⟨pl.isList.typeIs,fun a e=>?_⟩;cases e;obtain⟨o,n,e,c,hd,_⟩:=pl;exact⟨o,e,hd⟩
   · refine⟨⟨o,I.kIn p o hk,hc⟩,fun a e=>?_⟩;cases e;exact⟨o,I.kIn _ o hk,hd⟩
   · have z:∃ o,s.heap.get? p=some o/\o.ExactDict:=by
      rcases hk with ⟨kvs,hk⟩ | ⟨kvs,hk⟩
      · obtain⟨_,_,_,_,o,_,_,e,ex,_⟩:=I.hok p _ hk;exact⟨o,e,ex⟩
      · obtain⟨_,_,_,_,o,_,_,e,ex,_⟩:=I.hok p _ hk;exact⟨o,e,ex⟩
     obtain⟨o,e,ex⟩:=z;refine⟨⟨o,e,ex.1⟩,fun a e2=>?_⟩;cases e2;exact⟨o,e,ex.2.1⟩
   · obtain⟨o,_,_,_,e,ex,_⟩:=I.hok p _ hk;refine⟨⟨o,e,ex.1⟩,fun a e2=>?_⟩;cases e2
     exact⟨o,e,ex.2.1⟩
 | _=>exact False.elim ty
def tBM(K:ao)(T:String)(r:V->List V->Hp->VK->Prop)(to:TE)(t:TA):TE:=fun σ H Q=>to σ H fun x H1=>tyV K T x H1/\t σ H1 fun xs H2=>r x xs H2 Q
variable{o e:Expr}{es:List Expr}{to:TE}{t:TA}{name:Str}{apos cpos:Pos}{T id:String}{r:V->List V->Hp->VK->Prop}
def MP(pa:PlainAttrs T)(slot:Slot T name id)(hty:typeOf (.builtin id)=pure (.type "method_descriptor"))(hm:MtR X id r)(ho:PE X o to)(ha:PA X (e::es) t)
    (hbase:attributeBase o name X.env (eval o X.env)=eval o X.env:=by rfl)
    (hfew:((backTo cpos (starEach (e::es) X.env)).all (fun x=> !x.1)&&(backToKw cpos (keywordEach [] X.env)).all (fun x=>x.1.isSome)
      && decide ((e::es).length+([]:List Keyword).length+(if([]:List Keyword).isEmpty then 0 else 1)<30))=true:=by rfl)
    (hline:(apos.endLine==cpos.line)=true:=by rfl) (hs:starEach (e::es) X.env=(false,eval e X.env)::starEach es X.env:=by rfl) (hplain:(backTo cpos (starEach es X.env)).any (·.1)=false:=by rfl):
    PE X (.Call (.Attribute o name apos) (e::es) [] cpos) (tBM X.K T r to t):=by
 intro pins s σ H Q I h;refine wpAny_Call_method_late hbase hfew hline rfl (thn (ho pins s σ H _ I h) fun v s1 ⟨x,H1,I1,r1,ty,q1⟩=>?_);obtain⟨h1,h2⟩:=acv I1 r1 ty;refine⟨T,id,pa,slot,hty,h1,h2,?_⟩;have hA:=ha cpos pins s1 σ H1 _ I1 q1;rw[hs]at hA ⊢;refine Calls.callWith_builtin (by show(false||(backTo cpos (starEach es X.env)).any (·.1))=false;rw[hplain] <;> rfl) (Calls.evalArgs_plain ?_);exact thn hA fun us s2 ⟨vs,H2,I2,r2,q2⟩=>hm pins s2 σ H2 x vs v us Q I2 r1 r2 q2
end
def MtM(X:Cx)(id:String)(r:V->List V->Hp->VK->Prop):Prop:=
 ∀(pins:List (Addr × Obj)) (s:aj) (σ:St) (H:Hp) (x:V) (xs:List V) (v:Value) (us:List Value) (Q:VK),Inv X pins σ H s->RelV x v->Vals xs us->r x xs H Q->
  wpAny (model X.prog X.w) X.A (call (.builtin id) (v::us)) (EP X pins σ Q) X.xe s
def Vals.one:∀ {x:V} {us:List Value},Vals [x] us->∃ u,us= [u]/\RelV x u
 | _,_,.cons r .nil=>⟨_,rfl,r⟩
def Vals.two:∀ {x y:V} {us:List Value},Vals [x,y] us->∃ u v,us= [u,v]/\RelV x u/\RelV y v
 | _,_,_,.cons r (.cons q .nil)=>⟨_,_,rfl,r,q⟩
def Vals.rep{xs:List V}{us:List Value}(h:Vals xs us):∀ k:Nat,Vals (List.replicate k xs).flatten (List.replicate k us).flatten
 | 0=>.nil
 | k+1=>by
   rw[List.replicate_succ,List.replicate_succ,List.flatten_cons,List.flatten_cons];exact Vals.append h (Vals.rep h k)
def foldl_rep(its:List Value):∀(k:Nat) (acc:List Value),
    List.foldl (fun x1 x2=>x1++x2) acc.toArray (List.replicate k its.toArray)=(acc++(List.replicate k its).flatten).toArray
 | 0,acc=>by simp
 | k+1,acc=>by
   have e:acc.toArray++its.toArray=(acc++its).toArray:=by simp
   have e2:(acc++its)++(List.replicate k its).flatten=acc++(List.replicate (k+1) its).flatten:=by
    rw[List.replicate_succ,List.flatten_cons,List.append_assoc]
   rw[<- e2,<- foldl_rep its k (acc++its),<- e,List.replicate_succ,List.foldl_cons]
section
variable{X:Cx}{pins:List (Addr × Obj)}{σ:St}{H:Hp}{s:aj}{l b:Addr}{xs ys zs:List V}
def Inv.acw{its its':List Value}{n:Nat}{f:Array Value->Array Value}{t':Nat}(I:Inv X pins σ H s)(hH:H l=some (.lst xs))
    (e:s.heap.get? l=some { cls:=.type "list",data:=.seq its.toArray n }) (hf:f its.toArray=its'.toArray) (hv:Vals ys its') (hz:ys.length<=sizeLine):
    Inv X pins σ (upd H l (.lst ys)) { s with heap:=s.heap.update l (Obj.mapSeq f),toks:=t' }:=by
 have q:=PySem.IsL.update e f;rw[hf]at q;refine I.write (x:=l) (e:=l) (by rw[hH];exact trivial) (.inl rfl) (fun b' u hb hu=>(Heap.get?_update_other s.heap (Obj.mapSeq f) (Ne.symm hb)).trans hu) ⟨_,q⟩ ?_;exact⟨hz,its',_,hv,q⟩
def Inv.Yw{its:List Value}{t':Nat}(I:Inv X pins σ H s)(hv:Vals ys its)(hz:ys.length<=sizeLine):
    Inv X pins σ (upd H s.heap.objs.size (.lst ys)) { s with heap:=s.heap.push { cls:=.type "list",data:=.seq its.toArray },toks:=t' }:=
 I.laid (fun _ _ q=>dJ _ q) (aG _) ⟨hz,its,0,hv,jT _ rfl⟩
def Inv.fresh(I:Inv X pins σ H s):H s.heap.objs.size=none:=I.hok.fresh (aG _)
def Inv.N7(I:Inv X pins σ H s)(hH:H l=some (.lst xs)):xs.length<=sizeLine/\∃(its:List Value) (n:Nat),Vals xs its/\xs.length=its.length/\s.heap.get? l=some { cls:=.type "list",data:=.seq its.toArray n }:=by
 obtain⟨z,its,n,r,e⟩:=I.hok l _ hH;exact⟨z,its,n,r,r.length,e⟩
def Yx{n:Nat}(h:n<=sizeLine):Builtin.List.listTooLong n=false:=by
 unfold Builtin.List.listTooLong;exact bM (by omega)
end
section
variable{X:Cx}
def Ro:V->List V->Hp->VK->Prop:=fun x vs H Q=>∃ l xs y,x= .ref l/\vs= [y]/\H l=some (.lst xs)/\xs.length<sizeLine/\Q .non (upd H l (.lst (xs ++ [y])))
def q_:MtM X "list.append" Ro:=by
 intro pins s σ H x vs v us Q I rx rv h;obtain⟨l,xs,y,rfl,rfl,hH,hz,q⟩:=h;cases rx;obtain⟨u,rfl,ru⟩:=rv.one;obtain⟨z,its,n,r,hl,e⟩:=I.N7 hH;refine call_meets F.slot_list_append ⟨_,e,rfl⟩ F.entry_list_append (F.args_list_append_2 _ _) (PySem.list_append l its.toArray n u (by rw[gj];omega)) ⟨e,?_⟩;refine⟨.non,_,I.acw (its':=its ++ [u]) hH e (by simp) (r.append (.cons ru .nil)) ?_,rfl,q⟩;rw[ji,List.length_singleton];omega
def acy:R2:=fun x y H Q=>∃ l b xs zs,x= .ref l/\y= .ref b/\H l=some (.lst xs)/\H b=some (.lst zs)/\xs.length+zs.length<=sizeLine/\∀ p,H p=none->Q (.ref p) (upd H p (.lst (xs++zs)))
def g_:OpR X (binaryOp .Add) acy:=by
 intro pins s σ H x y v u Q I rx ry h;obtain⟨l,b,xs,zs,rfl,rfl,hH,hB,hz,q⟩:=h;cases rx;cases ry;obtain⟨z,its,n,r,hl,e⟩:=I.N7 hH;obtain⟨z2,its2,n2,r2,hl2,e2⟩:=I.N7 hB;refine PySem.P.add_list e e2 ?_ (by rw[gj,gj];omega);have ea:its.toArray++its2.toArray=(its++its2).toArray:=by simp
 rw[ea];exact⟨.ref _,_,I.Yw (t':=s.toks) (r.append r2) (by rw[ji];omega),rfl,q _ I.fresh⟩
def acz:R2:=fun x y H Q=>∃ l k xs,x= .ref l/\y= .int k/\H l=some (.lst xs)/\-(2 ^ 63)<=k/\k<2 ^ 63/\xs.length*k.toNat<=sizeLine/\
 ∀ p,H p=none->Q (.ref p) (upd H p (.lst (List.replicate k.toNat xs).flatten))
def len_rep{α:Type}(xs:List α)(k:Nat):(List.replicate k xs).flatten.length=k*xs.length:=by
 induction k with
 | zero=>simp
 | succ k ih=>rw[List.replicate_succ,List.flatten_cons,ji,ih,Nat.succ_mul,Nat.add_comm]
def iM:OpR X (binaryOp .Mult) acz:=by
 intro pins s σ H x y v u Q I rx ry h;obtain⟨l,k,xs,rfl,rfl,hH,h1,h2,hz,q⟩:=h;cases rx;obtain⟨t,rfl⟩:=ry;obtain⟨z,its,n,r,hl,e⟩:=I.N7 hH;have hlen:its.toArray.size*k.toNat<=sizeLine:=by rw[gj,<- hl];exact hz
 have hcap:¬ its.toArray.size*k.toNat > (2 ^ 63 - 1) / 8:=by
  have:(sizeLine:Nat)<=(2 ^ 63 - 1) / 8:=by decide
  omega
 have hfit:¬ (!Builtin.List.listFitsIndex k)=true:=by
  rw[fitsIndex_both h1 h2];exact gF
 have aep:¬ Builtin.List.listTooLong (its.toArray.size*k.toNat)=true:=by
  rw[Yx hlen];exact gF
 have hnew:List.foldl (fun x1 x2=>x1++x2) #[] (List.replicate (if its.toArray.isEmpty=true then 0 else k.toNat) its.toArray)=(List.replicate k.toNat its).flatten.toArray:=by
  have f0:∀ m:Nat,List.foldl (fun x1 x2=>x1++x2) #[] (List.replicate m its.toArray)=(List.replicate m its).flatten.toArray:=fun m=>by
   have:=foldl_rep its m [];rw[List.nil_append]at this;exact this
  rw[f0]
  cases its with
  | nil=>simp
  | cons a r'=>rw[aA (by simp)]
 refine wpAny_binaryOp_repeat_ref (T:="list") (U:="int") (by decide) ⟨_,e,rfl⟩ (fun s'=>typeIs_int s' k t) noFill_list_mul F.fills_int_mul F.slot_int_rmul repeat_list F.slot_int_index.lookup
  (call_meets F.slot_int_rmul (typeIs_int s k t) F.entry_int_rmul (F.args_int_rmul_2 _ _) (int___rmul___int_list k t l its.toArray n)
    ⟨e,rfl,⟨_,e,rfl⟩,call_meets F.slot_list_mul ⟨_,e,rfl⟩ F.entry_list_mul (F.args_list_mul_2 _ _) (AutoListH.list___mul___list_int_3 l its.toArray n k t hfit hcap aep) ⟨e,?_⟩⟩)
 rw[hnew];exact⟨.ref _,_,I.Yw (t':=s.toks) (r.rep k.toNat) (by rw[len_rep,Nat.mul_comm];exact hz),rfl,q _ I.fresh⟩
end
section
variable{prog:Program}{w:World}{A:Around}{E:Value->aj->Prop}{s:aj}
set_option maxRecDepth 100000 in
end
end L2
namespace Att
open PySem PySem.W PySem.Calls PyProof.Rows
def Gu{P:Params}{h:Heap}:∀(ns:List Int) (vs:List Value),WellAll P h vs (ns.map WData.int)->IntsAre vs ns:=by
 intro ns
 induction ns with
 | nil=>
   intro vs w;rw[List.map_nil]at w;cases w
   exact .nil
 | cons n ns ih=>
   intro vs w;rw[List.map_cons]at w
   cases w with
   | cons a b=>
     cases a;exact .cons _ _ (ih _ b)
def V4{l:OpenLaw}{n:Nat}(hn:l.most=some n){P:Params}{h:Heap}{args:List WData}{vals:List Value}
    (hpre:l.row.toRowW.claim.pre args=true) (hwl:WellAll P h vals args):
    ∃ a vs ns,vals= [Value.ref a]/\args= [WData.list (ns.map WData.int)]/\h.get? a=some { cls:=.type "list",data:=.seq vs.toArray }/\IntsAre vs ns/\ns.length<=n:=by
 have hsh:WShape.hasAll [] args [.list .int] =true:=(pre_splitW hpre).1;have hc:l.pre.holds [] { args:=args } =true:=(pre_splitW hpre).2;obtain⟨d,r,rfl,h1,h2⟩:=hasAllW_cons hsh;obtain rfl:=hasAllW_nil h2;obtain⟨xs,rfl,h3⟩:=hasW_list h1;obtain⟨ns,rfl⟩:=items_int h3
 have hlen:ns.length<=n:=by
  unfold OpenLaw.pre at hc
  have h4:(WTm.not (.lt (.lit (.int (n:Int))) (.len (.arg 0)))).holds [] { args:=[.list (ns.map .int)] } =true:=by
   have h4:=(holds_andW hc).1;rw[hn]at h4;exact h4
  have h5:=condW_of h4 (w_not (w_lt w_lit (w_len_list (w_arg rfl))));rw[bK]at h5;refine Nat.le_of_not_lt fun q=>?_;have q':(n:Int)<((ns.length:Nat):Int):=by omega
  first
   | (rw[bH q']at h5;exact aK h5 (by decide))
   | (simp at h5;omega)
 cases hwl with
 | cons w1 w2=>
   cases w2
   cases w1 with
   | list ho hall=>exact⟨_,_,ns,rfl,rfl,ho,Gu ns _ hall,hlen⟩
def V5(l:OpenLaw)(args:List WData):l.row.toRowW.claim.post args (.bool true) args=true:=
 postW_of (r:=l.row.toRowW) (X:=(true==true))
  (show WShape.has [] (.bool true) .bool=true by first | rfl | decide | simp[WShape.has,WShape.arms,WShape.armsAll])
  (show(WTm.eq .res (.lit (.bool true))).value [] { args:=args,res:=some (.bool true),after:=args } =some (.bool (true==true)) from w_eq_bool (w_res rfl) w_lit) rfl
def QX{l:OpenLaw}{n:Nat}{q:Program}{loose:List Str}{XP:(Str->Option Value)->Heap->Prop}{YP:World->Heap->Prop}{d:DefRec}
    (hn:l.most=some n) (hdf:d.params.defaults= [])
    (call:∀(w:World) (s₀ s₁:aj) (mg mb:Str->Option Value) (fa:Addr) (o:Obj) (pm cd doc:Value) (a:Addr) (vs:List Value) (ns:List Int),
      Ground q loose [] XP w s₀ mg mb s₁.heap->YP w s₁.heap->
      s₁.heap.get? fa=some o->o.data= .func (docDef d.name d.params d.body d.scope pm cd doc)->s₁.heap.CodeRec cd d.name->mg d.name=some (.ref fa)->
      s₁.heap.get? a=some { cls:=.type "list",data:=.seq vs.toArray }->IntsAre vs ns->ns.length<=n->s₁.gens= #[]->
      codeAny (model l.prog w) callerA (.call (.ref fa) ⟨[.ref a],[]⟩) (fun r s'=>r= .ok (.ret (.bool true))/\OldK s₁.heap s'.heap/\s'.os=s₁.os/\AllBare s'.gens) s₁):
    WalkO q loose XP YP l.row.toRowW d [] (fun f vs=>PySem.call f vs):=by
 intro w s₀ s₁ mg mb G Y fa o pm cd doc dV kV ho hd hcd hD hmg hg args vals as hpre hlay hrd hwl hlo;obtain rfl:dV= .none:=Dflts.none hD hdf;obtain rfl:kV= .none:=Dflts.noKw hD;obtain⟨a,vs,ns,rfl,rfl,hobj,hints,hlen⟩:=V4 hn hpre hwl;refine enter_call (codeAny_mono (call w s₀ s₁ mg mb fa o pm cd doc a vs ns G Y ho (fd_plain hd) hcd hmg hobj hints hlen hg) fun r s' hq=>?_);obtain⟨rfl,h2,h3,h4⟩:=hq;exact⟨.inl ⟨.bool true,.bool true,[],rfl,fun _=>rfl,.bool true,V5 l _,fun _=>⟨List.Pairwise.nil,fun _ hm=>(nomatch hm)⟩⟩,h2,h3,h4⟩
end Att
namespace L2
open PySem PySem.Spec PyProof.Rows
def Ku:∀ {vs:List Value} {ns:List Int},IntsAre vs ns->Vals (ns.map V.int) vs
 | _,_,.nil=>.nil
 | _,_,.cons n t h=>.cons ⟨t,rfl⟩ (Ku h)
def inClass(s:Stmt)(j:Nat):Stmt:=match s with
 | .ClassDef _ _ _ body _ _ _ _ _ _ _=>body.getD j (.Pass ⟨0,0,0,0⟩)
 | _=>.Pass ⟨0,0,0,0⟩
def jG(s:Stmt):Arguments:=match s with
 | .FunctionDef _ a _ _ _ _ _ _ _ _=>a
 | _=>{ posonlyargs:=[],args:=[],vararg:=none,kwonlyargs:=[],kw_defaults:=[],kwarg:=none,defaults:=[] }
def cG(s:Stmt):List Stmt:=match s with
 | .FunctionDef _ _ b _ _ _ _ _ _ _=>b
 | _=>[]
def ak(s:Stmt):Scope:=match s with
 | .FunctionDef _ _ _ _ _ _ sc _ _ _=>sc
 | _=>{ kind:=.function,names:=[],isGenerator:=false,isCoroutine:=false }
abbrev CX0:CXT:=fun _ _ _ _ _ _=>False
abbrev E0:XK:=fun _ _ _=>False
def tQ{X:Cx}:Passes CX0 X E0:=fun _ _ _ _ _ _ _ h=>h.elim
structure Fun (K:ao)(x qual:Str)(st:Stmt)(f:Addr)(fd:aR):Prop where
 ex:∃(oc:Value) (od:Option Addr) (kV doc pm:Value) (an:Option Addr) (cdv ct:Value) (osl:Array (Option Value)),
  fd=PySem.W.fnOf x qual (jG st) (cG st) (ak st) .none kV doc pm an cdv ct/\K.lookup f=some ⟨oc,od,.func fd,osl⟩/\PySem.W.codeIn K cdv qual=true
 kp:PySem.W.keepIn K (.ref f)=true
section
variable{P:Program}{w:World}{K:ao}{mg:Str->Option Value}{base:Heap}
def Fun.ok{x qual:Str}{st:Stmt}{f:Addr}{fd:aR}{N ps:List Str}{k:Nat}{sp:Sp}(F:Fun K x qual st f fd)(S:aQ N ps (ak st))(len:∀ vs H Q E,sp vs H Q E->vs.length=ps.length)
    (hbody:∀(cdv:Value) (A:Around) (outer:List Env) (s:aj) (H:Hp) (vs:List V) (Q:VK) (E:XK),bZ k (A.deeper (envOfC qual (ak st) s.heap.objs.size f cdv))->sp vs H Q E->
      ∃ t,PSs (ie CX0 P w K mg base N qual (ak st) f cdv A outer s H E).nox (cG st) t/\t { nx:=fun _ H'=>Q .non H',rt:=Q } (start N vs) H):bU P w K mg base CX0 (k+1) f fd ps sp:=by
 obtain⟨oc,od,kV,doc,pm,an,cdv,ct,osl,rfl,lk,hcd⟩:=F.ex;refine Tz lk hcd S len fun A outer s H vs Q E hr hsp=>?_;obtain⟨t,h,q⟩:=hbody cdv A outer s H vs Q E hr hsp;exact⟨t,h.nox,q⟩
def Fun.binds{x qual:Str}{st:Stmt}{f:Addr}{fd:aR}{ps:List Str}(F:Fun K x qual st f fd)
    (h:∀(kV doc pm:Value) (an:Option Addr) (cdv ct:Value) (us:List Value),us.length=ps.length->bindArgs (PySem.W.fnOf x qual (jG st) (cG st) (ak st) .none kV doc pm an cdv ct) ⟨us,[]⟩ =pure (ps.zip us)):Binds K fd ps []:=by
 obtain⟨oc,od,kV,doc,pm,an,cdv,ct,osl,rfl,lk,hcd⟩:=F.ex;exact .all (h kV doc pm an cdv ct)
def Gv{x qual:Str}{st:Stmt}{f:Addr}{oc:Value}{od an:Option Addr}{osl:Array (Option Value)}{kV doc pm cdv ct:Value}(l:K.lookup f=some ⟨oc,od,.func (PySem.W.fnOf x qual (jG st) (cG st) (ak st) .none kV doc pm an cdv ct),osl⟩)
    (c:PySem.W.codeIn K cdv qual=true) (k:PySem.W.keepIn K (.ref f)=true):Fun K x qual st f (PySem.W.fnOf x qual (jG st) (cG st) (ak st) .none kV doc pm an cdv ct):=⟨⟨oc,od,kV,doc,pm,an,cdv,ct,osl,rfl,l,c⟩,k⟩
end
def V6{n:Nat}(h:n<=1000):n<sizeLine:=Nat.lt_of_le_of_lt h (by decide)
section
variable{X:Cx}
def pv(i:Nat){x:Str}{pos:Pos}(hN:X.N[i]? =some x:=by rfl)(hv:Vis X.env.scope x:=by first | exact Or.inl rfl | exact Or.inr (Or.inl rfl) | exact Or.inr (Or.inr rfl))(hd:(x==("__debug__":Str))=false:=by decide)
    (hcd:(x==("__classdict__":Str))=false:=by decide):PE X (.Name x pos) (abX i):=Gm hN hv hd hcd
end
def zj{A B:Prop}(h:B):if false=true then A else B:=by
 rw[aA gF];exact h
def zm{A B:Prop}(h:A):if true=true then A else B:=by
 rw[aB rfl];exact h
def TX{c A B:Prop}[Decidable c](h1:c->A)(h2:¬ c->B):if c then A else B:=by
 by_cases h:c
 · rw[aB h];exact h1 h
 · rw[aA h];exact h2 h
def gn(H H':Hp):Prop:=∀ b o,H b=some o->H' b=some o
def gn.trans{H H1 H2:Hp}(a:gn H H1)(b:gn H1 H2):gn H H2:=fun c o h=>b c o (a c o h)
end L2
set_option maxRecDepth 1000000
set_option maxHeartbeats 4000000
namespace L2
open PySem PySem.Spec PyProof.Rows
section
variable{κ:Type}[DecidableEq κ]
def rM(kvs:List (κ × V))(k:κ):Option V:=(kvs.find? fun kv=>decide (kv.1=k)).map (·.2)
def putK(kvs:List (κ × V))(k:κ)(v:V):List (κ × V):=
 if(kvs.any fun kv=>decide (kv.1=k))=true then kvs.map (fun kv=>if kv.1=k then(kv.1,v) else kv) else kvs ++ [(k,v)]
def zp{p:κ × V}{r:List (κ × V)}{k:κ}(e:p.1=k):rM (p::r) k=some p.2:=by simp[rM,List.find?_cons,e]
def zq{p:κ × V}{r:List (κ × V)}{k:κ}(e:¬ p.1=k):rM (p::r) k=rM r k:=by simp[rM,List.find?_cons,e]
def Fe(k:κ):∀ kvs:List (κ × V),(kvs.any fun kv=>decide (kv.1=k))=(rM kvs k).isSome
 | []=>rfl
 | p::r=>by
   rw[List.any_cons]
   by_cases e:p.1=k
   · simp only[zp e,bH e,Bool.true_or,Option.isSome_some]
   · rw[zq e,bM e,Bool.false_or];exact Fe k r
def xW(kvs:List (κ × V))(k:κ)(v:V):(putK kvs k v).length<=kvs.length+1:=by
 unfold putK
 split
 · rw[bK];omega
 · rw[ji,gG,List.length_nil];omega
def oN.BK{o:Option V}{u:Option Value}(r:oN o u):o.isSome=u.isSome:=by
 cases o with
 | none=>cases u with
   | none=>rfl
   | some _=>exact(show False from r).elim
 | some _=>cases u with
   | none=>exact(show False from r).elim
   | some _=>rfl
def KV.val{kvs:List (κ × V)}{vs:List (κ × Value)}(r:KV kvs vs)(k:κ):oN (rM kvs k) (valueAt vs k):=by
 unfold KV at r
 induction r with
 | nil=>exact True.intro
 | @cons p q ps qs h t ih=>
   obtain⟨h1,h2⟩:=h
   by_cases e:p.1=k
   · have e':q.1=k:=h1.symm.trans e;have b:valueAt (q::qs) k=some q.2:=by simp[valueAt,List.find?_cons,e']
     rw[zp e,b];exact h2
   · have e':¬ q.1=k:=fun z=>e (h1.trans z);have b:valueAt (q::qs) k=valueAt qs k:=by simp[valueAt,List.find?_cons,e']
     rw[zq e,b];exact ih
def KV.any{kvs:List (κ × V)}{vs:List (κ × Value)}(r:KV kvs vs)(k:κ):(kvs.any fun kv=>decide (kv.1=k))=vs.any fun kv=>decide (kv.1=k):=by
 unfold KV at r
 induction r with
 | nil=>rfl
 | cons h t ih=>rw[List.any_cons,List.any_cons,ih,h.1]
def KV.repl{kvs:List (κ × V)}{vs:List (κ × Value)}(r:KV kvs vs)(k:κ){y:V}{u:Value}(ry:RelV y u):
    KV (kvs.map fun kv=>if kv.1=k then(kv.1,y) else kv) (vs.map fun kv=>if kv.1=k then(kv.1,u) else kv):=by
 unfold KV at r ⊢
 induction r with
 | nil=>exact .nil
 | @cons p q ps qs h t ih=>
   rw[List.map_cons,List.map_cons];refine .cons ?_ ih;obtain⟨h1,h2⟩:=h
   by_cases e:p.1=k
   · rw[aB e,aB (h1.symm.trans e)];exact⟨h1,ry⟩
   · rw[aA e,aA (fun z=>e (h1.trans z))];exact⟨h1,h2⟩
def KV.put{kvs:List (κ × V)}{vs:List (κ × Value)}(r:KV kvs vs)(k:κ){y:V}{u:Value}(ry:RelV y u):KV (putK kvs k y) (stored vs k u):=by
 unfold putK stored;rw[r.any k]
 by_cases e:(vs.any fun kv=>decide (kv.1=k))=true
 · rw[aB e,aB e];exact r.repl k ry
 · rw[aA e,aA e];exact Paired.snoc r ⟨rfl,ry⟩
def KV.length{kvs:List (κ × V)}{vs:List (κ × Value)}(r:KV kvs vs):kvs.length=vs.length:=Paired.length r
end
def Gw{P:Program}{w:World}{k:Key}{u:Value}(r:RelV (kV k) u):(gM P w).is k u=true:=by
 cases k with
 | inl i=>obtain⟨t,e⟩:=(show ∃ t,u=Value.int i t from r);subst e;exact QV P w i t
 | inr x=>obtain⟨t,e⟩:=(show ∃ t,u=Value.str x t from r);subst e;exact QW P w x t
def Kv{P:Program}{w:World}:∀ {ks:List Key} {us:List Value},Vals (ks.map kV) us->ItemsAre (gM P w) ks us
 | [],_,r=>by rw[List.map_nil]at r;cases r;exact .nil
 | k::ks,_,r=>by
   rw[List.map_cons]at r
   cases r with
   | cons h t=>exact .cons (Gw h) (Kv t)
abbrev KT(H:Hp):List (List Key × V)->List (List Key × Addr × Value)->Prop:=Paired fun p q=>p.1=q.1/\H q.2.1=some (.tup (p.1.map kV))/\RelV p.2 q.2.2
def KT.val{H:Hp}{kvs:List (List Key × V)}{xs:List (List Key × Addr × Value)}(r:KT H kvs xs)(k:List Key):oN (rM kvs k) ((atKey xs k).map (·.2)):=by
 induction r with
 | nil=>exact True.intro
 | @cons p q ps qs h t ih=>
   obtain⟨h1,_,h2⟩:=h
   by_cases e:p.1=k
   · have e':q.1=k:=h1.symm.trans e;have b:atKey (q::qs) k=some q.2:=by simp[atKey,List.find?_cons,e']
     rw[zp e,b];exact h2
   · have e':¬ q.1=k:=fun z=>e (h1.trans z);have b:atKey (q::qs) k=atKey qs k:=by simp[atKey,List.find?_cons,e']
     rw[zq e,b];exact ih
def KT.repl{H:Hp}{kvs:List (List Key × V)}{xs:List (List Key × Addr × Value)}(r:KT H kvs xs)(k:List Key){y:V}{u:Value}(ry:RelV y u):
    KT H (kvs.map fun kv=>if kv.1=k then(kv.1,y) else kv) (xs.map (putAt k u)):=by
 induction r with
 | nil=>exact .nil
 | @cons p q ps qs h t ih=>
   rw[List.map_cons,List.map_cons];refine .cons ?_ ih;obtain⟨h1,h2,h3⟩:=h;unfold putAt
   by_cases e:p.1=k
   · rw[aB e,aB (h1.symm.trans e)];exact⟨h1,h2,ry⟩
   · rw[aA e,aA (fun z=>e (h1.trans z))];exact⟨h1,h2,h3⟩
def KT.put{H:Hp}{kvs:List (List Key × V)}{xs:List (List Key × Addr × Value)}(r:KT H kvs xs)(k:List Key){b:Addr}{y:V}{u:Value}(hb:H b=some (.tup (k.map kV)))(ry:RelV y u):
    KT H (putK kvs k y) (storedH xs k b u):=by
 have e:(kvs.any fun kv=>decide (kv.1=k))=(atKey xs k).isSome:=by
  rw[Fe,(r.val k).BK,Option.isSome_map]
 unfold putK storedH;rw[e]
 by_cases q:(atKey xs k).isSome=true
 · rw[aB q,aB q];exact r.repl k ry
 · rw[aA q,aA q];exact Paired.snoc r ⟨rfl,hb,ry⟩
def KT.keeps{H H':Hp}{kvs:List (List Key × V)}{xs:List (List Key × Addr × Value)}(r:KT H kvs xs)(ht:∀ b ys,H b=some (.tup ys)->H' b=some (.tup ys)):KT H' kvs xs:=
 Paired.pZ r fun _ _ z=>⟨z.1,ht _ _ z.2.1,z.2.2⟩
section
variable{P:Program}{w:World}{H:Hp}{h:Heap}{a:Addr}
def Z3{u:HO}(ok:HOk P w H h)(e:Rd H a u):dg P w H h a u:=e.ok ok
def MT{kvs:List (Key × V)}(ok:HOk P w H h)(e:Rd H a (.dK kvs)):kvs.length<=sizeLine/\(a==sysModules)=false/\∃ vs,KV kvs vs/\h.DictOf (gM P w) a vs:=
 show dg P w H h a (.dK kvs) from Z3 ok e
def Z4{kvs:List (Key × V)}(ok:HOk P w H h)(e:H a=some (.dK kvs)):kvs.length<=sizeLine/\(a==sysModules)=false/\∃ vs,KV kvs vs/\h.DictOf (gM P w) a vs:=MT ok (.inl e)
def Gx{ks:List Key}(ok:HOk P w H h)(e:H a=some (.tup (ks.map kV))):(tupleKind (gM P w)).is h ks a:=by
 obtain⟨_,its,r,o,h1,h2,n,h3⟩:=(show dg P w H h a (.tup (ks.map kV)) from ok a _ e);exact⟨o,its.toArray,n,h1,h2,h3,by simpa using Kv r⟩
def M3{kvs:List (List Key × V)}(ok:HOk P w H h)(e:Rd H a (.dT kvs)):kvs.length<=sizeLine/\(a==sysModules)=false/\
    ∃ xs,KT H kvs xs/\h.DictOfH (tupleKind (gM P w)) a xs:=by
 obtain⟨z,y,xs,r,o,es,ep,h1,h2,h3,h4,h5⟩:=(show dg P w H h a (.dT kvs) from Z3 ok e);refine⟨z,y,xs,r,o,es,ep,h1,h2,h3,h4,fun x hx=>?_,h5⟩
 have all:∀ {l:List (List Key × V)} {m:List (List Key × Addr × Value)},KT H l m->∀ x ∈ m,(tupleKind (gM P w)).is h x.1 x.2.1:=by
  intro l m q
  induction q with
  | nil=>intro x hx;exact nomatch hx
  | @cons p q ps qs hq t ih=>
    intro x hx
    rcases List.mem_cons.mp hx with e | hx
    · subst e;exact Gx ok (by rw[<- hq.1];exact hq.2.1)
    · exact ih x hx
 exact all r x hx
def aeq{kvs:List (List Key × V)}(ok:HOk P w H h)(e:H a=some (.dT kvs)):kvs.length<=sizeLine/\(a==sysModules)=false/\
    ∃ xs,KT H kvs xs/\h.DictOfH (tupleKind (gM P w)) a xs:=M3 ok (.inl e)
end
def zu(H:Hp)(a:Addr)(y:V)(r:Option V):Prop:=
 (∃ kvs k,Rd H a (.dK kvs)/\y=kV k/\r=rM kvs k)\/∃ kvs k b,Rd H a (.dT kvs)/\y= .ref b/\H b=some (.tup (k.map kV))/\r=rM kvs k
def N8(H:Hp)(a:Addr)(y v:V)(H':Hp):Prop:=
 (∃ kvs k,H a=some (.dK kvs)/\y=kV k/\kvs.length<sizeLine/\H'=upd H a (.dK (putK kvs k v)))\/
 ∃ kvs k b,H a=some (.dT kvs)/\y= .ref b/\H b=some (.tup (k.map kV))/\kvs.length<sizeLine/\H'=upd H a (.dT (putK kvs k v))
def zu.k{H:Hp}{a:Addr}{kvs:List (Key × V)}{k:Key}(e:H a=some (.dK kvs)):zu H a (kV k) (rM kvs k):=.inl ⟨kvs,k,.inl e,rfl,rfl⟩
def N8.k{H:Hp}{a:Addr}{kvs:List (Key × V)}{k:Key}{v:V}(e:H a=some (.dK kvs))(hl:kvs.length<sizeLine):N8 H a (kV k) v (upd H a (.dK (putK kvs k v))):=.inl ⟨kvs,k,e,rfl,hl,rfl⟩
section
variable{X:Cx}{pins:List (Addr × Obj)}{σ:St}{H:Hp}{s:aj}{a:Addr}{y v:V}{u r:Value}{o:Option V}{A:Around}{E:Value->aj->Prop}
def Inv.big(I:Inv X pins σ H s):sysModules<s.heap.objs.size:=by
 have h:mainGlobals<s.heap.objs.size:=(I.mod.glob.keeps I.bk).lt;exact Nat.lt_trans (by decide) h
def V7{Q:Value->aj->Prop}(hu:A.units+1<cLine)(I:Inv X pins σ H s)(g:zu H a y (some v))(ry:RelV y u)(h:∀ w' s',Inv X pins σ H s'->RelV v w'->Q w' s'):
    wpAny (model X.prog X.w) A (getItem (.ref a) u) Q E s:=by
 rcases g with ⟨kvs,k,e,ey,l⟩ | ⟨kvs,k,b,e,ey,eb,l⟩
 · subst ey;obtain⟨z,hd,vs,rel,dd⟩:=MT I.hok e;obtain⟨w',hw,rw'⟩:=oN.some_of (v:=v) (o:=valueAt vs k) (by rw[l];exact rel.val k);exact wpAny_getItem_of (Gw ry) dd.mapOf hw (h w' _ (I.tok _) rw')
 · subst ey;cases (show u=Value.ref b from ry);obtain⟨z,hd,xs,rel,dd⟩:=M3 I.hok e;obtain⟨w',hw,rw'⟩:=oN.some_of (v:=v) (o:=(atKey xs k).map (·.2)) (by rw[l];exact rel.val k);obtain⟨p,hp,hp2⟩:=Option.map_eq_some_iff.mp hw;refine wpAny_getItem_heap (tupleKind_room_in1 hu) (Gx I.hok eb) dd hp ?_;rw[hp2];exact h w' _ (I.tok _) rw'
def afx{Q:Value->aj->Prop}(hu:A.units+1<cLine)(I:Inv X pins σ H s)(g:zu H a y o)(ry:RelV y u)(h:∀ s',Inv X pins σ H s'->Q (.bool o.isSome) s'):
    wpAny (model X.prog X.w) A (compareOp .In u (.ref a)) Q E s:=by
 rcases g with ⟨kvs,k,e,ey,l⟩ | ⟨kvs,k,b,e,ey,eb,l⟩
 · subst ey;obtain⟨z,hd,vs,rel,dd⟩:=MT I.hok e;refine wpAny_in_of (Gw ry) hd dd.mapOf ?_;rw[<- (rel.val k).BK,<- l];exact h _ (I.tok _)
 · subst ey;cases (show u=Value.ref b from ry);obtain⟨z,hd,xs,rel,dd⟩:=M3 I.hok e;refine wpAny_in_heap (tupleKind_room_in1 hu) (Gx I.hok eb) hd dd ?_;have q:=(rel.val k).BK;rw[Option.isSome_map]at q;rw[<- q,<- l];exact h _ (I.tok _)
def Iz{h':Heap}{t':Nat}{ob:HO}(I:Inv X pins σ H s)(mu:Mut (H a))(hs:Heap.SameBut a s.heap h')(he:∃ q,h'.get? a=some q)(new:dg X.prog X.w (upd H a ob) h' a ob):
    Inv X pins σ (upd H a ob) { s with heap:=h',toks:=t' }:=
 I.write (x:=a) (e:=a) mu (.inl rfl) (fun b q hb z=>(hs.2 b hb).trans z) he new
def V8{P:Program}{w:World}{H':Hp}{h':Heap}{kvs:List (Key × V)}{vs:List (Key × Value)}(z:kvs.length<=sizeLine)(hd:(a==sysModules)=false)(rel:KV kvs vs)(dd:h'.DictOf (gM P w) a vs):
    dg P w H' h' a (.dK kvs):=⟨z,hd,vs,rel,dd⟩
def V9{H':Hp}{Q:Unit->aj->Prop}(hu:A.units+1<cLine)(I:Inv X pins σ H s)(g:N8 H a y v H')(ry:RelV y u)(rv:RelV v r)(h:∀ s',Inv X pins σ H' s'->Q () s'):
    wpAny (model X.prog X.w) A (setItem (.ref a) u r) Q E s:=by
 rcases g with ⟨kvs,k,e,ey,l,eH⟩ | ⟨kvs,k,b,e,ey,eb,l,eH⟩
 · subst ey eH;obtain⟨z,hd,vs,rel,dd⟩:=Z4 I.hok e;have hz:vs.length<=sizeLine:=by rw[<- rel.length];exact z
   have hl:(putK kvs k v).length<=sizeLine:=by have:=xW kvs k v;omega
   refine wpAny_setItem_pairs (hsz:=hz) (Gw ry) dd fun h' dd' hs=>h _ ?_;have he:∃ q,h'.get? a=some q:=let ⟨q,_,_,hq,_⟩:=dd';⟨q,hq⟩;exact Iz I (by rw[e];exact True.intro) hs he (V8 hl hd (rel.put k rv) dd')
 · subst ey eH;cases (show u=Value.ref b from ry);obtain⟨z,hd,xs,rel,dd⟩:=aeq I.hok e;have hz:xs.length<=sizeLine:=by rw[<- Paired.length rel];exact z
   have hl:(putK kvs k v).length<=sizeLine:=by have:=xW kvs k v;omega
   refine wpAny_setItem_heap (hsz:=hz) (tupleKind_room_in1 hu) (Gx I.hok eb) dd fun h' dd' hs=>h _ ?_;obtain⟨q,es,ep,hq,h2,h3,h4,_,h5⟩:=dd';refine Iz I (by rw[e];exact True.intro) hs ⟨q,hq⟩ ⟨hl,hd,_,(rel.put k eb rv).keeps fun c ys ec=>?_,q,es,ep,hq,h2,h3,h4,h5⟩;rw[aN (ZS ec e (fun z=>nomatch z))];exact ec
end
def QZ{X:Cx}{pins:List (Addr × Obj)}{σ:St}{H:Hp}{s:aj}{a:Addr}{y:V}{o:Option V}(I:Inv X pins σ H s)(g:zu H a y o):s.TypeIs (.ref a) "dict":=by
 rcases g with ⟨kvs,k,e,_,_⟩ | ⟨kvs,k,b,e,_,_,_⟩
 · obtain⟨_,_,vs,_,dd⟩:=MT I.hok e;exact dd.typeIs
 · obtain⟨_,_,xs,_,dd⟩:=M3 I.hok e;exact dd.typeIs
def Z5(td ty tv:TE):TS:=fun D σ H=>tv σ H fun v H1=>td σ H1 fun x H2=>ty σ H2 fun y H3=>∃ a H4,x= .ref a/\N8 H3 a y v H4/\D.nx σ H4
section
variable{X:Cx}{o i e value:Expr}{pos pos' tpos:Pos}{td ty tv:TE}
def aaR(hu:X.A.units+1<cLine)(ho:PE X o td)(hi:PE X i ty)(hv:PE X value tv)(hs:swapsWith value (some (.Subscript o i pos')) pos.line X.env=pure false):
    PS X (.Assign [.Subscript o i pos'] value pos) (Z5 td ty tv):=by
 intro pins s σ H D I h;refine wpAny_Assign_Subscript (thn (hv pins s σ H _ I h) fun r s1 ⟨v,H1,I1,rv,q1⟩=>thn (ho pins s1 σ H1 _ I1 q1) fun u s2 ⟨x,H2,I2,rx,q2⟩=>thn (hi pins s2 σ H2 _ I2 q2) fun iv s3 ⟨y,H3,I3,ry,a,H4,ex,g,q3⟩=>?_) hs;subst ex;obtain rfl:u=Value.ref a:=rx;exact V9 hu I3 g ry rv fun s4 I4=>⟨σ,H4,I4,q3⟩
end
def N_{P:Program}{w:World}{H:Hp}(h:Heap)(hb:sysModules<h.objs.size):dg P w H (h.push { cls:=.type "dict",data:=.dict #[] }) h.objs.size (.dK []):=
 ⟨Nat.zero_le _,beq_eq_false_iff_ne.mpr (Ne.symm (Nat.ne_of_lt hb)),[],.nil,Heap.DictOf.new h⟩
def acA:TE:=fun _ H Q=>∀ p,H p=none->Q (.ref p) (upd H p (.dK []))
section
variable{X:Cx}{pos:Pos}
def Yy:PE X (.Dict [] [] pos) acA:=fun pins s σ H Q I h=>
 wpAny_Dict_empty ⟨.ref s.heap.objs.size,_,I.laid (a:=s.heap.objs.size) (o:=.dK []) (t':=s.toks) (fun _ _ q=>dJ _ q) (aG _) (N_ s.heap I.big),rfl,h _ (I.hok.fresh (aG _))⟩
end
def Gy:List (TE × TE)->St->Hp->(List (V × V)->Hp->Prop)->Prop
 | [],_,H,Q=>Q [] H
 | (tk,tv)::r,σ,H,Q=>tk σ H fun x H1=>tv σ H1 fun y H2=>Gy r σ H2 fun ps H3=>Q ((x,y)::ps) H3
abbrev VV:List (V × V)->List (Value × Value)->Prop:=Paired fun p q=>RelV p.1 q.1/\RelV p.2 q.2
def PPs(X:Cx)(pos:Pos)(keys:List (Option Expr))(values:List Expr)(trs:List (TE × TE)):Prop:=
 ∀(pins:List (Addr × Obj)) (s:aj) (σ:St) (H:Hp) (Q:List (V × V)->Hp->Prop),Inv X pins σ H s->Gy trs σ H Q->
  wpAny (model X.prog X.w) X.A (evalPairs (pairTrees keys values X.env pos)) (fun vs s'=>∃ ps H',Inv X pins σ H' s'/\VV ps vs/\Q ps H') X.xe s
def aaS{X:Cx}{pos:Pos}:PPs X pos [] [] []:=fun pins s σ H Q I h=>pairTrees_nil_walk ⟨[],H,I,.nil,h⟩
def Oa{X:Cx}{pos:Pos}{k v:Expr}{ks:List (Option Expr)}{vs:List Expr}{tk tv:TE}{trs:List (TE × TE)}(hk:PE X k tk)(hv:PE X v tv)(hr:PPs X pos ks vs trs):
    PPs X pos (some k::ks) (v::vs) ((tk,tv)::trs):=fun pins s σ H Q I h=>
 pairTrees_cons_walk (thn (hk pins s σ H _ I h) fun u s1 ⟨x,H1,I1,rx,q1⟩=>thn (hv pins s1 σ H1 _ I1 q1) fun w2 s2 ⟨y,H2,I2,ry,q2⟩=>
  thn (hr pins s2 σ H2 _ I2 q2) fun ws s3 ⟨ps,H3,I3,rel,q3⟩=>⟨(x,y)::ps,H3,I3,.cons ⟨rx,ry⟩ rel,q3⟩)
def vL(kvs more:List (Key × V)):List (Key × V):=more.foldl (fun acc kv=>putK acc kv.1 kv.2) kvs
def KV.merge:∀ {more:List (Key × V)} {rs:List (Key × Value)} {kvs:List (Key × V)} {vs:List (Key × Value)},KV more rs->KV kvs vs->KV (vL kvs more) (merged vs rs):=by
 intro more rs kvs vs r;unfold KV at r
 induction r generalizing kvs vs with
 | nil=>intro q;exact q
 | @cons p q ps qs h t ih=>
   intro r0
   have e:KV (putK kvs p.1 p.2) (stored vs q.1 q.2):=by
    have:=r0.put p.1 h.2;rw[<- h.1];exact this
   exact ih e
def Ah:∀(more kvs:List (Key × V)),(vL kvs more).length<=kvs.length+more.length
 | [],kvs=>by show kvs.length<=kvs.length+0;omega
 | p::r,kvs=>by
   have h1:=Ah r (putK kvs p.1 p.2);have h2:=xW kvs p.1 p.2;show(vL (putK kvs p.1 p.2) r).length<=_;rw[gG];omega
def Gz{P:Program}{w:World}:∀ {kvs:List (Key × V)} {ws:List (Value × Value)},VV (kvs.map fun kv=>(kV kv.1,kv.2)) ws->∃ rs,Carries (gM P w) ws rs/\KV kvs rs
 | [],_,r=>by rw[List.map_nil]at r;cases r;exact⟨[],True.intro,.nil⟩
 | p::kvs,_,r=>by
   rw[List.map_cons]at r
   cases r with
   | @cons a b as bs h t=>
     obtain⟨rs,c,q⟩:=Gz (P:=P) (w:=w) t;obtain⟨b1,b2⟩:=b;exact⟨(p.1,b2)::rs,⟨Gw h.1,rfl,c⟩,.cons ⟨rfl,h.2⟩ q⟩
def Z6(trs:List (TE × TE)):TE:=fun σ H Q=>∀ p,H p=none->Gy trs σ (upd H p (.dK [])) fun ps H2=>H2 p=some (.dK [])/\∃ kvs:List (Key × V),ps=kvs.map (fun kv=>(kV kv.1,kv.2))/\kvs.length<=15/\Q (.ref p) (upd H2 p (.dK (vL [] kvs)))
def aaT{X:Cx}{pos:Pos}{keys:List (Option Expr)}{values:List Expr}{trs:List (TE × TE)}(h:PPs X pos keys values trs)(hall:keys.all (·.isSome)=true)(hl:keys.length=values.length)(h0:keys ≠ [])
    (h15:keys.length<=15):PE X (.Dict keys values pos) (Z6 trs):=by
 intro pins s σ H Q I q;have hn:=I.hok.fresh (aG s.heap.objs.size);have I1:=I.laid (a:=s.heap.objs.size) (o:=.dK []) (h':=s.heap.push { cls:=.type "dict",data:=.dict #[] }) (t':=s.toks) (fun _ _ q=>dJ _ q) (aG _) (N_ s.heap I.big);refine wpAny_Dict_walk (knd:=gM X.prog X.w) hall hl h0 h15 (thn (h pins _ σ _ _ I1 (q _ hn)) fun ws s2 ⟨ps,H2,I2,rel,e,kvs,ep,lk,q2⟩=>?_);subst ep;obtain⟨rs,c,rk⟩:=Gz (P:=X.prog) (w:=X.w) rel;obtain⟨z,hd,vs0,r0,dd⟩:=Z4 I2.hok e;cases r0;refine⟨rs,c,dd,fun h' dd' hs=>⟨.ref s.heap.objs.size,_,?_,rfl,q2⟩⟩
 have hz:(vL [] kvs).length<=sizeLine:=by
  have h1:=Ah kvs [];rw[List.length_nil]at h1;rw[sizeLine_eq];omega
 have he:∃ q,h'.get? s.heap.objs.size=some q:=let ⟨q,_,_,hq,_⟩:=dd';⟨q,hq⟩;exact Iz I2 (by rw[e];exact True.intro) hs he (V8 hz hd (rk.merge .nil) dd')
structure M1 (X:Cx)(o:Expr)(m:Str)(apos:Pos)(e:Expr)(cpos:Pos):Prop where
 base:attributeBase o m X.env (eval o X.env)=eval o X.env
 few:((backTo cpos (starEach [e] X.env)).all (fun x=> !x.1)&&(backToKw cpos (keywordEach [] X.env)).all (fun x=>x.1.isSome)
  && decide (([e]:List Expr).length+([]:List Keyword).length+(if([]:List Keyword).isEmpty then 0 else 1)<30))=true
 line:(apos.endLine==cpos.line)=true
 trees:backTo cpos (starEach [e] X.env)= [(false,eval e X.env)]
structure M2 (X:Cx)(o:Expr)(m:Str)(apos:Pos)(e f:Expr)(cpos:Pos):Prop where
 base:attributeBase o m X.env (eval o X.env)=eval o X.env
 few:((backTo cpos (starEach [e,f] X.env)).all (fun x=> !x.1)&&(backToKw cpos (keywordEach [] X.env)).all (fun x=>x.1.isSome)
  && decide (([e,f]:List Expr).length+([]:List Keyword).length+(if([]:List Keyword).isEmpty then 0 else 1)<30))=true
 line:(apos.endLine==cpos.line)=true
 trees:backTo cpos (starEach [e,f] X.env)= [(false,eval e X.env),(false,eval f X.env)]
end L2
namespace L2
open PySem PySem.Spec PySem.SeqAt PyProof.Rows
def log2_lt_of{n k:Nat}(hk:0<k)(h:n<2 ^ k):n.log2<k:=by
 rcases Nat.eq_zero_or_pos n with h0 | hp
 · rw[h0];exact hk
 · exact(Nat.log2_lt (Nat.ne_of_gt hp)).mpr h
def Sml(i:Int):Prop:=i.natAbs<2 ^ 4000
def Es{i:Int}(h:Sml i):Builtin.Int.intBits i<=2 ^ 20:=by
 have hl:i.natAbs.log2<4000:=log2_lt_of (by decide) h;have e:(2:Nat) ^ 20=1048576:=by decide
 unfold Builtin.Int.intBits
 split <;> omega
def M4(i j:Int):Prop:=Yl i j\/(Sml i/\Sml j)
def Z7(j:Int):Prop:=j ≠ 0/\Sml j
section
variable{X:Cx}
def cV:OpR X (binaryOp .Mult) (rI M4 fun i j=>.int (i*j)):=opI fun _ _ _ _ _ _ _ hc q=>by
 rcases hc with hc | ⟨h1,h2⟩
 · exact mul_int q hc.ok
 · exact mul_int q (IntMulOk.of_bits (Es h1) (Es h2))
def zx:OpR X (binaryOp .FloorDiv) (rI (fun _ j=>Z7 j) fun i j=>.int (i.fdiv j)):=opI fun i j _ _ _ _ _ hc q=>
 floordiv_int hc.1 q (.inl (PyProof.noPylong_of_log2 (a_ (log2_lt_of (k:=4000) (by decide) hc.2) (by decide))))
end
mutual
inductive Rep (H:Hp):V->PyData->Prop
 | non:Rep H .non .none
 | bl (b):Rep H (.bl b) (.bool b)
 | int (i):Rep H (.int i) (.int i)
 | str (x):Rep H (.str x) (.str x)
 | lst {a xs ds}:H a=some (.lst xs)->iQ H xs ds->Rep H (.ref a) (.list ds)
 | tup {a xs ds}:H a=some (.tup xs)->iQ H xs ds->Rep H (.ref a) (.tuple ds)
inductive iQ (H:Hp):List V->List PyData->Prop
 | nil:iQ H [] []
 | cons {v vs d ds}:Rep H v d->iQ H vs ds->iQ H (v::vs) (d::ds)
end
mutual
def Rep.mono{H H':Hp}(e:gn H H'):∀ {v:V} {d:PyData},Rep H v d->Rep H' v d
 | _,_,.non=>.non
 | _,_,.bl b=>.bl b
 | _,_,.int i=>.int i
 | _,_,.str x=>.str x
 | _,_,.lst h r=>.lst (e _ _ h) (iQ.mono e r)
 | _,_,.tup h r=>.tup (e _ _ h) (iQ.mono e r)
def iQ.mono{H H':Hp}(e:gn H H'):∀ {vs:List V} {ds:List PyData},iQ H vs ds->iQ H' vs ds
 | _,_,.nil=>.nil
 | _,_,.cons r t=>.cons (Rep.mono e r) (iQ.mono e t)
end
mutual
def Rep.reads{P:Program}{w:World}{H:Hp}{h:Heap}(ok:HOk P w H h):∀ {v:V} {d:PyData} {u:Value},Rep H v d->RelV v u->∃ as,Reads h u d as
 | _,_,_,.non,r=>by cases r;exact⟨_,.none⟩
 | _,_,_,.bl b,r=>by cases r;exact⟨_,.bool b⟩
 | _,_,_,.int i,r=>by obtain⟨t,rfl⟩:=r;exact⟨_,.int i t⟩
 | _,_,_,.str x,r=>by obtain⟨t,rfl⟩:=r;exact⟨_,.str x t⟩
 | _,_,_,.lst (a:=a) (xs:=xs) e ra,r=>by
   cases r;obtain⟨_,its,n,rv,ho⟩:=(show dg P w H h a (.lst xs) from ok a _ e);obtain⟨as,q⟩:=iQ.reads ok ra rv
   exact⟨_,.list ho rfl rfl (by simpa using q)⟩
 | _,_,_,.tup (a:=a) (xs:=xs) e ra,r=>by
   cases r;obtain⟨_,its,rv,o,ho,hc,n,hd⟩:=(show dg P w H h a (.tup xs) from ok a _ e);obtain⟨as,q⟩:=iQ.reads ok ra rv;exact⟨_,.tuple ho hc hd (by simpa using q)⟩
def iQ.reads{P:Program}{w:World}{H:Hp}{h:Heap}(ok:HOk P w H h):∀ {vs:List V} {ds:List PyData} {us:List Value},iQ H vs ds->Vals vs us->∃ as,ReadsAll h us ds as
 | _,_,_,.nil,.nil=>⟨_,.nil⟩
 | _,_,_,.cons r t,.cons rv tv=>by
   obtain⟨as,q1⟩:=Rep.reads ok r rv;obtain⟨bs,q2⟩:=iQ.reads ok t tv;exact⟨_,.cons q1 q2⟩
end
section
variable{X:Cx}
def acB:R2:=fun x y H Q=>∃ dx dy,Rep H x dx/\Rep H y dy/\shaped dx=true/\shaped dy=true/\Q (.bl (PyData.eqv dx dy)) H
def acC:R2:=fun x y H Q=>∃ dx dy,Rep H x dx/\Rep H y dy/\shaped dx=true/\shaped dy=true/\Q (.bl (!PyData.eqv dx dy)) H
def iR(hu:X.A.units+64<cLine):OpR X (compareOp .Eq) acB:=by
 intro pins s σ H x y v u Q I rx ry h;obtain⟨dx,dy,hx,hy,sx,sy,q⟩:=h;obtain⟨as,ra⟩:=hx.reads I.hok rx;obtain⟨bs,rb⟩:=hy.reads I.hok ry;exact eq_dataH ra rb sx sy hu ⟨.bl _,H,I,rfl,q⟩
def qu(hu:X.A.units+64<cLine):OpR X (compareOp .NotEq) acC:=by
 intro pins s σ H x y v u Q I rx ry h;obtain⟨dx,dy,hx,hy,sx,sy,q⟩:=h;obtain⟨as,ra⟩:=hx.reads I.hok rx;obtain⟨bs,rb⟩:=hy.reads I.hok ry;exact ne_dataH ra rb sx sy hu ⟨.bl _,H,I,rfl,q⟩
end
def ig{H:Hp}{p:Addr}(h:H p=none)(o:HO):gn H (upd H p o):=fun b u q=>by rw[aN (cu q h)];exact q
structure Df (K:ao)(mg:Str->Option Value)(x:Str)(st:Stmt)(ps:List Str)(f:Addr)(fd:aR):Prop where
 fn:Fun K x x st f fd
 bd:Binds K fd ps []
 mg:mg x=some (.ref f)
section
variable{X:Cx}{k:Nat}{x:Str}{st:Stmt}{f:Addr}{fd:aR}{ps:List Str}{sp:Sp}{p pos:Pos}{e:Expr}{es:List Expr}{t:TA}
def GC(D:Df X.K X.mg x st ps f fd)(F:bU X.prog X.w X.K X.mg X.base CX0 k f fd ps sp)(hr:bZ k X.A)(hg:Gl X x)(ha:PA X (e::es) t)(hdb:(x==("__debug__":Str))=false:=by decide)
    (he:starEach (e::es) X.env=(false,eval e X.env)::starEach es X.env:=by rfl) (hpl:(backTo pos (starEach es X.env)).any (·.1)=false:=by rfl):
    PE X (.Call (.Name x p) (e::es) [] pos) (Dq sp [] E0 t):=yD F hr hg D.mg D.fn.kp D.bd .nil tQ ha hdb he hpl
end
def j0(cells:List (Str × Addr)):List (Str × NameKind)->List (Str × Addr)->List (Str × Addr)
 | [],acc=>acc
 | (n,k)::r,acc=>if k= .free then j0 cells r ((n,(cells.lookup n).getD 0)::acc) else j0 cells r acc
def ur{scope:Scope}{env:Env}(h:∀ y ∈ scope.names,y.2= .free->∃ c,env.cells.lookup y.1=some c):closureFor scope env=pure (j0 env.cells scope.names []):=by
 have key:∀(names:List (Str × NameKind)) (cs:List (Str × Addr)),(∀ y ∈ names,y.2= .free->∃ c,env.cells.lookup y.1=some c)->
  (forIn names cs fun(x:Str × NameKind) (r:List (Str × Addr))=>(match x with
    | (name,kind)=>if(kind == .free)=true then do let a <- cellOf env name;pure (ForInStep.yield ((name,a)::r)) else pure (ForInStep.yield r):Sem (ForInStep (List (Str × Addr)))))=(pure (j0 env.cells names cs):Sem _):=by
  intro names
  induction names with
  | nil=>intro cs _;rfl
  | cons y r ih=>
    intro cs hy;obtain⟨n,k⟩:=y;rw[List.forIn_cons]
    by_cases hk:k= .free
    · obtain⟨c,hc⟩:=hy (n,k) qI hk;have hc':env.cells.lookup n=some c:=hc;subst hk;have e1:cellOf env n=pure c:=by unfold cellOf;rw[hc']
      simp only[beq_self_eq_true,if_true,e1,pure_bind];rw[ih _ fun z hz=>hy z (iI _ hz)];simp only[j0,if_true,hc',Option.getD_some]
    · have hb:(k==NameKind.free)=false:=by simpa using hk
      simp only[hb,Bool.false_eq_true,if_false,pure_bind];rw[ih _ fun z hz=>hy z (iI _ hz)];simp only[j0,aA hk]
 have e:closureFor scope env=(forIn scope.names ([]:List (Str × Addr)) (fun(x:Str × NameKind) (r:List (Str × Addr))=>(match x with
  | (name,kind)=>if(kind == .free)=true then do let a <- cellOf env name;pure (ForInStep.yield ((name,a)::r)) else pure (ForInStep.yield r):Sem (ForInStep (List (Str × Addr))))) >>= fun r=>pure r):=by
  unfold closureFor;rfl
 rw[e,key _ _ h];rfl
def vM{cells:List (Str × Addr)}{x:Str}{c:Addr}:∀ {names:List (Str × NameKind)} {acc:List (Str × Addr)},(∀ y ∈ names,y.2= .free->∃ c,cells.lookup y.1=some c)->
    (j0 cells names acc).lookup x=some c->cells.lookup x=some c\/acc.lookup x=some c
 | [],acc,_,h=>.inr h
 | (n,k)::r,acc,hy,h=>by
   unfold j0 at h
   by_cases hk:k= .free
   · rw[aB hk]at h;obtain⟨d,hd⟩:=hy (n,k) qI hk;have hd':cells.lookup n=some d:=hd;rw[hd']at h
     rcases vM (fun z hz=>hy z (iI _ hz)) h with q | q
     · exact .inl q
     · rw[List.lookup_cons]at q
       cases e:x==n with
       | true=>
         have e':x=n:=eq_of_beq e;rw[e]at q;subst e'
         exact .inl (by rw[hd'];exact q)
       | false=>
         rw[e]at q;exact .inr q
   · rw[aA hk]at h;exact vM (fun z hz=>hy z (iI _ hz)) h
def vp{cells:List (Str × Addr)}{x:Str}{c:Addr}(hc:cells.lookup x=some c):∀ {names:List (Str × NameKind)} {acc:List (Str × Addr)},((x,NameKind.free) ∈ names\/acc.lookup x=some c)->
    (j0 cells names acc).lookup x=some c
 | [],acc,h=>by
   rcases h with h | h
   · cases h
   · exact h
 | (n,k)::r,acc,h=>by
   unfold j0
   by_cases hk:k= .free
   · rw[aB hk];refine vp hc ?_
     by_cases e:x=n
     · subst e;exact .inr (by rw[List.lookup_cons,beq_self_eq_true,hc];rfl)
     · have eb:(x==n)=false:=by simpa using e
       rcases h with h | h
       · rcases List.mem_cons.mp h with z | z
         · exact aK (congrArg Prod.fst z) e
         · exact .inl z
       · exact .inr (by rw[List.lookup_cons,eb];exact h)
   · rw[aA hk];refine vp hc ?_
     rcases h with h | h
     · rcases List.mem_cons.mp h with z | z
       · exact aK (congrArg Prod.snd z).symm hk
       · exact .inl z
     · exact .inr h
def sH{env:Env}:∀ {names:List (Str × NameKind)} {x:Str},names.lookup x=some .free->
    (names.map fun(n,k)=>if(k==NameKind.free&&env.scope.kind == .function&&env.kindOf n==some .cell) then(n,NameKind.cell) else(n,k)).lookup x=some .cell\/
    (names.map fun(n,k)=>if(k==NameKind.free&&env.scope.kind == .function&&env.kindOf n==some .cell) then(n,NameKind.cell) else(n,k)).lookup x=some .free
 | [],_,h=>by simp at h
 | (n,k)::r,x,h=>by
   have ih:= @sH env r x;show List.lookup x ((if(k==NameKind.free&&env.scope.kind == .function&&env.kindOf n==some .cell)=true then(n,NameKind.cell) else(n,k))::_)=_\/List.lookup x ((if(k==NameKind.free&&env.scope.kind == .function&&env.kindOf n==some .cell)=true then(n,NameKind.cell) else(n,k))::_)=_
   cases hx:x==n with
   | true=>
     simp only[List.lookup_cons,hx]at h;cases h
     by_cases hc:(NameKind.free==NameKind.free&&env.scope.kind == .function&&env.kindOf n==some .cell)=true
     · rw[aB hc];simp[List.lookup_cons,hx]
     · rw[aA hc];simp[List.lookup_cons,hx]
   | false=>
     simp only[List.lookup_cons,hx]at h
     by_cases hc:(k==NameKind.free&&env.scope.kind == .function&&env.kindOf n==some .cell)=true
     · rw[aB hc];simp only[List.lookup_cons,hx];exact ih h
     · rw[aA hc];simp only[List.lookup_cons,hx];exact ih h
def Ai{env:Env}:∀ {names:List (Str × NameKind)} {x:Str},(∀ y ∈ names,y.2 ≠ .cell)->
    ((names.map fun(n,k)=>if(k==NameKind.free&&env.scope.kind == .function&&env.kindOf n==some .cell) then(n,NameKind.cell) else(n,k)).lookup x=some .cell\/
    (names.map fun(n,k)=>if(k==NameKind.free&&env.scope.kind == .function&&env.kindOf n==some .cell) then(n,NameKind.cell) else(n,k)).lookup x=some .free)->names.lookup x=some .free
 | [],_,_,h=>by simp at h
 | (n,k)::r,x,hn,h=>by
   have ih:= @Ai env r x fun y hy=>hn y (iI _ hy);have hnk:k ≠ .cell:=hn (n,k) qI;change List.lookup x ((if(k==NameKind.free&&env.scope.kind == .function&&env.kindOf n==some .cell)=true then(n,NameKind.cell) else(n,k))::_)=_\/List.lookup x ((if(k==NameKind.free&&env.scope.kind == .function&&env.kindOf n==some .cell)=true then(n,NameKind.cell) else(n,k))::_)=_ at h
   cases hx:x==n with
   | true=>
     rw[List.lookup_cons,hx]
     by_cases hc:(k==NameKind.free&&env.scope.kind == .function&&env.kindOf n==some .cell)=true
     · have hk:k= .free:=by
        rw[Bool.and_eq_true,Bool.and_eq_true]at hc;exact eq_of_beq hc.1.1
       rw[hk]
     · rw[aA hc]at h;simp only[List.lookup_cons,hx]at h
       rcases h with h | h
       · exact aK (gH h) hnk
       · exact h
   | false=>
     rw[List.lookup_cons,hx]
     by_cases hc:(k==NameKind.free&&env.scope.kind == .function&&env.kindOf n==some .cell)=true
     · rw[aB hc]at h;simp only[List.lookup_cons,hx]at h;exact ih h
     · rw[aA hc]at h;simp only[List.lookup_cons,hx]at h;exact ih h
def blk(X:Cx)(N':List Str)(sc:Scope)(C:Addr)(s₀:aj)(H₀:Hp)(fp:List Addr):Cx:=
 { X with N:=N',s₀:=s₀,H₀:=H₀,env:=compEnvC sc (j0 X.env.cells sc.names []) C X.env,outer:=X.stack,ex:=fp,fn:=fun _=>false,pn:=[],xe:=fun _ _=>False }
def sgb(nt:Nat)(idx:List Nat)(σ:St):St:=List.replicate nt none++idx.map fun j=>(σ[j]?).getD none
structure uQ (X:Cx)(N':List Str)(sc:Scope)(nt:Nat)(idx:List Nat):Prop where
 kind:sc.kind= .function
 Ob:∀ y ∈ sc.names,y.2 ≠ .cell
 loc:∀ y ∈ sc.names,y.2= .local->sc.names.lookup y.1=some .local
 fr:∀ y ∈ sc.names,y.2= .free->X.env.kindOf y.1=some .cell\/X.env.kindOf y.1=some .free
 len:nt+idx.length=N'.length
 ix:∀ p ∈ idx.zip (N'.drop nt),X.N[p.1]? =some p.2/\sc.names.lookup p.2=some .free
def fX{names:List (Str × NameKind)}{x:Str}{k:NameKind}(h:names.lookup x=some k):(x,k) ∈ names:=PySem.mem_of_lookup h
def aaU{X:Cx}{N':List Str}{sc:Scope}{nt:Nat}{idx:List Nat}{pins:List (Addr × Obj)}{σ:St}{H:Hp}{s:aj}{fp:List Addr}{h':Heap}{tk:Nat}{m:Str->Option Value}(B:uQ X N' sc nt idx)
    (I:Inv X pins σ H s) (hf:∀ b ∈ fp,n8 X pins H b) (hlt:∀ b ∈ fp,b<s.heap.objs.size) (hns:h'.Ns s.heap.objs.size m) (hk:∀ b o,s.heap.get? b=some o->h'.get? b=some o):
    Inv (blk X N' sc s.heap.objs.size s H fp) (X.pn++pins) (sgb nt idx σ) H { s with heap:=h',toks:=tk }:=by
 have hcl:∀ y ∈ sc.names,y.2= .free->∃ c,X.env.cells.lookup y.1=some c:=fun y hy e=>I.ok.has y.1 (B.fr y hy e)
 have sub:∀ x c,(j0 X.env.cells sc.names []).lookup x=some c->X.env.cells.lookup x=some c:=fun x c h=>by
  rcases vM hcl h with z | z
  · exact z
  · simp at z
 have afy:∀ b,b ∈ frs X.stack->b=X.env.locals\/b ∈ X.fs:=fun b hb=>List.mem_cons.mp (I.Br b hb);have Z8:∀ b,b ≠ X.env.locals->b ∉ X.fs->b ∉ frs X.stack:=fun b h1 h2 h=>(afy b h).elim h1 h2;have fresh:H s.heap.objs.size=none:=I.hok.fresh (aG _)
 refine⟨⟨I.ok.mod,B.kind,I.ok.glob,I.ok.blt,aG _,fun x y c h1 h2=>I.ok.inj x y c (sub x c h1) (sub y c h2),fun x hx=>?_,fun x c hx _=>?_,I.ok.hd,I.ok.frames,.inl rfl,fun b hb=>⟨Nat.ne_of_lt (hlt b hb),fun x c h=>(hf b hb).2.2.2.2.1 x c (sub x c h)⟩,
  I.bs,Nat.le_trans I.ok.bsz I.sz,fun b o e hb=>?_,fun b hb=>Z8 b (hf b hb).2.1 (hf b hb).2.2.1,I.stack,I.sJ⟩,
  rfl,I.bare,Un.kept hk,⟨m,hns,fun i x v h1 h2 h3=>?_⟩,fun x c h=>?_,fresh,fun x c h=>I.kI x c (sub x c h),fun p hp=>?_,I.hok.kept hk,?_⟩
 · -- has
   have hx':=Ai (env:=X.env) (x:=x) B.Ob hx;obtain⟨c,hc⟩:=hcl (x,.free) (fX hx') rfl;exact⟨c,vp hc (.inl (fX hx'))⟩
 · -- cab
   have hx':false=true:=hx;cases hx'
 · -- uq
   rcases (hf b hb).2.2.2.1 with z | z
   · exact I.ok.uq b o e z
   · exact aK (a_ (cF e) (Nat.le_trans I.ok.bsz z)) (Nat.lt_irrefl _)
 · -- loc
   have h1':N'[i]? =some x:=h1
   by_cases hi:i<nt
   · exfalso;unfold sgb at h2;rw[pG (by simpa using hi),List.getElem?_replicate]at h2
     split at h2 <;> cases h2
   · unfold sgb at h2;rw[lJ (by simpa using hi),List.length_replicate,eN]at h2
     cases ej:idx[i - nt]? with
     | none=>rw[ej]at h2;cases h2
     | some j=>
       rw[ej]at h2;have h2':(σ[j]?).getD none=some v:=by simpa using h2
       have hz:(j,x) ∈ idx.zip (N'.drop nt):=by
        have e1:(N'.drop nt)[i - nt]? =some x:=by rw[List.getElem?_drop];rw[show nt+(i - nt)=i by omega];exact h1'
        refine ju (i:=i - nt) ?_;rw[List.getElem?_zip_eq_some];exact⟨ej,e1⟩
       obtain⟨q1,q2⟩:=B.ix _ hz;have q1':X.N[j]? =some x:=q1;have q2':sc.names.lookup x=some .free:=q2
       have hs:σ[j]? =some (some v):=by
        cases e:σ[j]? with
        | none=>rw[e]at h2';cases h2'
        | some o=>rw[e]at h2';exact congrArg some h2'
       have hkx:=B.fr (x,.free) (fX q2') rfl;obtain⟨mX,_,hl⟩:=I.loc
       obtain⟨u,ru,lk⟩:=hl j x v q1' hs (by
        rcases hkx with z | z
        · exact .inr (.inl z)
        · exact .inr (.inr z))
       refine⟨u,ru,.inr ⟨sH (env:=X.env) q2',?_⟩⟩
       rcases lk with ⟨z,_⟩ | ⟨_,c,hc,hcell⟩
       · exfalso
         rcases hkx with y | y
         · rw[z]at y;cases y
         · rw[z]at y;cases y
       · obtain⟨o,ho,hd⟩:=hcell;exact⟨c,vp hc (.inl (fX q2')),o,hk c o ho,hd⟩
 · obtain⟨v,o,ho,hd⟩:=I.cell x c (sub x c h);exact⟨v,o,hk c o ho,hd⟩
 · have hp':p ∈ X.pn++pins:=by
    have:p ∈ ([]:List (Addr × Obj))++(X.pn++pins):=hp;simpa using this
   obtain⟨e,n,ne,nf,d⟩:=I.pin p hp';exact⟨hk _ _ e,n,Nat.ne_of_lt (cF e),Z8 _ ne nf,d⟩
 · show(sgb nt idx σ).length=N'.length;unfold sgb;rw[ji,List.length_replicate,bK];exact B.len
def Wk:St->St->Prop
 | [],[]=>True
 | none::r,_::r'=>Wk r r'
 | some a::r,b::r'=>b=some a/\Wk r r'
 | _,_=>False
def Wk.ok:∀ {σ σ2:St},Wk σ σ2->σ.length=σ2.length/\∀(i:Nat) (v:V),σ[i]? =some (some v)->σ2[i]? =some (some v)
 | [],[],_=>⟨rfl,fun _ _ h=>h⟩
 | none::r,b::r',h=>by
   obtain⟨h1,h2⟩:=Wk.ok (σ:=r) (σ2:=r') h;refine⟨by simp[h1],fun i v e=>?_⟩
   cases i with
   | zero=>simp at e
   | succ i=>simpa using h2 i v (by simpa using e)
 | some a::r,b::r',h=>by
   obtain⟨hb,h⟩:=h;obtain⟨h1,h2⟩:=Wk.ok (σ:=r) (σ2:=r') h;refine⟨by simp[h1],fun i v e=>?_⟩
   cases i with
   | zero=>subst hb;simpa using e
   | succ i=>simpa using h2 i v (by simpa using e)
 | [],_::_,h=>h.elim
 | none::_,[],h=>h.elim
 | some _::_,[],h=>h.elim
abbrev TN:=St->Hp->(Hp->Prop)->Prop
def GD(J:It)(g:TG)(tif:TT)(tin:TN):TN:=fun σ H Q=>∃ W:Nat->Nat->Hp->Prop,(∃ m,W 0 m H)/\∀ i m H,W i m H->
 (J.stop i H/\Q H)\/(J.go i H/\∃ N:Hp->Prop,(∀ H',N H'->∃ m',m'<m/\W (i+1) m' H')/\∀ x H',J.yld i H x H'->g x σ H' fun σ2 H2=>Wk σ σ2/\tif σ2 H2 fun b H3=>if b=true then tin σ2 H3 N else N H3)
def GF(D:Addr)(te:TE):TN:=fun σ H N=>te σ H fun y H1=>∃ ys,H1 D=some (.lst ys)/\ys.length<sizeLine/\N (upd H1 D (.lst (ys ++ [y])))
def V_(wi:TI)(g:TG)(tif:TT)(tin:TN):TN:=fun σ H N=>wi σ H fun J H1=>GD J g tif tin σ H1 N
def PTs(Y:Cx)(ifs:List Expr)(t:TT):Prop:=
 ∀(pins:List (Addr × Obj)) (s:aj) (σ:St) (H:Hp) (Q:Bool->Hp->Prop),Inv Y pins σ H s->t σ H Q->
  wpAny (model Y.prog Y.w) Y.A (forIn ifs true fun c r=>if r=true then do let ok <- isTrue c Y.env (eval c Y.env);pure (ForInStep.yield ok) else pure (ForInStep.yield r)) (TP Y pins σ Q) Y.xe s
def Z9:TT:=fun _ H Q=>Q true H
def aaV{Y:Cx}:PTs Y [] Z9:=fun _ _ _ H _ I h=>wpAny_tests_nil ⟨H,I,h⟩
def IV{Y:Cx}{c:Expr}{t:TT}(h:PT Y c t):PTs Y [c] t:=fun pins s σ H Q I q=>wpAny_tests_one (h pins s σ H Q I q)
def PN(Y:Cx)(m:Sem Unit)(t:TN):Prop:=
 ∀(pins:List (Addr × Obj)) (s:aj) (σ:St) (H:Hp) (N:Hp->Prop),Inv Y pins σ H s->t σ H N->wpAny (model Y.prog Y.w) Y.A m (fun _ s'=>∃ H',Inv Y pins σ H' s'/\N H') Y.xe s
def NoX(Y:Cx):Prop:=∀ e s,¬ Y.xe e s
def NoX.any{Y:Cx}(hx:NoX Y){α:Type}{t:Sem α}{Q:α->aj->Prop}{E:Value->aj->Prop}{s:aj}(h:wpAny (model Y.prog Y.w) Y.A t Q Y.xe s):wpAny (model Y.prog Y.w) Y.A t Q E s:=
 wpAny_mono h (fun _ _ q=>q) fun e s' z=>(hx e s' z).elim
def Rp{Y:Cx}{elt:Expr}{te:TE}{D:Addr}(he:PE Y elt te):PN Y (do let _ <- call (.builtin "list.append") [.ref D,<- eval elt Y.env]) (GF D te):=by
 intro pins s σ H N I h;refine aO (thn (he pins s σ H _ I h) fun u s1 ⟨y,H1,I1,r1,ys,e1,hl,hN⟩=>?_);refine aO (thn (q_ (X:=Y) pins s1 σ H1 (.ref D) [y] (.ref D) [u] (fun _ H2=>N H2) I1 rfl (.cons r1 .nil) ⟨D,ys,y,rfl,rfl,e1,hl,hN⟩) fun v s2 ⟨z,H2,I2,_,q2⟩=>?_);exact bN ⟨H2,I2,q2⟩
def oV(e:Expr)(d:Nat)(it acc:Value)(env:Env)(target:Expr)(ifs:List Expr)(ipos:Pos)(inner:Sem Unit):Sem Fin:=do
 standAt ipos
 match <- pyNext it with
 | none=>pure (.done .next)
 | some v=>
   letOwnedTupleGo target it v
   assign target env v
   let mut ok:=true
   for c in ifs do
    if ok then ok <- isTrue c env (eval c env)
   if ok then
    inner
   again (.compLoop e d it acc env)
def aer(elt target iter:Expr)(ifs:List Expr)(scope:Scope)(pos:Pos)(it acc:Value)(env:Env):
    compTurn (.ListComp elt [⟨target,iter,ifs,0⟩] scope pos) 0 it acc env=oV (.ListComp elt [⟨target,iter,ifs,0⟩] scope pos) 0 it acc env target ifs iter.pos (do let _ <- call (.builtin "list.append") [acc,<- eval elt env]):=rfl
def acD(elt target iter nP cT:Expr)(ifs jw:List Expr)(scope:Scope)(pos:Pos)(it acc:Value)(env:Env):
    compTurn (.ListComp elt [⟨target,iter,ifs,0⟩,⟨nP,cT,jw,0⟩] scope pos) 0 it acc env=oV (.ListComp elt [⟨target,iter,ifs,0⟩,⟨nP,cT,jw,0⟩] scope pos) 0 it acc env target ifs iter.pos
     (do
       let x <- eval cT env
       standAt cT.pos
       let x <- foldedSetIterable cT env x
       let _ <- runOwn (.compStart (.ListComp elt [⟨target,iter,ifs,0⟩,⟨nP,cT,jw,0⟩] scope pos) 1 (<- holding [x] (pyIter x)) acc env) env):=by
 have e:compTurn (.ListComp elt [⟨target,iter,ifs,0⟩,⟨nP,cT,jw,0⟩] scope pos) 0 it acc env=(do
  standAt iter.pos
  match <- pyNext it with
  | none=>pure (.done .next)
  | some v=>
    letOwnedTupleGo target it v
    assign target env v
    let mut ok:=true
    for c in ifs do
     if ok then ok <- isTrue c env (eval c env)
    if ok then
     let x <- eval cT env
     standAt cT.pos
     let x <- foldedSetIterable cT env x
     let _ <- runOwn (.compStart (.ListComp elt [⟨target,iter,ifs,0⟩,⟨nP,cT,jw,0⟩] scope pos) 1 (<- holding [x] (pyIter x)) acc env) env
    again (.compLoop (.ListComp elt [⟨target,iter,ifs,0⟩,⟨nP,cT,jw,0⟩] scope pos) 0 it acc env)):=rfl
 rw[e];unfold oV;simp only[bind_assoc,pure_bind]
def acE(elt target iter nP cT:Expr)(ifs jw:List Expr)(scope:Scope)(pos:Pos)(it acc:Value)(env:Env):
    compTurn (.ListComp elt [⟨target,iter,ifs,0⟩,⟨nP,cT,jw,0⟩] scope pos) 1 it acc env=oV (.ListComp elt [⟨target,iter,ifs,0⟩,⟨nP,cT,jw,0⟩] scope pos) 1 it acc env nP jw cT.pos (do let _ <- call (.builtin "list.append") [acc,<- eval elt env]):=rfl
def LR(Y:Cx)(pins:List (Addr × Obj))(σ:St)(Q:Hp->Prop)(r:Result)(s':aj):Prop:=
 match r with
 | .ok _=>∃ H',Inv Y pins σ H' s'/\Q H'
 | .error _=>False
def Rq{Y:Cx}(hx:NoX Y)(hc:Y.calm=true){elt:Expr}{gens:List Comprehension}{scope:Scope}{pos:Pos}{d:Nat}{it D:Addr}{tg:Expr}{ifs:List Expr}{ipos:Pos}{inner:Sem Unit}{J:It}{fp:List Addr}{tn:Nat->Heap->Prop}{g:TG}{tif:TT}{tin:TN}
    (ht:compTurn (.ListComp elt gens scope pos) d (.ref it) (.ref D) Y.env=oV (.ListComp elt gens scope pos) d (.ref it) (.ref D) Y.env tg ifs ipos inner)
    (T:Turn Y.prog Y.w Y.K tg J fp it tn) (hg:PG Y tg g) (hi:PTs Y ifs tif) (hn:PN Y inner tin)
    {pins:List (Addr × Obj)} {s:aj} {σ:St} {H:Hp} {Q:Hp->Prop} (I:Inv Y pins σ H s) (st:tn 0 s.heap) (f:∀ b ∈ fp,n8 Y pins H b) (h:GD J g tif tin σ H Q):
    codeAny (model Y.prog Y.w) Y.A (.compLoop (.ListComp elt gens scope pos) d (.ref it) (.ref D) Y.env) (LR Y pins σ Q) s:=by
 obtain⟨W,⟨m0,w0⟩,turn⟩:=h;have stat:∀ {H':Hp},(∀ b ∈ fp,H' b=none)->∀ b ∈ fp,n8 Y pins H' b:=fun hn b hb=>⟨hn b hb,(f b hb).2⟩;refine codeAny_loop rfl (fun n s'=>∃ i H',Inv Y pins σ H' s'/\tn i s'.heap/\(∀ b ∈ fp,H' b=none)/\W i n H') ?_ m0 ⟨0,H,I,st,fun b hb=>(f b hb).1,w0⟩;rintro n s3 ⟨i,H3,I3,st3,fr3,w3⟩;show wpAny _ Y.A ((compTurn (.ListComp elt gens scope pos) d (.ref it) (.ref D) Y.env).onRaise (fun x=>do noteFrame x Y.env;theTreesLotGoes x)) _ _ s3;refine wpAny_noted ?_;rw[ht];unfold oV;refine aO (wpAny_standAt ?_)
 rcases turn i n H3 w3 with ⟨stop,qn⟩ | ⟨go,N,hN,step⟩
 · refine aO (thn (hx.any (T.done Y rfl rfl rfl hc i pins s3 σ H3 Y.xe I3 (stat fr3) st3 stop)) fun r s4 ⟨hr,I4⟩=>?_);subst hr;exact bN ⟨H3,I4,qn⟩
 · refine aO (thn (hx.any (T.item Y rfl rfl rfl hc i pins s3 σ H3 Y.xe I3 (stat fr3) st3 go)) fun r s4 ⟨u,hr,h4⟩=>?_);subst hr;refine aO (thn (hx.any h4) fun _ s5 ⟨x,H5,I5,r5,y5,st5,fr5⟩=>?_);have I5':=I5.pinned (stat fr5) (T.obj _ _ st5);refine aO (thn (hx.any (hg _ s5 σ H5 x u _ I5' r5 (step x H5 y5))) fun _ s6 ⟨σ6,H6,I6,wk,q6⟩=>?_);obtain⟨wl,wv⟩:=wk.ok
   have again:∀ {σ7:St} {H7:Hp} {s7:aj},Inv Y (pins++Bs fp s5.heap) σ7 H7 s7->Wk σ σ7->N H7->∃ m,m<n/\∃ i H',Inv Y pins σ H' s7/\tn i s7.heap/\(∀ b ∈ fp,H' b=none)/\W i m H':=fun {σ7 H7 s7} I7 wk7 n7=>by
    obtain⟨m',hm,w7⟩:=hN H7 n7;obtain⟨wl7,wv7⟩:=wk7.ok;refine⟨m',hm,i+1,H7,(I7.weak wl7 wv7).vH,T.keep _ _ _ st5 fun b hb o e=>(I7.pin (b,o) (List.mem_append_right _ (List.mem_append_right _ (uP hb e)))).1,fun b hb=>?_,w7⟩;obtain⟨o,e,d⟩:=T.obj _ _ st5 b hb;exact(I7.pin (b,o) (List.mem_append_right _ (List.mem_append_right _ (uP hb e)))).2.1
   refine aO (thn (hx.any (hi _ s6 σ6 H6 _ I6 q6)) fun ok s7 ⟨H7,I7,q7⟩=>?_)
   cases ok with
   | false=>exact bN ⟨rfl,again I7 wk q7⟩
   | true=>exact aO (thn (hx.any (hn _ s7 σ6 H7 N I7 q7)) fun _ s8 ⟨H8,I8,q8⟩=>bN ⟨rfl,again I8 wk q8⟩)
def Kw{prog:Program}{w:World}{A:Around}{R:Result->aj->Prop}{s:aj}{elt:Expr}{gens:List Comprehension}{scope:Scope}{pos:Pos}{d:Nat}{it acc:Value}{env:Env}{g:Comprehension}(hg:gens[d]? =some g)(ha:g.is_async=0)
    (h0:codeAny (model prog w) A (.compLoop (.ListComp elt gens scope pos) d it acc env) R s)
    (h:wpAny (model prog w) A (pyIter it) (fun it' s'=>codeAny (model prog w) A (.compLoop (.ListComp elt gens scope pos) d it' acc env) R s') (notedBy (model prog w) A env fun x s'=>R (.error x) s') s):
    codeAny (model prog w) A (.compStart (.ListComp elt gens scope pos) d it acc env) R s:=by
 refine codeAny_of_tree ?_;show wpAny _ _ ((compStart (.ListComp elt gens scope pos) d it acc env).onRaise (fun x=>do noteFrame x env;standAt theWindowsPlace)) _ _ s;refine wpAny_notedAt ?_;unfold compStart;rw[show clausesOf (.ListComp elt gens scope pos)=gens from rfl,hg];have e1:(Option.elim (some g) false fun x=>x.is_async != 0)=false:=by show(g.is_async != 0)=false;rw[ha];rfl
 rw[e1];show wpAny _ _ (ask >>= _) _ _ s;refine aO (wpAny_askSetting (wpAny_ite ?_))
 split
 · exact aO (bN (bN (And.intro rfl h0)))
 · exact aO (wpAny_rule (aO (wpAny_standAt (aO (wpAny_mono h (fun it' s' h'=>bN (And.intro rfl h')) fun _ _ x=>x)))))
def Oc{X:Cx}{N':List Str}{sc:Scope}{pins GJ:List (Addr × Obj)}{σ σY:St}{H H':Hp}{s s':aj}{fp:List Addr}{h':Heap}(I:Inv X pins σ H s)(hf:∀ b ∈ fp,n8 X pins H b)
    (IY:Inv (blk X N' sc s.heap.objs.size s H fp) GJ σY H' s') (hs:Heap.SameBut s.heap.objs.size s'.heap h'):Inv X pins σ H' { s' with heap:=h' }:=by
 have hC:∀ b o,s.heap.get? b=some o->b ≠ s.heap.objs.size:=fun b o e=>Nat.ne_of_lt (cF e);have nC:H' s.heap.objs.size=none:=IY.free;have u:Un (frs X.stack) fp H H' s.heap s'.heap:=IY.base;have kk:∀ b o,b ≠ s.heap.objs.size->s'.heap.get? b=some o->h'.get? b=some o:=fun b o hb e=>hs.extBut b o hb e;refine I.call' (s':={ s' with heap:=h' }) (ch:=fp) IY.os ⟨fun b o e n h1 h2=>kk b o (hC b o e) (u.keep b o e n h1 h2),fun b o e n h1 h2=>?_,u.free,fun b o e h2=>?_,u.tups,u.oO,u.oR⟩ ?_ IY.bare fun b hb=>?_
 · obtain⟨sl,q⟩:=u.slot b o e n h1 h2;exact⟨sl,kk b _ (hC b o e) q⟩
 · obtain⟨o',q⟩:=u.there b o e h2;exact⟨o',kk b _ (hC b o e) q⟩
 · intro a o e;refine(IY.hok a o e).stay (fun b v hb q=>kk b v ?_ q) (fun _ q=>q) fun _ _ q=>q;rintro rfl
   rcases hb with z | z
   · rw[z]at nC;rw[nC]at e;cases e
   · rw[nC]at z;cases z
 · obtain⟨f0,f1,f2,f3,f4,f5⟩:=hf b hb;exact⟨f3,f1,f4,f5⟩
section
variable{X:Cx}{N':List Str}{sc:Scope}{nt:Nat}{idx:List Nat}{elt tg iter:Expr}{ifs:List Expr}{gs:List Comprehension}{pos:Pos}{wi:TI}{g:TG}{tif:TT}{tin:Addr->TN}
def M5(nt:Nat)(idx:List Nat)(wi:TI)(g:TG)(tif:TT)(tin:Addr->TN):TE:=fun σ H Q=>wi σ H fun J H1=>∀ D,H1 D=none->GD J g tif (tin D) (sgb nt idx σ) (upd H1 D (.lst [])) fun H2=>Q (.ref D) H2
structure BL (X:Cx)(N':List Str)(sc:Scope)(elt tg iter:Expr)(ifs:List Expr)(gs:List Comprehension)(pos:Pos)(g:TG)(tif:TT)(tin:Addr->TN):Prop where
 ok:∀(C:Addr) (s₀:aj) (H₀:Hp) (fp:List Addr) (D it:Addr),∃ inner:Sem Unit,
  compTurn (.ListComp elt (⟨tg,iter,ifs,0⟩::gs) sc pos) 0 (.ref it) (.ref D) (blk X N' sc C s₀ H₀ fp).env=oV (.ListComp elt (⟨tg,iter,ifs,0⟩::gs) sc pos) 0 (.ref it) (.ref D) (blk X N' sc C s₀ H₀ fp).env tg ifs iter.pos inner/\
  PG (blk X N' sc C s₀ H₀ fp) tg g/\PTs (blk X N' sc C s₀ H₀ fp) ifs tif/\PN (blk X N' sc C s₀ H₀ fp) inner (tin D)
def Od(B:uQ X N' sc nt idx)(hc:X.calm=true)(hi:PI X tg iter wi)(O:BL X N' sc elt tg iter ifs gs pos g tif tin){pins:List (Addr × Obj)}{s:aj}{σ:St}{H:Hp}{Q:VK}{E:Value->aj->Prop}{use:Option (Value->Sem Unit)}{QQ:Value->aj->Prop}
    (I:Inv X pins σ H s) (h:M5 nt idx wi g tif tin σ H Q) (hE:∀ e s,X.xe e s->E e s)
    (hend:∀(D C:Addr) (s3 s':aj) (H3 H':Hp) (fp:List Addr) (GJ:List (Addr × Obj)) (σY:St),C=s3.heap.objs.size->Inv X pins σ H3 s3->(∀ b ∈ fp,n8 X pins H3 b)->Inv (blk X N' sc C s3 H3 fp) GJ σY H' s'->Q (.ref D) H'->
      compPost (model X.prog X.w) X.A E use QQ (.ref D) C (.ok .next) s'):
    wpAny (model X.prog X.w) X.A (eval iter X.env) (fun x s₁=>wpAny (model X.prog X.w) X.A (pyIter x) (fun it s₂=>wpAny (model X.prog X.w) X.A (newList []) (fun acc s₃=>
     wpAny (model X.prog X.w) X.A (newFunctionEnv sc X.env.globals (j0 X.env.cells sc.names []) [] X.env.qual none .none (some X.env)) (fun cenv s₄=>
      codeAny (model X.prog X.w) X.A (.compStart (.ListComp elt (⟨tg,iter,ifs,0⟩::gs) sc pos) 0 it acc { cenv with scope:=relabel sc X.env }) (compPost (model X.prog X.w) X.A E use QQ acc cenv.locals) s₄) E s₃) E s₂) E s₁) E s:=by
 refine wpAny_mono (hi pins s σ H _ I h) (fun v s1 h1=>wpAny_mono h1 (fun itv s2 h2=>?_) hE) hE;obtain⟨it,fp,tn,J,H2,e,I2,T,st2,f2,hl⟩:=h2;subst e;refine wpAny_newObj_type ?_;have I3:Inv X pins σ (upd H2 s2.heap.objs.size (.lst [])) { s2 with heap:=s2.heap.push { cls:=.type "list",data:=.seq ([]:List Value).toArray } }:=I2.Yw (its:=[]) (ys:=[]) (t':=s2.toks) .nil (Nat.zero_le _);have hD:H2 s2.heap.objs.size=none:=I2.hok.fresh (aG _);have lt2:∀ b ∈ fp,b<s2.heap.objs.size:=fun b hb=>let ⟨o,ho,_⟩:=T.obj _ _ st2 b hb;cF ho;have f3:∀ b ∈ fp,n8 X pins (upd H2 s2.heap.objs.size (.lst [])) b:=fun b hb=>⟨by rw[aN (Nat.ne_of_lt (lt2 b hb))];exact(f2 b hb).1,(f2 b hb).2⟩;generalize hS3:({ s2 with heap:=s2.heap.push { cls:=.type "list",data:=.seq ([]:List Value).toArray } }:aj)=s3 at I3 ⊢;have lt3:∀ b ∈ fp,b<s3.heap.objs.size:=fun b hb=>by rw[<- hS3];show b<(s2.heap.push _).objs.size;rw[Heap.size_push];exact Nat.lt_succ_of_lt (lt2 b hb)
 have k3:∀ b o,s2.heap.get? b=some o->s3.heap.get? b=some o:=fun b o e=>by rw[<- hS3];exact dJ _ e
 refine wpAny_newFunctionEnv B.Ob (by intro y hy;simp at hy) (fun h₁ hns hsb=>?_) B.kind;have old:∀ b o,s3.heap.get? b=some o->h₁.get? b=some o:=fun b o e=>hsb.extBut b o (Nat.ne_of_lt (cF e)) (dJ _ e);have IY:=aaU (tk:=s3.toks+([]:List (Str × Value)).length) B I3 f3 lt3 hns old;have hx:NoX (blk X N' sc s3.heap.objs.size s3 (upd H2 s2.heap.objs.size (.lst [])) fp):=fun _ _ z=>z;obtain⟨inner,ht,hg,hif,hin⟩:=O.ok s3.heap.objs.size s3 (upd H2 s2.heap.objs.size (.lst [])) fp s2.heap.objs.size it;have stY:tn 0 h₁:=T.keep _ _ _ st2 fun b _ o e=>old b o (k3 b o e)
 have fY:∀ b ∈ fp,n8 (blk X N' sc s3.heap.objs.size s3 (upd H2 s2.heap.objs.size (.lst [])) fp) (X.pn++pins) (upd H2 s2.heap.objs.size (.lst [])) b:=fun b hb=>by
  obtain⟨g0,g1,g2,g3,g4,g5⟩:=f3 b hb;refine⟨g0,Nat.ne_of_lt (lt3 b hb),fun z=>(List.mem_cons.mp (I3.Br b z)).elim g1 g2,.inl hb,fun x c e=>?_,fun p hp=>g5 p (by have hp':p ∈ ([]:List (Addr × Obj))++(X.pn++pins):=hp;simpa using hp')⟩
  rcases vM (fun y hy e=>I3.ok.has y.1 (B.fr y hy e)) e with z | z
  · exact g4 x c z
  · simp at z
 have loop:codeAny (model X.prog X.w) X.A (.compLoop (.ListComp elt (⟨tg,iter,ifs,0⟩::gs) sc pos) 0 (.ref it) (.ref s2.heap.objs.size) (blk X N' sc s3.heap.objs.size s3 (upd H2 s2.heap.objs.size (.lst [])) fp).env)
  (compPost (model X.prog X.w) X.A E use QQ (.ref s2.heap.objs.size) s3.heap.objs.size) { s3 with heap:=h₁,toks:=s3.toks+([]:List (Str × Value)).length }:=by
  refine codeAny_mono (Rq (Y:=blk X N' sc s3.heap.objs.size s3 (upd H2 s2.heap.objs.size (.lst [])) fp) hx hc ht T hg hif hin IY stY fY (hl _ hD)) fun r s' hr=>?_
  cases r with
  | error e=>exact False.elim hr
  | ok fl=>
    obtain⟨H',IY',q⟩:=hr;have fin:=hend s2.heap.objs.size _ s3 s' _ H' fp _ _ rfl I3 f3 IY' q
    cases use with
    | none=>exact fin
    | some u=>exact fin
 exact Kw (g:=⟨tg,iter,ifs,0⟩) rfl rfl loop (T.self _ 0 _ _ _ stY loop)
def IW(B:uQ X N' sc nt idx)(hc:X.calm=true)(hi:PI X tg iter wi)(O:BL X N' sc elt tg iter ifs gs pos g tif tin)(hs:∀ x,foldedSetIterable iter X.env x=pure x:=by intro _;rfl):
    PE X (.ListComp elt (⟨tg,iter,ifs,0⟩::gs) sc pos) (M5 nt idx wi g tif tin):=by
 intro pins s σ H Q I h;rw[eval_ListComp]
 refine wpAny_comprehension_free (use:=none) (cl:=j0 X.env.cells sc.names []) rfl hs (ur fun y hy e=>I.ok.has y.1 (B.fr y hy e)) B.kind B.loc
  (Od B hc hi O I h (fun _ _ z=>z) fun D C s3 s' H3 H' fp GJ σY hC I3 f3 IY q=>?_)
 subst hC;obtain⟨m,hn,_⟩:=IY.loc;exact⟨m,hn,fun h' hs'=>⟨.ref D,H',Oc I3 f3 IY hs',rfl,q⟩⟩
def Rr{i:Nat}{y:Str}{py spos:Pos}(hN:X.N.Nodup)(hi':X.N[i]? =some y)(hy:Loc X.env.scope y)(B:uQ X N' sc nt idx)(hc:X.calm=true)(hi:PI X tg iter wi)(O:BL X N' sc elt tg iter ifs gs pos g tif tin)
    (hsw:swapsWith (.ListComp elt (⟨tg,iter,ifs,0⟩::gs) sc pos) (some (.Name y py)) spos.line X.env=pure true:=by rfl) (hs:∀ x,foldedSetIterable iter X.env x=pure x:=by intro _;rfl)
    (hf:X.fn y=true\/X.env.scope.names.lookup y=some .local:=by first | exact .inl rfl | exact .inr rfl | assumption):
    PS X (.Assign [.Name y py] (.ListComp elt (⟨tg,iter,ifs,0⟩::gs) sc pos) spos) (S_ (M5 nt idx wi g tif tin) (MF i)):=by
 intro pins s σ H D0 I h;rw[exec_Assign_Name_used _ _ _ _ hsw];refine aO (wpAny_standAt (aO ?_));show wpAny _ X.A (do let _ <- comprehension (.ListComp elt (⟨tg,iter,ifs,0⟩::gs) sc pos) sc X.env _ (newList []) false (eval iter X.env) (some (assign (.Name y py) X.env))) _ _ s
 refine aO (wpAny_mono (wpAny_comprehension_free (use:=some (assign (.Name y py) X.env)) (Q:=fun _ s'=>SP X pins D0 .next s') (cl:=j0 X.env.cells sc.names []) rfl hs (ur fun y hy e=>I.ok.has y.1 (B.fr y hy e)) B.kind B.loc
  (Od B hc hi O I h (fun _ _ z=>z) fun D C s3 s' H3 H' fp GJ σY hC I3 f3 IY q=>?_)) (fun _ s' hq=>bN (bN hq)) fun _ _ e=>e)
 subst hC;obtain⟨m,hn,_⟩:=id IY.loc;obtain⟨oC,es,ep,hoC,hdC,rest⟩:=id hn;have IX:Inv X pins σ H' s':=Oc (h':=s'.heap) I3 f3 IY (Heap.SameBut.refl ..);have neL:s3.heap.objs.size ≠ X.env.locals:=Nat.ne_of_gt I3.lt;have nfs:s3.heap.objs.size ∉ X.fs:=I3.abV (aG _)
 have aes:∀ x c,X.env.cells.lookup x=some c->c ≠ s3.heap.objs.size:=fun x c e z=>by
  obtain⟨v,hv⟩:=I3.cell x c e;exact aK hv.lt (by rw[z];exact Nat.lt_irrefl _)
 have afz:s'.heap.get? s3.heap.objs.size=some oC:=hoC;have hfree:H' s3.heap.objs.size=none:=IY.free
 have IP:Inv X (pins ++ [(s3.heap.objs.size,oC)]) σ H' s':=IX.Ij fun p hp=>by
  rcases List.mem_append.mp hp with z | z
  · exact IX.pin p (List.mem_append_right _ z)
  · have e:p=(s3.heap.objs.size,oC):=by simpa using z
    subst e;exact⟨afz,hfree,neL,nfs,fun v z=>by rw[hdC]at z;cases z⟩
 show wpAny _ X.A (assign (.Name y py) X.env (.ref D)) _ _ _;refine wpAny_assign_Name (y_ IP hN hi' hy (v:=.ref D) rfl (fun s'' I''=>?_) hf);have pC:=I''.pin (s3.heap.objs.size,oC) (List.mem_append_right _ (List.mem_append_right _ (List.mem_singleton.mpr rfl)));refine⟨m,⟨oC,es,ep,pC.1,hdC,rest⟩,fun h' hs'=>?_⟩;refine⟨_,H',(I''.vH).turned (it:=s3.heap.objs.size) (h':=h') (t':=s''.toks) (fun b o hb e=>hs'.extBut b o hb e) pC.2.1 neL (.inr I3.sz) aes (fun p hp z=>?_),q⟩;have:=(I3.pin p hp).1;exact aK (cF this) (by rw[z];exact Nat.lt_irrefl _)
def TY{te:TE}(hg:∀ C s₀ H₀ fp,PG (blk X N' sc C s₀ H₀ fp) tg g)(hif:∀ C s₀ H₀ fp,PTs (blk X N' sc C s₀ H₀ fp) ifs tif)(he:∀ C s₀ H₀ fp,PE (blk X N' sc C s₀ H₀ fp) elt te):
    BL X N' sc elt tg iter ifs [] pos g tif (fun D=>GF D te):=
 ⟨fun C s₀ H₀ fp D it=>⟨_,aer elt tg iter ifs sc pos (.ref it) (.ref D) _,hg C s₀ H₀ fp,hif C s₀ H₀ fp,Rp (he C s₀ H₀ fp)⟩⟩
def Z_{tg2 cT:Expr}{jw:List Expr}{te:TE}{wi2:TI}{g2:TG}{acF:TT}(hc:X.calm=true)(hg:∀ C s₀ H₀ fp,PG (blk X N' sc C s₀ H₀ fp) tg g)(hif:∀ C s₀ H₀ fp,PTs (blk X N' sc C s₀ H₀ fp) ifs tif)
    (hi2:∀ C s₀ H₀ fp,PI (blk X N' sc C s₀ H₀ fp) tg2 cT wi2) (hg2:∀ C s₀ H₀ fp,PG (blk X N' sc C s₀ H₀ fp) tg2 g2) (Oe:∀ C s₀ H₀ fp,PTs (blk X N' sc C s₀ H₀ fp) jw acF) (he:∀ C s₀ H₀ fp,PE (blk X N' sc C s₀ H₀ fp) elt te)
    (hs:∀ C s₀ H₀ fp x,foldedSetIterable cT (blk X N' sc C s₀ H₀ fp).env x=pure x:=by intro _ _ _ _ _;rfl):
    BL X N' sc elt tg iter ifs [⟨tg2,cT,jw,0⟩] pos g tif (fun D=>V_ wi2 g2 acF (GF D te)):=by
 refine⟨fun C s₀ H₀ fp D it=>⟨_,acD elt tg iter tg2 cT ifs jw sc pos (.ref it) (.ref D) _,hg C s₀ H₀ fp,hif C s₀ H₀ fp,?_⟩⟩;have hx:NoX (blk X N' sc C s₀ H₀ fp):=fun _ _ z=>z;intro pins s σ H N I h;refine aO (thn (hi2 C s₀ H₀ fp pins s σ H _ I h) fun v s1 h1=>?_);refine aO (wpAny_standAt (aO (wpAny_of_eq (hs C s₀ H₀ fp v) ?_)));refine aO (wpAny_holding (thn h1 fun itv s2 h2=>?_));obtain⟨it2,fp2,tn2,J2,H2,e,I2,T2,st2,f2,hl2⟩:=h2;subst e;have loop:=Rq (Y:=blk X N' sc C s₀ H₀ fp) hx hc (acE elt tg iter tg2 cT ifs jw sc pos (.ref it2) (.ref D) _) T2 (hg2 C s₀ H₀ fp) (Oe C s₀ H₀ fp) (Rp (he C s₀ H₀ fp)) I2 st2 f2 hl2
 have loop':codeAny (model (blk X N' sc C s₀ H₀ fp).prog (blk X N' sc C s₀ H₀ fp).w) (blk X N' sc C s₀ H₀ fp).A (.compLoop (.ListComp elt [⟨tg,iter,ifs,0⟩,⟨tg2,cT,jw,0⟩] sc pos) 1 (.ref it2) (.ref D) (blk X N' sc C s₀ H₀ fp).env)
  (fun r s'=>match r with | .ok f=>wpAny (model (blk X N' sc C s₀ H₀ fp).prog (blk X N' sc C s₀ H₀ fp).w) (blk X N' sc C s₀ H₀ fp).A (pure ()) (fun _ s'=>∃ H',Inv (blk X N' sc C s₀ H₀ fp) pins σ H' s'/\N H') (blk X N' sc C s₀ H₀ fp).xe s' | .error e=>cameBackBy (model (blk X N' sc C s₀ H₀ fp).prog (blk X N' sc C s₀ H₀ fp).w) (blk X N' sc C s₀ H₀ fp).A (blk X N' sc C s₀ H₀ fp).env (blk X N' sc C s₀ H₀ fp).xe e s') s2:=
  codeAny_mono loop fun r s' hr=>by
   cases r with
   | error e=>exact False.elim hr
   | ok fl=>exact bN hr
 exact aO (wpAny_runOwn (h:=none) (Kw (g:=⟨tg2,cT,jw,0⟩) rfl rfl loop' (T2.self _ 0 _ _ _ st2 loop')))
end
def acG(N N':List Str)(sc osc:Scope)(nt:Nat)(idx:List Nat):Bool:=
 decide (sc.kind= .function)&&sc.names.all (fun y=>decide (y.2 ≠ .cell))&&sc.names.all (fun y=> !decide (y.2= .local)||decide (sc.names.lookup y.1=some .local)) &&
 sc.names.all (fun y=> !decide (y.2= .free)||(decide (osc.names.lookup y.1=some .cell)||decide (osc.names.lookup y.1=some .free)))&&decide (nt+idx.length=N'.length) &&
 (idx.zip (N'.drop nt)).all (fun p=>decide (N[p.1]? =some p.2)&&decide (sc.names.lookup p.2=some .free))
def iT{X:Cx}{N N':List Str}{sc osc:Scope}{nt:Nat}{idx:List Nat}(h1:X.env.scope=osc)(h2:X.N=N)(h:acG N N' sc osc nt idx=true):uQ X N' sc nt idx:=by
 unfold acG at h;simp only[Bool.and_eq_true,List.all_eq_true,decide_eq_true_eq,Bool.or_eq_true,Bool.not_eq_true',decide_eq_false_iff_not]at h;obtain⟨⟨⟨⟨⟨a,b⟩,c⟩,d⟩,e⟩,f⟩:=h;refine⟨a,b,fun y hy q=>(c y hy).resolve_left (fun z=>z q),fun y hy q=>?_,e,fun p hp=>?_⟩
 · have z:=(d y hy).resolve_left (fun z=>z q);unfold Env.kindOf;rw[h1];exact z
 · rw[h2];exact f p hp
structure Low (o u n d:Int):Prop where
 pos:0<d
 gcd:Int.gcd n d=1
 eq:n*u=o*d
 le1:n.natAbs<=o.natAbs
 le2:d.natAbs<=u.natAbs
abbrev Drawn:List Int->List Int->Prop:=Paired fun n l=>0<=n/\n<l
section
variable{X:Cx}
def Yz{bs:List Bool}:∀ {us:List Value},Vals (bs.map V.bl) us->LSm.BoolsAre us bs:=by
 induction bs with
 | nil=>intro us r;rw[List.map_nil]at r;cases r;exact .nil
 | cons b bs ih=>
   intro us r;rw[List.map_cons]at r
   cases r with
   | cons r1 r2=>
     obtain rfl:=(show _=Value.bool b from r1);exact .cons b (ih r2)
def YB(f:List Bool->Bool):List V->Hp->VK->Prop:=fun xs H Q=>∃ p bs,xs= [.ref p]/\H p=some (.lst (bs.map V.bl))/\Q (.bl (f bs)) H
def Wa(hc:X.calm=true):oH X (.builtin "all") (YB fun bs=>bs.all id):=by
 intro pins s σ H xs us Q I r h;obtain⟨p,bs,rfl,hp,q⟩:=h;obtain⟨u,rfl,ru⟩:=vals1 r;cases ru;obtain⟨_,its,n,rv,ho⟩:=(show dg X.prog X.w H s.heap p (.lst (bs.map V.bl)) from I.hok p _ hp);have hb:=Yz rv;have hl:s.heap.IsList p its.toArray:=⟨_,ho,rfl,_,rfl⟩;have hlt:p<s.heap.objs.size:=cF ho;refine call_all_walk (wpAny_pyIter_list hl ?_)
 refine⟨s.heap.objs.size,[s.heap.objs.size,p],[s.heap.objs.size],its.toArray.size,_,_,fun i=>(bs[i]?).getD true,rfl,Walks.list (A:=X.A.in1) (I.ok.hd hc) _ p (Nat.ne_of_lt hlt) its.toArray,
  ⟨⟨_,jT _ rfl,rfl,rfl⟩,hl.push _⟩,fun i v s' Q' E' hP hQ=>?_,fun h' tk hk=>?_⟩
 · obtain⟨b,e,rfl⟩:=hb.get i v (by simpa using hP);simp only[e,Option.getD_some]at hQ;exact wpAny_truthy_bool hQ
 · have e:((List.range its.toArray.size).all fun i=>(bs[i]?).getD true)=bs.all id:=by
    rw[gj,hb.length];exact LSm.range_all bs
   rw[e];exact⟨.bl _,H,I.kept (h':=h') (t':=tk) (LSm.kept_iter hk),rfl,q⟩
end
section
variable{X:Cx}{K:ao}{tg l o e:Expr}{es:List Expr}{tl to te:TE}{t:TA}{pos apos:Pos}
def afA(K:ao):List V->Hp->VK->Prop:=fun xs H Q=>∃ p ys,xs= [.ref p]/\(SqL K H p ys\/SqT K H p ys)/\Q (.int ys.length) H
end
def Rt{K:ao}{a:Addr}{xs:List V}{g:TG}{tif:TT}{tin:TN}{σ:St}{H:Hp}{Q:Hp->Prop}(Pv:Nat->Hp->Prop)(h0:Pv 0 H)(hl:∀ i H,i<=xs.length->Pv i H->SqL K H a xs)
    (hs:∀ i x H,xs[i]? =some x->Pv i H->g x σ H fun σ2 H2=>Wk σ σ2/\tif σ2 H2 fun b H3=>if b=true then tin σ2 H3 (Pv (i+1)) else Pv (i+1) H3) (hd:∀ H,Pv xs.length H->Q H):GD (Itl K a) g tif tin σ H Q:=by
 refine⟨fun i m H=>m=xs.length - i/\i<=xs.length/\Pv i H,⟨xs.length,by simp,Nat.zero_le _,h0⟩,?_⟩;rintro i m H ⟨rfl,hi,p⟩;have q:=hl i H hi p
 by_cases hlt:i<xs.length
 · refine .inr ⟨⟨xs,xs[i],q,by simp[hlt]⟩,Pv (i+1),fun H' p'=>⟨xs.length - (i+1),by omega,rfl,hlt,p'⟩,fun x H' y=>?_⟩;obtain⟨e,y⟩:=y;subst e;exact hs i x _ (y xs q) p
 · have e:i=xs.length:=by omega
   subst e;exact .inl ⟨⟨xs,q,aG _⟩,hd H p⟩
example (a b v:V):Wk (sgb 1 [0,1] [some a,some b]) ((sgb 1 [0,1] [some a,some b]).set 0 (some v)):=⟨rfl,rfl,trivial⟩
def Kp(fs:List Addr)(g h:Heap):Prop:=∀ b o,g.get? b=some o->(b ∉ fs->h.get? b=some o)/\(b ∈ fs->∃ sl,h.get? b=some { o with slots:=sl })
def Kp.of_keeps{fs:List Addr}{g h:Heap}(k:∀ b o,g.get? b=some o->h.get? b=some o):Kp fs g h:=fun b o e=>⟨fun _=>k b o e,fun _=>⟨o.slots,k b o e⟩⟩
def Fly(g:Heap)(fl:Value)(e:Addr)(cls:Value)(d:Option Addr)(a0:Value)(h:Heap):Prop:=
 g.get? e=none/\∃ oe vs T oT ts,h.get? e=some oe/\oe.cls=cls/\oe.dict=d/\oe.data= .fields vs/\vs[0]? =some a0/\vs[1]? =some (.ref T)/\T ≠ e/\g.get? T=none/\h.get? T=some oT/\oT.data= .fields ts/\ts[3]? =some fl
section
variable{M:Model}{A:Around}{E:Value->aj->Prop}{s:aj}{base g:Heap}{env:Env}{outer:List Env}{L e:Addr}{a0:Value}
def Ky{oe:Obj}{vs:Array Value}{head:Value}{hadNext:Bool}{Q:Unit->aj->Prop}(hfr:A.frames=some (env::outer))(hl:s.heap.FunFrames base (env::outer))(hf:env.frame=some L)
    (he:s.heap.get? e=some oe) (hd:oe.data= .fields vs) (hsz:1<vs.size)
    (h:∀ h' T oT ts,(∀ b o,s.heap.get? b=some o->b ≠ e->(b ∉ frs (env::outer)->h'.get? b=some o)/\∃ sl,h'.get? b=some { o with slots:=sl })->s.heap.get? T=none->
      h'.get? e=some (Obj.mapFields (·.setIfInBounds 1 (.ref T)) oe)->h'.get? T=some oT->oT.data= .fields ts->ts[3]? =some (rawInt L)->Q () { s with heap:=h' }):
    wpAny M A (do let a <- frameOf env;let pl <- entryPlaceOf L hadNext;let b <- EntryCells.newEntry head a .none (rawInt L) .none pl;setField (.ref e) 1 b) Q E s:=by
 have hene:e ∉ (env::outer).filterMap (·.frame):=fun hm=>by
  obtain⟨_,o,ho,hnf⟩:=hl.mem hm;rw[he]at ho;cases ho;exact hnf vs hd
 refine aO (wpAny_frameOf_fun hfr hl hf fun h1 hs1=>?_);refine aO (wpAny_entryPlaceOf fun pl hpl=>?_);unfold EntryCells.newEntry newFields;refine aO (wpAny_newObj_type ?_ (hpl.sizeOk5 _ _ _ _ _));have he1:h1.get? e=some oe:=(hs1.2.1 e hene).trans he;refine wpAny_setField (dJ _ he1) hd hsz ?_;have hTe:h1.objs.size ≠ e:=Nat.ne_of_gt (cF he1);refine h _ h1.objs.size _ _ (fun b o hb hbe=>?_) ?_ ?_ ((Heap.get?_update_other _ _ hTe.symm).trans (jT h1 rfl)) rfl ?_
 · have up:∀ o',h1.get? b=some o'->((h1.push { cls:=.type "traceback",dict:=none,data:=.fields ([head,.ref L,.none,rawInt L,.none]++(if pl.isEmpty then List.replicate 6 Value.none else pl)).toArray }).update e (Obj.mapFields (·.setIfInBounds 1 (Value.ref h1.objs.size)))).get? b=some o':=fun o' q=>by
    rw[Heap.get?_update_other _ _ hbe.symm];exact dJ _ q
   refine⟨fun hn=>up o ((hs1.2.1 b hn).trans hb),?_⟩;obtain⟨sl,q⟩:=hs1.2.2 b o hb;exact⟨sl,up _ q⟩
 · cases q:s.heap.get? h1.objs.size with
   | none=>rfl
   | some o=>
     obtain⟨sl,q'⟩:=hs1.2.2 _ o q;exact aK (cF q') (Nat.lt_irrefl _)
 · exact Heap.get?_update_self _ (dJ _ he1) (Obj.isFreed_of_fields (Obj.data_mapFields hd _))
 · first
    | (simp;done)
    | (rcases hpl with rfl | ⟨_,_,_,_,_,_,_,rfl⟩ <;> simp)
def yF(f:Array Value->Array Value)(o:Obj):(Obj.mapFields f o).dict=o.dict:=by
 obtain⟨c,d,dt,sl⟩:=o;cases dt <;> rfl
def T3{oe:Obj}{vs:Array Value}{Q:Unit->aj->Prop}(hfr:A.frames=some (env::outer))(hl:s.heap.FunFrames base (env::outer))(hf:env.frame=some L)
    (he:s.heap.get? e=some oe) (hd:oe.data= .fields vs) (h0:vs[0]? =some a0) (h1:vs[1]? =some .none) (hg:g.get? e=none) (hgs:Kp (frs (env::outer)) g s.heap)
    (h:∀ h',Kp (frs (env::outer)) g h'->Fly g (rawInt L) e oe.cls oe.dict a0 h'->Q () { s with heap:=h' }):wpAny M A (noteFrame (.ref e) env) Q E s:=by
 unfold noteFrame;simp only[hf];refine aO (wpAny_field he hd h1 ?_);rw[aA (by decide)];have sz:=(Array.getElem?_eq_some_iff.mp h1).1;refine Ky hfr hl hf he hd sz fun h' T oT ts k kT ke kt kd k3=>h h' (fun b o q=>?_) ⟨hg,_,_,T,oT,ts,ke,Obj.cls_mapFields _ _,yF _ _,Obj.data_mapFields hd _,by rw[Array.getElem?_setIfInBounds_ne (by decide)];exact h0,by simp[sz],fun z=>?_,?_,kt,kd,k3⟩
 · have hbe:b ≠ e:=fun z=>by rw[z,hg]at q;cases q
   refine⟨fun hb=>(k b o ((hgs b o q).1 hb) hbe).1 hb,fun hb=>?_⟩;obtain⟨sl,q1⟩:=(hgs b o q).2 hb;obtain⟨sl2,q2⟩:=(k b _ q1 hbe).2;exact⟨sl2,q2⟩
 · rw[z,he]at kT;cases kT
 · cases q:g.get? T with
   | none=>rfl
   | some o=>
     exfalso
     by_cases hb:T ∈ frs (env::outer)
     · obtain⟨sl,q1⟩:=(hgs T o q).2 hb;rw[kT]at q1;cases q1
     · have q1:=(hgs T o q).1 hb;rw[kT]at q1;cases q1
def Kz{cls:Value}{d:Option Addr}{Q:Unit->aj->Prop}(hfr:A.frames=some (env::outer))(hl:s.heap.FunFrames base (env::outer))(hf:env.frame=some L)
    (hF:Fly g .none e cls d a0 s.heap) (hgs:Kp (frs (env::outer)) g s.heap)
    (h:∀ h',Kp (frs (env::outer)) g h'->Fly g (rawInt L) e cls d a0 h'->Q () { s with heap:=h' }):wpAny M A (noteFrame (.ref e) env) Q E s:=by
 obtain⟨hg,oe,vs,T,oT,ts,he,hc,hdd,hd,h0,h1,hTe,hgT,hT,hdT,h3⟩:=hF;subst hc hdd;unfold noteFrame;simp only[hf];refine aO (wpAny_field he hd h1 ?_);rw[aB (show(Value.ref T != Value.none)=true from by simp)];refine aO (wpAny_field hT hdT h3 ?_);rw[aA (show ¬ ((Value.none==rawInt L)=true) from by simp[rawInt])];refine aO (wpAny_setField hT hdT (Array.getElem?_eq_some_iff.mp h3).1 ?_);have other:∀ b,b ≠ T->(s.heap.update T (Obj.mapFields (·.setIfInBounds 3 Value.none))).get? b=s.heap.get? b:=fun b hb=>Heap.get?_update_other _ _ (Ne.symm hb);have sz:=(Array.getElem?_eq_some_iff.mp h1).1;have GK:(s.heap.update T (Obj.mapFields (·.setIfInBounds 3 Value.none))).FunFrames base (env::outer):=hl.of_keeps fun b o hb hnf=>⟨o,(other b fun q=>by rw[q,hT]at hb;cases hb;exact hnf ts hdT).trans hb,rfl⟩;refine Ky hfr GK hf ((other e (Ne.symm hTe)).trans he) hd sz fun h' T2 oT2 ts2 k kT ke kt kd k3=>h h' (fun b o q=>?_) ⟨hg,_,_,T2,oT2,ts2,ke,Obj.cls_mapFields _ _,yF _ _,Obj.data_mapFields hd _,by rw[Array.getElem?_setIfInBounds_ne (by decide)];exact h0,by simp[sz],fun z=>?_,?_,kt,kd,k3⟩
 · have hbe:b ≠ e:=fun z=>by rw[z,hg]at q;cases q
   have hbT:b ≠ T:=fun z=>by rw[z,hgT]at q;cases q
   refine⟨fun hb=>(k b o ((other b hbT).trans ((hgs b o q).1 hb)) hbe).1 hb,fun hb=>?_⟩;obtain⟨sl,q1⟩:=(hgs b o q).2 hb;obtain⟨sl2,q2⟩:=(k b _ ((other b hbT).trans q1) hbe).2;exact⟨sl2,q2⟩
 · rw[z,other e (Ne.symm hTe),he]at kT;cases kT
 · cases q:g.get? T2 with
   | none=>rfl
   | some o=>
     exfalso;have hbT:T2 ≠ T:=fun z=>by rw[z,hgT]at q;cases q
     rw[other _ hbT]at kT
     by_cases hb:T2 ∈ frs (env::outer)
     · obtain⟨sl,q1⟩:=(hgs T2 o q).2 hb;rw[kT]at q1;cases q1
     · have q1:=(hgs T2 o q).1 hb;rw[kT]at q1;cases q1
def zy{fs:List Addr}{cls fl:Value}{d:Option Addr}{Q:Unit->aj->Prop}(hF:Fly g fl e cls d a0 s.heap)(hgs:Kp fs g s.heap)
    (h:∀ h',Kp fs g h'->Fly g .none e cls d a0 h'->Q () { s with heap:=h' }):wpAny M A (setFlight (.ref e) none) Q E s:=by
 obtain⟨hg,oe,vs,T,oT,ts,he,hc,hdd,hd,h0,h1,hTe,hgT,hT,hdT,h3⟩:=hF;have sz:=(Array.getElem?_eq_some_iff.mp h3).1;have other:∀ b,b ≠ T->(s.heap.update T (Obj.mapFields (·.setIfInBounds 3 ((none:Option Addr).elim Value.none fun f=>rawInt f)))).get? b=s.heap.get? b:=fun b hb=>Heap.get?_update_other _ _ (Ne.symm hb);unfold setFlight;refine aO (wpAny_field he hd h1 ?_);rw[aB (show(Value.ref T != Value.none)=true from by simp)];refine wpAny_setField hT hdT sz (h _ (fun b o q=>?_) ?_)
 · have hbT:b ≠ T:=fun z=>by rw[z,hgT]at q;cases q
   exact⟨fun hb=>(other b hbT).trans ((hgs b o q).1 hb),fun hb=>let ⟨sl,q1⟩:=(hgs b o q).2 hb;⟨sl,(other b hbT).trans q1⟩⟩
 · exact⟨hg,oe,vs,T,_,_,(other e (Ne.symm hTe)).trans he,hc,hdd,hd,h0,h1,hTe,hgT,Heap.get?_update_self _ hT (Obj.isFreed_of_fields (Obj.data_mapFields hdT _)),Obj.data_mapFields hdT _,by simp[sz]⟩
def Q0{oe:Obj}{vs:Array Value}{Q:Unit->aj->Prop}(hfr:A.frames=some (env::outer))(hl:s.heap.FunFrames base (env::outer))(hf:env.frame=some L)
    (he:s.heap.get? e=some oe) (hd:oe.data= .fields vs) (h0:vs[0]? =some a0) (h1:vs[1]? =some .none) (hg:g.get? e=none) (hgs:Kp (frs (env::outer)) g s.heap)
    (h:∀ h',Kp (frs (env::outer)) g h'->Fly g .none e oe.cls oe.dict a0 h'->Q () { s with heap:=h' }):wpAny M A (leaving env (.ref e)) Q E s:=by
 unfold leaving;exact aO (T3 hfr hl hf he hd h0 h1 hg hgs fun h' k F=>zy (s:={ s with heap:=h' }) F k fun h'' k2 F2=>h h'' k2 F2)
def T4{cls:Value}{d:Option Addr}{Q:Unit->aj->Prop}(hfr:A.frames=some (env::outer))(hl:s.heap.FunFrames base (env::outer))(hf:env.frame=some L)
    (hF:Fly g .none e cls d a0 s.heap) (hgs:Kp (frs (env::outer)) g s.heap)
    (h:∀ h',Kp (frs (env::outer)) g h'->Fly g .none e cls d a0 h'->Q () { s with heap:=h' }):wpAny M A (leaving env (.ref e)) Q E s:=by
 unfold leaving;exact aO (Kz hfr hl hf hF hgs fun h' k F=>zy (s:={ s with heap:=h' }) F k fun h'' k2 F2=>h h'' k2 F2)
end
structure Ord (bm:List Value):Prop where
 v:bm.contains (.type "ValueError")=true
 b:bm.contains (.type "BaseException")=true
 a:bm.contains (.type "AttributeError")=false
 n:bm.contains (.type "NameError")=false
def Ord.cv{bm:List Value}(T:Ord bm)(C:Addr):(Value.ref C::bm).contains (.type "ValueError")=true:=by rw[List.contains_cons,T.v,Bool.or_true]
def Ord.cb{bm:List Value}(T:Ord bm)(C:Addr):(Value.ref C::bm).contains (.type "BaseException")=true:=by rw[List.contains_cons,T.b,Bool.or_true]
def Ord.ca{bm:List Value}(T:Ord bm)(C:Addr):(Value.ref C::bm).contains (.type "AttributeError")=false:=by rw[List.contains_cons,T.a];rfl
def Ord.cn{bm:List Value}(T:Ord bm)(C:Addr):(Value.ref C::bm).contains (.type "NameError")=false:=by rw[List.contains_cons,T.n];rfl
abbrev VF:=PySem.F.excBase_ValueError
abbrev jx(C t:Addr)(d:Option Addr):Obj:={ cls:=.ref C,dict:=d,data:=.fields #[.ref t,.none,.none,.none,.bool false,.none] }
section
variable{prog:Program}{w:World}{A:Around}{E:Value->aj->Prop}{h:Heap}{g:Array GenState}{d:PySem.Drawn}{t:Nat}{os:OsState}
variable{nm q:Str}{C N:Addr}{bs bm:List Value}{hdct:Bool}{sn:List Str}{sub:List Value}{ab:Bool}{col:Option Bool}{dd:Option Addr}{k0 k1 k2 k3 k5:Option Value}
def acH{R:Result->aj->Prop}{rest:List Value}(T:Ord bm)(hC:h.get? C=some (excClassObj nm q C N bs bm hdct sn sub ab col dd k0 k1 k2 k3 k5 "ValueError.__new__"))
    (hq:R (.ok (.ret (.ref (h.objs.size+1)))) ⟨(h.push { cls:=.type "tuple",data:=.seq rest.toArray }).push (jx C h.objs.size none),g,d,t,os⟩) (hrest:rest.length<=sizeLine:=by size_fits):
    codeAny (model prog w) A (.builtin "ValueError.__new__" ⟨.ref C::rest,[]⟩) R ⟨h,g,d,t,os⟩:=by
 have hends:=VF.ends;have c1:=T.cv C;have c2:=T.ca C;have c3:=T.cn C;refine codeAny_builtinAt VF.entry ?_;unfold Builtin.«BaseException.__new__»;refine PySem.wpAt_bind ?_;show PySem.wpAt _ _ _ (stack >>= _) _ _ _;refine PySem.wpAt_bind (PySem.wpAt_stack fun p below=>PySem.wpAt_of_wpAny ?_)
 wp_walk
 refine PySem.wpAt_of_wpAny ?_;rw[VF.owner]
 repeat (first | with_reducible refine wpAny_madeHere_exc VF.canon hC ?_ | with_reducible refine wpAny_loadPart_at hC ?_ | (with_reducible refine wpAny_isSubtype_exc hC ?_;first | rw[c1] | rw[c2] | rw[c3]) | wp_step)
 show R _ _;rw[Heap.size_push];exact hq
def YC{M:Model}{rest:List Value}{Q:Unit->aj->Prop}(T:Ord bm)(hC:h.get? C=some (excClassObj nm q C N bs bm hdct sn sub ab col dd k0 k1 k2 k3 k5 "ValueError.__new__"))
    (hq:Q () ⟨h,g,d,t,os⟩):wpAny M A (checkBuiltinCall "ValueError.__new__" ⟨.ref C::rest,[]⟩) Q E ⟨h,g,d,t,os⟩:=by
 have c1:=T.cv C;have hstar:=VF.noStar;simp only[checkBuiltinCall,VF.newKind,VF.newSplit,VF.newRow]
 repeat (first | refine wpAny_loadPart_at hC ?_ | (refine wpAny_isSubtype_exc hC ?_;rw[c1]) | refine wpAny_staticBase_exc hC ?_ | refine wpAny_madeBy_exc hC ?_ | simp only[bne_self_eq_false,Bool.false_eq_true,if_false] | wp_step)
 exact hq
def aaW{rest:List Value}{fI:Addr}{Q:Value->aj->Prop}(T:Ord bm)(hC:h.get? C=some (excClassObj nm q C N bs bm hdct sn sub ab col dd k0 k1 k2 k3 k5 "ValueError.__new__"))
    (hi:PySem.W.Looks (model prog w) h (typeLookup (.ref C) "__init__") (some (.ref fI))) (hb:∀ self,PySem.W.Looks (model prog w) h (bindSpecial (.ref fI) self) (.ref fI,[self]))
    (hq:wpAny (model prog w) (A.under (.builtin "type.__call__" ⟨.ref C::rest,[]⟩)) (call (.ref fI) (.ref (h.objs.size+1)::rest)) (fun r s'=>r= .none/\Q (.ref (h.objs.size+1)) s') E
      ⟨(h.push { cls:=.type "tuple",data:=.seq rest.toArray }).push (jx C h.objs.size none),g,d,t,os⟩) (hrest:rest.length<=sizeLine:=by size_fits):
    wpAny (model prog w) A (call (.ref C) rest) Q E ⟨h,g,d,t,os⟩:=by
 have f1:=tc_lookup;have f2:=tc_bind (.ref C);have hT:(⟨h,g,d,t,os⟩:aj).TypeIs (.ref C) "type":=⟨_,hC,rfl⟩;refine wpAny_call (codeAny_of_tree ?_);show wpAny _ _ (callAny (.ref C) _) _ _ _
 repeat (any_goals (first | assumption | with_reducible refine wpAny_loadPart_at hC ?_ | wp_step))
 refine⟨rfl,?_⟩;refine codeAny_call_builtin_at (Code.quiet_builtin _ (by decide +kernel)) entry_typeCall (wpAny_check_type_call_sub hC ?_)
 repeat (first | with_reducible refine wpAny_loadPart_at hC ?_ | with_reducible refine wpAny_madeBy_exc hC ?_ | wp_step)
 refine codeAny_call_builtin_code (Code.quiet_builtin _ VF.quiet) (YC T hC ?_);refine acH T hC ?_ hrest;show wpAny _ _ _ _ _ _;have k:∀ b o,h.get? b=some o->((h.push { cls:=.type "tuple",data:=.seq rest.toArray }).push (jx C h.objs.size none)).get? b=some o:=fun b o e=>dJ _ (dJ _ e);have hC1:=k _ _ hC;have hget:((h.push { cls:=.type "tuple",data:=.seq rest.toArray }).push (jx C h.objs.size none)).get? (h.objs.size+1)=some (jx C h.objs.size none):=by heap_get
 have hcC:(Value.ref C::bm).contains (.ref C)=true:=by simp
 unfold isInstance
 repeat (first | with_reducible refine wpAny_loadPart_at hget ?_ | wp_step)
 show wpAny _ _ (isSubtype (.ref C) (.ref C)) _ _ _;refine wpAny_isSubtype_exc hC1 ?_;rw[hcC]
 repeat (first | with_reducible refine wpAny_loadPart_at hget ?_ | wp_step)
 show wpAny _ _ (typeLookup (.ref C) _) _ _ _;refine(hi.keeps k).here ?_;refine wpAny_holding (aO (((hb _).keeps k).here ?_));refine aO (wpAny_mono hq (fun r s' hr=>?_) fun _ _ x=>x);obtain⟨rfl,hQ⟩:=hr
 wp_walk
 exact hQ
end
end L2
namespace L2
open PySem PySem.Spec PySem.SeqAt PyProof.Rows
open PySem.Builtin.ObjectAttr
abbrev bmV:List Value:=[.type "ValueError",.type "Exception",.type "BaseException",.type "object"]
def T5(self:Value):refuseLoop self "__setattr__" bmV=pure ():=by
 kernel_rfl
def GP(self:Value):∀ as:List Addr,refuseLoop self "__setattr__" (as.map Value.ref++bmV)=pure ()
 | []=>T5 self
 | c::r=>by rw[List.map_cons,List.cons_append,refuseLoop_ref];exact GP self r
def Ru:∀ as:List Addr,(as.map Value.ref++bmV).contains (.type "object")=true
 | []=>by decide
 | c::r=>by rw[List.map_cons,List.cons_append,List.contains_cons,Ru r,Bool.or_true]
section
variable{prog:Program}{w:World}{A:Around}{E:Value->aj->Prop}{s:aj}{K:ao}{C e t:Addr}{v:Value}{name:Str}{cd:ClassData}{as:List Addr}
def aaX{Q:Unit->aj->Prop}(X:K.In s.heap)(hx:s.heap.get? e=some (jx C t none))(hc:PySem.W.clsIn K C=some cd)(hm:cd.mro=as.map Value.ref++bmV)(hd:cd.hasDict=true)
    (hs:PySem.W.findIn K (.ref C) "__setattr__" =some (some (.builtin "object.__setattr__"))) (ht:PySem.W.findIn K (.ref C) name=some none)
    (h:∀ h' dx,s.heap.get? dx=none->h'.Ns1 dx (fun y=>if y=name then some v else none)->h'.get? e=some (jx C t (some dx))->(∀ b o,b ≠ e->s.heap.get? b=some o->h'.get? b=some o)->Q () { s with heap:=h',toks:=s.toks+2 }):
    wpAny (model prog w) A (setAttr (.ref e) name v) Q E s:=by
 have SF:=PySem.F.store_object;have J:PySem.W.InstAt s.heap e (jx C t none) C none:=⟨hx,rfl,rfl,trivial⟩;have J1:PySem.W.InstAt ({ s with toks:=s.toks+1 }:aj).heap e (jx C t none) C none:=J;have ne:cd.mro.isEmpty=false:=by rw[hm];cases as <;> rfl
 have sub:PySem.W.Looks (model prog w) s.heap (isInstance (.ref e) (.type "object")) true:=J.type.andThen (PySem.W.looks_mroIn X (by unfold PySem.W.mroIn;rw[hc,Option.bind_some,aA (by rw[ne];decide),hm,Ru as]));refine PySem.W.set_plain X J hs ?_;refine codeAny_call_builtin SF.slot.plain SF.entry (@PySem.W.check_slot (model prog w) _ _ { s with toks:=s.toks+1 } "object.__setattr__" "object" "__setattr__" (.ref e) [.str name s.toks,v] [] _ SF.kind SF.split sub (SF.args (.ref e) (.str name s.toks) v) ?_);have hmro:PySem.W.Looks (model prog w) s.heap (mroOf (.ref C)) cd.mro:=(PySem.W.looks_clsIn X hc).andThen .now;rw[PySem.W.osa_eq,refuse_eq];refine aO (aO (J1.type.here (aO (PySem.W.Looks.here (s:={ s with toks:=s.toks+1 }) hmro ?_))));rw[hm,GP];refine bN (aO (J1.type.here (aO (PySem.W.Looks.here (s:={ s with toks:=s.toks+1 }) (PySem.W.looks_findIn X ht) (aO (bN ?_))))));show wpAny _ _ (storeInOwnDict (.ref e) (.ref C) (.str name s.toks) name v false) _ _ _;refine aO (bN (aO ?_));show wpAny _ _ (instanceDict e true) _ _ _;unfold instanceDict;refine aO (wpAny_loadPart (s:={ s with toks:=s.toks+1 }) hx (aO (PySem.W.Looks.here (s:={ s with toks:=s.toks+1 }) (PySem.W.looks_clsIn X hc) ?_)));rw[hd];show wpAny _ _ (alloc { cls:=.type "dict",data:=.dict #[] } >>= fun d=>update e (fun o=>{ o with dict:=some d }) >>= fun _=>dictMade (.ref C) e d) _ _ _;refine aO (wpAny_alloc (aO (wpAny_update (o:=jx C t none) (dJ _ hx) (bN ?_))));have hlt:e<s.heap.objs.size:=cF hx;have hE:((s.heap.push PySem.W.emptyDict).update e (fun o=>{ o with dict:=some s.heap.objs.size })).get? e=some (jx C t (some s.heap.objs.size)):=Heap.get?_update_self _ (dJ _ hx) rfl;have hD:((s.heap.push PySem.W.emptyDict).update e (fun o=>{ o with dict:=some s.heap.objs.size })).get? s.heap.objs.size=some PySem.W.emptyDict:=(Heap.get?_update_other _ _ (Nat.ne_of_lt hlt)).trans (jT _ rfl)
 have hn:((s.heap.push PySem.W.emptyDict).update e (fun o=>{ o with dict:=some s.heap.objs.size })).Ns1 s.heap.objs.size (fun _=>none):=
  Heap.Ns1.of_empty ⟨PySem.W.emptyDict,#[],_,hD,rfl,(fun e he=>aK he (by simp)),fun _=>rfl⟩
 show wpAny _ _ (storeInDict s.heap.objs.size (.str name s.toks) name v) _ _ _;refine aO (bN (aO ?_));refine wpAny_nsSet1 (s:={ s with heap:=(s.heap.push PySem.W.emptyDict).update e (fun o=>{ o with dict:=some s.heap.objs.size }),toks:=s.toks+1 }) hn fun h' hn2 hs2=>?_;obtain⟨oD,esD,epD,hoD,hdD,hcD⟩:=hn2.count (PySem.Within.cons name v (ns:=[]) (fun _ z=>aK rfl z));refine aO (wpAny_lookBehind hoD (by rw[hdD];exact pastItsLine_dict (Nat.le_trans hcD (by show 1<=sizeLine+1;exact Nat.le_add_left 1 _))) ?_);refine bN (h h' s.heap.objs.size (Heap.get?_none_of_le (aG _)) hn2 ((hs2.2 _ (Nat.ne_of_lt hlt)).trans hE) fun b o hb q=>?_);refine(hs2.2 b (Nat.ne_of_lt (cF q))).trans ((Heap.get?_update_other _ _ (Ne.symm hb)).trans (dJ _ q))
end
section
variable{prog:Program}{w:World}{A:Around}{E:Value->aj->Prop}{h:Heap}{g:Array GenState}{d:PySem.Drawn}{t:Nat}{os:OsState}
variable{nm q:Str}{C N e ta:Addr}{bs bm:List Value}{hdct:Bool}{sn:List Str}{sub:List Value}{ab:Bool}{col:Option Bool}{dd od:Option Addr}{k0 k1 k2 k3 k5:Option Value}
def init_exc{rest:List Value}{Q:Value->aj->Prop}(T:Ord bm)(hC:h.get? C=some (excClassObj nm q C N bs bm hdct sn sub ab col dd k0 k1 k2 k3 k5 "ValueError.__new__"))(he:h.get? e=some (jx C ta od))
    (hq:∀ h',h'.get? e=some (jx C h.objs.size od)->(∀ b o,b ≠ e->h.get? b=some o->h'.get? b=some o)->Q .none ⟨h',g,d,t,os⟩) (hrest:rest.length<=sizeLine:=by size_fits):
    wpAny (model prog w) A (call (.builtin "ValueError.__init__") (.ref e::rest)) Q E ⟨h,g,d,t,os⟩:=by
 have c1:=T.cv C;have hstar:=VF.noStar;refine wpAny_call (codeAny_call_builtin VF.init.plain VF.initEntry ?_);simp only[checkBuiltinCall,VF.initKind,VF.initSplit,VF.initRow];have hcls:(jx C ta od).cls= .ref C:=rfl
 repeat (first | (with_reducible refine wpAny_loadPart_at he ?_;rw[hcls]) | with_reducible refine wpAny_loadPart_at hC ?_ | (with_reducible refine wpAny_isSubtype_exc hC ?_;rw[c1]) | wp_step)
 refine wpAny_onRaise ?_
 rw[show ∀(a b:String) (n:Nat),Bind.check ⟨.positional,"*","ValueError",.self,[⟨"args",.varPos,false⟩]⟩ a b n (List.map (fun x=>x.fst) ({ pos:=Value.ref e::rest }:Args).kw)=pure () from
  fun a b n=>check_star_args _ _ _ _ _ _]
 refine bN ?_;have hlt:=cF he
 wp_walk
 refine hq _ (Heap.get?_update_self _ (dJ _ he) rfl) fun b o hb z=>?_;exact(Heap.get?_update_other _ _ (Ne.symm hb)).trans (dJ _ z)
end
end L2
namespace L2
open PySem PySem.Spec PySem.SeqAt PyProof.Rows
section
variable{prog:Program}{w:World}{A:Around}{E:Value->aj->Prop}{h:Heap}{g:Array GenState}{d:PySem.Drawn}{t:Nat}{os:OsState}
variable{nm q:Str}{C N e dx:Addr}{bs bm:List Value}{hdct:Bool}{sn:List Str}{sub:List Value}{ab:Bool}{col:Option Bool}{dd:Option Addr}{k0 k1 k2 k3 k5:Option Value}{K:ao}{cd:ClassData}
def aaY{name:Str}{v:Value}{oe:Obj}{mA:Str->Option Value}{expr:Bool}{Q:Value->aj->Prop}(X:K.In h)(T:Ord bm)(hC:h.get? C=some (excClassObj nm q C N bs bm hdct sn sub ab col dd k0 k1 k2 k3 k5 "ValueError.__new__"))
    (g1:PySem.W.findIn K (.ref C) "__getattribute__" =some (some (.builtin "BaseException.__getattribute__"))) (g2:PySem.W.findIn K (.ref C) "__getattr__" =some none) (g3:PySem.W.findIn K (.ref C) name=some none)
    (hcls:PySem.W.clsIn K C=some cd) (hcd:cd.hasDict=true) {vs:Array Value} (hx:h.get? e=some oe) (hc:oe.cls= .ref C) (hfd:oe.data= .fields vs) (hdi:oe.dict=some dx) (hn:h.Ns1 dx mA) (hv:mA name=some v) (hh:PySem.W.handedIn v=true)
    (hq:Q v ⟨h,g,d,t+1,os⟩):wpAny (model prog w) A (getAttr (.ref e) name expr) Q E ⟨h,g,d,t,os⟩:=by
 have FB:=PySem.F.attrBase_ValueError;have f3:=FB.ga.bind (.ref e);have L1:=PySem.W.looks_findIn (M:=model prog w) X g1;have L2:=PySem.W.looks_findIn (M:=model prog w) X g2;have L3:=PySem.W.looks_findIn (M:=model prog w) X g3;have hx0:(expr&&onTheHeap (Value.builtin "BaseException.__getattribute__"))=false:=by cases expr <;> rfl
 have hx2:(Value.builtin "BaseException.__getattribute__" == Value.builtin "object.__getattribute__")=false:=by decide +kernel
 have hx1:(onTheHeap (Value.ref C)&&Value.builtin "BaseException.__getattribute__" == Value.builtin "object.__getattribute__")=false:=by rw[hx2];rfl
 have cb:=T.cb C;unfold getAttr
 repeat (any_goals (first | assumption | (with_reducible refine wpAny_loadPart_at hx ?_;rw[hc]) | with_reducible refine PySem.W.Looks.here L1 ?_ | with_reducible refine PySem.W.Looks.here L2 ?_ | wp_step))
 refine codeAny_call_builtin FB.ga.plain PySem.F.entry_bexc_ga ?_;have hk:builtinKind "BaseException.__getattribute__" =some .slot:=by decide +kernel
 have hsplit:splitId "BaseException.__getattribute__" =some ("BaseException","__getattribute__"):=by decide +kernel
 have ha:=PySem.F.args_bexc_ga (.ref e) (.str name t);simp only[checkBuiltinCall,hk,hsplit];refine aO ?_;unfold isInstance
 repeat (first | (with_reducible refine wpAny_loadPart_at hx ?_;rw[hc]) | (with_reducible refine wpAny_isSubtype_exc hC ?_;rw[cb]) | wp_step)
 repeat (any_goals (first | assumption | (with_reducible refine wpAny_loadPart_at hx ?_;rw[hc]) | with_reducible refine PySem.W.Looks.here L3 ?_ | wp_step))
 rw[hfd];show wpAny _ _ (instanceDict e false) _ _ _;unfold instanceDict;refine aO (wpAny_loadPart_at hx ?_);rw[hc,hdi];refine aO (PySem.W.Looks.here (PySem.W.looks_clsIn X hcls) ?_);rw[hcd];refine bN ?_;show wpAny _ _ (Builtin.ObjectAttr.inDict name (some dx)) _ _ _;unfold Builtin.ObjectAttr.inDict;refine wpAny_nsGet hn.ns ?_;rw[hv];refine aO (wpAny_rule (bN (bN ?_)));show wpAny _ _ (handedOut v) _ _ _;rw[PySem.W.handedOut_of hh];exact bN hq
end
structure Sup (H':Hp)(h0 g h:Heap):Prop where
 sub:∀ b o,g.get? b=some o->h.get? b=some o
 old:∀ b o,h.get? b=some o->((∃ o0,h0.get? b=some o0)\/∃ u,H' b=some u)->g.get? b=some o
def CXE(P:Program)(w:World):CXT:=fun outer H s E ev s'=>∃(e:Addr) (C:Value) (d:Option Addr) (a0:Value) (H':Hp) (g:Heap),ev= .ref e/\s'.os=s.os/\AllBare s'.gens/\
 Un (frs outer) [] H H' s.heap s'.heap/\HOk P w H' s'.heap/\Fly g .none e C d a0 s'.heap/\Sup H' s.heap g s'.heap/\E C d H'
def zA{P:Program}{w:World}{outer:List Env}{H:Hp}{s s':aj}{e:Value}:¬ CXE P w outer H s (fun _ _ _=>False) e s':=fun⟨_,_,_,_,_,_,_,_,_,_,_,_,_,h⟩=>h
def dg.get{P:Program}{w:World}{H:Hp}{h:Heap}{a:Addr}{o:HO}(x:dg P w H h a o):∃ ob,h.get? a=some ob:=by
 cases o with
 | lst xs=>obtain⟨_,_,_,_,e⟩:=x;exact⟨_,e⟩
 | tup xs=>obtain⟨_,_,_,ob,e,_⟩:=x;exact⟨_,e⟩
 | dK kvs=>obtain⟨_,_,_,_,o,_,_,e,_⟩:=x;exact⟨_,e⟩
 | dT kvs=>obtain⟨_,_,_,_,o,_,_,e,_⟩:=x;exact⟨_,e⟩
 | set S n=>obtain⟨o,_,_,_,e,_⟩:=x;exact⟨_,e⟩
 | ins C dx fs=>obtain⟨_,_,_,e,_⟩:=x;exact⟨_,e⟩
 | own y=>obtain⟨_,e⟩:=x;exact⟨_,e⟩
 | xd fs=>obtain⟨_,⟨_,_,_,e,_⟩,_⟩:=x;exact⟨_,e⟩
 | rng lo hi=>obtain⟨_,_,_,e⟩:=x;exact⟨_,e⟩
 | frz ob u=>obtain⟨e,_⟩:=x;exact⟨_,e⟩
 | tbl ps=>exact⟨_,(show h.get? a=some _ from x)⟩
 | met f y=>exact⟨_,(show h.get? a=some _ from x)⟩
 | ext φ=>obtain⟨_,⟨_,e⟩,_⟩:=x;exact⟨_,e⟩
def only(g h:Heap):Heap:=PySem.W.hideAll h ((List.range h.objs.size).filter fun b=>(g.get? b).isNone)
def KC{g h:Heap}{b:Addr}(hb:g.get? b=none):(only g h).get? b=none:=by
 cases q:(only g h).get? b with
 | none=>rfl
 | some o=>
   have e:h.get? b=some o:=PySem.W.of_hideAll _ q;have hm:b ∈ (List.range h.objs.size).filter fun b=>(g.get? b).isNone:=List.mem_filter.mpr ⟨List.mem_range.mpr (cF e),by rw[hb];rfl⟩;have q2:(only g h).get? b=none:=PySem.W.hideAll_none _ hm;rw[q]at q2;cases q2
def YD{g h:Heap}{b:Addr}{o o':Obj}(e:h.get? b=some o)(hb:g.get? b=some o'):(only g h).get? b=some o:=by
 refine PySem.W.hideAll_get _ e fun hm=>?_;have:=(List.mem_filter.mp hm).2;rw[hb]at this;cases this
def aaZ{g h:Heap}{b:Addr}{o:Obj}(e:(only g h).get? b=some o):h.get? b=some o:=PySem.W.of_hideAll _ e
def Fly.only{g h:Heap}{fl:Value}{e:Addr}{C:Value}{d:Option Addr}{a0:Value}(F:Fly g fl e C d a0 h):Fly (only g h) fl e C d a0 h:=by
 obtain⟨hg,oe,vs,T,oT,ts,h1,h2,h3,h4,h5,h6,h7,h8,r⟩:=F;exact⟨KC hg,oe,vs,T,oT,ts,h1,h2,h3,h4,h5,h6,h7,KC h8,r⟩
def zB{env:Env}{outer:List Env}{L:Addr}(h:env.frame=some L):frs (env::outer)=L::frs outer:=by
 unfold frs;rw[List.filterMap_cons,h]
structure Own (X:Cx):Prop where
 ex:X.ex= []
 st:X.stack=X.env::X.outer
 fr:X.env.frame=some X.env.locals
section
variable{X:Cx}{pins:List (Addr × Obj)}{σ:St}{H H':Hp}{s s':aj}{E:XK}{e:Addr}{C:Value}{d:Option Addr}{a0:Value}{g h':Heap}
def Own.frs(O:Own X):L2.frs X.stack=X.env.locals::X.fs:=by rw[O.st,zB O.fr]
def Inv.Wb(I:Inv X pins σ H s)(O:Own X){b:Addr}{o:Obj}(q:X.s₀.heap.get? b=some o):∃ o',s.heap.get? b=some o':=I.base.there b o q (by rw[O.ex];simp)
def Wc{fs:List Addr}{base h h':Heap}{l:List Env}(u:Un fs [] H H' h h')(hs:∀ b ∈ L2.frs l,b ∈ fs)(hf:∀ b ∈ L2.frs l,H b=none)(hl:h.FunFrames base l):h'.FunFrames base l:=by
 induction l with
 | nil=>trivial
 | cons env rest ih=>
   obtain⟨hk,⟨L,o,hfr,hn,ho,hd⟩,hr⟩:=hl;have hm:L ∈ L2.frs (env::rest):=by rw[zB hfr];exact qI
   obtain⟨sl,e⟩:=u.slot L o ho (hf L hm) (hs L hm) (by simp);exact⟨hk,⟨L,_,hfr,hn,e,hd⟩,ih (fun b hb=>hs b (by rw[zB hfr];exact iI _ hb)) (fun b hb=>hf b (by rw[zB hfr];exact iI _ hb)) hr⟩
def Wd(O:Own X)(I:Inv X pins σ H s)(hos:s'.os=s.os)(hb:AllBare s'.gens)(u:Un (L2.frs X.stack) [] H H' s.heap s'.heap)(ok:HOk X.prog X.w H' s'.heap)
    (sup:Sup H' X.s₀.heap g s'.heap) (k:Kp (L2.frs X.stack) g h') (F:Fly g .none e C d a0 h') (hE:E C d H'):CXE X.prog X.w X.outer X.H₀ X.s₀ E (.ref e) { s' with heap:=h' }:=by
 have b0:Un X.fs [] X.H₀ H X.s₀.heap s.heap:=by have:=I.base;rw[O.ex]at this;exact this
 have fr:=O.frs;rw[fr]at u k;have u0:Un (X.env.locals::X.fs) [] X.H₀ H' X.s₀.heap s'.heap:=(b0.mono (fun b hb=>iI _ hb) fun _ h=>h).trans u;have hL:X.s₀.heap.get? X.env.locals=none:=Heap.get?_none_of_le I.ok.above;have neL:∀ {b o},X.s₀.heap.get? b=some o->b ≠ X.env.locals:=fun q z=>by rw[z,hL]at q;cases q
 have nof:∀ b u',H' b=some u'->b ∉ X.env.locals::X.fs:=fun b u' q hm=>by
  have hm':b ∈ L2.frs X.stack:=by rw[fr];exact hm
  obtain⟨_,o,ho,_⟩:=I.stack.mem hm';rw[u.free b o ho (I.sJ b hm') (by simp)]at q;cases q
 refine⟨e,C,d,a0,H',L2.only g h',rfl,hos.trans I.os,hb,⟨fun b o q n hf _=>?_,fun b o q n hf _=>?_,u0.free,fun b o q _=>?_,u0.tups,u0.oO,u0.oR⟩,fun a o ea=>?_,F.only,⟨fun b o q=>aaZ q,fun b o q hc=>?_⟩,hE⟩
 · have hn:b ∉ X.env.locals::X.fs:=fun z=>(List.mem_cons.mp z).elim (neL q) hf;exact(k b o (sup.old b o (u0.keep b o q n hn (by simp)) (.inl ⟨o,q⟩))).1 hn
 · obtain⟨sl,q1⟩:=u0.slot b o q n (iI _ hf) (by simp);obtain⟨sl2,q2⟩:=(k b _ (sup.old b _ q1 (.inl ⟨o,q⟩))).2 (iI _ hf);exact⟨sl2,q2⟩
 · obtain⟨o',q1⟩:=u0.there b o q (by simp);have q2:=sup.old b _ q1 (.inl ⟨o,q⟩)
   by_cases hm:b ∈ X.env.locals::X.fs
   · obtain⟨sl,q3⟩:=(k b _ q2).2 hm;exact⟨_,q3⟩
   · exact⟨_,(k b _ q2).1 hm⟩
 · refine(ok a o ea).stay (fun b v hbv q=>?_) (fun _ q=>q) fun _ _ q=>q
   have tr:∃ u',H' b=some u':=by
    rcases hbv with z | z
    · exact⟨o,by rw[z];exact ea⟩
    · exact⟨_,z⟩
   obtain⟨u',z⟩:=tr;exact(k b v (sup.old b v q (.inr ⟨u',z⟩))).1 (nof b u' z)
 · have:∃ o',g.get? b=some o':=by
    rcases hc with ⟨o0,q0⟩ | ⟨u',z⟩
    · obtain⟨o',q1⟩:=u0.there b o0 q0 (by simp);exact⟨_,sup.old b _ q1 (.inl ⟨o0,q0⟩)⟩
    · obtain⟨o',q1⟩:=(ok b u' z).get;exact⟨_,sup.old b _ q1 (.inr ⟨u',z⟩)⟩
   obtain⟨o',q2⟩:=this;exact YD q q2
def Ff(X:Cx)(E:XK):Value->aj->Prop:=fun e s'=>wpAny (model X.prog X.w) X.A (leaving X.env e) (fun _ s''=>CXE X.prog X.w X.outer X.H₀ X.s₀ E e s'') (fun e' s''=>CXE X.prog X.w X.outer X.H₀ X.s₀ E e' s'') s'
def vN{E':XK}(O:Own X)(hx:X.xe=Ff X E)(hE:∀ C d H,E' C d H->E C d H):Passes (CXE X.prog X.w) X E':=by
 intro pins σ H s ev s' I h;obtain⟨e,C,d,a0,H',g,rfl,hos,hb,u,ok,F,sup,q⟩:=h;rw[hx];unfold Ff;have hfr:X.A.frames=some (X.env::X.outer):=by rw[I.ok.frames,O.st]
 have hl:s'.heap.FunFrames X.base (X.env::X.outer):=by
  have:=Wc u (fun _ h=>h) I.sJ I.stack;rw[O.st]at this;exact this
 refine T4 hfr hl O.fr F (Kp.of_keeps sup.sub) fun h' k F'=>?_;rw[<- O.st]at k;refine Wd O I hos hb u ok ⟨sup.sub,fun b o q hc=>sup.old b o q ?_⟩ k F' (hE _ _ _ q)
 rcases hc with ⟨o0,q0⟩ | z
 · exact .inl (I.Wb O q0)
 · exact .inr z
def aa0{oe:Obj}{vs:Array Value}(O:Own X)(hx:X.xe=Ff X E)(I:Inv X pins σ H s)(he:s.heap.get? e=some oe)(hd:oe.data= .fields vs)(h0:vs[0]? =some a0)(h1:vs[1]? =some .none)(hn:X.s₀.heap.get? e=none)
    (hm:Mut (H e)) (hE:E oe.cls oe.dict (fun b=>if b=e then none else H b)):X.xe (.ref e) s:=by
 rw[hx];unfold Ff;have hfr:X.A.frames=some (X.env::X.outer):=by rw[I.ok.frames,O.st]
 have hl:s.heap.FunFrames X.base (X.env::X.outer):=by have:=I.stack;rw[O.st]at this;exact this
 have ne:∀ {b u},(fun b=>if b=e then none else H b) b=some u->b ≠ e/\H b=some u:=fun {b u} q=>by
  have q':(if b=e then none else H b)=some u:=q
  by_cases z:b=e
  · rw[aB z]at q';cases q'
  · rw[aA z]at q';exact⟨z,q'⟩
 have eo:∀ {b:Addr},b ≠ e->(fun b=>if b=e then none else H b) b=H b:=fun z=>aA z;have acI:∀ b xs,H b=some (.tup xs)->b ≠ e:=fun b xs q z=>by rw[<- z,q]at hm;exact hm
 have afB:∀ b a,H b=some (.own a)->b ≠ e:=fun b a q z=>by rw[<- z,q]at hm;exact hm
 have afC:∀ b o u,H b=some (.frz o u)->b ≠ e:=fun b o u q z=>by rw[<- z,q]at hm;exact hm
 have afD:∀ b ps,H b=some (.tbl ps)->b ≠ e:=fun b ps q z=>by rw[<- z,q]at hm;exact hm
 refine Q0 (g:=PySem.W.hideAll s.heap [e]) hfr hl O.fr he hd h0 h1 (PySem.W.hideAll_none _ qI) (Kp.of_keeps fun b o q=>PySem.W.of_hideAll _ q) fun h' k F=>?_;rw[<- O.st]at k;refine Wd (H':=fun b=>if b=e then none else H b) O I rfl I.bare ⟨fun _ _ q _ _ _=>q,fun b o q _ _ _=>⟨o.slots,q⟩,fun b o _ n _=>?_,fun b o q _=>⟨o,q⟩,fun b xs q=>(eo (acI b xs q)).trans q,fun b o u q=>(eo (afC b o u q)).trans q,fun b ps q=>⟨#[],by rw[Array.append_empty];exact(eo (afD b ps q)).trans q⟩⟩ ?_ ⟨fun b o q=>PySem.W.of_hideAll _ q,fun b o q hc=>?_⟩ k F hE
 · by_cases z:b=e
   · exact aB z
   · exact(aA z).trans n
 · intro a o ea;obtain⟨z,q⟩:=ne ea;exact(I.hok a o q).stay (fun _ _ _ q=>q) (fun b q=>(eo (afB b a q)).trans q) fun b xs q=>(eo (acI b xs q)).trans q
 · refine PySem.W.hideAll_get _ q fun z=>?_;have z':b=e:=by simpa using z
   rcases hc with ⟨o0,q0⟩ | ⟨u',q0⟩
   · rw[z',hn]at q0;cases q0
   · exact(ne q0).1 z'
end
def XO(e C:Addr)(d:Option Addr):HO:=.ext fun h=>∃ t,h.get? e=some (jx C t d)
def T6{P:Program}{w:World}{H:Hp}{h:Heap}{e C t:Addr}{d:Option Addr}(q:h.get? e=some (jx C t d)):dg P w H h e (XO e C d):=
 ⟨⟨t,q⟩,⟨_,q⟩,fun h1 h2 ⟨t',q'⟩ k=>⟨t',k _ q'⟩⟩
def T7{P:Program}{w:World}{H:Hp}{h:Heap}{e C:Addr}{d:Option Addr}(ok:HOk P w H h)(q:H e=some (XO e C d)):∃ t,h.get? e=some (jx C t d):=(ok e _ q).1
def YF{H:Hp}{a:Addr}{o:HO}(h:H a=some o):upd H a o=H:=by
 funext b;unfold upd;split
 · rename_i e;rw[e,h]
 · rfl
def vq:∀ as:List Addr,Ord (as.map Value.ref++bmV)
 | []=>⟨by decide,by decide,by decide,by decide⟩
 | c::r=>by
   obtain⟨a,b,c',d⟩:=vq r;exact⟨by rw[List.map_cons,List.cons_append,List.contains_cons,a,Bool.or_true],by rw[List.map_cons,List.cons_append,List.contains_cons,b,Bool.or_true],by rw[List.map_cons,List.cons_append,List.contains_cons,c'];rfl,by rw[List.map_cons,List.cons_append,List.contains_cons,d];rfl⟩
structure mD (K:ao)(C:Addr):Prop where
 obj:∃(nm q:Str) (N:Addr) (bs:List Value) (as:List Addr) (sn:List Str) (sub:List Value) (ab:Bool) (col:Option Bool) (dd:Option Addr) (k0 k1 k2 k3 k5:Option Value),
  K.lookup C=some (excClassObj nm q C N bs (as.map Value.ref++bmV) true sn sub ab col dd k0 k1 k2 k3 k5 "ValueError.__new__")
 afE:PySem.W.findIn K (.ref C) "__setattr__" =some (some (.builtin "object.__setattr__"))
 afF:PySem.W.findIn K (.ref C) "__getattribute__" =some (some (.builtin "BaseException.__getattribute__"))
 afG:PySem.W.findIn K (.ref C) "__getattr__" =some none
def mD.cls{K:ao}{C:Addr}(c:mD K C):∃(cd:ClassData) (as:List Addr),PySem.W.clsIn K C=some cd/\cd.mro=as.map Value.ref++bmV/\cd.hasDict=true:=by
 obtain⟨nm,q,N,bs,as,sn,sub,ab,col,dd,k0,k1,k2,k3,k5,e⟩:=c.obj;have e2:PySem.W.clsIn K C=some { name:=nm,bases:=bs,mro:=.ref C::(as.map Value.ref++bmV),ns:=N,qualname:=q,hasDict:=true,slotNames:=sn,subclasses:=sub,abstract:=ab,collection:=col,hasDel:=false }:=by unfold PySem.W.clsIn;rw[e]
 exact⟨_,C::as,e2,rfl,rfl⟩
structure XMk (K:ao)(C f:Addr):Prop where
 cls:mD K C
 init:PySem.W.findIn K (.ref C) "__init__" =some (some (.ref f))
 fn:PySem.W.typeIn K (.ref f)=some (.type "function")
 kp:PySem.W.keepIn K (.ref C)=true
section
variable{X:Cx}{pins:List (Addr × Obj)}{σ:St}{H:Hp}{s:aj}
def aet(K:ao)(ta tv:TE)(f:Str):TS:=fun D σ H=>tv σ H fun y H1=>ta σ H1 fun x H2=>∃ e C,x= .ref e/\H2 e=some (XO e C none)/\mD K C/\cY K C f/\
 ∀ dx,H2 dx=none->dx ≠ e->D.nx σ (upd (upd H2 dx (.xd [(f,y)])) e (XO e C (some dx)))
def aa1{e C:Addr}{f:Str}{y:V}{u:Value}{Q:Unit->aj->Prop}(I:Inv X pins σ H s)(he:H e=some (XO e C none))(c:mD X.K C)(n:cY X.K C f)(ry:RelV y u)
    (h:∀ dx s',H dx=none->dx ≠ e->Inv X pins σ (upd (upd H dx (.xd [(f,y)])) e (XO e C (some dx))) s'->Q () s'):wpAny (model X.prog X.w) X.A (setAttr (.ref e) f u) Q X.xe s:=by
 obtain⟨t,hx⟩:=T7 I.hok he;obtain⟨cd,as,hc,hm,hd⟩:=c.cls;refine aaX I.kIn hx hc hm hd c.afE n fun h' dx hdx hn hE k=>?_
 have hdn:H dx=none:=by
  cases q:H dx with
  | none=>rfl
  | some o=>
    obtain⟨ob,z⟩:=(I.hok dx o q).get;rw[hdx]at z;cases z
 have hde:dx ≠ e:=fun z=>by rw[z,hx]at hdx;cases hdx
 have nT:∀ b xs,H b=some (.tup xs)->b ≠ e:=fun b xs q z=>by rw[z,he]at q;cases q
 have nO:∀ b a,H b=some (.own a)->b ≠ e:=fun b a q z=>by rw[z,he]at q;cases q
 have nF:∀ b o u,H b=some (.frz o u)->b ≠ e:=fun b o u q z=>by rw[z,he]at q;cases q
 have nB:∀ b ps,H b=some (.tbl ps)->b ≠ e:=fun b ps q z=>by rw[z,he]at q;cases q
 have up:∀ {b o},H b=some o->b ≠ e->upd (upd H dx (.xd [(f,y)])) e (XO e C (some dx)) b=some o:=fun q z=>by rw[aN z,aN (cu q hdn)];exact q
 refine h dx _ hdn hde (I.un (h':=h') (t':=s.toks+2) ⟨fun b o q n _ _=>k b o (fun z=>by rw[z,he]at n;cases n) q,fun b o q n _ _=>⟨o.slots,k b o (fun z=>by rw[z,he]at n;cases n) q⟩,fun b o q n _=>?_,fun b o q _=>?_,fun b xs q=>up q (nT b xs q),fun b o u q=>up q (nF b o u q),fun b ps q=>⟨#[],by rw[Array.append_empty];exact up q (nB b ps q)⟩⟩ fun a o q=>?_)
 · have h1:b ≠ e:=fun z=>by rw[z,he]at n;cases n
   have h2:b ≠ dx:=fun z=>by rw[z,hdx]at q;cases q
   rw[aN h1,aN h2];exact n
 · by_cases z:b=e
   · subst z;exact⟨_,hE⟩
   · exact⟨o,k b o z q⟩
 · by_cases z:a=e
   · subst z;rw[aJ]at q;cases q;exact T6 hE
   · rw[aN z]at q
     by_cases z2:a=dx
     · subst z2;rw[aJ]at q;cases q;refine⟨_,hn,fun g=>?_⟩;rw[List.lookup_cons]
       by_cases hg:g=f
       · subst hg;rw[beq_self_eq_true,aB rfl];exact ry
       · rw[aA hg,show(g==f)=false by simpa using hg];trivial
     · rw[aN z2]at q;refine(I.hok a o q).stay (fun b v hb q'=>k b v ?_ q') (fun b q'=>up q' (nO b a q')) fun b xs q'=>up q' (nT b xs q')
       rcases hb with z3 | z3
       · rw[z3];exact z
       · exact nO b a z3
def aa2{o value:Expr}{f:Str}{pos pos':Pos}{ta tv:TE}(ha:PE X o ta)(hv:PE X value tv)(hs:swapsWith value (some (.Attribute o f pos')) pos.line X.env=pure false:=by rfl):
    PS X (.Assign [.Attribute o f pos'] value pos) (aet X.K ta tv f):=by
 intro pins s σ H D I h;refine plainObj_wpAny_Assign_Attribute (thn (hv pins s σ H _ I h) fun u s1 ⟨y,H1,I1,ry,q1⟩=>thn (ha pins s1 σ H1 _ I1 q1) fun ov s2 ⟨x,H2,I2,rx,e,C,ex,he,c,n,q2⟩=>?_) hs;subst ex;obtain rfl:ov=Value.ref e:=rx;exact aa1 I2 he c n ry fun dx s' h1 h2 I3=>⟨σ,_,I3,q2 dx h1 h2⟩
def acJ(K:ao)(t:TA):TE:=fun σ H Q=>t σ H fun vs H1=>∃ e C d y,vs= [.ref e,y]/\H1 e=some (XO e C d)/\mD K C/\Q .non H1
def YG{e C:Addr}{d:Option Addr}{us:List Value}{Q:Value->aj->Prop}(I:Inv X pins σ H s)(he:H e=some (XO e C d))(c:mD X.K C)(hl:us.length<=sizeLine)
    (h:∀ s',Inv X pins σ H s'->Q .none s'):wpAny (model X.prog X.w) X.A (call (.builtin "ValueError.__init__") (.ref e::us)) Q X.xe s:=by
 obtain⟨t,hx⟩:=T7 I.hok he;obtain⟨nm,q,N,bs,as,sn,sub,ab,col,dd,k0,k1,k2,k3,k5,lk⟩:=c.obj;have hC:=I.kIn _ _ lk;obtain⟨hp,g,dr,tk,os⟩:=s;refine init_exc (vq as) hC hx (fun h' hE k=>?_) hl;have I2:=I.write (x:=e) (e:=e) (o:=XO e C d) (h':=h') (t':=tk) (by rw[he];trivial) (.inl rfl) (fun b u hb q=>k b u hb q) ⟨_,hE⟩ (T6 hE);rw[YF he]at I2;exact h _ I2
def YH{p apos pos:Pos}{a b:Expr}{t:TA}(hg:Gl X "ValueError")(hm:X.mg "ValueError" =none)(ha:PA X [a,b] t)
    (hst:starEach [a,b] X.env=(false,eval a X.env)::starEach [b] X.env:=by rfl) (hpl:(backTo pos (starEach [b] X.env)).any (·.1)=false:=by rfl) (hl:(2:Nat)<=sizeLine:=by decide) {pl:Sem Bool}
    (ht:eval (.Call (.Attribute (.Name "ValueError" p) "__init__" apos) [a,b] [] pos) X.env=(do
      let ov <- eval (.Name "ValueError" p) X.env
      standAt apos.atName
      let (f,first) <- holding [ov] (getMethod ov "__init__" pl)
      callWith pos f first (backTo pos (starEach [a,b] X.env)) (backToKw pos (keywordEach [] X.env))):=by rfl):
    PE X (.Call (.Attribute (.Name "ValueError" p) "__init__" apos) [a,b] [] pos) (acJ X.K t):=by
 intro pins s σ H Q I h;obtain⟨m,F⟩:=I.fr;refine PySem.W.methodCall_KW (pl:=pl) (vG I hg hm rfl ?_) ht;refine PySem.W.method_type (K:=X.K) F I.mod.kin (v:=.builtin "ValueError.__init__") (by rfl) (by decide +kernel) (by rfl) (by rfl) ?_;refine PyProof.Rows.callWith_builtin1 (thn (ha pos pins _ σ H _ (I.tok _) h) fun us s2 ⟨vs,H2,I2,r,e,C,d,y,ev,he,c,q⟩=>?_) hst hpl;subst ev;obtain⟨u1,u2,rfl,r1,r2⟩:=vals2 r;obtain rfl:u1=Value.ref e:=r1;exact YG (us:=[u2]) I2 he c (Nat.le_trans (show 1<=2 by decide) hl) fun s' I3=>⟨.non,H2,I3,rfl,q⟩
structure CI (K:ao)(S f:Addr):Prop where
 sp:PySem.W.specialIn K (.ref S) "__getattribute__" =some (some (.builtin "type.__getattribute__"))
 rd:PySem.W.readsIn K S (.type "type")=true
 fc:PySem.W.findCls K (.ref S) (.type "type") "__init__" =some (.val (.ref f))
 hd:PySem.W.handedIn (.ref f)=true
 kp:PySem.W.keepIn K (.ref f)=true
def qU{CX:CXT}{k:Nat}{f S:Addr}{fd:aR}{ps:List Str}{sp:Sp}{E:XK}{x:Str}{p apos pos:Pos}{e:Expr}{es:List Expr}{t:TA}(c:CI X.K S f)(F:bU X.prog X.w X.K X.mg X.base CX k f fd ps sp)(hr:bZ k X.A)(hg:Gl X x)(hm:X.mg x=some (.ref S))(hb:Binds X.K fd ps [])(hx:Passes CX X E)
    (ha:PA X (e::es) t) (hdb:(x==("__debug__":Str))=false:=by decide)
    (hst:starEach (e::es) X.env=(false,eval e X.env)::starEach es X.env:=by rfl) (hpl:(backTo pos (starEach es X.env)).any (·.1)=false:=by rfl) {pl:Sem Bool}
    (ht:eval (.Call (.Attribute (.Name x p) "__init__" apos) (e::es) [] pos) X.env=(do
      let ov <- eval (.Name x p) X.env
      standAt apos.atName
      let (f,first) <- holding [ov] (getMethod ov "__init__" pl)
      callWith pos f first (backTo pos (starEach (e::es) X.env)) (backToKw pos (keywordEach [] X.env))):=by rfl):
    PE X (.Call (.Attribute (.Name x p) "__init__" apos) (e::es) [] pos) (Dq sp [] E t):=by
 intro pins s σ H Q I h;refine PySem.W.methodCall_KW (pl:=pl) (qZ I hg hm ?_ hdb) ht;refine PySem.W.method_cls I.kIn c.sp (PySem.W.cls_value I.kIn c.rd c.fc c.hd ?_);refine PySem.W.callWith_K (first:=[]) (K:=X.K) (h₀:=X.base) I.ok.mod.kin c.kp (thn (ha pos pins _ σ H _ (I.tok _) h) fun us s2 ⟨vs,H2,I2,r,q⟩=>⟨I2.kIn,?_⟩) hst hpl;exact Gr F hr hb .nil hx I2 r q
def We{CX:CXT}{k:Nat}{f C:Addr}{fd:aR}{ps:List Str}{sp:Sp}{E:XK}{us:List Value}{vs:List V}{R:Addr->Hp->Prop}(M:XMk X.K C f)(F:bU X.prog X.w X.K X.mg X.base CX k f fd ps sp)(hr:bZ (k+1) X.A)(hb:Binds X.K fd ps [])
    (hx:Passes CX X E) (I:Inv X pins σ H s) (r:Vals vs us) (hlu:us.length<=sizeLine)
    (h:∀ e,H e=none->sp (.ref e::vs) (upd H e (XO e C none)) (fun v H2=>v= .non/\R e H2) E):
    wpAny (model X.prog X.w) X.A (call (.ref C) us) (fun u s'=>∃ e H',u= .ref e/\s.heap.get? e=none/\Inv X pins σ H' s'/\R e H') X.xe s:=by
 obtain⟨nm,q,N,bs,as,sn,sub,ab,col,dd,k0,k1,k2,k3,k5,lk⟩:=M.cls.obj;have hC:=I.kIn _ _ lk;have fr:H (s.heap.objs.size+1)=none:=I.hok.fresh (Nat.le_succ _);have hq:=h (s.heap.objs.size+1) fr;have kp:∀ b o,s.heap.get? b=some o->((s.heap.push { cls:=.type "tuple",data:=.seq us.toArray }).push (jx C s.heap.objs.size none)).get? b=some o:=fun b o e=>dJ _ (dJ _ e);have hget:((s.heap.push { cls:=.type "tuple",data:=.seq us.toArray }).push (jx C s.heap.objs.size none)).get? (s.heap.objs.size+1)=some (jx C s.heap.objs.size none):=by heap_get
 have I2:Inv X pins σ (upd H (s.heap.objs.size+1) (XO (s.heap.objs.size+1) C none)) { s with heap:=(s.heap.push { cls:=.type "tuple",data:=.seq us.toArray }).push (jx C s.heap.objs.size none),toks:=s.toks }:=
  I.laid kp (Nat.le_succ _) (T6 hget)
 have r2:Vals (V.ref (s.heap.objs.size+1)::vs) (Value.ref (s.heap.objs.size+1)::us):=.cons rfl r
 have hl:(Value.ref (s.heap.objs.size+1)::us).length=ps.length:=by
  have e:=r2.length;rw[F.len _ _ _ _ hq]at e;exact e.symm
 have hbs:=hb { s with heap:=(s.heap.push { cls:=.type "tuple",data:=.seq us.toArray }).push (jx C s.heap.objs.size none),toks:=s.toks } (Value.ref (s.heap.objs.size+1)::us) I2.kIn (by rw[List.append_nil];exact hl);rw[List.append_nil]at hbs;refine aaW (h:=s.heap) (g:=s.gens) (d:=s.drawn) (t:=s.toks) (os:=s.os) (vq as) hC (PySem.W.looks_findIn I.kIn M.init) (fun self=>PySem.W.bind_fn I.kIn self M.fn) ?_ hlu;refine wpAny_call (codeAny_mono (F.run _ X.stack _ _ ⟨Value.ref (s.heap.objs.size+1)::us,[]⟩ (Value.ref (s.heap.objs.size+1)::us) _ _ E (hr.make C us []) (I2.env0.make C us []) hbs r2 hq) fun r s' hq'=>?_)
 cases r with
 | error e=>exact hx pins σ _ _ e s' I2 hq'
 | ok fl=>
   cases fl with
   | ret u=>
     obtain⟨v,H',I3,rv,ev,q3⟩:=I2.after hq';subst ev
     exact⟨rv,_,H',rfl,Heap.get?_none_of_le (Nat.le_succ _),I3,q3⟩
   | next=>exact False.elim hq'
   | brk=>exact False.elim hq'
   | cont=>exact False.elim hq'
def Q3{M:Model}{A:Around}{E:Value->aj->Prop}{s:aj}{env:Env}{C:Addr}{x:Sem Value}{Q:Flow->aj->Prop}(hh:A.handled=none)
    (h:wpAny M A x (fun v s₁=>∃(e t N:Addr) (d:Option Addr) (nm q:Str) (bs:List Value) (as:List Addr) (sn:List Str) (sub:List Value) (ab:Bool) (col:Option Bool) (dd:Option Addr) (k0 k1 k2 k3 k5:Option Value),v= .ref e/\s₁.heap.get? C=some (excClassObj nm q C N bs (as.map Value.ref++bmV) true sn sub ab col dd k0 k1 k2 k3 k5 "ValueError.__new__")/\
      s₁.heap.get? e=some (jx C t d)/\E (.ref e) s₁) E s):
    wpAny M A (raiseStmt env (some x) none) Q E s:=by
 unfold raiseStmt;refine aO (wpAny_mono h (fun v s₁ h₁=>?_) fun _ _ x=>x);obtain⟨e,t,N,d,nm,q,bs,as,sn,sub,ab,col,dd,k0,k1,k2,k3,k5,rfl,hC,he,hE⟩:=h₁;have hcB:=(vq as).cb C;obtain⟨hp,g,dr,tk,os⟩:=s₁
 repeat (first | with_reducible refine wpAny_loadPart_at he ?_ | with_reducible refine wpAny_loadPart_at hC ?_ | (with_reducible refine wpAny_isSubtype_exc hC ?_;rw[hcB]) | wp_step)
 exact wpAny_raiseNew_none hh hE
def Wf(C:Addr)(sp:Sp)(E:XK)(t:TA):TS:=fun D σ H=>t σ H fun vs H1=>vs.length<=sizeLine/\∀ e,H1 e=none->sp (.ref e::vs) (upd H1 e (XO e C none)) (fun v H2=>v= .non/\∃ d,H2 e=some (XO e C d)/\E (.ref C) d (fun b=>if b=e then none else H2 b)) E0
def YJ{k:Nat}{f C:Addr}{fd:aR}{ps:List Str}{sp:Sp}{E:XK}{us:List Value}{vs:List V}(O:Own X)(hxe:X.xe=Ff X E)(M:XMk X.K C f)(F:bU X.prog X.w X.K X.mg X.base CX0 k f fd ps sp)(hr:bZ (k+1) X.A)(hb:Binds X.K fd ps [])
    (I:Inv X pins σ H s) (r:Vals vs us) (hlu:vs.length<=sizeLine)
    (h:∀ e,H e=none->sp (.ref e::vs) (upd H e (XO e C none)) (fun v H2=>v= .non/\∃ d,H2 e=some (XO e C d)/\E (.ref C) d (fun b=>if b=e then none else H2 b)) E0):
    wpAny (model X.prog X.w) X.A (call (.ref C) us) (fun v s₁=>∃(e t N:Addr) (d:Option Addr) (nm q:Str) (bs:List Value) (as:List Addr) (sn:List Str) (sub:List Value) (ab:Bool) (col:Option Bool) (dd:Option Addr) (k0 k1 k2 k3 k5:Option Value),v= .ref e/\s₁.heap.get? C=some (excClassObj nm q C N bs (as.map Value.ref++bmV) true sn sub ab col dd k0 k1 k2 k3 k5 "ValueError.__new__")/\
     s₁.heap.get? e=some (jx C t d)/\X.xe (.ref e) s₁) X.xe s:=by
 refine thn (We M F hr hb tQ I r (by rw[<- r.length];exact hlu) h) fun u s' ⟨e,H',hu,hn,I',d,he,q⟩=>?_;obtain⟨nm,qn,N,bs,as,sn,sub,ab,col,dd,k0,k1,k2,k3,k5,lk⟩:=M.cls.obj;obtain⟨t,hx⟩:=T7 I'.hok he;refine⟨e,t,N,d,nm,qn,bs,as,sn,sub,ab,col,dd,k0,k1,k2,k3,k5,hu,I'.kIn _ _ lk,hx,?_⟩;refine aa0 (a0:=.ref t) O hxe I' hx rfl rfl rfl ?_ (by rw[he];trivial) q
 cases z:X.s₀.heap.get? e with
 | none=>rfl
 | some o=>
   obtain⟨o',z'⟩:=I.Wb O z;rw[hn]at z';cases z'
def Wg{k:Nat}{f C:Addr}{fd:aR}{ps:List Str}{sp:Sp}{E:XK}{x:Str}{p cpos pos:Pos}(O:Own X)(hxe:X.xe=Ff X E)(hc:X.calm=true)(M:XMk X.K C f)(F:bU X.prog X.w X.K X.mg X.base CX0 k f fd ps sp)(hr:bZ (k+1) X.A)(hb:Binds X.K fd ps [])
    (hg:Gl X x) (hm:X.mg x=some (.ref C)) (hdb:(x==("__debug__":Str))=false:=by decide):PS X (.Raise (some (.Call (.Name x p) [] [] cpos)) none pos) (Wf C sp E Tv):=by
 intro pins s σ H D I h;rw[arm_exec_Raise];refine aO (wpAny_standAt ?_);refine Q3 (I.ok.hd hc) (C:=C) ?_;refine aO (wpAny_mono (Q:=fun v s₁=>_) (wpAny_Call_Name_kw (qZ I hg hm (PySem.W.callWith_K0 I.kIn M.kp (YJ (us:=[]) O hxe M F hr hb I .nil h.1 h.2)) hdb)) (fun v s₁ q=>aO (wpAny_standAt (bN q))) fun _ _ z=>z)
end
def uw(K:ao)(C S:Addr):Prop:=∃ cd:ClassData,PySem.W.clsIn K C=some cd/\cd.mro.contains (.ref S)=true
def Q4{M:Model}{A:Around}{E:Value->aj->Prop}{s:aj}{K:ao}{C S e:Addr}{oe:Obj}{Q:Bool->aj->Prop}(X:K.In s.heap)(c:mD K C)(cS:mD K S)(hsub:uw K C S)
    (he:s.heap.get? e=some oe) (hcls:oe.cls= .ref C) (hq:Q true s):wpAny M A (excMatches (.ref e) (.ref S)) Q E s:=by
 obtain⟨nm,q,N,bs,as,sn,sub,ab,col,dd,k0,k1,k2,k3,k5,lk⟩:=c.obj;obtain⟨nm',q',N',bs',as',sn',sub',ab',col',dd',k0',k1',k2',k3',k5',lk'⟩:=cS.obj;have hC:=X _ _ lk;have hS:=X _ _ lk';have hcB:=(vq as').cb S
 have hcS:(Value.ref C::(as.map Value.ref++bmV)).contains (.ref S)=true:=by
  obtain⟨cd,e1,e2⟩:=hsub;unfold PySem.W.clsIn at e1;rw[lk]at e1;cases e1;exact e2
 have f:=tc_notTuple;obtain⟨h,g,d,t,os⟩:=s;unfold excMatches
 repeat (first | (with_reducible refine wpAny_loadPart_at he ?_;rw[hcls]) | with_reducible refine wpAny_loadPart_at hS ?_ | with_reducible refine wpAny_loadPart_at hC ?_ | (with_reducible refine wpAny_isSubtype_exc hS ?_;rw[hcB]) | (with_reducible refine wpAny_isSubtype_exc hC ?_;rw[hcS]) | wp_step)
 exact hq
abbrev markX(X:Cx)(e:Addr)(oe:Obj):Cx:={ X with A:=X.A.mark (some (.ref e)),calm:=false,pn:=(e,oe)::X.pn,xe:=fun _ _=>False }
abbrev xm(X:Cx)(E:Value->aj->Prop)(pn:List (Addr × Obj)):Cx:={ X with xe:=E,pn:=pn }
section
variable{X:Cx}{pins:List (Addr × Obj)}{σ:St}{H H':Hp}{s s':aj}{e:Addr}{oe:Obj}
def Cx.Ok.with{E:Value->aj->Prop}{pn:List (Addr × Obj)}(o:X.Ok):(xm X E pn).Ok:=⟨o.mod,o.kind,o.glob,o.blt,o.above,o.inj,o.has,o.cab,o.hd,o.frames,o.stk,o.exf,o.bs,o.bsz,o.uq,o.Bq,o.oU,o.frf⟩
def Cx.Ok.without{E:Value->aj->Prop}{pn:List (Addr × Obj)}(o:(xm X E pn).Ok):X.Ok:=⟨o.mod,o.kind,o.glob,o.blt,o.above,o.inj,o.has,o.cab,o.hd,o.frames,o.stk,o.exf,o.bs,o.bsz,o.uq,o.Bq,o.oU,o.frf⟩
def Cx.Ok.marked(o:X.Ok)(hf:(X.A.mark (some (.ref e))).frames=X.A.frames):(markX X e oe).Ok:=⟨o.mod,o.kind,o.glob,o.blt,o.above,o.inj,o.has,o.cab,fun z=>aK (show false=true from z) (by decide),hf.trans o.frames,o.stk,o.exf,o.bs,o.bsz,o.uq,o.Bq,o.oU,o.frf⟩
def Inv.with{E:Value->aj->Prop}(I:Inv X pins σ H s):Inv (xm X E (X.pn++pins)) [] σ H s:=⟨I.ok.with,I.os,I.bare,I.base,I.loc,I.cell,I.free,I.kI,fun p hp=>I.pin p (by simpa using hp),I.hok,I.len⟩
def Inv.without{E:Value->aj->Prop}{Gk:List (Addr × Obj)}(I:Inv (xm X E (X.pn++pins)) Gk σ H s):Inv X pins σ H s:=⟨I.ok.without,I.os,I.bare,I.base,I.loc,I.cell,I.free,I.kI,fun p hp=>I.pin p (List.mem_append_left _ hp),I.hok,I.len⟩
def Inv.marked(I:Inv X pins σ H s)(he:s.heap.get? e=some oe)(hn:H e=none)(hL:e ≠ X.env.locals)(hf:e ∉ X.fs)(hd:∀ v,oe.data ≠ .cell v):Inv (markX X e oe) pins σ H s:=⟨I.ok.marked rfl,I.os,I.bare,I.base,I.loc,I.cell,I.free,I.kI,fun p hp=>by
    have hp':p ∈ (e,oe)::(X.pn++pins):=hp
    rcases List.mem_cons.mp hp' with z | z
    · subst z;exact⟨he,hn,hL,hf,hd⟩
    · exact I.pin p z,I.hok,I.len⟩
def SP.without{E:Value->aj->Prop}{D:Ends}{f:Flow}(h:SP (xm X E (X.pn++pins)) [] D f s'):SP X pins D f s':=by
 cases f with
 | next=>obtain⟨a,b,I,q⟩:=h;exact⟨a,b,I.without,q⟩
 | brk=>obtain⟨a,b,I,q⟩:=h;exact⟨a,b,I.without,q⟩
 | cont=>obtain⟨a,b,I,q⟩:=h;exact⟨a,b,I.without,q⟩
 | ret u=>obtain⟨v,a,b,I,r,q⟩:=h;exact⟨v,a,b,I.without,r,q⟩
def aeu(K:ao)(oe:Obj)(f:Str):TE:=fun σ H Q=>∃ C dx fs v,oe.cls= .ref C/\oe.dict=some dx/\(∃ vs,oe.data= .fields vs)/\mD K C/\cY K C f/\H dx=some (.xd fs)/\fs.lookup f=some v/\Q v H
def aa3{i:Nat}{n f:Str}{p pos:Pos}(hN:X.N[i]? =some n)(hv:Vis X.env.scope n)(hb:attributeBase (.Name n p) f X.env (eval (.Name n p) X.env)=eval (.Name n p) X.env:=by rfl)(hd:(n==("__debug__":Str))=false:=by decide)(hcd:(n==("__classdict__":Str))=false:=by decide):
    PE (markX X e oe) (.Attribute (.Name n p) f pos) (fun σ H Q=>σ[i]? =some (some (.ref e))/\aeu X.K oe f σ H Q):=by
 intro pins s σ H Q I h;obtain⟨hσ,C,dx,fs,v,hc,hdx,⟨vs,hfd⟩,c,na,hH,hl,q⟩:=h;refine Rj hb (thn (Gm (X:=markX X e oe) (i:=i) hN hv hd hcd pins s σ H (fun y H1=>y= .ref e/\H1=H) I ⟨.ref e,hσ,rfl,rfl⟩) fun u s1 ⟨x,H1,I1,rx,ex,eH⟩=>?_);subst ex eH;obtain rfl:u=Value.ref e:=rx;have pe:=(I1.pin (e,oe) (by simp)).1;obtain⟨mA,hns,hrel⟩:=(show ∃ mA,s1.heap.Ns1 dx mA/\∀ f,oN (fs.lookup f) (mA f) from I1.hok dx _ hH);have hr:=hrel f;rw[hl]at hr;obtain⟨uv,hu,ru⟩:=hr.some_of;obtain⟨nm,q',N,bs,as,sn,sub,ab,col,dd,k0,k1,k2,k3,k5,lk⟩:=c.obj;have kin:X.K.In s1.heap:=I1.kIn;have hC:=kin _ _ lk;obtain⟨cd,as',h1,h2,h3⟩:=c.cls;obtain⟨hp,g,dr,tk,os⟩:=s1;exact aaY kin (vq as) hC c.afF c.afG na h1 h3 pe hc hfd hdx hns hu (Kg ru) ⟨v,H1,I1.tok _,ru,q⟩
def aev{fs:List Addr}{h h1 h2 g:Heap}{P:Program}{w:World}(u:Un fs [] H H' h h1)(ok:HOk P w H' h1)(sup:Sup H' h g h1)(k:Kp fs g h2)(nof:∀ b u',H' b=some u'->b ∉ fs):Un fs [] H H' h h2/\HOk P w H' h2:=by
 refine⟨⟨fun b o q n hf _=>?_,fun b o q n hf _=>?_,u.free,fun b o q _=>?_,u.tups,u.oO,u.oR⟩,fun a o ea=>?_⟩
 · exact(k b o (sup.old b o (u.keep b o q n hf (by simp)) (.inl ⟨o,q⟩))).1 hf
 · obtain⟨sl,q1⟩:=u.slot b o q n hf (by simp);obtain⟨sl2,q2⟩:=(k b _ (sup.old b _ q1 (.inl ⟨o,q⟩))).2 hf;exact⟨sl2,q2⟩
 · obtain⟨o',q1⟩:=u.there b o q (by simp);have q2:=sup.old b _ q1 (.inl ⟨o,q⟩)
   by_cases hm:b ∈ fs
   · obtain⟨sl,q3⟩:=(k b _ q2).2 hm;exact⟨_,q3⟩
   · exact⟨_,(k b _ q2).1 hm⟩
 · refine(ok a o ea).stay (fun b v hbv q=>?_) (fun _ q=>q) fun _ _ q=>q
   have tr:∃ u',H' b=some u':=by
    rcases hbv with z | z
    · exact⟨o,by rw[z];exact ea⟩
    · exact⟨_,z⟩
   obtain⟨u',z⟩:=tr;exact(k b v (sup.old b v q (.inr ⟨u',z⟩))).1 (nof b u' z)
def aa4{M:Model}{A:Around}{E:Value->aj->Prop}{n:Str}{pos:Pos}{Q:Unit->aj->Prop}(I:Inv X pins σ H s)(hl:X.env.scope.names.lookup n=some .local)
    (h:∀ s',Inv X pins (List.replicate X.N.length none) H s'->Q () s'):wpAny M A (do bindName X.env n .none;unbindBehindTheSuite X.env n pos) Q E s:=by
 obtain⟨m,hn,_⟩:=id I.loc;have hcls:(X.env.scope.kind == .class||(X.env.scope.kind == .module&&X.env.locals != X.env.globals))=false:=by rw[I.ok.kind];rfl
 refine wpAny_nameGoes hl hn hcls fun h' m' hn' hs=>h _ ?_;have hL:X.s₀.heap.get? X.env.locals=none:=Heap.get?_none_of_le I.ok.above;have kk:∀ b o,b ≠ X.env.locals->s.heap.get? b=some o->h'.get? b=some o:=fun b o hb q=>hs.extBut b o hb q;have nL:∀ b o,X.s₀.heap.get? b=some o->b ≠ X.env.locals:=fun b o q z=>by rw[z,hL]at q;cases q
 refine⟨I.ok,I.os,I.bare,⟨fun b o q n' hf hx=>kk b o (nL b o q) (I.base.keep b o q n' hf hx),fun b o q n' hf hx=>?_,I.base.free,fun b o q hx=>?_,I.base.tups,I.base.oO,I.base.oR⟩,⟨m',hn',fun i x v h1 h2 h3=>?_⟩,fun x c hc=>?_,I.free,I.kI,fun p hp=>?_,fun a o ea=>?_,by simp⟩
 · obtain⟨sl,q1⟩:=I.base.slot b o q n' hf hx;exact⟨sl,kk b _ (nL b o q) q1⟩
 · obtain⟨o',q1⟩:=I.base.there b o q hx;exact⟨o',kk b _ (nL b o q) q1⟩
 · rw[List.getElem?_replicate]at h2
   split at h2 <;> cases h2
 · obtain⟨v,o,ho,hd⟩:=I.cell x c hc;exact⟨v,o,kk c o (I.cne x c hc) ho,hd⟩
 · obtain⟨a,b,c,d⟩:=I.pin p hp;exact⟨kk _ _ c a,b,c,d⟩
 · refine(I.hok a o ea).stay (fun b v hb q=>kk b v (fun z=>?_) q) (fun _ q=>q) fun _ _ q=>q;have hF:=I.free
   rcases hb with z2 | z2
   · rw[<- z,z2,ea]at hF;cases hF
   · rw[<- z,z2]at hF;cases hF
def Wh(K:ao)(n i:Nat)(S:Addr)(th:Addr->Obj->TS)(rt:VK):XK:=fun C d H'=>∃ Ca,C= .ref Ca/\mD K Ca/\uw K Ca S/\
 ∀ e oe,oe.cls= .ref Ca->oe.dict=d->(∃ vs,oe.data= .fields vs)->H' e=none->th e oe { nx:=fun _ _=>False,rt:=rt } ((List.replicate n none).set i (some (.ref e))) H'
def acK{body:List Stmt}{cx:Str}{cp hpos pos:Pos}{n:Str}{i:Nat}{b₀:Stmt}{suite:List Stmt}{S:Addr}{tb:XK->TS}{th:Addr->Obj->TS}(O:Own X)(hN:X.N.Nodup)(hi:X.N[i]? =some n)(hloc:X.env.scope.names.lookup n=some .local)
    (hg:Gl X cx) (hm:X.mg cx=some (.ref S)) (cS:mD X.K S) (hs:∀ e oe,PSs (markX X e oe) (b₀::suite) (th e oe))
    (hb:∀ E' pn E,Passes (CXE X.prog X.w) (xm X E' pn) E->PSs (xm X E' pn) body (tb E)) (hdb:(cx==("__debug__":Str))=false:=by decide):
    PS X (.Try body [.ExceptHandler (some (.Name cx cp)) (some n) (b₀::suite) hpos] [] [] pos) (fun D σ H=>tb (Wh X.K X.N.length i S th D.rt) D σ H):=by
 intro pins s σ H D I h;refine wpAny_Try_except ?_
 have key:=hb (fun e s₁=>wpAny (model X.prog X.w) X.A (noteFrame e X.env) (fun _ s₂=>wpAny (model X.prog X.w) X.A (setFlight e none) (fun _ s₃=>wpAny (model X.prog X.w) X.A (handleBy e X.env [.ExceptHandler (some (.Name cx cp)) (some n) (b₀::suite) hpos]) (SP X pins D) X.xe s₃) X.xe s₂) X.xe s₁)
  (X.pn++pins) (Wh X.K X.N.length i S th D.rt) ?_ [] s σ H D I.with h
 · refine wpAny_mono key (fun f s₁ q=>?_) fun _ _ z=>z;have q':=SP.without q
   cases f with
   | next=>exact wpAny_execs_nil q'
   | brk=>exact q'
   | cont=>exact q'
   | ret u=>exact q'
 · intro Gk σ1 H1 s1 ev s2 I1' hx;have I1:Inv X pins σ1 H1 s1:=Inv.without I1';obtain⟨e,C,d,a0,H',g,rfl,hos,hbr,u,ok,F,sup,Ca,rfl,c,hsub,hth⟩:=hx;have u':Un (L2.frs X.stack) [] H1 H' s1.heap s2.heap:=u;have fr:=O.frs;have hfr:X.A.frames=some (X.env::X.outer):=by rw[I1.ok.frames,O.st]
   have hl:s2.heap.FunFrames X.base (X.env::X.outer):=by
    have:=Wc u' (fun _ h=>h) I1.sJ I1.stack;rw[O.st]at this;exact this
   have nof:∀ b u'',H' b=some u''->b ∉ L2.frs X.stack:=fun b u'' q hm'=>by
    obtain⟨_,o,ho,_⟩:=I1.stack.mem hm';rw[u'.free b o ho (I1.sJ b hm') (by simp)]at q;cases q
   have mk:∀ h2,Kp (L2.frs (X.env::X.outer)) g h2->Inv X pins σ1 H' { s2 with heap:=h2 }:=fun h2 k=>by
    rw[<- O.st]at k;obtain⟨u2,ok2⟩:=aev u' ok sup k nof;exact I1.call' (s':={ s2 with heap:=h2 }) (ch:=[]) hos u2 ok2 hbr fun b z=>aK z (by simp)
   have hge:∀ h2,Fly g .none e (.ref Ca) d a0 h2->H' e=none/\e ≠ X.env.locals/\e ∉ X.fs:=fun h2 F2=>by
    obtain⟨hg0,oe,vs,T,oT,ts,he,_⟩:=id F
    have nin:s1.heap.get? e=none:=by
     cases q:s1.heap.get? e with
     | none=>rfl
     | some o=>rw[sup.old e _ he (.inl ⟨o,q⟩)]at hg0;cases hg0
    refine⟨?_,fun z=>?_,fun z=>?_⟩
    · cases q:H' e with
      | none=>rfl
      | some o=>rw[sup.old e _ he (.inr ⟨o,q⟩)]at hg0;cases hg0
    · have:=I1.lt;obtain⟨m,⟨o,es,ep,ho,_⟩,_⟩:=I1.loc;rw[<- z,nin]at ho;cases ho
    · have hm':e ∈ L2.frs X.stack:=by rw[fr];exact iI _ z
      obtain⟨_,o,ho,_⟩:=I1.stack.mem hm';rw[nin]at ho;cases ho
   show wpAny _ X.A (noteFrame (.ref e) X.env) _ _ s2;refine Kz hfr hl O.fr F (Kp.of_keeps sup.sub) fun h1 k1 F1=>?_;refine zy (s:={ s2 with heap:=h1 }) F1 k1 fun h2 k2 F2=>?_;have I2:=mk h2 k2;obtain⟨z1,z2,z3⟩:=hge h2 F2;obtain⟨_,oe2,vs2,T2,oT2,ts2,he2,hc2,hd2,hf2,_⟩:=id F2;have ok2:(markX X e oe2).Ok:=I2.ok.marked rfl;have J2:Inv (markX X e oe2) pins σ1 H' { s2 with heap:=h2 }:=I2.marked he2 z1 z2 z3 (fun v=>by rw[hf2];nofun);refine wpAny_handleBy_cons (codeAny_handlers_test ?_) (by intro q;cases q);refine qZ (X:=markX X e oe2) J2 hg hm ?_ hdb;refine Q4 I2.kIn c cS hsub he2 hc2 ?_;refine codeAny_handlers_suite_as ?_;refine zy (s:={ s2 with heap:=h2 }) F2 k2 fun h3 k3 F3=>?_;have I3:=mk h3 k3;obtain⟨_,oe,vs,T,oT,ts,he3,hc3,hd3,hf3,_⟩:=id F3
   have J3:Inv (markX X e oe) pins (List.replicate X.N.length none) H' { s2 with heap:=h3 }:=(I3.marked he3 z1 z2 z3 (fun v=>by rw[hf3];nofun)).weak (by rw[List.length_replicate];exact I3.len.symm) fun j v q=>by
    rw[List.getElem?_replicate]at q
    split at q <;> cases q
   refine y_ (X:=markX X e oe) J3 hN hi (.inl hloc) (v:=.ref e) rfl (fun s4 J4=>?_) (.inr hloc);refine wpAny_mono (hs e oe pins s4 _ H' _ J4 (hth e oe hc3 hd3 ⟨vs,hf3⟩ z1)) (fun f s5 q=>?_) fun _ _ z=>z.elim
   cases f with
   | next=>obtain⟨_,_,_,z⟩:=q;exact z.elim
   | brk=>obtain⟨_,_,_,z⟩:=q;exact z.elim
   | cont=>obtain⟨_,_,_,z⟩:=q;exact z.elim
   | ret uv=>
     obtain⟨v,σ5,H5,J5,rv,q5⟩:=q;have I5:Inv X pins σ5 H5 s5:=⟨⟨J5.ok.mod,J5.ok.kind,J5.ok.glob,J5.ok.blt,J5.ok.above,J5.ok.inj,J5.ok.has,J5.ok.cab,I.ok.hd,I.ok.frames,J5.ok.stk,J5.ok.exf,J5.ok.bs,J5.ok.bsz,J5.ok.uq,J5.ok.Bq,J5.ok.oU,J5.ok.frf⟩,J5.os,J5.bare,J5.base,J5.loc,J5.cell,J5.free,J5.kI,fun p hp=>J5.pin p (iI _ hp),J5.hok,J5.len⟩;exact aa4 I5 hloc fun s6 I6=>⟨v,_,H5,I6,rv,q5⟩
end
section
variable{X:Cx}{pins:List (Addr × Obj)}{σ:St}{H:Hp}{s:aj}{h':Heap}
def Inv.Du{t':Nat}{ch:List Addr}(I:Inv X pins σ H s)(k:∀ b o,b ∉ ch->s.heap.get? b=some o->h'.get? b=some o)(hf:∀ b ∈ ch,n8 X pins H b):Inv X pins σ H { s with heap:=h',toks:=t' }:=by
 have nit:∀ b u,H b=some u->b ∉ ch:=fun b u e z=>by rw[(hf b z).1]at e;cases e
 refine I.step (g':=s.gens) (d':=s.drawn) (ch:=ch) (fun b hb=>?_) (fun b o _ _ hc e _=>k b o hc e) (fun b o _ _ hc e _=>⟨o.slots,k b o hc e⟩) (fun _ _ _ _ n=>n)
  (fun b o hc e=>⟨o,k b o hc e⟩) (fun _ _ e=>e) (fun _ _ _ e=>e) (fun b ps e=>⟨#[],by rw[e];simp⟩) (fun m hm=>?_) (fun b u e=>?_) I.bare
 · obtain⟨f0,f1,f2,f3,f4,f5⟩:=hf b hb;exact⟨f3,f1,f4,f5⟩
 · obtain⟨o,es,ep,ho,r⟩:=hm;exact⟨o,es,ep,k _ o (fun z=>(hf _ z).2.1 rfl) ho,r⟩
 · refine(I.hok b u e).stay (fun c v hc q=>k c v ?_ q) (fun _ q=>q) fun _ _ q=>q
   rcases hc with z | z
   · rw[z];exact nit b u e
   · exact nit c _ z
end
def Itz(K:ao)(a b:Addr):It:=
 ⟨fun i H=>∃ xs ys x y,SqL K H a xs/\SqL K H b ys/\xs[i]? =some x/\ys[i]? =some y,
  fun i H v H'=>∃ T x y,H T=none/\v= .ref T/\H'=upd H T (.tup [x,y])/\(∀ xs,SqL K H a xs->xs[i]? =some x)/\∀ ys,SqL K H b ys->ys[i]? =some y,
  fun i H=>∃ xs ys,SqL K H a xs/\SqL K H b ys/\(xs.length<=i\/ys.length<=i)⟩
def Wi{h:Heap}{a b:Addr}{o u:Obj}(e:h.get? a=some o)(f:h.get? b=some u)(d:o.cls ≠ u.cls):a ≠ b:=fun z=>by
 rw[z,f]at e;cases e;exact d rfl
structure aaa (z TI TO i1 i2 a b:Addr)(i:Nat)(h:Heap):Prop where
 hz:IsZip h z TI TO .none
 hTI:IsPair h TI (.ref i1) (.ref i2)
 hTO:∃ p q,IsPair h TO p q
 h1:h.IsListIter i1 a i
 h2:h.IsListIter i2 b i
def KD{z TI TO i1 i2 a b:Addr}{i:Nat}{h:Heap}{xs ys:Array Value}(nT:TI ≠ TO)(ni:i1 ≠ i2)(st:aaa z TI TO i1 i2 a b i h)(ha:h.IsList a xs)(hb:h.IsList b ys):ZipApart z TI TO i1 i2 a b:=by
 obtain⟨hz,hTI,⟨p,q,hTO⟩,⟨o1,e1,c1,d1⟩,⟨o2,e2,c2,d2⟩⟩:=st;obtain⟨oa,ea,ca,da⟩:=ha;obtain⟨ob,eb,cb,db⟩:=hb;have t:∀ {x y:Addr} {o u:Obj} {m n:String},h.get? x=some o->h.get? y=some u->o.cls= .type m->u.cls= .type n->m ≠ n->x ≠ y:=fun ex ey cx cy d=>Wi ex ey (by rw[cx,cy];intro z;injection z with z;exact d z)
 exact⟨t hTI hz rfl rfl (by decide),t hTO hz rfl rfl (by decide),t e1 hz c1 rfl (by decide),t e2 hz c2 rfl (by decide),nT,t hTI e1 rfl c1 (by decide),t hTI e2 rfl c2 (by decide),t hTO e1 rfl c1 (by decide),t hTO e2 rfl c2 (by decide),ni,
  t ea hz ca rfl (by decide),t ea hTO ca rfl (by decide),t ea e1 ca c1 (by decide),t ea e2 ca c2 (by decide),t eb hz cb rfl (by decide),t eb hTO cb rfl (by decide),t eb e1 cb c1 (by decide),t eb e2 cb c2 (by decide)⟩
def YK{P:Program}{w:World}{K:ao}{elts:List Expr}{kt:Nat}{tp:Pos}(a b z TI TO i1 i2:Addr)(nT:TI ≠ TO)(ni:i1 ≠ i2):Turn P w K (.Tuple elts kt tp) (Itz K a b) [z,TI,TO,i1,i2] z (fun i h=>aaa z TI TO i1 i2 a b i h) where
 mem:=by simp
 obj:=fun i h st c hc=>by
  obtain⟨hz,hTI,⟨p,q,hTO⟩,⟨o1,e1,c1,d1⟩,⟨o2,e2,c2,d2⟩⟩:=st;simp only[List.mem_cons,List.mem_nil_iff,or_false]at hc
  rcases hc with rfl | rfl | rfl | rfl | rfl
  · exact⟨_,hz,fun v z=>by cases z⟩
  · exact⟨_,hTI,fun v z=>by cases z⟩
  · exact⟨_,hTO,fun v z=>by cases z⟩
  · exact⟨_,e1,fun v z=>by rw[d1]at z;cases z⟩
  · exact⟨_,e2,fun v z=>by rw[d2]at z;cases z⟩
 keep:=fun i h h' st k=>by
  obtain⟨hz,hTI,⟨p,q,hTO⟩,h1,h2⟩:=st;exact⟨k z (by simp) _ hz,k TI (by simp) _ hTI,⟨p,q,k TO (by simp) _ hTO⟩,h1.at fun o e=>k i1 (by simp) o e,h2.at fun o e=>k i2 (by simp) o e⟩
 item:=by
  intro X hP hw hK hc i pins s σ H E I hf st hg;subst hP hw hK;obtain⟨xs,ys,x,y,hqa,hqb,hx,hy⟩:=hg;obtain⟨ia,ra,pa,za⟩:=I.list hqa;obtain⟨ib,rb,pb,zb⟩:=I.list hqb;obtain⟨u,hu,ru⟩:=ra.get hx;obtain⟨v,hv,rv⟩:=rb.get hy;have D:=KD nT ni st pa.isList pb.isList;obtain⟨hz,hTI,⟨p,q,hTO⟩,h1,h2⟩:=st;refine wpAny_pyNext_zip_item D hz hTI hTO h1 h2 pa.isList pb.isList (x:=u) (y:=v) (by simpa using hu) (by simpa using hv) fun h' a1 a2 a3 a4 a5 a6 hk=>?_;refine⟨_,rfl,wpAny_letOwnedTupleGo_zip (s:={ s with heap:=h' }) a1 fun h2' hz' sb=>?_⟩;have nTz:∀ {c:Addr} {o:Obj},s.heap.get? c=some o->c ≠ s.heap.objs.size:=fun e=>Nat.ne_of_lt (cF e);have hT2:IsPair h2' s.heap.objs.size u v:=sb.extBut _ _ (Ne.symm (nTz hz)) a5
  have I1:Inv X pins σ (upd H s.heap.objs.size (.tup [x,y])) { s with heap:=s.heap.push { cls:=.type "tuple",data:=.seq #[u,v] },toks:=s.toks }:=
   I.laid (t':=s.toks) (fun b u e=>dJ _ e) (aG _) ⟨by show 2<=sizeLine;decide,[u,v],.cons ru (.cons rv .nil),⟨_,jT _ rfl,rfl,_,rfl⟩⟩
  have fp:∀ {c:Addr} {o:Obj},s.heap.get? c=some o->n8 X pins H c->n8 X pins (upd H s.heap.objs.size (.tup [x,y])) c:=fun e ⟨f0,f⟩=>⟨by rw[aN (nTz e)];exact f0,f⟩;obtain⟨o1,e1,c1,d1⟩:=id h1;obtain⟨o2,e2,c2,d2⟩:=id h2
  have I2:Inv X pins σ (upd H s.heap.objs.size (.tup [x,y])) { s with heap:=h2',toks:=s.toks }:=Inv.Du (s:={ s with heap:=s.heap.push { cls:=.type "tuple",data:=.seq #[u,v] },toks:=s.toks }) (t':=s.toks) (ch:=[z,TO,i1,i2]) I1 (fun c o nc e=>by
   simp only[List.mem_cons,List.mem_nil_iff,or_false,not_or]at nc
   by_cases hcT:c=s.heap.objs.size
   · subst hcT;have e':(s.heap.push { cls:=.type "tuple",data:=.seq #[u,v] }).get? s.heap.objs.size=some { cls:=.type "tuple",data:=.seq #[u,v] }:=jT _ rfl;rw[e']at e;cases e;exact hT2
   · have e':s.heap.get? c=some o:=by
      have e1:(s.heap.push { cls:=.type "tuple",data:=.seq #[u,v] }).get? c=some o:=e;rw[Heap.get?_push_ne _ _ _ hcT]at e1;exact e1
     exact sb.extBut _ _ nc.1 (hk c o nc.1 nc.2.1 nc.2.2.1 nc.2.2.2 e')) (fun c hc=>by
   simp only[List.mem_cons,List.mem_nil_iff,or_false]at hc
   rcases hc with rfl | rfl | rfl | rfl
   · exact fp hz (hf _ (by simp))
   · exact fp hTO (hf _ (by simp))
   · exact fp e1 (hf _ (by simp))
   · exact fp e2 (hf _ (by simp)))
  refine⟨.ref s.heap.objs.size,_,I2,rfl,⟨_,x,y,I.hok.fresh (aG _),rfl,rfl,fun zs hzs=>by rw[I.zf hzs hqa];exact hx,fun zs hzs=>by rw[I.zf hzs hqb];exact hy⟩,
   ⟨hz',sb.extBut _ _ D.TIz (hk _ _ D.TIz D.TITO D.TIi1 D.TIi2 hTI),⟨_,_,sb.extBut _ _ D.TOz a2⟩,a3.extBut sb.extBut D.i1z,a4.extBut sb.extBut D.i2z⟩,fun c hc=>?_⟩
  have g:∃ o,s.heap.get? c=some o:=by
   simp only[List.mem_cons,List.mem_nil_iff,or_false]at hc
   rcases hc with rfl | rfl | rfl | rfl | rfl
   · exact⟨_,hz⟩
   · exact⟨_,hTI⟩
   · exact⟨_,hTO⟩
   · exact⟨_,e1⟩
   · exact⟨_,e2⟩
  obtain⟨o,e⟩:=g;rw[aN (nTz e)];exact(hf c hc).1
 done:=by
  intro X hP hw hK hc i pins s σ H E I hf st hg;subst hP hw hK;obtain⟨xs,ys,hqa,hqb,hl⟩:=hg;obtain⟨ia,ra,pa,za⟩:=I.list hqa;obtain⟨ib,rb,pb,zb⟩:=I.list hqb;have la:=ra.length;have lb:=rb.length;have D:=KD nT ni st pa.isList pb.isList;obtain⟨hz,hTI,⟨p,q,hTO⟩,h1,h2⟩:=st;refine wpAny_pyNext_zip_end (I.ok.hd hc) D hz hTI hTO h1 h2 pa.isList pb.isList (hl.imp (fun l=>by simp;omega) fun l=>by simp;omega) fun h' hk=>⟨rfl,I.Du (t':=s.toks) (ch:=[z,TO,i1,i2]) (fun c o nc e=>?_) fun c hc=>?_⟩
  · simp only[List.mem_cons,List.mem_nil_iff,or_false,not_or]at nc;exact hk c o nc.1 nc.2.1 nc.2.2.1 nc.2.2.2 e
  · simp only[List.mem_cons,List.mem_nil_iff,or_false]at hc
    rcases hc with rfl | rfl | rfl | rfl <;> exact hf _ (by simp)
 self:=fun _ _ _ _ _ st h=>wpAny_pyIter_zip st.hz h
def acL(K:ao)(ta:TA):TI:=fun σ H R=>ta σ H fun vs H1=>∃ a b,vs= [.ref a,.ref b]/\(∃ xs,SqL K H1 a xs)/\(∃ ys,SqL K H1 b ys)/\R (Itz K a b) H1
section
variable{X:Cx}
def Wj{elts:List Expr}{kt:Nat}{tp:Pos}{a b:Expr}{ta:TA}{p pos:Pos}(hg:Gl X "zip")(hm:X.mg "zip" =none)(ha:PA X [a,b] ta)(hs:starEach [a,b] X.env= [(false,eval a X.env),(false,eval b X.env)]:=by rfl)(hs2:starEach [b] X.env= [(false,eval b X.env)]:=by rfl):
    PI X (.Tuple elts kt tp) (.Call (.Name "zip" p) [a,b] [] pos) (acL X.K ta):=by
 intro pins s σ H R I h;refine Call_ (vG I hg hm boot_zip (PyProof.Rows.callWith_type1 (thn (ha pos pins s σ H _ I h) fun us s1 ⟨vs,H1,I1,r1,q1⟩=>?_) (by rw[hs,hs2]) (by rw[hs2];rfl)));obtain⟨l1,l2,e,⟨xs,hqa⟩,⟨ys,hqb⟩,q⟩:=q1;subst e
 cases r1 with
 | cons r rr=>
   cases rr with
   | cons r' rr=>
     cases rr;cases r;cases r';obtain⟨ia,ra,pa,za⟩:=I1.list hqa;obtain⟨ib,rb,pb,zb⟩:=I1.list hqb;refine call_zip_2 pa.isList pb.isList fun h' hz hTI hTO h1 h2 hsz hk=>?_;refine wpAny_pyIter_zip hz ?_;have I2:Inv X pins σ H1 { s1 with heap:=h',toks:=s1.toks }:=I1.kept (t':=s1.toks) hk;refine⟨s1.heap.objs.size+4,[s1.heap.objs.size+4,s1.heap.objs.size+2,s1.heap.objs.size+3,s1.heap.objs.size,s1.heap.objs.size+1],_,_,H1,rfl,I2,YK l1 l2 (s1.heap.objs.size+4) (s1.heap.objs.size+2) (s1.heap.objs.size+3) s1.heap.objs.size (s1.heap.objs.size+1) (Nat.ne_of_lt (Nat.lt_succ_self (s1.heap.objs.size+2))) (Nat.ne_of_lt (Nat.lt_succ_self s1.heap.objs.size)),⟨hz,hTI,⟨_,_,hTO⟩,h1,h2⟩,fun c hc=>?_,q⟩
     have hle:s1.heap.objs.size<=c:=by
      simp only[List.mem_cons,List.mem_nil_iff,or_false]at hc
      rcases hc with rfl | rfl | rfl | rfl | rfl <;> omega
     exact I1.NB hle (I1.hok.fresh hle)
def Itd(lo:Int)(n:Nat):It:=⟨fun i _=>i<n,fun i H x H'=>H'=H/\x= .int (lo - i),fun i _=>n<=i⟩
end
def Ite(K:ao)(a:Addr):It:=
 ⟨fun i H=>∃ xs x,SqL K H a xs/\xs[i]? =some x,
  fun i H v H'=>∃ T x,H T=none/\v= .ref T/\H'=upd H T (.tup [.int i,x])/\∀ xs,SqL K H a xs->xs[i]? =some x,
  fun i H=>∃ xs,SqL K H a xs/\xs.length<=i⟩
structure Wl (e i1 a:Addr)(i:Nat)(h:Heap):Prop where
 he:∃ old,IsEnum h e i1 i old
 h1:h.IsListIter i1 a i
def T8{e i1 a:Addr}{i:Nat}{h:Heap}(st:Wl e i1 a i h):e ≠ i1:=by
 obtain⟨⟨old,he⟩,⟨o1,e1,c1,d1⟩⟩:=st;exact Wi he e1 (by rw[c1];intro z;injection z with z;exact aK z (by decide))
def Wm{P:Program}{w:World}{K:ao}{elts:List Expr}{kt:Nat}{tp:Pos}(a e i1:Addr):Turn P w K (.Tuple elts kt tp) (Ite K a) [e,i1] e (fun i h=>Wl e i1 a i h) where
 mem:=by simp
 obj:=fun i h st c hc=>by
  obtain⟨⟨old,he⟩,⟨o1,e1,c1,d1⟩⟩:=st;simp only[List.mem_cons,List.mem_nil_iff,or_false]at hc
  rcases hc with rfl | rfl
  · exact⟨_,he,fun v z=>by cases z⟩
  · exact⟨_,e1,fun v z=>by rw[d1]at z;cases z⟩
 keep:=fun i h h' st k=>by
  obtain⟨⟨old,he⟩,h1⟩:=st;exact⟨⟨old,k e (by simp) _ he⟩,h1.at fun o e=>k i1 (by simp) o e⟩
 item:=by
  intro X hP hw hK hc i pins s σ H E I hf st hg;subst hP hw hK;obtain⟨xs,x,hqa,hx⟩:=hg;obtain⟨ia,ra,pa,za⟩:=I.list hqa;obtain⟨u,hu,ru⟩:=ra.get hx;have ne:=T8 st;obtain⟨⟨old,he⟩,h1⟩:=st;obtain⟨o1,e1,c1,d1⟩:=id h1;refine wpAny_pyNext_enum_item he h1 pa.isList (x:=u) (by simpa using hu) ne fun h' a1 a2 a3 a4 hk=>?_;refine⟨_,rfl,wpAny_letOwnedTupleGo_enum (s:={ s with heap:=h',toks:=s.toks+1 }) a1 fun h2' hz' sb=>?_⟩;have nTz:∀ {c:Addr} {o:Obj},s.heap.get? c=some o->c ≠ s.heap.objs.size:=fun e=>Nat.ne_of_lt (cF e);have hT2:h2'.get? s.heap.objs.size=some { cls:=.type "tuple",data:=.seq #[.int i s.toks,u] }:=sb.extBut _ _ (Ne.symm (nTz he)) a3
  have I1:Inv X pins σ (upd H s.heap.objs.size (.tup [.int i,x])) { s with heap:=s.heap.push { cls:=.type "tuple",data:=.seq #[.int i s.toks,u] },toks:=s.toks+1 }:=
   I.laid (t':=s.toks+1) (fun b u e=>dJ _ e) (aG _) ⟨by show 2<=sizeLine;decide,[.int i s.toks,u],.cons ⟨_,rfl⟩ (.cons ru .nil),⟨_,jT _ rfl,rfl,_,rfl⟩⟩
  have fp:∀ {c:Addr} {o:Obj},s.heap.get? c=some o->n8 X pins H c->n8 X pins (upd H s.heap.objs.size (.tup [.int i,x])) c:=fun e ⟨f0,f⟩=>⟨by rw[aN (nTz e)];exact f0,f⟩
  have I2:Inv X pins σ (upd H s.heap.objs.size (.tup [.int i,x])) { s with heap:=h2',toks:=s.toks+1 }:=Inv.Du (s:={ s with heap:=s.heap.push { cls:=.type "tuple",data:=.seq #[.int i s.toks,u] },toks:=s.toks+1 }) (t':=s.toks+1) (ch:=[e,i1]) I1 (fun c o nc ec=>by
   simp only[List.mem_cons,List.mem_nil_iff,or_false,not_or]at nc
   by_cases hcT:c=s.heap.objs.size
   · subst hcT;have e':(s.heap.push { cls:=.type "tuple",data:=.seq #[.int i s.toks,u] }).get? s.heap.objs.size=some { cls:=.type "tuple",data:=.seq #[.int i s.toks,u] }:=jT _ rfl;rw[e']at ec;cases ec;exact hT2
   · have e':s.heap.get? c=some o:=by
      have e1:(s.heap.push { cls:=.type "tuple",data:=.seq #[.int i s.toks,u] }).get? c=some o:=ec;rw[Heap.get?_push_ne _ _ _ hcT]at e1;exact e1
     exact sb.extBut _ _ nc.1 (hk c o nc.1 nc.2 e')) (fun c hc=>by
   simp only[List.mem_cons,List.mem_nil_iff,or_false]at hc
   rcases hc with rfl | rfl
   · exact fp he (hf _ (by simp))
   · exact fp e1 (hf _ (by simp)))
  refine⟨.ref s.heap.objs.size,_,I2,rfl,⟨_,x,I.hok.fresh (aG _),rfl,rfl,fun zs hzs=>by rw[I.zf hzs hqa];exact hx⟩,
   ⟨⟨u,by have:((i+1:Nat):Int)=(i:Int)+1:=by omega
          rw[this];exact hz'⟩,a2.extBut sb.extBut (Ne.symm ne)⟩,fun c hc=>?_⟩
  have g:∃ o,s.heap.get? c=some o:=by
   simp only[List.mem_cons,List.mem_nil_iff,or_false]at hc
   rcases hc with rfl | rfl
   · exact⟨_,he⟩
   · exact⟨_,e1⟩
  obtain⟨o,e⟩:=g;rw[aN (nTz e)];exact(hf c hc).1
 done:=by
  intro X hP hw hK hc i pins s σ H E I hf st hg;subst hP hw hK;obtain⟨xs,hqa,hl⟩:=hg;obtain⟨ia,ra,pa,za⟩:=I.list hqa;have la:=ra.length;obtain⟨⟨old,he⟩,h1⟩:=st;refine wpAny_pyNext_enum_end (I.ok.hd hc) he h1 pa.isList (by simp;omega) fun h' hk=>⟨rfl,I.Du (t':=s.toks) (ch:=[i1]) (fun c o nc e=>?_) fun c hc=>?_⟩
  · simp only[List.mem_cons,List.mem_nil_iff,or_false]at nc;exact hk c o nc e
  · simp only[List.mem_cons,List.mem_nil_iff,or_false]at hc;subst hc;exact hf _ (by simp)
 self:=fun _ _ _ _ _ st h=>by obtain⟨old,he⟩:=st.he;exact wpAny_pyIter_enum he h
def aab(K:ao)(ta:TA):TI:=fun σ H R=>ta σ H fun vs H1=>∃ a,vs= [.ref a]/\(∃ xs,SqL K H1 a xs)/\R (Ite K a) H1
section
variable{X:Cx}
def Rv{elts:List Expr}{kt:Nat}{tp:Pos}{a:Expr}{ta:TA}{p pos:Pos}(hg:Gl X "enumerate")(hm:X.mg "enumerate" =none)(ha:PA X [a] ta)(hs:starEach [a] X.env=(false,eval a X.env)::starEach [] X.env:=by rfl)(hpl:(backTo pos (starEach [] X.env)).any (·.1)=false:=by rfl):
    PI X (.Tuple elts kt tp) (.Call (.Name "enumerate" p) [a] [] pos) (aab X.K ta):=by
 intro pins s σ H R I h;refine Call_ (vG I hg hm boot_enumerate (PyProof.Rows.callWith_type1 (thn (ha pos pins s σ H _ I h) fun us s1 ⟨vs,H1,I1,r1,q1⟩=>?_) hs hpl));obtain⟨l1,e,⟨xs,hqa⟩,q⟩:=q1;subst e
 cases r1 with
 | cons r rr=>
   cases rr;cases r;obtain⟨ia,ra,pa,za⟩:=I1.list hqa;refine call_enumerate_list pa.isList fun h' hz h1 hsz hk=>?_;refine wpAny_pyIter_enum hz ?_;have I2:Inv X pins σ H1 { s1 with heap:=h',toks:=s1.toks }:=I1.kept (t':=s1.toks) hk;refine⟨s1.heap.objs.size+1,[s1.heap.objs.size+1,s1.heap.objs.size],_,_,H1,rfl,I2,Wm l1 (s1.heap.objs.size+1) s1.heap.objs.size,⟨⟨_,hz⟩,h1⟩,fun c hc=>?_,q⟩
   have hle:s1.heap.objs.size<=c:=by
    simp only[List.mem_cons,List.mem_nil_iff,or_false]at hc
    rcases hc with rfl | rfl <;> omega
   exact I1.NB hle (I1.hok.fresh hle)
end
end L2
namespace Ev
section
inductive W where | non | bl (b:Bool) | int (i:Int) | str (c:List Nat) | ref (n:Nat)
 deriving DecidableEq
abbrev Fs:=List (List Nat × W)
inductive O where
 | tup (xs:List W) | lst (xs:List W) | ins (C:Nat) (fs:Fs) | dk (kvs:List (W × W)) | dt (kvs:List (List W × W)) | scr (ns:List Int)
 deriving DecidableEq
inductive Tr where | lf | nd (o:Option O) (l r:Tr)
def Tr.get(t:Tr):Nat->Option O:=Tr.rec (fun _=>none) (fun o _ _ gl gr k=>Nat.rec o (fun k _=>Bool.rec (gr (Nat.div k 2)) (gl (Nat.div k 2)) (Nat.beq (Nat.mod k 2) 0)) k) t
def Tr.set(d:Nat):Tr->Nat->O->Tr:=Nat.rec (fun t _ _=>t) (fun _ ih t k o=>Tr.rec
    (Nat.rec (.nd (some o) .lf .lf) (fun k _=>Bool.rec (.nd none .lf (ih .lf (Nat.div k 2) o)) (.nd none (ih .lf (Nat.div k 2) o) .lf) (Nat.beq (Nat.mod k 2) 0)) k)
    (fun x l r _ _=>Nat.rec (.nd (some o) l r) (fun k _=>Bool.rec (.nd x l (ih r (Nat.div k 2) o)) (.nd x (ih l (Nat.div k 2) o) r) (Nat.beq (Nat.mod k 2) 0)) k) t) d
inductive Hs where | mk (n:Nat) (t:Tr)
def Hs.n(h:Hs):Nat:=Hs.rec (fun n _=>n) h
def Hs.get(h:Hs)(k:Nat):Option O:=Hs.rec (fun _ t=>t.get k) h
def Hs.set(h:Hs)(k:Nat)(o:O):Hs:=Hs.rec (fun n t=>.mk n (t.set (Nat.succ k) k o)) h
def Hs.push(h:Hs)(o:O):Hs:=Hs.rec (fun n t=>.mk (Nat.add n 1) (t.set (Nat.succ n) n o)) h
inductive R (α:Type) where | ok (a:α) (h:Hs) | ex (C:Nat) (fs:Fs) (h:Hs) | no
def R.bind{α β:Type}(r:R α)(f:α->Hs->R β):R β:=R.rec (fun a h=>f a h) (fun C fs h=>.ex C fs h) .no r
def R.nox{α:Type}(r:R α):R α:=R.rec (fun a h=>.ok a h) (fun _ _ _=>.no) .no r
def W.elim{β:Type}(w:W)(z:β)(b:Bool->β)(i:Int->β)(s:List Nat->β)(r:Nat->β):β:=W.rec z b i s r w
def W.onI{β:Type}(w:W)(f:Int->R β):R β:=W.rec .no (fun _=>.no) f (fun _=>.no) (fun _=>.no) w
def W.onR{β:Type}(w:W)(f:Nat->R β):R β:=W.rec .no (fun _=>.no) (fun _=>.no) (fun _=>.no) f w
def W.onB{β:Type}(w:W)(f t:R β):R β:=W.rec .no (fun b=>Bool.rec f t b) (fun _=>.no) (fun _=>.no) (fun _=>.no) w
def ifB{β:Type}(b:Bool)(t f:β):β:=Bool.rec f t b
def lK(ws:List W)(f:W->R W):R W:=List.rec .no (fun a r _=>List.rec (f a) (fun _ _ _=>.no) r) ws
def jy(ws:List W)(f:W->W->R W):R W:=List.rec .no (fun a r _=>List.rec .no (fun b r _=>List.rec (f a b) (fun _ _ _=>.no) r) r) ws
def xX(ws:List W)(f:Int->Int->R W):R W:=jy ws fun a b=>a.onI fun i=>b.onI fun j=>f i j
abbrev Sg:=List (Option W)
inductive Fl where | nx (τ:Sg) | rt (w:W) | bk (τ:Sg) | ct (τ:Sg)
def app{α:Type}(xs ys:List α):List α:=List.rec ys (fun x _ r=>x::r) xs
def len{α:Type}(xs:List α):Nat:=List.rec 0 (fun _ _ r=>Nat.add r 1) xs
def nth{α:Type}(xs:List α):Nat->Option α:=List.rec (fun _=>none) (fun x _ ih k=>Nat.rec (some x) (fun k _=>ih k) k) xs
def drp{α:Type}(xs:List α):Nat->List α:=List.rec (fun _=>[]) (fun x r ih k=>Nat.rec (x::r) (fun k _=>ih k) k) xs
def tak{α:Type}(xs:List α):Nat->List α:=List.rec (fun _=>[]) (fun x _ ih k=>Nat.rec [] (fun k _=>x::ih k) k) xs
def setAt{α:Type}(τ:List α)(w:α):Nat->List α:=List.rec (fun _=>[]) (fun x r ih k=>Nat.rec (w::r) (fun k _=>x::ih k) k) τ
def cU(τ:Sg):Nat->Option W:=List.rec (fun _=>none) (fun x _ ih k=>Nat.rec x (fun k _=>ih k) k) τ
def codes(x:List Nat):List Nat->Bool:=List.rec (fun y=>List.rec true (fun _ _ _=>false) y) (fun a _ ih y=>List.rec false (fun b r _=>ifB (Nat.beq a b) (ih r) false) y) x
def fget(fs:Fs)(f:List Nat):Option W:=List.rec none (fun p _ r=>ifB (codes p.1 f) (some p.2) r) fs
def T9(f:List Nat)(w:W)(fs:Fs):Fs:=List.rec [(f,w)] (fun p r ih=>ifB (codes p.1 f) ((f,w)::r) (p::ih)) fs
def ieq(i j:Int):Bool:=Int.rec (fun a=>Int.rec (fun b=>Nat.beq a b) (fun _=>false) j) (fun a=>Int.rec (fun _=>false) (fun b=>Nat.beq a b) j) i
def ilt(i j:Int):Bool:=Int.rec (fun a=>Int.rec (fun b=>Nat.ble (Nat.add a 1) b) (fun _=>false) j) (fun a=>Int.rec (fun _=>true) (fun b=>Nat.ble (Nat.add b 1) a) j) i
def Opt{α β:Type}(o:Option α)(f:α->R β):R β:=Option.rec .no f o
def O.items{β:Type}(o:O)(f:List W->R β):R β:=O.rec f f (fun _ _=>.no) (fun _=>.no) (fun _=>.no) (fun _=>.no) o
def O.onL{β:Type}(o:O)(f:List W->R β):R β:=O.rec (fun _=>.no) f (fun _ _=>.no) (fun _=>.no) (fun _=>.no) (fun _=>.no) o
def O.onT{β:Type}(o:O)(f:List W->R β):R β:=O.rec f (fun _=>.no) (fun _ _=>.no) (fun _=>.no) (fun _=>.no) (fun _=>.no) o
def O.onS{β:Type}(o:O)(f:List W->R β):R β:=O.rec (fun _=>.no) f (fun _ _=>.no) (fun _=>.no) (fun _=>.no) (fun _=>.no) o
def O.onI{β:Type}(o:O)(f:Nat->Fs->R β):R β:=O.rec (fun _=>.no) (fun _=>.no) f (fun _=>.no) (fun _=>.no) (fun _=>.no) o
def Hs.at{β:Type}(h:Hs)(w:W)(f:Nat->O->R β):R β:=w.onR fun n=>Opt (h.get n) (f n)
def R.alloc(h:Hs)(o:O):R W:=.ok (.ref h.n) (h.push o)
def R.yes(b:Bool)(h:Hs):R W:=.ok (.bl b) h
inductive D where | non | bl (b:Bool) | int (i:Int) | str (c:List Nat) | lst (xs:List D) | tup (xs:List D)
def okC(c:List Nat):Bool:=List.rec true (fun x _ r=>ifB (Nat.ble (x+1) 1114112) r false) c
def n_(f:W->Option D)(xs:List W):Option (List D):=List.rec (some []) (fun x _ r=>Option.rec none (fun d=>Option.rec none (fun ds=>some (d::ds)) r) (f x)) xs
def toD(h:Hs)(n:Nat):W->Option D:=Nat.rec (fun _=>none) (fun _ ih w=>W.elim w (some .non) (fun b=>some (.bl b)) (fun i=>some (.int i)) (fun c=>ifB (okC c) (some (.str c)) none) fun k=>
 Option.rec none (fun o=>O.rec (fun xs=>Option.rec none (fun ds=>some (.tup ds)) (n_ ih xs)) (fun xs=>Option.rec none (fun ds=>some (.lst ds)) (n_ ih xs)) (fun _ _=>none) (fun _=>none) (fun _=>none) (fun _=>none) o) (h.get k)) n
def D.bools(b:Bool)(d:D):Bool:=D.casesOn d false (fun c=>Bool.rec (!c) c b) (fun _=>false) (fun _=>false) (fun _=>false) (fun _=>false)
mutual
def dY:D->D->Bool
 | .non,.non=>true
 | .bl a,.bl b=>a==b
 | .int i,.int j=>ieq i j
 | .str x,.str y=>codes x y
 | .lst xs,.lst ys=>vO xs ys
 | .tup xs,.tup ys=>vO xs ys
 | .bl a,.int j=>ieq (if a then 1 else 0) j
 | .int i,.bl b=>ieq i (if b then 1 else 0)
 | _,_=>false
def vO:List D->List D->Bool
 | [],[]=>true
 | x::xs,y::ys=>dY x y&&vO xs ys
 | _,_=>false
end
mutual
def lX:D->D->Bool
 | .non,.non=>true
 | .bl a,.bl b=>a==b
 | .int i,.int j=>ieq i j
 | .str x,.str y=>codes x y
 | .lst xs,.lst ys=>qw xs ys
 | .tup xs,.tup ys=>qw xs ys
 | _,_=>false
def qw:List D->List D->Bool
 | [],[]=>true
 | x::xs,y::ys=>lX x y&&qw xs ys
 | _,_=>false
end
def Fg(i j:Int):Int:=Int.rec (fun a=>Int.rec (fun b=>.ofNat (Nat.add a b)) (fun b=>Int.subNatNat a (Nat.add b 1)) j) (fun a=>Int.rec (fun b=>Int.subNatNat b (Nat.add a 1)) (fun b=>.negSucc (Nat.add (Nat.add a b) 1)) j) i
def T_(i j:Int):Int:=Int.rec (fun a=>Int.rec (fun b=>Bool.rec (.negSucc (Nat.sub (Nat.sub b a) 1)) (.ofNat (Nat.sub a b)) (Nat.ble b a)) (fun b=>.ofNat (Nat.add (Nat.add a b) 1)) j) (fun a=>Int.rec (fun b=>.negSucc (Nat.add a b)) (fun b=>i - .negSucc b) j) i
def fmod(i j:Int):Int:=Int.rec (fun a=>Int.rec (fun b=>.ofNat (Nat.mod a b)) (fun b=>i % .negSucc b) j) (fun a=>Int.rec (fun b=>.negSucc a % .ofNat b) (fun b=>.negSucc a % .negSucc b) j) i
structure Pr where
 f:List W->Hs->R W
def Sml(i:Int):Bool:=Int.rec (fun a=>Nat.ble (a+1) (2 ^ 4000)) (fun a=>Nat.ble (a+2) (2 ^ 4000)) i
def size(xs:List W)(k:R W):R W:=ifB (Nat.ble (len xs) 16777215) k .no
def acM(h:Hs)(a b:W):R W:=h.at a fun _ x=>h.at b fun _ y=>O.casesOn x (fun _=>.no) (fun xs=>y.onL fun ys=>size (app xs ys) (.alloc h (.lst (app xs ys)))) (fun _ _=>.no) (fun _=>.no) (fun _=>.no) (fun _=>.no)
def acN(h:Hs)(a b:W):R W:=W.elim a .no (fun _=>.no) (fun i=>b.onI fun j=>.ok (.int (Fg i j)) h) (fun _=>.no) (fun _=>acM h a b)
def acO(h:Hs)(i j:Int):R W:=.ok (.int (T_ i j)) h
def YL(xs:List W)(k:Nat):List W:=Nat.rec [] (fun _ r=>app xs r) k
def acP(h:Hs)(a:W)(k:Int):R W:=h.at a fun _ x=>x.onL fun xs=>ifB (ilt k 100000) (ifB (ilt (-100000) k) (ifB (Nat.ble (len xs) 100) (.alloc h (.lst (YL xs k.toNat))) .no) .no) .no
def acQ(h:Hs)(a b:W):R W:=b.onI fun j=>W.elim a .no (fun _=>.no) (fun i=>ifB (Sml i) (ifB (Sml j) (.ok (.int (i*j)) h) .no) .no) (fun _=>.no) (fun _=>acP h a j)
def acR(h:Hs)(i j:Int):R W:=ifB (ilt 0 j) (.ok (.int (fmod i j)) h) .no
def aac(h:Hs)(i j:Int):R W:=ifB (ilt 0 j) (ifB (Sml j) (.ok (.int (i.fdiv j)) h) .no) .no
def acS(h:Hs)(i j:Int):R W:=ifB (ilt i 1000) (ifB (ilt 0 i) (ifB (ilt 0 j) (ifB (ilt j 1000) (.ok (.int (i ^ j.toNat)) h) .no) .no) .no) .no
def afH(h:Hs)(a:W):R W:=a.onI fun i=>.ok (.int (-i)) h
def afI(h:Hs)(a:W):R W:=a.onI fun i=>.ok (.int (Int.ofNat i.natAbs)) h
def YM(h:Hs)(i j:Int):R W:=.ok (.int (ifB (ilt j i) j i)) h
def afJ(h:Hs)(i j:Int):R W:=.ok (.int (ifB (ilt i j) j i)) h
def YQ(n:Nat)(i:Int):Nat:=Int.rec (fun k=>k) (fun k=>ifB (Nat.ble (k+1) n) (n - (k+1)) n) i
def pIx(h:Hs)(a b:W):R W:=h.at a fun _ o=>o.items fun xs=>b.onI fun i=>Opt (nth xs (YQ (len xs) i)) fun w=>.ok w h
def acT(h:Hs)(a:W):R W:=h.at a fun _ o=>o.items fun xs=>.ok (.int (.ofNat (len xs))) h
def uR(w:W):Bool:=W.elim w true (fun _=>false) (fun _=>false) (fun _=>false) (fun _=>false)
def wD(h:Hs)(w:W)(f:D->R W):R W:=Opt (toD h 12 w) f
def pEq(f:Bool->Bool)(h:Hs)(a b:W):R W:=wD h a fun x=>wD h b fun y=>.yes (f (dY x y)) h
def aew(h:Hs)(a b:W):R W:=wD h a fun x=>wD h b fun y=>.yes (lX x y) h
def YS(xs:List W):Bool:=List.rec false (fun _ _ _=>true) xs
def Wn(h:Hs)(a:W):R W:=W.elim a (.yes false h) (fun b=>.yes b h) (fun i=>.yes (!ieq i 0) h) (fun _=>.no) (fun _=>h.at a fun _ o=>o.items fun xs=>.yes (YS xs) h)
def yG(h:Hs)(a b:W):R W:=h.at a fun n o=>o.onL fun xs=>size xs (.ok .non (h.set n (.lst (app xs [b]))))
def init(xs:List W):List W:=List.rec [] (fun x r ih=>List.rec [] (fun _ _ _=>x::ih) r) xs
def acU(h:Hs)(a:W):R W:=h.at a fun n o=>o.onL fun _=>.ok .non (h.set n (.lst []))
def aad(h:Hs)(a:W):R W:=h.at a fun _ o=>o.items fun xs=>.alloc h (.lst xs)
def eqF(a b:W):Option Bool:=W.elim a
 (W.elim b (some true) (fun _=>some false) (fun _=>some false) (fun _=>some false) (fun _=>none)) (fun _=>none)
 (fun i=>W.elim b (some false) (fun _=>none) (fun j=>some (ieq i j)) (fun _=>some false) (fun _=>none))
 (fun x=>W.elim b (some false) (fun _=>none) (fun _=>some false) (fun y=>some (codes x y)) (fun _=>none)) (fun _=>none)
def BP(a:W)(xs:List W):Option Bool:=List.rec (some false) (fun x _ ih=>Option.rec none (fun b=>Option.rec none (fun r=>some (ifB b true r)) ih) (eqF x a)) xs
def pIn(f:Bool->Bool)(h:Hs)(a b:W):R W:=h.at b fun _ o=>o.items fun xs=>Opt (eqF a a) fun _=>Opt (BP a xs) fun c=>.yes (f c) h
def bools(xs:List W):Option (List Bool):=List.rec (some []) (fun x _ ih=>W.elim x none (fun b=>Option.rec none (fun r=>some (b::r)) ih) (fun _=>none) (fun _=>none) (fun _=>none)) xs
def allB(xs:List Bool):Bool:=List.rec true (fun b _ r=>ifB b r false) xs
def anyB(xs:List Bool):Bool:=List.rec false (fun b _ r=>ifB b true r) xs
def YT(f:List Bool->Bool)(h:Hs)(a:W):R W:=h.at a fun _ o=>o.onL fun xs=>Opt (bools xs) fun bs=>.yes (f bs) h
def Ua(xs:List W):List W->Option Bool:=List.rec (fun ys=>some (List.rec false (fun _ _ _=>true) ys)) (fun x _ ih ys=>List.rec (some false) (fun y r _=>W.elim x none (fun _=>none) (fun i=>W.elim y none (fun _=>none) (fun j=>ifB (ieq i j) (ih r) (some (ilt i j))) (fun _=>none) (fun _=>none)) (fun _=>none) (fun _=>none)) ys) xs
def Dv(xs:List W):Bool:=List.rec true (fun x _ r=>W.elim x false (fun _=>false) (fun _=>r) (fun _=>false) (fun _=>false)) xs
def pLt(h:Hs)(a b:W):R W:=W.elim a .no (fun _=>.no) (fun i=>b.onI fun j=>.yes (ilt i j) h) (fun _=>.no) (fun _=>h.at a fun _ x=>h.at b fun _ y=>x.onT fun xs=>y.onT fun ys=>ifB (Dv xs) (ifB (Dv ys) (Opt (Ua xs ys) fun c=>.yes c h) .no) .no)
def tabOf(tb:List (List Nat × List Int))(c:List Nat):List Int:=List.rec [] (fun p _ r=>ifB (codes p.1 c) p.2 r) tb
def xY(i:Int)(xs:List Int):Bool:=List.rec false (fun x _ r=>ifB (ieq x i) true r) xs
def acV(tb:List (List Nat × List Int))(h:Hs)(a b:W):R W:=a.onI fun i=>W.elim b .no (fun _=>.no) (fun _=>.no) (fun c=>.yes (!xY i (tabOf tb c)) h) (fun _=>.no)
def jz(xs:List W):Option (List Int):=List.rec (some []) (fun x _ ih=>W.elim x none (fun _=>none) (fun i=>Option.rec none (fun r=>some (i::r)) ih) (fun _=>none) (fun _=>none)) xs
def dd(l:List Int):List Int->List Int:=List.rec (fun acc=>acc) (fun x _ ih acc=>ih (ifB (xY x acc) acc (app acc [x]))) l
def pLs(h:Hs)(a:W):R W:=h.at a fun _ o=>o.onL fun xs=>ifB (Nat.ble (len xs) 1000) (Opt (jz xs) fun ns=>.ok (.int (.ofNat (len (dd ns [])))) h) .no
def O.onD{β:Type}(o:O)(f:List (W × W)->R β):R β:=O.rec (fun _=>.no) (fun _=>.no) (fun _ _=>.no) f (fun _=>.no) (fun _=>.no) o
def jj(w:W):Bool:=W.elim w false (fun _=>false) (fun _=>true) (fun _=>true) (fun _=>false)
def keq(a b:W):Bool:=W.elim a false (fun _=>false) (fun i=>W.elim b false (fun _=>false) (fun j=>ieq i j) (fun _=>false) (fun _=>false)) (fun x=>W.elim b false (fun _=>false) (fun _=>false) (fun y=>codes x y) (fun _=>false)) (fun _=>false)
def bL(kvs:List (W × W))(k:W):Option W:=List.rec none (fun p _ r=>ifB (keq p.1 k) (some p.2) r) kvs
def GQ(h:Hs)(a b:W):R W:=h.at a fun _ o=>o.onD fun kvs=>ifB (jj b) (Opt (bL kvs b) fun w=>.ok w h) .no
def isS(o:Option W):Bool:=Option.rec false (fun _=>true) o
def lY(kvs:List (W × W))(k v:W):List (W × W):=List.rec [] (fun p _ r=>ifB (keq p.1 k) (p.1,v) p::r) kvs
def cJ(kvs:List (W × W))(k v:W):List (W × W):=ifB (isS (bL kvs k)) (lY kvs k v) (app kvs [(k,v)])
def YW(f:Bool->Bool)(h:Hs)(b a:W):R W:=h.at a fun _ o=>o.onD fun kvs=>ifB (jj b) (.yes (f (isS (bL kvs b))) h) .no
def aex(h:Hs)(ws:List W):R W:=List.rec (.alloc h (.dk [])) (fun _ _ _=>.no) ws
def Pr.add:Pr:=⟨fun ws h=>jy ws (acN h)⟩
def Pr.sub:Pr:=⟨fun ws h=>xX ws (acO h)⟩
def Pr.mul:Pr:=⟨fun ws h=>jy ws (acQ h)⟩
def Pr.fdiv:Pr:=⟨fun ws h=>xX ws (aac h)⟩
def Pr.mod:Pr:=⟨fun ws h=>xX ws (acR h)⟩
def Pr.pow:Pr:=⟨fun ws h=>xX ws (acS h)⟩
def Pr.neg:Pr:=⟨fun ws h=>lK ws (afH h)⟩
def Pr.abs:Pr:=⟨fun ws h=>lK ws (afI h)⟩
def Pr.min:Pr:=⟨fun ws h=>xX ws (YM h)⟩
def Pr.max:Pr:=⟨fun ws h=>xX ws (afJ h)⟩
def Pr.lt:Pr:=⟨fun ws h=>jy ws (pLt h)⟩
def Pr.le:Pr:=⟨fun ws h=>xX ws fun i j=>.yes (!ilt j i) h⟩
def Pr.gt:Pr:=⟨fun ws h=>xX ws fun i j=>.yes (ilt j i) h⟩
def Pr.ge:Pr:=⟨fun ws h=>xX ws fun i j=>.yes (!ilt i j) h⟩
def Pr.eq:Pr:=⟨fun ws h=>jy ws (pEq id h)⟩
def Pr.ne:Pr:=⟨fun ws h=>jy ws (pEq not h)⟩
def Pr.ix:Pr:=⟨fun ws h=>jy ws (pIx h)⟩
def Pr.len:Pr:=⟨fun ws h=>lK ws (acT h)⟩
def Pr.tup:Pr:=⟨fun ws h=>size ws (.alloc h (.tup ws))⟩
def Pr.lst:Pr:=⟨fun ws h=>size ws (.alloc h (.lst ws))⟩
def Pr.isN:Pr:=⟨fun ws h=>lK ws fun a=>.yes (uR a) h⟩
def Pr.zE:Pr:=⟨fun ws h=>lK ws fun a=>.yes (!uR a) h⟩
def Pr.BR:Pr:=⟨fun ws h=>lK ws fun a=>a.onB (.yes true h) (.yes false h)⟩
def Pr.truth:Pr:=⟨fun ws h=>lK ws (Wn h)⟩
def Pr.append:Pr:=⟨fun ws h=>jy ws (yG h)⟩
def Pr.clear:Pr:=⟨fun ws h=>lK ws (acU h)⟩
def Pr.list:Pr:=⟨fun ws h=>lK ws (aad h)⟩
def Pr.in_:Pr:=⟨fun ws h=>jy ws (pIn id h)⟩
def Pr.Ub:Pr:=⟨fun ws h=>jy ws (pIn not h)⟩
def Pr.all:Pr:=⟨fun ws h=>lK ws (YT allB h)⟩
def Pr.any:Pr:=⟨fun ws h=>lK ws (YT anyB h)⟩
def Pr.same:Pr:=⟨fun ws h=>jy ws (aew h)⟩
def Pr.tab(tb:List (List Nat × List Int)):Pr:=⟨fun ws h=>jy ws (acV tb h)⟩
def Pr.yH:Pr:=⟨fun ws h=>lK ws (pLs h)⟩
def Pr.Uc:Pr:=⟨fun ws h=>aex h ws⟩
def Pr.Og:Pr:=⟨fun ws h=>jy ws (GQ h)⟩
def Pr.din:Pr:=⟨fun ws h=>jy ws (YW id h)⟩
def dF(p:Pr)(ws:List W)(h:Hs):R W:=p.f ws h
inductive Tg where | nm (i:Nat) | tup (ts:List Tg)
inductive Iv where | lst (n:Nat) | tup (n:Nat) | rng (lo:Int) (n:Nat) | zip (n m:Nat) | dwn (lo:Int) (n:Nat) | enu (n:Nat)
inductive A where | w (w:W) | ws (l:List W) | iv (v:Iv) | fl (f:Fl) | u
def A.toW{β:Type}(a:A)(f:W->R β):R β:=A.rec f (fun _=>.no) (fun _=>.no) (fun _=>.no) .no a
def A.toL{β:Type}(a:A)(f:List W->R β):R β:=A.rec (fun _=>.no) f (fun _=>.no) (fun _=>.no) .no a
def A.toV{β:Type}(a:A)(f:Iv->R β):R β:=A.rec (fun _=>.no) (fun _=>.no) f (fun _=>.no) .no a
def A.toF{β:Type}(a:A)(f:Fl->R β):R β:=A.rec (fun _=>.no) (fun _=>.no) (fun _=>.no) f .no a
abbrev Ks:=List (Nat->Nat->List W->Hs->R A)
abbrev Dn:=Ks->Nat->Sg->Hs->R A
structure X where
 f:Dn
structure I where
 f:Dn
structure S where
 f:Dn
inductive G where | mk (i:I) (t:Tg) (c:Option X)
inductive Fn where | mk (np n:Nat) (body:List S) | non
def ofW(r:R W):R A:=R.rec (fun w h=>.ok (.w w) h) (fun C f h=>.ex C f h) .no r
def goA(es:List X):Dn:=List.rec (fun _ _ _ h=>.ok (.ws []) h) (fun e _ ih K n τ h=>R.rec (motive:=fun _=>R A) (fun r h=>A.rec (motive:=fun _=>R A) (fun w=>R.rec (motive:=fun _=>R A) (fun r h=>A.rec (motive:=fun _=>R A) (fun _=>.no) (fun ws=>.ok (.ws (w::ws)) h) (fun _=>.no) (fun _=>.no) .no r) (fun C fs h=>.ex C fs h) .no (ih K n τ h)) (fun _=>.no) (fun _=>.no) (fun _=>.no) .no r) (fun C fs h=>.ex C fs h) .no (e.f K n τ h)) es
def c7(ss:List S):Dn:=List.rec (fun _ _ τ h=>.ok (.fl (.nx τ)) h) (fun s _ ih K n τ h=>R.rec (motive:=fun _=>R A) (fun r h=>A.rec (motive:=fun _=>R A) (fun _=>.no) (fun _=>.no) (fun _=>.no) (fun f=>Fl.rec (motive:=fun _=>R A) (fun τ=>ih K n τ h) (fun w=>.ok (.fl (.rt w)) h) (fun τ=>.ok (.fl (.bk τ)) h) (fun τ=>.ok (.fl (.ct τ)) h) f) .no r) (fun C fs h=>.ex C fs h) .no (s.f K n τ h)) ss
def bindL(f:Tg->W->Sg->Option Sg)(ts:List Tg):List W->Sg->Option Sg:=List.rec (fun ws τ=>List.rec (some τ) (fun _ _ _=>none) ws) (fun t _ ih ws τ=>List.rec none (fun w r _=>Option.rec none (fun τ=>ih r τ) (f t w τ)) ws) ts
def bw(h:Hs)(n:Nat):Tg->W->Sg->Option Sg:=Nat.rec (fun _ _ _=>none) (fun _ ih t w τ=>Tg.casesOn t (fun i=>some (setAt τ (some w) i)) fun ts=>
 W.elim w none (fun _=>none) (fun _=>none) (fun _=>none) fun k=>Option.rec none (fun o=>O.rec (fun xs=>bindL ih ts xs τ) (fun _=>none) (fun _ _=>none) (fun _=>none) (fun _=>none) (fun _=>none) o) (h.get k)) n
def Iv.next{β:Type}(v:Iv)(i:Nat)(h:Hs)(fin:R β)(go:W->Hs->R β):R β:=
 Iv.rec (fun n=>Opt (h.get n) fun o=>o.onS fun xs=>Option.rec fin (fun w=>go w h) (nth xs i)) (fun n=>Opt (h.get n) fun o=>o.onT fun xs=>Option.rec fin (fun w=>go w h) (nth xs i)) (fun lo n=>Bool.rec fin (go (.int (lo + .ofNat i)) h) (Nat.ble (Nat.add i 1) n))
  (fun n m=>Opt (h.get n) fun o=>o.onS fun xs=>Opt (h.get m) fun o=>o.onS fun ys=>Option.rec fin (fun x=>Option.rec fin (fun y=>go (.ref h.n) (h.push (.tup [x,y]))) (nth ys i)) (nth xs i))
  (fun lo n=>Bool.rec fin (go (.int (lo - .ofNat i)) h) (Nat.ble (Nat.add i 1) n))
  (fun n=>Opt (h.get n) fun o=>o.onS fun xs=>Option.rec fin (fun x=>go (.ref h.n) (h.push (.tup [.int (.ofNat i),x]))) (nth xs i)) v
def ir(nt:Nat)(idx:List Nat)(τ:Sg):Sg:=Nat.rec (List.rec [] (fun i _ r=>cU τ i::r) idx) (fun _ r=>none::r) nt
def afK(n:Nat)(i:Int):Nat:=Int.rec (fun k=>ifB (Nat.ble k n) k n) (fun k=>n - (k+1)) i
def Fi(K:Ks)(n:Nat)(e:Option X)(τ:Sg)(h:Hs)(k:Option Int->Hs->R A):R A:=
 Option.rec (k none h) (fun e=>(e.f K n τ h).bind fun a h=>a.toW fun w=>w.onI fun i=>k (some i) h) e
def sIx(n d:Nat)(o:Option Int):Nat:=Option.rec d (afK n) o
def frame(n:Nat)(ws:List W):Sg:=app (List.rec [] (fun w _ r=>some w::r) ws) (Nat.rec [] (fun _ r=>none::r) (n - len ws))
def Dw(h:Hs)(f:Fl):R A:=Fl.rec (fun _=>.ok (.w .non) h) (fun w=>.ok (.w w) h) (fun _=>.no) (fun _=>.no) f
def Ud(K:Ks)(n:Nat)(h:Hs)(ws:List W)(F:Fn):R A:=Fn.rec (fun np k b=>ifB (Nat.beq (len ws) np) ((c7 b K n (frame k ws) h).bind fun r h=>r.toF fun f=>Dw h f) .no) .no F
def bu(Pg:List Fn)(d:Nat):Ks:=Nat.rec [] (fun _ K=>(fun n f ws h=>Opt (nth Pg f) (Ud K n h ws))::K) d
def b7(f:Nat)(ws:List W)(K:Ks)(n:Nat)(h:Hs):R A:=Nat.rec .no (fun n _=>List.rec .no (fun c _ _=>c n f ws h) K) n
def lZ(h:Hs)(f:Fl)(go:Sg->R A):R A:=Fl.rec go (fun w=>.ok (.fl (.rt w)) h) (fun τ=>.ok (.fl (.nx τ)) h) go f
def iU(v:Iv)(t:Tg)(b:List S)(K:Ks)(n:Nat):Nat->Sg->Hs->R A:=Nat.rec (fun _ _ _=>.no) (fun n ih i τ h=>v.next i h (.ok (.fl (.nx τ)) h) fun w h=>Opt (bw h 9 t w τ) fun τ=>(c7 b K n τ h).bind fun r h=>r.toF fun f=>lZ h f fun τ=>ih (Nat.add i 1) τ h) n
def afL(c:X)(b:List S)(K:Ks)(n:Nat):Sg->Hs->R A:=Nat.rec (fun _ _=>.no) (fun n ih τ h=>(c.f K n τ h).bind fun r h=>r.toW fun w=>w.onB (.ok (.fl (.nx τ)) h) ((c7 b K n τ h).bind fun r h=>r.toF fun f=>lZ h f fun τ=>ih τ h)) n
def test(K:Ks)(m:Nat)(τ:Sg)(h:Hs)(c:Option X)(n k:Hs->R A):R A:=Option.rec (k h) (fun c=>(c.f K m τ h).bind fun r h=>r.toW fun w=>w.onB (n h) (k h)) c
def emit(h:Hs)(D:Nat)(w:W)(k:Hs->R A):R A:=(yG h (.ref D) w).bind fun _ h=>k h
def afM(v:Iv)(t:Tg)(c:Option X)(e:X)(D:Nat)(K:Ks)(n:Nat):Nat->Sg->Hs->R A:=Nat.rec (fun _ _ _=>.no) (fun n ih i τ h=>v.next i h (.ok .u h) fun w h=>Opt (bw h 9 t w τ) fun τ1=>
 test K n τ1 h c (fun h=>ih (Nat.add i 1) τ h) (fun h=>(e.f K n τ1 h).bind fun r h=>r.toW fun w=>emit h D w fun h=>ih (Nat.add i 1) τ h)) n
def inner(K:Ks)(n:Nat)(τ:Sg)(h:Hs)(e:X)(D:Nat)(m:Option G)(k:Hs->R A):R A:=
 Option.rec ((e.f K n τ h).bind fun r h=>r.toW fun w=>emit h D w k) (fun g=>G.rec (fun i t c=>(i.f K n τ h).bind fun r h=>r.toV fun v=>(afM v t c e D K n 0 τ h).bind fun _ h=>k h) g) m
def fU(v:Iv)(t:Tg)(c:Option X)(m:Option G)(e:X)(D:Nat)(K:Ks)(n:Nat):Nat->Sg->Hs->R A:=Nat.rec (fun _ _ _=>.no) (fun n ih i τ h=>v.next i h (.ok .u h) fun w h=>Opt (bw h 9 t w τ) fun τ1=>
 test K n τ1 h c (fun h=>ih (Nat.add i 1) τ h) (fun h=>inner K n τ1 h e D m fun h=>ih (Nat.add i 1) τ h)) n
def X.var(i:Nat):X:=⟨fun _ _ τ h=>Option.rec (motive:=fun _=>R A) .no (fun w=>.ok (.w w) h) (cU τ i)⟩
def X.cst(w:W):X:=⟨fun _ _ _ h=>.ok (.w w) h⟩
def X.pr(p:Pr)(as:List X):X:=⟨fun K n τ h=>R.rec (motive:=fun _=>R A) (fun r h=>A.rec (motive:=fun _=>R A) (fun _=>.no) (fun ws=>R.rec (motive:=fun _=>R A) (fun w h=>.ok (.w w) h) (fun C f h=>.ex C f h) .no (p.f ws h)) (fun _=>.no) (fun _=>.no) .no r) (fun C fs h=>.ex C fs h) .no (goA as K n τ h)⟩
def X.and(a b:X):X:=⟨fun K n τ h=>R.rec (motive:=fun _=>R A) (fun r h=>A.rec (motive:=fun _=>R A) (fun w=>W.rec (motive:=fun _=>R A) .no (fun bb=>Bool.rec (motive:=fun _=>R A) (.ok (.w (.bl false)) h) (b.f K n τ h) bb) (fun _=>.no) (fun _=>.no) (fun _=>.no) w) (fun _=>.no) (fun _=>.no) (fun _=>.no) .no r) (fun C fs h=>.ex C fs h) .no (a.f K n τ h)⟩
def X.or(a b:X):X:=⟨fun K n τ h=>R.rec (motive:=fun _=>R A) (fun r h=>A.rec (motive:=fun _=>R A) (fun w=>W.rec (motive:=fun _=>R A) .no (fun bb=>Bool.rec (motive:=fun _=>R A) (b.f K n τ h) (.ok (.w (.bl true)) h) bb) (fun _=>.no) (fun _=>.no) (fun _=>.no) w) (fun _=>.no) (fun _=>.no) (fun _=>.no) .no r) (fun C fs h=>.ex C fs h) .no (a.f K n τ h)⟩
def X.ite(c a b:X):X:=⟨fun K n τ h=>R.rec (motive:=fun _=>R A) (fun r h=>A.rec (motive:=fun _=>R A) (fun w=>W.rec (motive:=fun _=>R A) .no (fun bb=>Bool.rec (motive:=fun _=>R A) (b.f K n τ h) (a.f K n τ h) bb) (fun _=>.no) (fun _=>.no) (fun _=>.no) w) (fun _=>.no) (fun _=>.no) (fun _=>.no) .no r) (fun C fs h=>.ex C fs h) .no (c.f K n τ h)⟩
def X.chain(p q:Pr)(a b c:X):X:=⟨fun K n τ h=>(a.f K n τ h).bind fun r h=>r.toW fun u=>(b.f K n τ h).bind fun r h=>r.toW fun v=>(ofW (dF p [u,v] h)).bind fun r h=>r.toW fun k=>
 k.onB (.ok (.w (.bl false)) h) ((c.f K n τ h).bind fun r h=>r.toW fun w=>ofW (dF q [v,w] h))⟩
def X.slice(a:X)(lo hi:Option X):X:=⟨fun K n τ h=>(a.f K n τ h).bind fun r h=>r.toW fun w=>Fi K n lo τ h fun l h=>Fi K n hi τ h fun u h=>h.at w fun _ o=>
 O.rec (fun xs=>ifB (ifB (Nat.beq (sIx (len xs) 0 l) 0) (Nat.beq (sIx (len xs) (len xs) u) (len xs)) false) .no (ofW (.alloc h (.tup (tak (drp xs (sIx (len xs) 0 l)) (sIx (len xs) (len xs) u - sIx (len xs) 0 l)))))) (fun xs=>ofW (.alloc h (.lst (tak (drp xs (sIx (len xs) 0 l)) (sIx (len xs) (len xs) u - sIx (len xs) 0 l))))) (fun _ _=>.no) (fun _=>.no) (fun _=>.no) (fun _=>.no) o⟩
def X.call(f:Nat)(as:List X):X:=⟨fun K n τ h=>(goA as K n τ h).bind fun a h=>a.toL fun ws=>b7 f ws K n h⟩
def X.comp(nt:Nat)(idx:List Nat)(it:I)(t:Tg)(c:Option X)(m:Option G)(e:X):X:=⟨fun K n τ h=>(it.f K n τ h).bind fun r h=>r.toV fun v=>
 (fU v t c m e h.n K n 0 (ir nt idx τ) (h.push (.lst []))).nox.bind fun _ h'=>.ok (.w (.ref h.n)) h'⟩
def X.fld(C:Nat)(o:X)(f:List Nat):X:=⟨fun K n τ h=>(o.f K n τ h).bind fun r h=>r.toW fun w=>h.at w fun _ o=>o.onI fun C' fs=>ifB (Nat.beq C C') (Opt (fget fs f) fun w=>.ok (.w w) h) .no⟩
def X.meth(C:Nat)(m:List Nat)(f:Nat)(o:X)(as:List X):X:=⟨fun K n τ h=>(o.f K n τ h).bind fun r h=>r.toW fun w=>h.at w fun _ o=>o.onI fun C' fs=>
 ifB (Nat.beq C C') (Option.rec ((goA as K n τ h).bind fun a h=>a.toL fun ws=>b7 f (w::ws) K n h) (fun _=>.no) (fget fs m)) .no⟩
def X.make(C f:Nat)(as:List X):X:=⟨fun K n τ h=>(goA as K n τ h).bind fun a h=>a.toL fun ws=>(b7 f (.ref h.n::ws) K n (h.push (.ins C []))).bind fun r h'=>r.toW fun w=>ifB (uR w) (.ok (.w (.ref h.n)) h') .no⟩
def uT:List Nat:=[116,111,108,100]
def noT:List Nat:=[110,111]
def gm:List Nat:=[119,111,114,100]
def X.told(nx:Nat)(idx:List Nat)(e:X):X:=⟨fun K n τ h=>List.rec .no (fun _ K1 _=>List.rec .no (fun _ K2 _=>
 R.rec (fun r h=>r.toW fun w=>ofW (.alloc h (.tup [.str uT,w]))) (fun C fs h=>ifB (Nat.ble (C+1) nx) (Opt (fget fs gm) fun w=>ofW (.alloc h (.tup [.str noT,w]))) .no) .no (e.f K2 n (ir 0 idx τ) h)) K1) K⟩
def X.lm(p:Pr)(a:X)(as:List X):X:=⟨fun K n τ h=>(a.f K n τ h).bind fun r h=>r.toW fun w=>h.at w fun _ o=>o.onL fun _=>(goA as K n τ h).bind fun r h=>r.toL fun ws=>ofW (dF p (w::ws) h)⟩
def I.seq(e:X):I:=⟨fun K n τ h=>(e.f K n τ h).bind fun r h=>r.toW fun w=>h.at w fun n o=>O.casesOn o (fun _=>.ok (.iv (.tup n)) h) (fun _=>.ok (.iv (.lst n)) h) (fun _ _=>.no) (fun _=>.no) (fun _=>.no) (fun _=>.no)⟩
def within(i:Int)(k:R A):R A:=ifB (ilt i 1000000000) (ifB (ilt (-1000000000) i) k .no) .no
def Fj(ws:List W)(f:W->R A):R A:=List.rec .no (fun a r _=>List.rec (f a) (fun _ _ _=>.no) r) ws
def I9(ws:List W)(f:W->W->R A):R A:=List.rec .no (fun a r _=>List.rec .no (fun b r _=>List.rec (f a b) (fun _ _ _=>.no) r) r) ws
def I.j6(as:List X):I:=⟨fun K n τ h=>(goA as K n τ h).bind fun r h=>r.toL fun ws=>Fj ws fun w=>w.onI fun j=>within j (.ok (.iv (.rng 0 j.toNat)) h)⟩
def I.acW(as:List X):I:=⟨fun K n τ h=>(goA as K n τ h).bind fun r h=>r.toL fun ws=>I9 ws fun v w=>v.onI fun i=>w.onI fun j=>within i (within j (.ok (.iv (.rng i (j - i).toNat)) h))⟩
def I.zip(as:List X):I:=⟨fun K n τ h=>(goA as K n τ h).bind fun r h=>r.toL fun ws=>I9 ws fun v w=>h.at v fun n o=>o.onL fun _=>h.at w fun m o=>o.onL fun _=>.ok (.iv (.zip n m)) h⟩
def I.enu(as:List X):I:=⟨fun K n τ h=>(goA as K n τ h).bind fun r h=>r.toL fun ws=>Fj ws fun v=>h.at v fun n o=>o.onL fun _=>.ok (.iv (.enu n)) h⟩
def S.asg(t:Tg)(e:X):S:=⟨fun K n τ h=>(e.f K n τ h).bind fun r h=>r.toW fun w=>Opt (bw h 9 t w τ) fun τ=>.ok (.fl (.nx τ)) h⟩
def S.expr(e:X):S:=⟨fun K n τ h=>(e.f K n τ h).bind fun r h=>r.toW fun _=>.ok (.fl (.nx τ)) h⟩
def S.ret(e:X):S:=⟨fun K n τ h=>(e.f K n τ h).bind fun r h=>r.toW fun w=>.ok (.fl (.rt w)) h⟩
def S.ife(c:X)(a b:List S):S:=⟨fun K n τ h=>(c.f K n τ h).bind fun r h=>r.toW fun w=>w.onB (c7 b K n τ h) (c7 a K n τ h)⟩
def S.for_(i:I)(t:Tg)(b:List S):S:=⟨fun K n τ h=>(i.f K n τ h).bind fun r h=>r.toV fun v=>iU v t b K n 0 τ h⟩
def S.bk:S:=⟨fun _ _ τ h=>.ok (.fl (.bk τ)) h⟩
def S.ct:S:=⟨fun _ _ τ h=>.ok (.fl (.ct τ)) h⟩
def S.raise(C:Nat)(c:List Nat):S:=⟨fun _ _ _ h=>.ex C [(gm,.str c)] h⟩
def S.Ue(C:Nat)(o:X)(f:List Nat)(e:X):S:=⟨fun K n τ h=>(e.f K n τ h).bind fun r h=>r.toW fun w=>(o.f K n τ h).bind fun r h=>r.toW fun o=>h.at o fun n o=>o.onI fun C' fs=>ifB (Nat.beq C C') (ifB (Nat.ble (len fs) 900) (.ok (.fl (.nx τ)) (h.set n (.ins C (T9 f w fs)))) .no) .no⟩
def S.par(i j:Nat)(a b:X):S:=⟨fun K n τ h=>(goA [a,b] K n τ h).bind fun r h=>r.toL fun ws=>I9 ws fun u w=>.ok (.fl (.nx (setAt (setAt τ (some u) i) (some w) j))) h⟩
def S.dput(o k v:X):S:=⟨fun K n τ h=>(v.f K n τ h).bind fun r h=>r.toW fun w=>(o.f K n τ h).bind fun r h=>r.toW fun a=>(k.f K n τ h).bind fun r h=>r.toW fun b=>h.at a fun n o=>o.onD fun kvs=>ifB (jj b) (ifB (Nat.ble (len kvs) 1000000) (.ok (.fl (.nx τ)) (h.set n (.dk (cJ kvs b w)))) .no) .no⟩
inductive Q where
 | x (e:X) | a (es:List X) | i (e:I) | s (s:S) | ss (l:List S)
 | lp (v:Iv) (i:Nat) (t:Tg) (b:List S) | wh (c:X) (b:List S)
 | cl (v:Iv) (i:Nat) (t:Tg) (c:Option X) (m:Option G) (e:X) (D:Nat)
 | call (f:Nat) (ws:List W)
abbrev E:=Nat->Q->Sg->Hs->R A
def evs(Pg:List Fn)(n:Nat):E:=fun d q τ h=>Q.rec (fun e=>e.f (bu Pg d) n τ h) (fun es=>goA es (bu Pg d) n τ h) (fun e=>e.f (bu Pg d) n τ h) (fun s=>s.f (bu Pg d) n τ h) (fun l=>c7 l (bu Pg d) n τ h)
 (fun v i t b=>iU v t b (bu Pg d) n i τ h) (fun c b=>afL c b (bu Pg d) n τ h) (fun v i t c m e D=>fU v t c m e D (bu Pg d) n i τ h) (fun f ws=>b7 f ws (bu Pg d) n h) q
def body(V:E)(d:Nat)(h:Hs)(ws:List W)(F:Fn):R A:=Fn.rec (fun np n b=>ifB (Nat.beq (len ws) np) ((V d (.ss b) (frame n ws) h).bind fun r h=>r.toF fun f=>Dw h f) .no) .no F
end
def jM{α:Type}(xs ys:List α):app xs ys=xs++ys:=by
 induction xs with
 | nil=>rfl
 | cons x xs ih=>exact congrArg (x::·) ih
def len_eq{α:Type}(xs:List α):len xs=xs.length:=by
 induction xs with
 | nil=>rfl
 | cons x xs ih=>exact congrArg (· + 1) ih
def nH{α:Type}(xs:List α)(i:Nat):nth xs i=xs[i]?:=by
 induction xs generalizing i with
 | nil=>rfl
 | cons x xs ih=>cases i with
   | zero=>rfl
   | succ i=>exact ih i
def BV{α:Type}(xs:List α)(i:Nat):drp xs i=xs.drop i:=by
 induction xs generalizing i with
 | nil=>cases i <;> rfl
 | cons x xs ih=>cases i with
   | zero=>rfl
   | succ i=>exact ih i
def BW{α:Type}(xs:List α)(i:Nat):tak xs i=xs.take i:=by
 induction xs generalizing i with
 | nil=>cases i <;> rfl
 | cons x xs ih=>cases i with
   | zero=>rfl
   | succ i=>exact congrArg (x::·) (ih i)
def Fo{α:Type}(xs:List α)(w:α)(i:Nat):setAt xs w i=xs.set i w:=by
 induction xs generalizing i with
 | nil=>cases i <;> rfl
 | cons x xs ih=>cases i with
   | zero=>rfl
   | succ i=>exact congrArg (x::·) (ih i)
def Oh(xs:Sg)(i:Nat):cU xs i=(xs[i]?).getD none:=by
 induction xs generalizing i with
 | nil=>cases i <;> rfl
 | cons x xs ih=>cases i with
   | zero=>rfl
   | succ i=>exact ih i
def jA{a b:Nat}:Nat.beq a b=true ↔ a=b:=⟨Nat.eq_of_beq_eq_true,fun h=>by subst h;exact Nat.beq_refl a⟩
def uU{a b:Nat}:Nat.beq a b=false ↔ a ≠ b:=by
 rw[<- Bool.not_eq_true,jA]
def ble_eq(a b:Nat):Nat.ble a b=decide (a<=b):=by
 cases h:Nat.ble a b with
 | true=>exact(bH (Nat.le_of_ble_eq_true h)).symm
 | false=>exact(bM fun z=>by rw[Nat.ble_eq_true_of_le z]at h;cases h).symm
def dh{x y:List Nat}:codes x y=true ↔ x=y:=by
 induction x generalizing y with
 | nil=>cases y with
   | nil=>exact⟨fun _=>rfl,fun _=>rfl⟩
   | cons b r=>exact⟨fun h=>Bool.noConfusion h,fun h=>nomatch h⟩
 | cons a x ih=>cases y with
   | nil=>exact⟨fun h=>Bool.noConfusion h,fun h=>nomatch h⟩
   | cons b r=>
     show ifB (Nat.beq a b) (codes x r) false=true ↔ _
     cases e:Nat.beq a b with
     | true=>rw[jA.mp e];exact ih.trans ⟨fun h=>by rw[h],fun h=>(List.cons.inj h).2⟩
     | false=>exact⟨fun h=>Bool.noConfusion h,fun h=>aK (List.cons.inj h).1 (uU.mp e)⟩
def kO(i j:Int):ieq i j=decide (i=j):=by
 cases i with
 | ofNat a=>cases j with
   | ofNat b=>
     show Nat.beq a b=_
     cases e:Nat.beq a b with
     | true=>rw[jA.mp e];exact(bH rfl).symm
     | false=>exact(bM fun z=>uU.mp e (Int.ofNat.inj z)).symm
   | negSucc b=>exact(bM fun z=>nomatch z).symm
 | negSucc a=>cases j with
   | ofNat b=>exact(bM fun z=>nomatch z).symm
   | negSucc b=>
     show Nat.beq a b=_
     cases e:Nat.beq a b with
     | true=>rw[jA.mp e];exact(bH rfl).symm
     | false=>exact(bM fun z=>uU.mp e (Int.negSucc.inj z)).symm
def b8(i j:Int):ilt i j=decide (i<j):=by
 cases i with
 | ofNat a=>cases j with
   | ofNat b=>
     show Nat.ble (a+1) b=_;rw[ble_eq]
     exact decide_eq_decide.mpr ⟨fun h=>by have:(a:Int)<b:=by omega
                                           exact this,fun h=>by have:(a:Int)<b:=h
                                                                omega⟩
   | negSucc b=>exact(bM (by intro h;have:(a:Int)<Int.negSucc b:=h;omega)).symm
 | negSucc a=>cases j with
   | ofNat b=>exact(bH (by show Int.negSucc a<(b:Int);omega)).symm
   | negSucc b=>
     show Nat.ble (b+1) a=_;rw[ble_eq];exact decide_eq_decide.mpr ⟨fun h=>by omega,fun h=>by omega⟩
def get_set(d:Nat):∀(t:Tr) (k k':Nat) (o:O),k<d->(t.set d k o).get k'=if k'=k then some o else t.get k':=by
 induction d with
 | zero=>intro t k k' o h;exact aK h (Nat.not_lt_zero _)
 | succ d ih=>
   intro t k k' o h;have half:∀ a b:Nat,a % 2=b % 2->(a / 2=b / 2 ↔ a+1=b+1):=fun a b e=>by omega
   cases t with
   | lf=>
     cases k with
     | zero=>cases k' with
       | zero=>rfl
       | succ k'=>
         show ifB (Nat.beq (k' % 2) 0) (Tr.get .lf (k' / 2)) (Tr.get .lf (k' / 2))=_;rw[aA (by omega)]
         cases Nat.beq (k' % 2) 0 <;> rfl
     | succ k=>
       have hk:k / 2<d:=by omega
       show(ifB (Nat.beq (k % 2) 0) (Tr.nd none (Tr.set d .lf (k / 2) o) .lf) (Tr.nd none .lf (Tr.set d .lf (k / 2) o)):Tr).get k'=_
       cases e:Nat.beq (k % 2) 0 with
       | true=>cases k' with
         | zero=>rfl
         | succ k'=>
           show ifB (Nat.beq (k' % 2) 0) (Tr.get (Tr.set d .lf (k / 2) o) (k' / 2)) (Tr.get .lf (k' / 2))=_;have e1:=jA.mp e
           cases e':Nat.beq (k' % 2) 0 with
           | true=>
             have e2:=jA.mp e';show Tr.get (Tr.set d .lf (k / 2) o) (k' / 2)=_;rw[ih .lf _ _ _ hk]
             by_cases z:k' / 2=k / 2
             · rw[aB z,aB (by omega)]
             · rw[aA z,aA (by omega)];rfl
           | false=>
             have e2:=uU.mp e';show none=_
             rw[aA (by intro z;apply e2;have:k'=k:=(by omega);rw[this];exact e1)];rfl
       | false=>cases k' with
         | zero=>rfl
         | succ k'=>
           show ifB (Nat.beq (k' % 2) 0) (Tr.get .lf (k' / 2)) (Tr.get (Tr.set d .lf (k / 2) o) (k' / 2))=_;have e1:=uU.mp e
           cases e':Nat.beq (k' % 2) 0 with
           | false=>
             have e2:=uU.mp e';show Tr.get (Tr.set d .lf (k / 2) o) (k' / 2)=_;rw[ih .lf _ _ _ hk]
             by_cases z:k' / 2=k / 2
             · rw[aB z,aB (by omega)]
             · rw[aA z,aA (by omega)];rfl
           | true=>
             have e2:=jA.mp e';show none=_
             rw[aA (by intro z;apply e1;have:k'=k:=(by omega);rw[<- this];exact e2)];rfl
   | nd x l r=>
     cases k with
     | zero=>cases k' with
       | zero=>rfl
       | succ k'=>rw[aA (by omega)];rfl
     | succ k=>
       have hk:k / 2<d:=by omega
       show(ifB (Nat.beq (k % 2) 0) (Tr.nd x (Tr.set d l (k / 2) o) r) (Tr.nd x l (Tr.set d r (k / 2) o)):Tr).get k'=_
       cases e:Nat.beq (k % 2) 0 with
       | true=>cases k' with
         | zero=>rfl
         | succ k'=>
           show ifB (Nat.beq (k' % 2) 0) (Tr.get (Tr.set d l (k / 2) o) (k' / 2)) (Tr.get r (k' / 2))=(if k'+1=k+1 then some o else ifB (Nat.beq (k' % 2) 0) (Tr.get l (k' / 2)) (Tr.get r (k' / 2)));have e1:=jA.mp e
           cases e':Nat.beq (k' % 2) 0 with
           | true=>
             have e2:=jA.mp e';show Tr.get (Tr.set d l (k / 2) o) (k' / 2)=(if k'+1=k+1 then some o else Tr.get l (k' / 2));rw[ih l _ _ _ hk]
             by_cases z:k' / 2=k / 2
             · rw[aB z,aB (by omega)]
             · rw[aA z,aA (by omega)]
           | false=>
             have e2:=uU.mp e';show Tr.get r (k' / 2)=(if k'+1=k+1 then some o else Tr.get r (k' / 2))
             rw[aA (by intro z;apply e2;have:k'=k:=(by omega);rw[this];exact e1)]
       | false=>cases k' with
         | zero=>rfl
         | succ k'=>
           show ifB (Nat.beq (k' % 2) 0) (Tr.get l (k' / 2)) (Tr.get (Tr.set d r (k / 2) o) (k' / 2))=(if k'+1=k+1 then some o else ifB (Nat.beq (k' % 2) 0) (Tr.get l (k' / 2)) (Tr.get r (k' / 2)));have e1:=uU.mp e
           cases e':Nat.beq (k' % 2) 0 with
           | false=>
             have e2:=uU.mp e';show Tr.get (Tr.set d r (k / 2) o) (k' / 2)=(if k'+1=k+1 then some o else Tr.get r (k' / 2));rw[ih r _ _ _ hk]
             by_cases z:k' / 2=k / 2
             · rw[aB z,aB (by omega)]
             · rw[aA z,aA (by omega)]
           | true=>
             have e2:=jA.mp e';show Tr.get l (k' / 2)=(if k'+1=k+1 then some o else Tr.get l (k' / 2));rw[aA (by intro z;apply e1;have:k'=k:=(by omega);rw[<- this];exact e2)]
def Hs.mF(h:Hs)(o:O):(h.push o).n=h.n+1:=by cases h;rfl
def Hs.gZ(h:Hs)(k:Nat)(o:O):(h.set k o).n=h.n:=by cases h;rfl
def Hs.oX(h:Hs)(o:O)(k:Nat):(h.push o).get k=if k=h.n then some o else h.get k:=by
 cases h with | mk n t=>exact get_set (n+1) t n k o (Nat.lt_succ_self n)
def Hs.get_set(h:Hs)(o:O)(j k:Nat):(h.set j o).get k=if k=j then some o else h.get k:=by
 cases h with | mk n t=>exact Ev.get_set (j+1) t j k o (Nat.lt_succ_self j)
end Ev
namespace Ev
open PySem L2
inductive RW (ρ:List Addr):W->V->Prop
 | non:RW ρ .non .non
 | bl (b):RW ρ (.bl b) (.bl b)
 | int (i):RW ρ (.int i) (.int i)
 | str (c):RW ρ (.str c) (.str ⟨c.toArray⟩)
 | ref {n a}:ρ[n]? =some a->RW ρ (.ref n) (.ref a)
def iu{ρ ρ':List Addr}(e:ρ <+:ρ'){n:Nat}{a:Addr}(h:ρ[n]? =some a):ρ'[n]? =some a:=by
 obtain⟨t,rfl⟩:=e;have hn:n<ρ.length:=(bB h).1;rw[pG hn];exact h
def RW.mono{ρ ρ':List Addr}(e:ρ <+:ρ'){w:W}{v:V}(h:RW ρ w v):RW ρ' w v:=by
 cases h with
 | non=>exact .non
 | bl b=>exact .bl b
 | int i=>exact .int i
 | str c=>exact .str c
 | ref h=>exact .ref (iu e h)
abbrev RWs(ρ:List Addr):List W->List V->Prop:=Paired (RW ρ)
def RWs.mono{ρ ρ':List Addr}(e:ρ <+:ρ'){ws:List W}{vs:List V}(h:RWs ρ ws vs):RWs ρ' ws vs:=Paired.pZ h fun _ _ r=>r.mono e
def RWs.get{ρ:List Addr}:∀ {ws:List W} {vs:List V} {i:Nat} {w:W},RWs ρ ws vs->ws[i]? =some w->∃ v,vs[i]? =some v/\RW ρ w v
 | _,_,_,_,.nil,e=>by simp at e
 | _,_,0,_,.cons r _,e=>by simp at e;subst e;exact⟨_,rfl,r⟩
 | _,_,i+1,w,.cons _ t,e=>by
   obtain⟨u,h1,h2⟩:=RWs.get (i:=i) (w:=w) t (by simpa using e);exact⟨u,by simpa using h1,h2⟩
def RWs.append{ρ:List Addr}:∀ {xs ys:List W} {us ws:List V},RWs ρ xs us->RWs ρ ys ws->RWs ρ (xs++ys) (us++ws)
 | _,_,_,_,.nil,s=>s
 | _,_,_,_,.cons r t,s=>.cons r (RWs.append t s)
def RWs.take{ρ:List Addr}:∀ {xs:List W} {us:List V} (n:Nat),RWs ρ xs us->RWs ρ (xs.take n) (us.take n)
 | _,_,0,_=>.nil
 | _,_,_+1,.nil=>.nil
 | _,_,n+1,.cons r t=>.cons r (RWs.take n t)
def RWs.drop{ρ:List Addr}:∀ {xs:List W} {us:List V} (n:Nat),RWs ρ xs us->RWs ρ (xs.drop n) (us.drop n)
 | _,_,0,r=>r
 | _,_,_+1,.nil=>.nil
 | _,_,n+1,.cons _ t=>RWs.drop n t
def RWs.length{ρ:List Addr}{ws:List W}{vs:List V}(h:RWs ρ ws vs):ws.length=vs.length:=Paired.length h
def RO(ρ:List Addr):Option W->Option V->Prop
 | none,_=>True
 | some w,some v=>RW ρ w v
 | some _,none=>False
def RO.mono{ρ ρ':List Addr}(e:ρ <+:ρ'):∀ {w:Option W} {v:Option V},RO ρ w v->RO ρ' w v
 | none,_,_=>trivial
 | some _,some _,h=>RW.mono e h
abbrev RS(ρ:List Addr):Sg->St->Prop:=Paired (RO ρ)
def RS.mono{ρ ρ':List Addr}(e:ρ <+:ρ'){τ:Sg}{σ:St}(h:RS ρ τ σ):RS ρ' τ σ:=Paired.pZ h fun _ _ r=>r.mono e
def RS.get{ρ:List Addr}:∀ {τ:Sg} {σ:St} {i:Nat} {w:W},RS ρ τ σ->cU τ i=some w->∃ v,σ[i]? =some (some v)/\RW ρ w v
 | _,_,_,_,.nil,e=>nomatch e
 | some _::_,some v::_,0,_,.cons r _,e=>by cases e;exact⟨v,rfl,r⟩
 | some _::_,none::_,0,_,.cons r _,e=>r.elim
 | none::_,_,0,_,_,e=>nomatch e
 | _::_,_::_,i+1,w,.cons _ t,e=>by
   obtain⟨u,h1,h2⟩:=RS.get (i:=i) (w:=w) t e;exact⟨u,by simpa using h1,h2⟩
def RS.set{ρ:List Addr}{w:W}{v:V}(r:RW ρ w v):∀ {τ:Sg} {σ:St} (i:Nat),RS ρ τ σ->RS ρ (setAt τ (some w) i) (σ.set i (some v))
 | _,_,_,.nil=>by rw[Fo];exact .nil
 | _::_,_::_,0,.cons _ t=>.cons (show RO ρ (some w) (some v) from r) t
 | _::_,_::_,i+1,.cons q t=>.cons q (RS.set r i t)
def nm(c:List Nat):Str:=⟨c.toArray⟩
def vP{a b:List Nat}(h:nm a=nm b):a=b:=by
 have:=congrArg (fun s:Str=>s.cps.toList) h;simpa [nm] using this
def FR(ρ:List Addr):Fs->List (Str × V)->Prop:=Paired fun p q=>q.1=nm p.1/\RW ρ p.2 q.2
def FR.mono{ρ ρ':List Addr}(e:ρ <+:ρ'){fs:Fs}{gs:List (Str × V)}(h:FR ρ fs gs):FR ρ' fs gs:=Paired.pZ h fun _ _ r=>⟨r.1,r.2.mono e⟩
def FR.get{ρ:List Addr}{f:List Nat}:∀ {fs:Fs} {gs:List (Str × V)} {w:W},FR ρ fs gs->fget fs f=some w->∃ v,gs.lookup (nm f)=some v/\RW ρ w v
 | _,_,_,.nil,e=>nomatch e
 | p::fs,(x,v)::gs,w,.cons r t,e=>by
   obtain⟨e1,r1⟩:=r;have e1:x=nm p.1:=e1;have e':ifB (codes p.1 f) (some p.2) (fget fs f)=some w:=e;rw[List.lookup_cons]
   cases c:codes p.1 f with
   | true=>
     rw[c]at e';cases e';rw[e1,dh.mp c]
     exact⟨v,by simp,r1⟩
   | false=>
     rw[c]at e'
     have:(nm f==x)=false:=by
      rw[e1];refine beq_eq_false_iff_ne.mpr fun z=>?_;rw[dh.mpr (vP z).symm]at c;cases c
     rw[this];exact FR.get t e'
def FR.acX{ρ:List Addr}{f:List Nat}:∀ {fs:Fs} {gs:List (Str × V)},FR ρ fs gs->fget fs f=none->gs.lookup (nm f)=none
 | _,_,.nil,e=>rfl
 | p::fs,(x,v)::gs,.cons r t,e=>by
   obtain⟨e1,r1⟩:=r;have e1:x=nm p.1:=e1;have e':ifB (codes p.1 f) (some p.2) (fget fs f)=none:=e;rw[List.lookup_cons]
   cases c:codes p.1 f with
   | true=>rw[c]at e';cases e'
   | false=>
     rw[c]at e'
     have:(nm f==x)=false:=by
      rw[e1];refine beq_eq_false_iff_ne.mpr fun z=>?_;rw[dh.mpr (vP z).symm]at c;cases c
     rw[this];exact FR.acX t e'
inductive KW:W->Key->Prop
 | int (i):KW (.int i) (.inl i)
 | str (c):KW (.str c) (.inr ⟨c.toArray⟩)
structure Cn where
 c:Nat->Addr
 P:Addr
 q:Str
 on:Bool
instance:CoeFun Cn (fun _=>Nat->Addr):=⟨Cn.c⟩
section
variable(cl:Cn)
def Tb(H:Hp):Prop:=cl.on=true->∃ ps,H cl.P=some (.tbl ps)/\TriplesOk ps.toList/\∀ pos cv,codeAmong pos ps.toList=some cv->∃ c',cv= .ref c'/\H c'=some (.ext fun h=>h.CodeRec (.ref c') cl.q)
def OA(ρ:List Addr)(H:Hp)(a:Addr):O->Prop
 | .tup xs=>∃ vs,RWs ρ xs vs/\H a=some (.tup vs)
 | .lst xs=>∃ vs,RWs ρ xs vs/\H a=some (.lst vs)
 | .ins C fs=>∃ dx gs,FR ρ fs gs/\H a=some (.ins (cl C) dx gs)
 | .dk kvs=>∃ gs,Paired (fun p q=>KW p.1 q.1/\RW ρ p.2 q.2) kvs gs/\H a=some (.dK gs)
 | .dt kvs=>∃ gs,Paired (fun p q=>Paired KW p.1 q.1/\RW ρ p.2 q.2) kvs gs/\H a=some (.dT gs)
 | .scr ns=>∃ o,H a=some (.frz o (.lst (ns.map V.int)))
structure Sim (ρ:List Addr)(h:Hs)(H:Hp):Prop where
 len:ρ.length=h.n
 nd:ρ.Nodup
 obj:∀ n a,ρ[n]? =some a->∃ o,h.get n=some o/\OA cl ρ H a o
 tb:Tb cl H
end
section
variable{cl:Cn}{ρ ρ':List Addr}{h:Hs}{H H':Hp}
def OA.som{a:Addr}{o:O}(x:OA cl ρ H a o):∃ u,H a=some u:=by
 cases o with
 | tup xs=>exact⟨_,x.choose_spec.2⟩
 | lst xs=>exact⟨_,x.choose_spec.2⟩
 | ins C fs=>obtain⟨_,_,_,e⟩:=x;exact⟨_,e⟩
 | dk kvs=>exact⟨_,x.choose_spec.2⟩
 | dt kvs=>exact⟨_,x.choose_spec.2⟩
 | scr ns=>exact⟨_,x.choose_spec⟩
def OA.keep{a:Addr}{o:O}(x:OA cl ρ H a o)(e:ρ <+:ρ')(k:H' a=H a):OA cl ρ' H' a o:=by
 cases o with
 | tup xs=>obtain⟨vs,r,q⟩:=x;exact⟨vs,r.mono e,k.trans q⟩
 | lst xs=>obtain⟨vs,r,q⟩:=x;exact⟨vs,r.mono e,k.trans q⟩
 | ins C fs=>obtain⟨dx,gs,r,q⟩:=x;exact⟨dx,gs,r.mono e,k.trans q⟩
 | dk kvs=>obtain⟨gs,r,q⟩:=x;exact⟨gs,Paired.pZ r fun _ _ z=>⟨z.1,z.2.mono e⟩,k.trans q⟩
 | dt kvs=>obtain⟨gs,r,q⟩:=x;exact⟨gs,Paired.pZ r fun _ _ z=>⟨z.1,z.2.mono e⟩,k.trans q⟩
 | scr ns=>obtain⟨o,q⟩:=x;exact⟨o,k.trans q⟩
def Pl:Option HO->Prop
 | some (.tbl _)=>False
 | some (.ext _)=>False
 | _=>True
def Tb.upd{p:Addr}{u:HO}(t:Tb cl H)(n:Pl (H p)):Tb cl (upd H p u):=fun on=>by
 obtain⟨ps,h1,h2,h3⟩:=t on;have ne:∀ {b:Addr} {w:HO},H b=some w->¬ Pl (some w)->b ≠ p:=fun {b w} e z q=>by rw[q]at e;rw[e]at n;exact z n
 refine⟨ps,by rw[aN (ne h1 (fun z=>z))];exact h1,h2,fun pos cv e=>?_⟩;obtain⟨c',e1,e2⟩:=h3 pos cv e;exact⟨c',e1,by rw[aN (ne e2 (fun z=>z))];exact e2⟩
def OA.pl{a:Addr}{o:O}(x:OA cl ρ H a o):Pl (H a):=by
 cases o with
 | tup xs=>rw[x.choose_spec.2];trivial
 | lst xs=>rw[x.choose_spec.2];trivial
 | ins C fs=>obtain⟨_,_,_,e⟩:=x;rw[e];trivial
 | dk kvs=>rw[x.choose_spec.2];trivial
 | dt kvs=>rw[x.choose_spec.2];trivial
 | scr ns=>rw[x.choose_spec];trivial
def Sim.som(s:Sim cl ρ h H){a:Addr}(e:a ∈ ρ):∃ u,H a=some u:=by
 obtain⟨n,hn⟩:=List.getElem?_of_mem e;obtain⟨o,_,x⟩:=s.obj n a hn;exact x.som
def Sim.new(s:Sim cl ρ h H){p:Addr}(e:H p=none):p ∉ ρ:=fun z=>by
 obtain⟨u,q⟩:=s.som z;rw[e]at q;cases q
def Sim.at(s:Sim cl ρ h H){n:Nat}{a:Addr}{o:O}(e:ρ[n]? =some a)(q:h.get n=some o):OA cl ρ H a o:=by
 obtain⟨o',q',x⟩:=s.obj n a e;rw[q]at q';cases q';exact x
def Sim.push(s:Sim cl ρ h H){p:Addr}{u:HO}{o:O}(e:H p=none)(x:OA cl (ρ ++ [p]) (upd H p u) p o):Sim cl (ρ ++ [p]) (h.push o) (upd H p u) where
 len:=by rw[ji,Hs.mF,s.len];rfl
 nd:=List.nodup_append.mpr ⟨s.nd,by simp,fun a ha b hb z=>by
  simp only[List.mem_singleton]at hb
  exact s.new e (by rw[<- hb,<- z];exact ha)⟩
 obj:=fun n a hn=>by
  rw[Hs.oX]
  by_cases hlt:n<ρ.length
  · rw[pG hlt]at hn;obtain⟨o',q,y⟩:=s.obj n a hn;refine⟨o',by rw[aA (by rw[<- s.len];omega)];exact q,y.keep (kE _ _) ?_⟩;obtain⟨w,hw⟩:=y.som;exact aN (cu hw e)
  · have hn':n=ρ.length:=by
     have:=(bB hn).1;rw[ji]at this;simp at this;omega
    subst hn';rw[lJ (aG _),Nat.sub_self]at hn;simp at hn;subst hn;exact⟨o,by rw[aB s.len],x⟩
 tb:=s.tb.upd (by rw[e];trivial)
def Sim.put(s:Sim cl ρ h H){n:Nat}{a:Addr}{u:HO}{o:O}(e:ρ[n]? =some a)(x:OA cl ρ (upd H a u) a o):Sim cl ρ (h.set n o) (upd H a u) where
 len:=by rw[Hs.gZ,s.len]
 nd:=s.nd
 obj:=fun m b hm=>by
  rw[Hs.get_set]
  by_cases z:m=n
  · subst z;rw[e]at hm;cases hm;exact⟨o,aB rfl,x⟩
  · obtain⟨o',q,y⟩:=s.obj m b hm;refine⟨o',by rw[aA z];exact q,y.keep (List.prefix_refl _) (aN fun zz=>z ?_)⟩;subst zz;exact(List.getElem?_inj (bB hm).1 s.nd).mp (hm.trans e.symm)
 tb:=by
  obtain⟨o',_,y⟩:=s.obj n a e;exact s.tb.upd y.pl
def Bt(cl:Cn)(ρ:List Addr)(H:Hp)(ρ':List Addr)(H':Hp):Prop:=ρ <+:ρ'/\∀ b u,H b=some u->b ∉ ρ->b ∉ ρ'/\((cl.on=true->b ≠ cl.P)->H' b=some u)/\∃ u',H' b=some u'
def Bt.refl:Bt cl ρ H ρ H:=⟨List.prefix_refl _,fun _ u q n=>⟨n,fun _=>q,u,q⟩⟩
def Bt.trans{acY:List Addr}{H'':Hp}(x:Bt cl ρ H ρ' H')(y:Bt cl ρ' H' acY H''):Bt cl ρ H acY H'':=⟨x.1.trans y.1,fun b u q n=>by
 obtain⟨n1,q1,u1,q2⟩:=x.2 b u q n;obtain⟨n2,q3,u2,q4⟩:=y.2 b u1 q2 n1;refine⟨n2,fun c=>?_,u2,q4⟩;have e:=q1 c;rw[q2]at e;cases e
 exact q3 c⟩
def Bt.new{p:Addr}{u:HO}(e:H p=none):Bt cl ρ H (ρ ++ [p]) (upd H p u):=⟨kE _ _,fun b v q n=>by
 have ne:b ≠ p:=cu q e;have q':upd H p u b=some v:=by rw[aN ne];exact q
 refine⟨fun z=>?_,fun _=>q',v,q'⟩
 rcases List.mem_append.mp z with z | z
 · exact n z
 · simp at z;exact ne z⟩
def Bt.put{a:Addr}{u:HO}{n:Nat}(e:ρ[n]? =some a):Bt cl ρ H ρ (upd H a u):=⟨List.prefix_refl _,fun b v q nb=>by
 have q':upd H a u b=some v:=by rw[aN fun z=>nb (by rw[z];exact ju e)];exact q
 exact⟨nb,fun _=>q',v,q'⟩⟩
end
section
variable(cl:Cn)
def Post(ρ:List Addr)(H:Hp)(E:XK){α:Type}(r:R α)(P:α->Hs->List Addr->Hp->Prop):Prop:=match r with
 | .ok a h=>∀ ρ' H',Bt cl ρ H ρ' H'->Sim cl ρ' h H'->P a h ρ' H'
 | .ex C fs h=>∀ ρ' H' dx gs,Bt cl ρ H ρ' H'->Sim cl ρ' h H'->FR ρ' fs gs->dx ∉ ρ'->H' dx=some (.xd gs)->E (.ref (cl C)) (some dx) H'
 | .no=>False
end
section
variable{cl:Cn}{ρ ρ':List Addr}{h:Hs}{H H':Hp}{E:XK}{α β:Type}
def Post.mono{r:R α}{P P':α->Hs->List Addr->Hp->Prop}(x:Post cl ρ H E r P)(f:∀ a h ρ' H',Bt cl ρ H ρ' H'->Sim cl ρ' h H'->P a h ρ' H'->P' a h ρ' H'):Post cl ρ H E r P':=by
 cases r with
 | ok a h=>exact fun ρ' H' b s=>f a h ρ' H' b s (x ρ' H' b s)
 | ex C fs h=>exact x
 | no=>exact x
def Post.later{r:R α}{P:α->Hs->List Addr->Hp->Prop}(x:Post cl ρ H E r P)(b:Bt cl ρ H ρ' H'):Post cl ρ' H' E r P:=by
 cases r with
 | ok a h=>exact fun ρ2 H2 b2 s=>x ρ2 H2 (b.trans b2) s
 | ex C fs h=>exact fun ρ2 H2 dx gs b2 s f n q=>x ρ2 H2 dx gs (b.trans b2) s f n q
 | no=>exact x
def Post.bind{r:R α}{f:α->Hs->R β}{P:β->Hs->List Addr->Hp->Prop}(x:Post cl ρ H E (r.bind f) P):Post cl ρ H E r fun a h1 ρ1 H1=>Post cl ρ1 H1 E (f a h1) P:=by
 cases r with
 | ok a h1=>exact fun ρ1 H1 b s1=>Post.later (ρ:=ρ) (H:=H) x b
 | ex C fs h1=>exact x
 | no=>exact x
end
section
variable(Pg:List Fn)(cl:Cn)(E:XK)(d:Nat)
def VP(Q:VK):A->Hs->List Addr->Hp->Prop:=fun r _ ρ H=>∃ w,r= .w w/\∀ v,RW ρ w v->Q v H
def LP(Q:List V->Hp->Prop):A->Hs->List Addr->Hp->Prop:=fun r _ ρ H=>∃ ws,r= .ws ws/\∀ vs,RWs ρ ws vs->Q vs H
def Ag(σ0:St)(τ:Sg)(σ:St):Prop:=∀ i,cU τ i=none->σ[i]? =σ0[i]?
def FP(σ0:St)(D:Ends)(ρ:List Addr)(H:Hp):Fl->Prop
 | .nx τ=>∀ σ,RS ρ τ σ->Ag σ0 τ σ->D.nx σ H
 | .bk τ=>∀ σ,RS ρ τ σ->Ag σ0 τ σ->D.bk σ H
 | .ct τ=>∀ σ,RS ρ τ σ->Ag σ0 τ σ->D.ct σ H
 | .rt w=>∀ v,RW ρ w v->D.rt v H
def SPo(σ0:St)(D:Ends):A->Hs->List Addr->Hp->Prop:=fun r _ ρ H=>∃ f,r= .fl f/\FP σ0 D ρ H f
def ev(q:Q)(σ:St)(H:Hp)(P:A->Hs->List Addr->Hp->Prop):Prop:=∃ ρ τ h n,Sim cl ρ h H/\RS ρ τ σ/\Post cl ρ H E (evs Pg n d q τ h) P
def tE(a:X):TE:=fun σ H Q=>ev Pg cl E d (.x a) σ H (VP Q)
def tT(a:X):TT:=fun σ H Q=>ev Pg cl E d (.x a) σ H (VP fun v H'=>∃ b,v= .bl b/\Q b H')
def tA(as:List X):TA:=fun σ H Q=>ev Pg cl E d (.a as) σ H (LP Q)
def evS(σ0:St)(q:Q)(σ:St)(H:Hp)(P:A->Hs->List Addr->Hp->Prop):Prop:=∃ ρ τ h n,Sim cl ρ h H/\RS ρ τ σ/\Ag σ0 τ σ/\Post cl ρ H E (evs Pg n d q τ h) P
def tS(σ0:St)(s:S):TS:=fun D σ H=>evS Pg cl E d σ0 (.s s) σ H (SPo σ0 D)
def tSs(σ0:St)(s:List S):TS:=fun D σ H=>evS Pg cl E d σ0 (.ss s) σ H (SPo σ0 D)
end
section
variable{Pg:List Fn}{cl:Cn}{E:XK}{d:Nat}{X:Cx}{σ:St}{H:Hp}{P:A->Hs->List Addr->Hp->Prop}
def PE.of{e:Expr}{t t':TE}(h:PE X e t)(f:∀ σ H Q,t' σ H Q->t σ H Q):PE X e t':=fun pins s σ H Q I q=>h pins s σ H Q I (f σ H Q q)
def PT.of{e:Expr}{t t':TT}(h:PT X e t)(f:∀ σ H Q,t' σ H Q->t σ H Q):PT X e t':=fun pins s σ H Q I q=>h pins s σ H Q I (f σ H Q q)
def PW.of{e:Expr}{t t':TT}(h:PW X e t)(f:∀ σ H Q,t' σ H Q->t σ H Q):PW X e t':=fun wh pins s σ H Q I q=>h wh pins s σ H Q I (f σ H Q q)
def PA.of{es:List Expr}{t t':TA}(h:PA X es t)(f:∀ σ H Q,t' σ H Q->t σ H Q):PA X es t':=fun pos pins s σ H Q I q=>h pos pins s σ H Q I (f σ H Q q)
def PS.of{e:Stmt}{t t':TS}(h:PS X e t)(f:∀ D σ H,t' D σ H->t D σ H):PS X e t':=fun pins s σ H D I q=>h pins s σ H D I (f D σ H q)
def PSs.of{e:List Stmt}{t t':TS}(h:PSs X e t)(f:∀ D σ H,t' D σ H->t D σ H):PSs X e t':=fun pins s σ H D I q=>h pins s σ H D I (f D σ H q)
def ev.step{q:Q}(x:ev Pg cl E d q σ H P):∃ ρ τ h n,Sim cl ρ h H/\RS ρ τ σ/\Post cl ρ H E (evs Pg n d q τ h) P:=x
def evS.step{q:Q}{σ0:St}(x:evS Pg cl E d σ0 q σ H P):∃ ρ τ h n,Sim cl ρ h H/\RS ρ τ σ/\Ag σ0 τ σ/\Post cl ρ H E (evs Pg n d q τ h) P:=x
def ev.then{q:Q}{ρ:List Addr}{τ:Sg}{h:Hs}{n:Nat}{f:A->Hs->R A}{P P':A->Hs->List Addr->Hp->Prop}(s:Sim cl ρ h H)(r:RS ρ τ σ)(p:Post cl ρ H E ((evs Pg n d q τ h).bind f) P)
    (g:∀ a h1 ρ1 H1,Bt cl ρ H ρ1 H1->Sim cl ρ1 h1 H1->Post cl ρ1 H1 E (f a h1) P->P' a h1 ρ1 H1):ev Pg cl E d q σ H P':=⟨ρ,τ,h,n,s,r,p.bind.mono g⟩
def evS.then{q:Q}{σ0:St}{ρ:List Addr}{τ:Sg}{h:Hs}{n:Nat}{f:A->Hs->R A}{P P':A->Hs->List Addr->Hp->Prop}(s:Sim cl ρ h H)(r:RS ρ τ σ)(ag:Ag σ0 τ σ)(p:Post cl ρ H E ((evs Pg n d q τ h).bind f) P)
    (g:∀ a h1 ρ1 H1,Bt cl ρ H ρ1 H1->Sim cl ρ1 h1 H1->Post cl ρ1 H1 E (f a h1) P->P' a h1 ρ1 H1):evS Pg cl E d σ0 q σ H P':=⟨ρ,τ,h,n,s,r,ag,p.bind.mono g⟩
def b_{ρ:List Addr}{H:Hp}{a:A}{f:W->R A}(p:Post cl ρ H E (a.toW f) P):∃ w,a= .w w/\Post cl ρ H E (f w) P:=by
 cases a with
 | w w=>exact⟨w,rfl,p⟩
 | _=>exact p.elim
def oY{ρ:List Addr}{H:Hp}{a:A}{f:List W->R A}(p:Post cl ρ H E (a.toL f) P):∃ w,a= .ws w/\Post cl ρ H E (f w) P:=by
 cases a with
 | ws w=>exact⟨w,rfl,p⟩
 | _=>exact p.elim
def Oi{ρ:List Addr}{H:Hp}{a:A}{f:Iv->R A}(p:Post cl ρ H E (a.toV f) P):∃ w,a= .iv w/\Post cl ρ H E (f w) P:=by
 cases a with
 | iv w=>exact⟨w,rfl,p⟩
 | _=>exact p.elim
def GR{ρ:List Addr}{H:Hp}{a:A}{f:Fl->R A}(p:Post cl ρ H E (a.toF f) P):∃ w,a= .fl w/\Post cl ρ H E (f w) P:=by
 cases a with
 | fl w=>exact⟨w,rfl,p⟩
 | _=>exact p.elim
def jo{ρ:List Addr}{H:Hp}{α β:Type}{o:Option α}{f:α->R β}{P:β->Hs->List Addr->Hp->Prop}(p:Post cl ρ H E (Opt o f) P):∃ w,o=some w/\Post cl ρ H E (f w) P:=by
 cases o with
 | some w=>exact⟨w,rfl,p⟩
 | none=>exact p.elim
def GX{ρ:List Addr}{H:Hp}{β:Type}{w:W}{f:Int->R β}{P:β->Hs->List Addr->Hp->Prop}(p:Post cl ρ H E (w.onI f) P):∃ i,w= .int i/\Post cl ρ H E (f i) P:=by
 cases w with
 | int w=>exact⟨w,rfl,p⟩
 | _=>exact p.elim
def Wo{ρ:List Addr}{H:Hp}{β:Type}{w:W}{f:Nat->R β}{P:β->Hs->List Addr->Hp->Prop}(p:Post cl ρ H E (w.onR f) P):∃ i,w= .ref i/\Post cl ρ H E (f i) P:=by
 cases w with
 | ref w=>exact⟨w,rfl,p⟩
 | _=>exact p.elim
def yI{ρ:List Addr}{H:Hp}{β:Type}{w:W}{f t:R β}{P:β->Hs->List Addr->Hp->Prop}(p:Post cl ρ H E (w.onB f t) P):(w= .bl true/\Post cl ρ H E t P)\/(w= .bl false/\Post cl ρ H E f P):=by
 cases w with
 | bl b=>cases b with
   | true=>exact .inl ⟨rfl,p⟩
   | false=>exact .inr ⟨rfl,p⟩
 | _=>exact p.elim
def kW{ρ:List Addr}{H:Hp}{β:Type}{b:Bool}{t:R β}{P:β->Hs->List Addr->Hp->Prop}(p:Post cl ρ H E (ifB b t .no) P):b=true/\Post cl ρ H E t P:=by
 cases b with
 | true=>exact⟨rfl,p⟩
 | false=>exact p.elim
def at_of{ρ:List Addr}{H:Hp}{h:Hs}{β:Type}{w:W}{f:Nat->O->R β}{P:β->Hs->List Addr->Hp->Prop}(s:Sim cl ρ h H){v:V}(r:RW ρ w v)(p:Post cl ρ H E (h.at w f) P):
    ∃ n o a,w= .ref n/\v= .ref a/\ρ[n]? =some a/\h.get n=some o/\OA cl ρ H a o/\Post cl ρ H E (f n o) P:=by
 obtain⟨n,rfl,p⟩:=Wo p;obtain⟨o,e,p⟩:=jo p
 cases r with
 | ref q=>exact⟨n,o,_,rfl,rfl,q,e,s.at q e,p⟩
def GZ{ρ:List Addr}{H:Hp}{β:Type}{o:O}{f:List W->R β}{P:β->Hs->List Addr->Hp->Prop}(p:Post cl ρ H E (o.onL f) P):∃ xs,o= .lst xs/\Post cl ρ H E (f xs) P:=by
 cases o with
 | lst xs=>exact⟨xs,rfl,p⟩
 | _=>exact p.elim
def I_{ρ:List Addr}{H:Hp}{β:Type}{o:O}{f:Nat->Fs->R β}{P:β->Hs->List Addr->Hp->Prop}(p:Post cl ρ H E (o.onI f) P):∃ C fs,o= .ins C fs/\Post cl ρ H E (f C fs) P:=by
 cases o with
 | ins C fs=>exact⟨C,fs,rfl,p⟩
 | _=>exact p.elim
def Post.now{ρ:List Addr}{H:Hp}{h:Hs}{α:Type}{a:α}{P:α->Hs->List Addr->Hp->Prop}(s:Sim cl ρ h H)(p:Post cl ρ H E (.ok a h) P):P a h ρ H:=p ρ H Bt.refl s
def Post.gw{ρ:List Addr}{H:Hp}{h:Hs}{w:W}{v:V}{Q:VK}(s:Sim cl ρ h H)(p:Post cl ρ H E (.ok (.w w) h) (VP Q))(r:RW ρ w v):Q v H:=by
 obtain⟨w',e,q⟩:=p.now s;cases e;exact q v r
def Post.new{ρ:List Addr}{H:Hp}{h:Hs}{o:O}{u:HO}{p:Addr}{Q:VK}(s:Sim cl ρ h H)(x:Post cl ρ H E (ofW (.alloc h o)) (VP Q))(e:H p=none)(z:OA cl (ρ ++ [p]) (upd H p u) p o):Q (.ref p) (upd H p u):=by
 obtain⟨w',e',q⟩:=x (ρ ++ [p]) (upd H p u) (Bt.new e) (s.push e z);cases e';exact q _ (.ref (by rw[<- s.len,lJ (aG _),Nat.sub_self];rfl))
def Post.newL{ρ:List Addr}{H:Hp}{h:Hs}{xs:List W}{vs:List V}{p:Addr}{Q:VK}(s:Sim cl ρ h H)(x:Post cl ρ H E (ofW (.alloc h (.lst xs))) (VP Q))(e:H p=none)(r:RWs ρ xs vs):Q (.ref p) (upd H p (.lst vs)):=
 x.new s e ⟨vs,r.mono (kE _ _),aJ⟩
def Post.Ug{ρ:List Addr}{H:Hp}{h:Hs}{xs:List W}{vs:List V}{p:Addr}{Q:VK}(s:Sim cl ρ h H)(x:Post cl ρ H E (ofW (.alloc h (.tup xs))) (VP Q))(e:H p=none)(r:RWs ρ xs vs):Q (.ref p) (upd H p (.tup vs)):=
 x.new s e ⟨vs,r.mono (kE _ _),aJ⟩
def Post.putL{ρ:List Addr}{H:Hp}{h:Hs}{xs:List W}{vs:List V}{n:Nat}{a:Addr}{w:W}{v:V}{Q:VK}(s:Sim cl ρ h H)(x:Post cl ρ H E (ofW (.ok w (h.set n (.lst xs)))) (VP Q))(e:ρ[n]? =some a)(r:RWs ρ xs vs)(rw:RW ρ w v):Q v (upd H a (.lst vs)):=by
 obtain⟨w',e',q⟩:=x ρ (upd H a (.lst vs)) (Bt.put e) (s.put e ⟨vs,r,aJ⟩);cases e';exact q _ rw
def acZ{i:Nat}{x:Str}{pos:Pos}(hN:X.N[i]? =some x:=by rfl)(hv:Vis X.env.scope x:=by first | exact Or.inl rfl | exact Or.inr (Or.inl rfl) | exact Or.inr (Or.inr rfl))(hd:(x==("__debug__":Str))=false:=by decide)
    (hcd:(x==("__classdict__":Str))=false:=by decide):PE X (.Name x pos) (tE Pg cl E d (.var i)):=PE.of (Gm hN hv hd hcd) fun σ H Q x=>by
 obtain⟨ρ,τ,h,n,s,r,p⟩:=x.step;obtain⟨w,e,p⟩:=jo (show Post cl ρ H E (Opt (cU τ i) fun w=>.ok (.w w) h) (VP Q) from p);obtain⟨v,ev,rv⟩:=r.get e;exact⟨v,ev,p.gw s rv⟩
def vQ{e:Expr}{w:W}{v:V}(h:PE X e (tC v))(r:RW [] w v):PE X e (tE Pg cl E d (.cst w)):=PE.of h fun σ H Q x=>by
 obtain⟨ρ,τ,h,n,s,_,p⟩:=x.step;exact Post.gw s (show Post cl ρ H E (.ok (.w w) h) (VP Q) from p) (r.mono (List.nil_prefix))
def aD{i:Int}{j pos}:PE X (.Constant (.int i) j pos) (tE Pg cl E d (.cst (.int i))):=vQ d8 (.int i)
def M6{b j pos}:PE X (.Constant (.bool b) j pos) (tE Pg cl E d (.cst (.bl b))):=vQ aeg (.bl b)
def Wq{j pos}:PE X (.Constant .none j pos) (tE Pg cl E d (.cst .non)):=vQ abY .non
def d_(c:List Nat){x:Str}{j pos}(e:x= ⟨c.toArray⟩:=by decide +kernel):PE X (.Constant (.str x) j pos) (tE Pg cl E d (.cst (.str c))):=by
 subst e;exact vQ qp (.str c)
def au:PA X [] (tA Pg cl E d []):=PA.of bO fun σ H Q x=>by
 obtain⟨ρ,τ,h,n,s,_,p⟩:=x.step;obtain⟨ws,e,q⟩:=Post.now s (show Post cl ρ H E (.ok (.ws []) h) (LP Q) from p);cases e;exact q [] .nil
def iw{e:Expr}{es:List Expr}{a:Ev.X}{as:List Ev.X}(ha:PE X e (tE Pg cl E d a))(hr:PA X es (tA Pg cl E d as))(hs:starEach (e::es) X.env=(false,eval e X.env)::starEach es X.env:=by rfl):PA X (e::es) (tA Pg cl E d (a::as)):=
 PA.of (aX ha hr hs) fun σ H Q x=>by
 obtain⟨ρ,τ,h,n,s,r,p⟩:=x.step;refine ev.then s r (show Post cl ρ H E ((evs Pg n d (.x a) τ h).bind fun r h=>r.toW fun w=>(evs Pg n d (.a as) τ h).bind fun r h=>r.toL fun ws=>.ok (.ws (w::ws)) h) (LP Q) from p) fun a1 h1 ρ1 H1 b1 s1 p1=>?_;obtain⟨w,rfl,p1⟩:=b_ p1;refine⟨w,rfl,fun v rv=>?_⟩;refine ev.then s1 (r.mono b1.1) p1 fun a2 h2 ρ2 H2 b2 s2 p2=>?_;obtain⟨ws,rfl,p2⟩:=oY p2;refine⟨ws,rfl,fun vs rs=>?_⟩;obtain⟨ws',e,q⟩:=p2.now s2;cases e;exact q _ (.cons (rv.mono b2.1) rs)
def Op2(cl:Cn)(p:Pr)(r:R2):Prop:=∀(E:XK) (ρ:List Addr) (h:Hs) (H:Hp) (w1 w2:W) (v1 v2:V) (Q:VK),Sim cl ρ h H->RW ρ w1 v1->RW ρ w2 v2->Post cl ρ H E (ofW (dF p [w1,w2] h)) (VP Q)->r v1 v2 H Q
def Op1(cl:Cn)(p:Pr)(r:V->Hp->VK->Prop):Prop:=∀(E:XK) (ρ:List Addr) (h:Hs) (H:Hp) (w1:W) (v1:V) (Q:VK),Sim cl ρ h H->RW ρ w1 v1->Post cl ρ H E (ofW (dF p [w1] h)) (VP Q)->r v1 H Q
def vR{p:Pr}{r:R2}(o:Op2 cl p r){a b:Ev.X}{Q:VK}(x:tE Pg cl E d (.pr p [a,b]) σ H Q):tOp r (tE Pg cl E d a) (tE Pg cl E d b) σ H Q:=by
 obtain⟨ρ,τ,h,n,s,rs,q⟩:=x.step;have q:Post cl ρ H E ((evs Pg n d (.a [a,b]) τ h).bind fun a h=>a.toL fun ws=>ofW (dF p ws h)) (VP Q):=q;have q1:=q.bind;refine ev.then s rs (show Post cl ρ H E ((evs Pg n d (.x a) τ h).bind fun r h=>r.toW fun w=>(evs Pg n d (.a [b]) τ h).bind fun r h=>r.toL fun ws=>.ok (.ws (w::ws)) h) _ from q1) fun a1 h1 ρ1 H1 b1 s1 p1=>?_;obtain⟨w1,rfl,pz⟩:=b_ p1;clear p1;refine⟨w1,rfl,fun v1 rv1=>?_⟩;have p1':=pz.bind;refine ev.then s1 (rs.mono b1.1) (show Post cl ρ1 H1 E ((evs Pg n d (.x b) τ h1).bind fun r h=>r.toW fun w=>(evs Pg n d (.a []) τ h).bind fun r h=>r.toL fun ws=>.ok (.ws (w::ws)) h) _ from p1') fun a2 h2 ρ2 H2 b2 s2 p2=>?_;obtain⟨w2,rfl,pz⟩:=b_ p2;clear p2;refine⟨w2,rfl,fun v2 rv2=>?_⟩;have p3:=Post.now s2 (show Post cl ρ2 H2 E (.ok (A.ws [w2]) h2) _ from pz);have p4:=Post.now s2 (show Post cl ρ2 H2 E (.ok (A.ws [w1,w2]) h2) _ from p3);exact o E ρ2 h2 H2 w1 w2 v1 v2 Q s2 (rv1.mono b2.1) rv2 p4
def yJ{p:Pr}{r:V->Hp->VK->Prop}(o:Op1 cl p r){a:Ev.X}{Q:VK}(x:tE Pg cl E d (.pr p [a]) σ H Q):tUn r (tE Pg cl E d a) σ H Q:=by
 obtain⟨ρ,τ,h,n,s,rs,q⟩:=x.step;have q:Post cl ρ H E ((evs Pg n d (.a [a]) τ h).bind fun a h=>a.toL fun ws=>ofW (dF p ws h)) (VP Q):=q;have q1:=q.bind;refine ev.then s rs (show Post cl ρ H E ((evs Pg n d (.x a) τ h).bind fun r h=>r.toW fun w=>(evs Pg n d (.a []) τ h).bind fun r h=>r.toL fun ws=>.ok (.ws (w::ws)) h) _ from q1) fun a1 h1 ρ1 H1 b1 s1 p1=>?_;obtain⟨w1,rfl,pz⟩:=b_ p1;clear p1;refine⟨w1,rfl,fun v1 rv1=>?_⟩;have p3:=Post.now s1 (show Post cl ρ1 H1 E (.ok (A.ws [w1]) h1) _ from pz);exact o E ρ1 h1 H1 w1 v1 Q s1 rv1 p3
def OpN(cl:Cn)(p:Pr)(r:List V->Hp->VK->Prop):Prop:=∀(E:XK) (ρ:List Addr) (h:Hs) (H:Hp) (ws:List W) (vs:List V) (Q:VK),Sim cl ρ h H->RWs ρ ws vs->Post cl ρ H E (ofW (dF p ws h)) (VP Q)->r vs H Q
def Ja{p:Pr}{r:List V->Hp->VK->Prop}(o:OpN cl p r){as:List Ev.X}{Q:VK}(x:tE Pg cl E d (.pr p as) σ H Q):tCB r (tA Pg cl E d as) σ H Q:=by
 obtain⟨ρ,τ,h,n,s,rs,q⟩:=x.step;refine ev.then s rs (show Post cl ρ H E ((evs Pg n d (.a as) τ h).bind fun a h=>a.toL fun ws=>ofW (dF p ws h)) (VP Q) from q) fun a1 h1 ρ1 H1 b1 s1 p1=>?_;obtain⟨ws,rfl,p1⟩:=oY p1;exact⟨ws,rfl,fun vs rv=>o E ρ1 h1 H1 ws vs Q s1 rv p1⟩
end
section
variable{cl:Cn}{E:XK}{ρ:List Addr}{H:Hp}{h:Hs}{P:A->Hs->List Addr->Hp->Prop}
def oI{w:W}{f:Int->R W}(p:Post cl ρ H E (ofW (w.onI f)) P):∃ i,w= .int i/\Post cl ρ H E (ofW (f i)) P:=by
 cases w with
 | int w=>exact⟨w,rfl,p⟩
 | _=>exact p.elim
def oB{w:W}{f t:R W}(p:Post cl ρ H E (ofW (w.onB f t)) P):∃ b,w= .bl b/\Post cl ρ H E (ofW (ifB b t f)) P:=by
 cases w with
 | bl b=>exact⟨b,rfl,p⟩
 | _=>exact p.elim
def oIf{b:Bool}{t:R W}(p:Post cl ρ H E (ofW (ifB b t .no)) P):b=true/\Post cl ρ H E (ofW t) P:=by
 cases b with
 | true=>exact⟨rfl,p⟩
 | false=>exact p.elim
def ux{α:Type}{o:Option α}{f:α->R W}(p:Post cl ρ H E (ofW (Opt o f)) P):∃ w,o=some w/\Post cl ρ H E (ofW (f w)) P:=by
 cases o with
 | some w=>exact⟨w,rfl,p⟩
 | none=>exact p.elim
def oAt{w:W}{f:Nat->O->R W}(s:Sim cl ρ h H){v:V}(r:RW ρ w v)(p:Post cl ρ H E (ofW (h.at w f)) P):
    ∃ n o a,w= .ref n/\v= .ref a/\ρ[n]? =some a/\h.get n=some o/\OA cl ρ H a o/\Post cl ρ H E (ofW (f n o)) P:=by
 cases w with
 | ref n=>
   obtain⟨o,e,p⟩:=ux (show Post cl ρ H E (ofW (Opt (h.get n) (f n))) P from p)
   cases r with
   | ref q=>exact⟨n,o,_,rfl,rfl,q,e,s.at q e,p⟩
 | _=>exact p.elim
def oL{o:O}{f:List W->R W}(p:Post cl ρ H E (ofW (o.onL f)) P):∃ xs,o= .lst xs/\Post cl ρ H E (ofW (f xs)) P:=by
 cases o with
 | lst xs=>exact⟨xs,rfl,p⟩
 | _=>exact p.elim
def oIt{o:O}{f:List W->R W}(p:Post cl ρ H E (ofW (o.items f)) P):∃ xs,(o= .lst xs\/o= .tup xs)/\Post cl ρ H E (ofW (f xs)) P:=by
 cases o with
 | lst xs=>exact⟨xs,.inl rfl,p⟩
 | tup xs=>exact⟨xs,.inr rfl,p⟩
 | _=>exact p.elim
def M7{xs:List W}{k:R W}(p:Post cl ρ H E (ofW (size xs k)) P):xs.length<=16777215/\Post cl ρ H E (ofW k) P:=by
 obtain⟨e,p⟩:=oIf p;rw[ble_eq,len_eq]at e;exact⟨dw e,p⟩
def rm:sizeLine=16777216:=sizeLine_eq
def OA.sq{K:ao}{a:Addr}{o:O}{xs:List W}(e:o= .lst xs\/o= .tup xs)(x:OA cl ρ H a o):∃ vs,RWs ρ xs vs/\(SqL K H a vs\/SqT K H a vs):=by
 rcases e with rfl | rfl
 · obtain⟨vs,r,q⟩:=x;exact⟨vs,r,.inl (SqL.of q)⟩
 · obtain⟨vs,r,q⟩:=x;exact⟨vs,r,.inr (SqT.of q)⟩
def Post.yes{b c:Bool}{Q:VK}(s:Sim cl ρ h H)(p:Post cl ρ H E (ofW (.yes b h)) (VP Q))(e:b=c):Q (.bl c) H:=by subst e;exact Post.gw s p (.bl b)
end
section
variable{cl:Cn}
def Jb(i j:Int):Fg i j=i+j:=by cases i <;> cases j <;> rfl
def Rw(i j:Int):T_ i j=i - j:=by
 cases i with
 | ofNat a=>
   cases j with
   | ofNat b=>
     show(Bool.rec (Int.negSucc (b - a - 1)) (Int.ofNat (a - b)) (Nat.ble b a):Int)=(a:Int) - (b:Int)
     cases z:Nat.ble b a with
     | true=>
       have:=Nat.le_of_ble_eq_true z;show((a - b:Nat):Int)=_
       omega
     | false=>
       have:¬ b<=a:=fun q=>by rw[Nat.ble_eq_true_of_le q]at z;cases z
       show Int.negSucc (b - a - 1)=_;rw[Int.negSucc_eq]
       omega
   | negSucc b=>rfl
 | negSucc a=>
   cases j with
   | ofNat b=>
     show Int.negSucc (a+b)=Int.negSucc a - (b:Int)
     rw[Int.negSucc_eq,Int.negSucc_eq];omega
   | negSucc b=>rfl
def fmod_eq(i j:Int):fmod i j=i % j:=by cases i <;> cases j <;> rfl
def tR:Op2 cl .sub (rI0 fun i j=>.int (i - j)):=fun E ρ h H w1 w2 v1 v2 Q s r1 r2 p=>by
 obtain⟨i,rfl,p⟩:=oI (show Post cl ρ H E (ofW (w1.onI fun i=>w2.onI fun j=>acO h i j)) (VP Q) from p);obtain⟨j,rfl,p⟩:=oI p;have p:Post cl ρ H E (ofW (.ok (.int (T_ i j)) h)) (VP Q):=p;rw[Rw]at p;cases r1;cases r2;exact⟨i,j,rfl,rfl,Post.gw s p (.int _)⟩
def Oj{i:Int}(h:Sml i=true):L2.Sml i:=by
 unfold L2.Sml
 cases i with
 | ofNat a=>
   have:Nat.ble (a+1) (2 ^ 4000)=true:=h;rw[ble_eq]at this;have:=dw this;show a<2 ^ 4000
   omega
 | negSucc a=>
   have:Nat.ble (a+2) (2 ^ 4000)=true:=h;rw[ble_eq]at this;have:=dw this;show a+1<2 ^ 4000;omega
def jB:Op2 cl .mod (rI (fun _ j=>0<j) fun i j=>.int (i % j)):=fun E ρ h H w1 w2 v1 v2 Q s r1 r2 p=>by
 obtain⟨i,rfl,p⟩:=oI (show Post cl ρ H E (ofW (w1.onI fun i=>w2.onI fun j=>acR h i j)) (VP Q) from p);obtain⟨j,rfl,p⟩:=oI p;obtain⟨c,p⟩:=oIf p;rw[b8]at c;rw[fmod_eq]at p;cases r1;cases r2;exact⟨i,j,rfl,rfl,dw c,Post.gw s p (.int _)⟩
def Wr:Op2 cl .fdiv (rI (fun _ j=>Z7 j) fun i j=>.int (i.fdiv j)):=fun E ρ h H w1 w2 v1 v2 Q s r1 r2 p=>by
 obtain⟨i,rfl,p⟩:=oI (show Post cl ρ H E (ofW (w1.onI fun i=>w2.onI fun j=>aac h i j)) (VP Q) from p);obtain⟨j,rfl,p⟩:=oI p;obtain⟨c,p⟩:=oIf p;obtain⟨c2,p⟩:=oIf p;rw[b8]at c;have c:=dw c;cases r1;cases r2;exact⟨i,j,rfl,rfl,⟨by omega,Oj c2⟩,Post.gw s p (.int _)⟩
def aae:Op2 cl .pow (rI Ti fun i j=>.int (i ^ j.toNat)):=fun E ρ h H w1 w2 v1 v2 Q s r1 r2 p=>by
 obtain⟨i,rfl,p⟩:=oI (show Post cl ρ H E (ofW (w1.onI fun i=>w2.onI fun j=>acS h i j)) (VP Q) from p);obtain⟨j,rfl,p⟩:=oI p;obtain⟨c,p⟩:=oIf p;obtain⟨c2,p⟩:=oIf p;obtain⟨c3,p⟩:=oIf p;obtain⟨c4,p⟩:=oIf p;rw[b8]at c c2 c3 c4;have c:=dw c;have c2:=dw c2;have c3:=dw c3;have c4:=dw c4;cases r1;cases r2;exact⟨i,j,rfl,rfl,⟨by omega,by omega,by omega⟩,Post.gw s p (.int _)⟩
def aaf:Op1 cl .neg (rU fun i=>.int (-i)):=fun E ρ h H w1 v1 Q s r1 p=>by
 obtain⟨i,rfl,p⟩:=oI (show Post cl ρ H E (ofW (w1.onI fun i=>.ok (.int (-i)) h)) (VP Q) from p);cases r1;exact⟨i,rfl,Post.gw s p (.int _)⟩
def Uh{p:Pr}{f g:Int->Int->Bool}(hp:∀ h w1 w2,dF p [w1,w2] h=w1.onI fun i=>w2.onI fun j=>.yes (f i j) h)(e:∀ i j,f i j=g i j):Op2 cl p (rI0 fun i j=>.bl (g i j)):=fun E ρ h H w1 w2 v1 v2 Q s r1 r2 p=>by
 rw[hp]at p;obtain⟨i,rfl,p1⟩:=oI p;obtain⟨j,rfl,p2⟩:=oI p1;cases r1;cases r2;exact⟨i,j,rfl,rfl,Post.yes s p2 (e i j)⟩
def oT{E:XK}{ρ:List Addr}{H:Hp}{P:A->Hs->List Addr->Hp->Prop}{o:O}{f:List W->R W}(p:Post cl ρ H E (ofW (o.onT f)) P):∃ xs,o= .tup xs/\Post cl ρ H E (ofW (f xs)) P:=by
 cases o with
 | tup xs=>exact⟨xs,rfl,p⟩
 | _=>exact p.elim
def ints_of{ρ:List Addr}:∀ {xs:List W} {vs:List V},RWs ρ xs vs->Dv xs=true->∃ ns:List Int,xs=ns.map W.int/\vs=ns.map V.int
 | _,_,.nil,_=>⟨[],rfl,rfl⟩
 | x::xs,v::vs,.cons r t,e=>by
   cases r with
   | int i=>
     obtain⟨ns,e1,e2⟩:=ints_of t (show Dv xs=true from e)
     exact⟨i::ns,by rw[e1];rfl,by rw[e2];rfl⟩
   | _=>cases e
def Rx:∀(ns ms:List Int),Ua (ns.map W.int) (ms.map W.int)=some (HT.lexLt ns ms)
 | [],[]=>rfl
 | [],_::_=>rfl
 | _::_,[]=>rfl
 | i::ns,j::ms=>by
   show ifB (ieq i j) (Ua (ns.map W.int) (ms.map W.int)) (some (ilt i j))=_;rw[kO,Rx ns ms,b8]
   by_cases z:i=j
   · rw[bH z];simp[ifB,HT.lexLt,z]
   · rw[bM z];simp[ifB,HT.lexLt,z]
def ac0(K:ao):R2:=fun x y H Q=>rI0 (fun i j=>.bl (decide (i<j))) x y H Q\/ack K x y H Q
def Fp{K:ao}:Op2 cl .lt (ac0 K):=fun E ρ h H w1 w2 v1 v2 Q s r1 r2 p=>by
 have p:Post cl ρ H E (ofW (pLt h w1 w2)) (VP Q):=p
 cases w1 with
 | int i=>
   obtain⟨j,rfl,p1⟩:=oI (show Post cl ρ H E (ofW (w2.onI fun j=>.yes (ilt i j) h)) (VP Q) from p);cases r1;cases r2
   exact .inl ⟨i,j,rfl,rfl,Post.yes s p1 (b8 i j)⟩
 | ref n=>
   obtain⟨n,o,a,_,rfl,e1,g1,x1,p1⟩:=oAt s r1 (show Post cl ρ H E (ofW (h.at (.ref n) fun _ x=>h.at w2 fun _ y=>x.onT fun xs=>y.onT fun ys=>ifB (Dv xs) (ifB (Dv ys) (Opt (Ua xs ys) fun c=>.yes c h) .no) .no)) (VP Q) from p);obtain⟨m,o2,b,_,rfl,e2,g2,x2,p2⟩:=oAt s r2 p1;obtain⟨xs,rfl,p3⟩:=oT p2;obtain⟨ys,rfl,p4⟩:=oT p3;obtain⟨c1,p5⟩:=oIf p4;obtain⟨c2,p6⟩:=oIf p5;obtain⟨c,ec,p7⟩:=ux p6;obtain⟨vs,rv,q1⟩:=x1;obtain⟨us,ru,q2⟩:=x2;obtain⟨ns,rfl,rfl⟩:=ints_of rv c1;obtain⟨ms,rfl,rfl⟩:=ints_of ru c2;rw[Rx]at ec
   exact .inr ⟨a,b,ns,ms,rfl,rfl,SqT.of q1,SqT.of q2,Post.yes s p7 (gH ec).symm⟩
 | _=>exact p.elim
def YX:Op2 cl .gt (rI0 fun i j=>.bl (decide (j<i))):=Uh (f:=fun i j=>ilt j i) (fun _ _ _=>rfl) fun i j=>b8 j i
def not_lt(i j:Int):(!ilt j i)=decide (i<=j):=by
 rw[b8,<- decide_not];exact decide_eq_decide.mpr (by omega)
def ac1:Op2 cl .le (rI0 fun i j=>.bl (decide (i<=j))):=Uh (f:=fun i j=> !ilt j i) (fun _ _ _=>rfl) fun i j=>not_lt i j
def Ol:Op2 cl .ge (rI0 fun i j=>.bl (decide (j<=i))):=Uh (f:=fun i j=> !ilt i j) (fun _ _ _=>rfl) fun i j=>not_lt j i
def Fv{ρ:List Addr}{w:W}{v:V}(r:RW ρ w v):uR w=decide (v= .non):=by
 cases r <;> first | rfl | exact(bM (by intro z;cases z)).symm
def aey:Op1 cl .isN (fun x H Q=>Q (.bl (decide (x= .non))) H):=fun E ρ h H w1 v1 Q s r1 p=>Post.yes s (show Post cl ρ H E (ofW (.yes (uR w1) h)) (VP Q) from p) (Fv r1)
def ac2:Op1 cl .zE (fun x H Q=>Q (.bl (!decide (x= .non))) H):=fun E ρ h H w1 v1 Q s r1 p=>Post.yes s (show Post cl ρ H E (ofW (.yes (!uR w1) h)) (VP Q) from p) (by rw[Fv r1])
def ac3:Op1 cl .BR (fun x H Q=>∃ c,x= .bl c/\Q (.bl (!c)) H):=fun E ρ h H w1 v1 Q s r1 p=>by
 obtain⟨b,rfl,p⟩:=oB (show Post cl ρ H E (ofW (w1.onB (.yes true h) (.yes false h))) (VP Q) from p);cases r1;refine⟨b,rfl,?_⟩
 cases b with
 | true=>exact Post.yes s p rfl
 | false=>exact Post.yes s p rfl
def aa5:R2:=fun x y H Q=>rI0 (fun i j=>.int (i+j)) x y H Q\/acy x y H Q
def kY:Op2 cl .add aa5:=fun E ρ h H w1 w2 v1 v2 Q s r1 r2 p=>by
 have p:Post cl ρ H E (ofW (acN h w1 w2)) (VP Q):=p
 cases w1 with
 | int i=>
   obtain⟨j,rfl,p⟩:=oI (show Post cl ρ H E (ofW (w2.onI fun j=>.ok (.int (Fg i j)) h)) (VP Q) from p);have p:Post cl ρ H E (ofW (.ok (.int (Fg i j)) h)) (VP Q):=p;rw[Jb]at p;cases r1;cases r2
   exact .inl ⟨i,j,rfl,rfl,Post.gw s p (.int _)⟩
 | ref n=>
   obtain⟨n,o,a,_,rfl,e1,g1,x1,p⟩:=oAt s r1 (show Post cl ρ H E (ofW (acM h (.ref n) w2)) (VP Q) from p);obtain⟨m,o2,b,_,rfl,e2,g2,x2,p⟩:=oAt s r2 p
   cases o with
   | lst xs=>
     obtain⟨ys,rfl,p⟩:=oL p;obtain⟨z,p⟩:=M7 p;obtain⟨vs,rv,q1⟩:=x1;obtain⟨us,ru,q2⟩:=x2;rw[jM]at z p;have l1:=rv.length;have l2:=ru.length;rw[ji]at z
     exact .inr ⟨a,b,vs,us,rfl,rfl,q1,q2,by rw[rm];omega,fun p' hp=>Post.newL s p hp (rv.append ru)⟩
   | _=>exact p.elim
 | _=>exact p.elim
def aa6:R2:=fun x y H Q=>rI M4 (fun i j=>.int (i*j)) x y H Q\/acz x y H Q
def aa7(xs:List W)(k:Nat):YL xs k=(List.replicate k xs).flatten:=by
 induction k with
 | zero=>rfl
 | succ k ih=>
   show app xs (YL xs k)=_;rw[jM,ih,List.replicate_succ,List.flatten_cons]
def RWs.rep{ρ:List Addr}{xs:List W}{vs:List V}(r:RWs ρ xs vs):∀ k:Nat,RWs ρ (List.replicate k xs).flatten (List.replicate k vs).flatten
 | 0=>.nil
 | k+1=>by rw[List.replicate_succ,List.replicate_succ,List.flatten_cons,List.flatten_cons];exact r.append (RWs.rep r k)
def kZ:Op2 cl .mul aa6:=fun E ρ h H w1 w2 v1 v2 Q s r1 r2 p=>by
 obtain⟨j,rfl,p⟩:=oI (show Post cl ρ H E (ofW (acQ h w1 w2)) (VP Q) from p);cases r2
 cases w1 with
 | int i=>
   obtain⟨c,p⟩:=oIf (show Post cl ρ H E (ofW (ifB (Sml i) (ifB (Sml j) (.ok (.int (i*j)) h) .no) .no)) (VP Q) from p);obtain⟨c2,p⟩:=oIf p;cases r1
   exact .inl ⟨i,j,rfl,rfl,.inr ⟨Oj c,Oj c2⟩,Post.gw s p (.int _)⟩
 | ref n=>
   obtain⟨n,o,a,_,rfl,e1,g1,x1,p⟩:=oAt s r1 (show Post cl ρ H E (ofW (acP h (.ref n) j)) (VP Q) from p);obtain⟨xs,rfl,p⟩:=oL p;obtain⟨c,p⟩:=oIf p;obtain⟨c2,p⟩:=oIf p;obtain⟨c3,p⟩:=oIf p;rw[b8]at c c2;rw[ble_eq,len_eq]at c3;have c:=dw c;have c2:=dw c2;have c3:=dw c3;obtain⟨vs,rv,q1⟩:=x1;have l:=rv.length;rw[aa7]at p;refine .inr ⟨a,j,vs,rfl,rfl,q1,by omega,by omega,?_,fun p' hp=>Post.newL s p hp (rv.rep _)⟩;have:vs.length*j.toNat<=100*100000:=Nat.mul_le_mul (by omega) (by omega)
   rw[rm];omega
 | _=>exact p.elim
def ac4{n:Nat}{i:Int}{j:Nat}(h:YQ n i=j)(hj:j<n):ixN n i=some j:=by
 unfold ixN
 cases i with
 | ofNat k=>
   have h:k=j:=h;rw[aB (by show(0:Int)<=(k:Int);omega),aB (by show(k:Int)<n;omega)]
   exact congrArg some h
 | negSucc k=>
   have h:ifB (Nat.ble (k+1) n) (n - (k+1)) n=j:=h;rw[ble_eq]at h
   by_cases c:k+1<=n
   · rw[bH c]at h;have h:n - (k+1)=j:=h;rw[aA (by omega),aB (by omega)];exact congrArg some (by omega)
   · rw[bM c]at h;have h:n=j:=h;omega
def Ws{vs:List V}{xs:List W}{ρ:List Addr}{i:Int}{w:W}(r:RWs ρ xs vs)(e:nth xs (YQ (len xs) i)=some w):∃ v,atI vs i=some v/\RW ρ w v:=by
 rw[nH,len_eq]at e;obtain⟨v,ev,rv⟩:=r.get e;refine⟨v,?_,rv⟩;unfold atI;have hl:=r.length;have hlt:=(bB ev).1;rw[hl]at ev hlt;rw[ac4 rfl hlt];exact ev
def ac5{K:ao}:Op2 cl .ix (rIx K):=fun E ρ h H w1 w2 v1 v2 Q s r1 r2 p=>by
 obtain⟨n,o,a,rfl,rfl,e1,g1,x1,p⟩:=oAt s r1 (show Post cl ρ H E (ofW (pIx h w1 w2)) (VP Q) from p);obtain⟨xs,e,p1⟩:=oIt p;obtain⟨i,rfl,p2⟩:=oI p1;obtain⟨w,ew,p3⟩:=ux p2;cases r2
 rcases e with rfl | rfl
 · obtain⟨vs,rv,q⟩:=x1;obtain⟨v,ev,rw⟩:=Ws rv ew;exact .inl ⟨a,vs,i,v,rfl,rfl,SqL.of q,ev,Post.gw s p3 rw⟩
 · obtain⟨vs,rv,q⟩:=x1;obtain⟨v,ev,rw⟩:=Ws rv ew;exact .inr (.inl ⟨a,vs,i,v,rfl,rfl,SqT.of q,ev,Post.gw s p3 rw⟩)
def G3{ρ:List Addr}{ws:List W}{vs:List V}{f:W->R W}{P:A->Hs->List Addr->Hp->Prop}{H:Hp}{E:XK}(r:RWs ρ ws vs)(p:Post cl ρ H E (ofW (lK ws f)) P):∃ w v,ws= [w]/\vs= [v]/\RW ρ w v/\Post cl ρ H E (ofW (f w)) P:=by
 cases r with
 | nil=>exact p.elim
 | cons r1 t=>cases t with
   | nil=>exact⟨_,_,rfl,rfl,r1,p⟩
   | cons _ _=>exact p.elim
def M8{ρ:List Addr}{ws:List W}{vs:List V}{f:W->W->R W}{P:A->Hs->List Addr->Hp->Prop}{H:Hp}{E:XK}(r:RWs ρ ws vs)(p:Post cl ρ H E (ofW (jy ws f)) P):∃ w v w' v',ws= [w,w']/\vs= [v,v']/\RW ρ w v/\RW ρ w' v'/\Post cl ρ H E (ofW (f w w')) P:=by
 cases r with
 | nil=>exact p.elim
 | cons r1 t=>cases t with
   | nil=>exact p.elim
   | cons r2 t=>cases t with
     | nil=>exact⟨_,_,_,_,rfl,rfl,r1,r2,p⟩
     | cons _ _=>exact p.elim
def tU{K:ao}:OpN cl .len (afA K):=fun E ρ h H ws vs Q s r p=>by
 obtain⟨w,v,rfl,rfl,r1,p⟩:=G3 r (show Post cl ρ H E (ofW (lK ws (acT h))) (VP Q) from p);obtain⟨n,o,a,rfl,rfl,e1,g1,x1,p⟩:=oAt s r1 p;obtain⟨xs,e,p⟩:=oIt p;obtain⟨us,ru,q⟩:=x1.sq (K:=K) e;refine⟨a,us,rfl,q,?_⟩;rw[len_eq,ru.length]at p;exact Post.gw s p (.int _)
def aez:OpN cl .tup (fun xs H Q=>xs.length<=sizeLine/\∀ p,H p=none->Q (.ref p) (upd H p (.tup xs))):=fun E ρ h H ws vs Q s r p=>by
 obtain⟨z,p⟩:=M7 (show Post cl ρ H E (ofW (size ws (.alloc h (.tup ws)))) (VP Q) from p);have:=r.length;exact⟨by rw[rm];omega,fun p' hp=>Post.Ug s p hp r⟩
def aeA:OpN cl .lst (fun xs H Q=>xs.length<=sizeLine/\∀ p,H p=none->Q (.ref p) (upd H p (.lst xs))):=fun E ρ h H ws vs Q s r p=>by
 obtain⟨z,p⟩:=M7 (show Post cl ρ H E (ofW (size ws (.alloc h (.lst ws)))) (VP Q) from p);have:=r.length;exact⟨by rw[rm];omega,fun p' hp=>Post.newL s p hp r⟩
def ac6{K:ao}:OpN cl .list (fun xs H Q=>∃ p ys,xs= [.ref p]/\(SqL K H p ys\/SqT K H p ys)/\∀ l,H l=none->Q (.ref l) (upd H l (.lst ys))):=fun E ρ h H ws vs Q s r p=>by
 obtain⟨w,v,rfl,rfl,r1,p⟩:=G3 r (show Post cl ρ H E (ofW (lK ws (aad h))) (VP Q) from p);obtain⟨n,o,a,rfl,rfl,e1,g1,x1,p⟩:=oAt s r1 p;obtain⟨xs,e,p⟩:=oIt p;obtain⟨us,ru,q⟩:=x1.sq (K:=K) e;exact⟨a,us,rfl,q,fun l hl=>Post.newL s p hl ru⟩
def Wt{ρ:List Addr}{a b:W}{u v:V}{c:Bool}(ra:RW ρ a u)(rb:RW ρ b v)(e:eqF a b=some c):qJ u=true/\qJ v=true/\eqV u v=c:=by
 cases ra with
 | non=>cases rb <;> first | (cases e;exact⟨rfl,rfl,rfl⟩) | cases e
 | bl x=>cases e
 | int i=>cases rb with
   | non=>cases e;exact⟨rfl,rfl,rfl⟩
   | int j=>
     have e:some (ieq i j)=some c:=e;cases e;refine⟨rfl,rfl,?_⟩;rw[kO];show(i==j)=_
     by_cases z:i=j
     · subst z;simp
     · rw[bM z];exact beq_eq_false_iff_ne.mpr z
   | str x=>cases e;exact⟨rfl,rfl,rfl⟩
   | _=>cases e
 | str x=>cases rb with
   | non=>cases e;exact⟨rfl,rfl,rfl⟩
   | int j=>cases e;exact⟨rfl,rfl,rfl⟩
   | str y=>
     have e:some (codes x y)=some c:=e;cases e;refine⟨rfl,rfl,?_⟩;show(({ cps:=x.toArray }:Str) == { cps:=y.toArray })=_
     cases z:codes x y with
     | true=>rw[dh.mp z];exact beq_self_eq_true _
     | false=>exact beq_eq_false_iff_ne.mpr fun q=>by rw[dh.mpr (vP q)]at z;cases z
   | _=>cases e
 | ref _=>cases e
end
end Ev
namespace Ev
open PySem PySem.Spec PySem.SeqAt PyProof.Rows L2
section
variable{cl:Cn}
def Ry{ρ:List Addr}{a:W}{v:V}(ra:RW ρ a v):∀ {xs:List W} {vs:List V} {c:Bool},RWs ρ xs vs->BP a xs=some c->vs.all qJ=true/\inV v vs=c
 | _,_,c,.nil,e=>by cases e;exact⟨rfl,rfl⟩
 | x::xs,u::us,c,.cons r t,e=>by
   have e:Option.rec none (fun b=>Option.rec none (fun r=>some (ifB b true r)) (BP a xs)) (eqF x a)=some c:=e
   cases h1:eqF x a with
   | none=>rw[h1]at e;cases e
   | some b=>
     rw[h1]at e
     cases h2:BP a xs with
     | none=>rw[h2]at e;cases e
     | some r'=>
       rw[h2]at e;have e:some (ifB b true r')=some c:=e;cases e;obtain⟨f1,f2,f3⟩:=Wt r ra h1;obtain⟨g1,g2⟩:=Ry ra t h2;refine⟨by rw[List.all_cons,f1,g1];rfl,?_⟩;show(eqV u v||inV v us)=_;rw[f3,g2];cases b <;> rfl
def aag{K:ao}(neg:Bool){p:Pr}{f:Bool->Bool}(hp:∀ h w1 w2,dF p [w1,w2] h=pIn f h w1 w2)(hf:∀ c:Bool,f c=if neg then !c else c):Op2 cl p (rIn K neg):=fun E ρ h H w1 w2 v1 v2 Q s r1 r2 p=>by
 rw[hp]at p;obtain⟨n,o,a,rfl,rfl,e1,g1,x1,p1⟩:=oAt s r2 p;obtain⟨xs,e,p2⟩:=oIt p1;obtain⟨c0,h0,p3⟩:=ux p2;obtain⟨c,hc,p4⟩:=ux p3;obtain⟨us,ru,q⟩:=x1.sq (K:=K) e;obtain⟨f1,_,_⟩:=Wt r1 r1 h0;obtain⟨g1,g2⟩:=Ry r1 ru hc;exact⟨a,us,rfl,q,f1,g1,Post.yes s p4 (by rw[hf,g2])⟩
def ac7{K:ao}:Op2 cl .in_ (rIn K false):=aag false (f:=id) (fun _ _ _=>rfl) fun _=>rfl
def aa8{K:ao}:Op2 cl .Ub (rIn K true):=aag true (f:=not) (fun _ _ _=>rfl) fun _=>rfl
def Om{ρ:List Addr}:∀ {xs:List W} {vs:List V} {bs:List Bool},RWs ρ xs vs->bools xs=some bs->vs=bs.map V.bl
 | _,_,bs,.nil,e=>by cases e;rfl
 | x::xs,u::us,bs,.cons r t,e=>by
   cases r with
   | bl b=>
     have e:Option.rec none (fun r=>some (b::r)) (bools xs)=some bs:=e
     cases h:bools xs with
     | none=>rw[h]at e;cases e
     | some bs'=>
       rw[h]at e;have e:some (b::bs')=some bs:=e;cases e
       rw[List.map_cons,Om t h]
   | _=>cases e
def Rz(bs:List Bool):allB bs=bs.all id:=by
 induction bs with
 | nil=>rfl
 | cons b bs ih=>
   show ifB b (allB bs) false=_;rw[ih,List.all_cons];cases b <;> rfl
def ac8{p:Pr}{f g:List Bool->Bool}(hp:∀ h ws,dF p ws h=lK ws (YT f h))(e:∀ bs,f bs=g bs):OpN cl p (YB g):=fun E ρ h H ws vs Q s r p=>by
 rw[hp]at p;obtain⟨w,v,rfl,rfl,r1,p1⟩:=G3 r p;obtain⟨n,o,a,rfl,rfl,e1,g1,x1,p2⟩:=oAt s r1 p1;obtain⟨xs,rfl,p3⟩:=oL p2;obtain⟨bs,hb,p4⟩:=ux p3;obtain⟨us,ru,q⟩:=x1;rw[Om ru hb]at q;exact⟨a,bs,rfl,q,Post.yes s p4 (e bs)⟩
def aeB:OpN cl .all (YB fun bs=>bs.all id):=ac8 (fun _ _=>rfl) Rz
def OpM(cl:Cn)(p:Pr)(r:V->List V->Hp->VK->Prop):Prop:=∀(E:XK) (ρ:List Addr) (h:Hs) (H:Hp) (w:W) (v:V) (ws:List W) (vs:List V) (Q:VK),Sim cl ρ h H->RW ρ w v->RWs ρ ws vs->Post cl ρ H E (ofW (dF p (w::ws) h)) (VP Q)->r v vs H Q
def Oo:OpM cl .append Ro:=fun E ρ h H w v ws vs Q s r rs p=>by
 obtain⟨w1,v1,w2,v2,e,e',r1,r2,p1⟩:=M8 (.cons r rs) (show Post cl ρ H E (ofW (jy (w::ws) (yG h))) (VP Q) from p);cases e;cases e';obtain⟨n,o,a,rfl,rfl,e1,g1,x1,p2⟩:=oAt s r1 p1;obtain⟨xs,rfl,p3⟩:=oL p2;obtain⟨z,p4⟩:=M7 p3;obtain⟨us,ru,q⟩:=x1;have hl:=ru.length;rw[jM]at p4;exact⟨a,us,v2,rfl,rfl,q,by rw[rm];omega,Post.putL s p4 e1 (ru.append (.cons r2 .nil)) .non⟩
def aeC:OpN cl .min (fun xs H Q=>∃ i j,xs= [.int i,.int j]/\Q (.int (if j<i then j else i)) H):=fun E ρ h H ws vs Q s r p=>by
 obtain⟨w1,v1,w2,v2,rfl,rfl,r1,r2,p1⟩:=M8 r (show Post cl ρ H E (ofW (jy ws fun a b=>a.onI fun i=>b.onI fun j=>YM h i j)) (VP Q) from p);obtain⟨i,rfl,p2⟩:=oI p1;obtain⟨j,rfl,p3⟩:=oI p2;cases r1;cases r2;refine⟨i,j,rfl,?_⟩
 have e:ifB (ilt j i) j i=if j<i then j else i:=by
  rw[b8]
  by_cases z:j<i
  · rw[bH z,aB z];rfl
  · rw[bM z,aA z];rfl
 unfold YM at p3;rw[e]at p3;exact Post.gw s p3 (.int _)
def aa9{K:ao}{E:XK}{ρ:List Addr}{h:Hs}{H:Hp}{w:W}{v:V}{Q:VK}(s:Sim cl ρ h H)(r:RW ρ w v)(p:Post cl ρ H E (ofW (dF .truth [w] h)) (VP Q)):∃ k,Tj K v H k/\Q (.bl k) H:=by
 have p:Post cl ρ H E (ofW (Wn h w)) (VP Q):=p
 cases r with
 | non=>exact⟨false,rfl,Post.yes s p rfl⟩
 | bl b=>exact⟨b,rfl,Post.yes s p rfl⟩
 | int i=>
   refine⟨i != 0,rfl,Post.yes s p ?_⟩;rw[kO]
   by_cases z:i=0
   · subst z;rfl
   · rw[bM z];exact(bne_iff_ne.mpr z).symm
 | str c=>exact p.elim
 | @ref n a q=>
   obtain⟨n,o,a',e0,e0',e1,g1,x1,p1⟩:=oAt s (.ref q) (show Post cl ρ H E (ofW (h.at (.ref n) fun _ o=>o.items fun xs=>.yes (YS xs) h)) (VP Q) from p);cases e0;cases e0';obtain⟨xs,e,p2⟩:=oIt p1;have ne:∀ {vs:List V},RWs ρ xs vs->YS xs= !vs.isEmpty:=fun r=>by cases r <;> rfl
   rcases e with rfl | rfl
   · obtain⟨us,ru,q2⟩:=x1;exact⟨_,.inl ⟨us,SqL.of q2,rfl⟩,Post.yes s p2 (ne ru)⟩
   · obtain⟨us,ru,q2⟩:=x1;exact⟨_,.inr (.inl ⟨us,SqT.of q2,rfl⟩),Post.yes s p2 (ne ru)⟩
mutual
def pd:D->PyData
 | .non=>.none | .bl b=>.bool b | .int i=>.int i | .str c=>.str ⟨c.toArray⟩ | .lst xs=>.list (pds xs) | .tup xs=>.tuple (pds xs)
def pds:List D->List PyData
 | []=>[]
 | x::xs=>pd x::pds xs
end
def M9(i j:Int):(i==j)=ieq i j:=by
 rw[kO]
 by_cases z:i=j
 · subst z;simp
 · rw[bM z];exact beq_eq_false_iff_ne.mpr z
def aah(x y:List Nat):(({ cps:=x.toArray }:Str) == { cps:=y.toArray })=codes x y:=by
 cases z:codes x y with
 | true=>rw[dh.mp z];exact beq_self_eq_true _
 | false=>exact beq_eq_false_iff_ne.mpr fun q=>by rw[dh.mpr (vP q)]at z;cases z
mutual
def Wu:∀ a b:D,PyData.eqv (pd a) (pd b)=dY a b
 | .non,b=>by cases b <;> simp only[pd,PyData.eqv,dY]
 | .bl x,b=>by cases b <;> simp only[pd,PyData.eqv,dY,M9]
 | .int x,b=>by cases b <;> simp only[pd,PyData.eqv,dY,M9]
 | .str x,b=>by cases b <;> simp only[pd,PyData.eqv,dY,aah]
 | .lst xs,b=>by
   cases b <;> simp only[pd,PyData.eqv,dY]
   exact Jc xs _
 | .tup xs,b=>by
   cases b <;> simp only[pd,PyData.eqv,dY];exact Jc xs _
def Jc:∀ a b:List D,PyData.eqvAll (pds a) (pds b)=vO a b
 | [],b=>by cases b <;> simp only[pds,PyData.eqvAll,vO]
 | x::xs,b=>by
   cases b with
   | nil=>simp only[pds,PyData.eqvAll,vO]
   | cons y ys=>simp only[pds,PyData.eqvAll,vO,Wu x y,Jc xs ys]
end
def ac9:∀ c:List Nat,okC c=true->PySem.PyData.canLay0 (.str ⟨c.toArray⟩)=true:=fun c h=>by
 have:∀ x ∈ c,x<1114112:=by
  induction c with
  | nil=>intro x hx;cases hx
  | cons y c ih=>
    have h:ifB (Nat.ble (y+1) 1114112) (okC c) false=true:=h;rw[ble_eq]at h
    by_cases z:y+1<=1114112
    · rw[bH z]at h;intro x hx
      rcases List.mem_cons.mp hx with rfl | hx
      · omega
      · exact ih h x hx
    · rw[bM z]at h;cases h
 simp only[PyData.canLay0]
 first | (unfold PyData.strOk;simpa using this) | simpa [PySem.strOk] using this
def Jd{ρ:List Addr}{h:Hs}{H:Hp}(s:Sim cl ρ h H):∀(n:Nat) {w:W} {v:V} {dd:D},RW ρ w v->toD h n w=some dd->Rep H v (pd dd)/\(pd dd).canLay0=true/\(pd dd).depth<=n
 | 0,_,_,_,_,e=>nomatch e
 | n+1,w,v,dd,r,e=>by
   have all:∀ {xs:List W} {vs:List V} {ds:List D},RWs ρ xs vs->n_ (toD h n) xs=some ds->iQ H vs (pds ds)/\PyData.canLayAll0 (pds ds)=true/\PyData.depthAll (pds ds)<=n:=by
    intro xs
    induction xs with
    | nil=>
      intro vs ds r e;cases r;cases e
      exact⟨.nil,by simp only[pds,PyData.canLayAll0],by simp only[pds,PyData.depthAll];omega⟩
    | cons x xs ih=>
      intro vs ds r e
      cases r with
      | cons r1 t=>
        have e:Option.rec none (fun d=>Option.rec none (fun ds=>some (d::ds)) (n_ (toD h n) xs)) (toD h n x)=some ds:=e
        cases h1:toD h n x with
        | none=>rw[h1]at e;cases e
        | some d1=>
          rw[h1]at e
          cases h2:n_ (toD h n) xs with
          | none=>rw[h2]at e;cases e
          | some ds2=>
            rw[h2]at e;have e:some (d1::ds2)=some ds:=e;cases e;obtain⟨a1,a2,a3⟩:=Jd s n r1 h1;obtain⟨b1,b2,b3⟩:=ih t h2;refine⟨.cons a1 b1,?_,?_⟩
            · simp only[pds,PyData.canLayAll0,a2,b2];rfl
            · simp only[pds,PyData.depthAll];omega
   cases r with
   | non=>cases e;exact⟨.non,by simp only[pd,PyData.canLay0],by simp only[pd,PyData.depth];omega⟩
   | bl b=>cases e;exact⟨.bl b,by simp only[pd,PyData.canLay0],by simp only[pd,PyData.depth];omega⟩
   | int i=>cases e;exact⟨.int i,by simp only[pd,PyData.canLay0],by simp only[pd,PyData.depth];omega⟩
   | str c=>
     have e:ifB (okC c) (some (D.str c)) none=some dd:=e
     cases z:okC c with
     | false=>rw[z]at e;cases e
     | true=>
       rw[z]at e;cases e
       exact⟨.str _,ac9 c z,by simp only[pd,PyData.depth];omega⟩
   | @ref k a q=>
     cases hg:h.get k with
     | none=>
       have:toD h (n+1) (.ref k)=none:=by
        show Option.rec (motive:=fun _=>Option D) none _ (h.get k)=none;rw[hg]
       rw[this]at e;cases e
     | some o=>
       have x:=s.at q hg
       cases o with
       | tup xs=>
         have:toD h (n+1) (.ref k)=Option.rec none (fun ds=>some (D.tup ds)) (n_ (toD h n) xs):=by
          show Option.rec (motive:=fun _=>Option D) none _ (h.get k)=_;rw[hg];rfl
         rw[this]at e
         cases h2:n_ (toD h n) xs with
         | none=>rw[h2]at e;cases e
         | some ds=>
           rw[h2]at e;have e:some (D.tup ds)=some dd:=e;cases e;obtain⟨vs,rv,qq⟩:=x;obtain⟨b1,b2,b3⟩:=all rv h2
           exact⟨.tup qq b1,by simp only[pd,PyData.canLay0];exact b2,by simp only[pd,PyData.depth];omega⟩
       | lst xs=>
         have:toD h (n+1) (.ref k)=Option.rec none (fun ds=>some (D.lst ds)) (n_ (toD h n) xs):=by
          show Option.rec (motive:=fun _=>Option D) none _ (h.get k)=_;rw[hg];rfl
         rw[this]at e
         cases h2:n_ (toD h n) xs with
         | none=>rw[h2]at e;cases e
         | some ds=>
           rw[h2]at e;have e:some (D.lst ds)=some dd:=e;cases e;obtain⟨vs,rv,qq⟩:=x;obtain⟨b1,b2,b3⟩:=all rv h2
           exact⟨.lst qq b1,by simp only[pd,PyData.canLay0];exact b2,by simp only[pd,PyData.depth];omega⟩
       | _=>
         have:toD h (n+1) (.ref k)=none:=by
          show Option.rec (motive:=fun _=>Option D) none _ (h.get k)=none;rw[hg]
         rw[this]at e;cases e
def KH{d:PyData}(h1:d.canLay0=true)(h2:d.depth<=12):shaped d=true:=by
 unfold shaped;rw[h1,bH (by omega)];rfl
def aai{p:Pr}{f:Bool->Bool}(hp:∀ h w1 w2,dF p [w1,w2] h=pEq f h w1 w2):Op2 cl p (fun x y H Q=>∃ dx dy,Rep H x dx/\Rep H y dy/\shaped dx=true/\shaped dy=true/\Q (.bl (f (PyData.eqv dx dy))) H):=fun E ρ h H w1 w2 v1 v2 Q s r1 r2 p=>by
 rw[hp]at p;obtain⟨x,ex,p1⟩:=ux p;obtain⟨y,ey,p2⟩:=ux p1;obtain⟨a1,a2,a3⟩:=Jd s 12 r1 ex;obtain⟨b1,b2,b3⟩:=Jd s 12 r2 ey;exact⟨_,_,a1,b1,KH a2 a3,KH b2 b3,Post.yes s p2 (by rw[Wu])⟩
def oZ:Op2 cl .eq acB:=aai (f:=id) fun _ _ _=>rfl
def xZ:Op2 cl .ne acC:=aai (f:=not) fun _ _ _=>rfl
mutual
def aa_:∀ a b:D,PySem.Spec.same (pd a) (pd b)=lX a b
 | .non,b=>by cases b <;> simp only[pd,PySem.Spec.same,lX]
 | .bl x,b=>by cases b <;> simp only[pd,PySem.Spec.same,lX]
 | .int x,b=>by cases b <;> simp only[pd,PySem.Spec.same,lX,M9]
 | .str x,b=>by cases b <;> simp only[pd,PySem.Spec.same,lX,aah]
 | .lst xs,b=>by
   cases b <;> simp only[pd,PySem.Spec.same,lX]
   exact Fw xs _
 | .tup xs,b=>by
   cases b <;> simp only[pd,PySem.Spec.same,lX];exact Fw xs _
def Fw:∀ a b:List D,PySem.Spec.sameAll (pds a) (pds b)=qw a b
 | [],b=>by cases b <;> simp only[pds,PySem.Spec.sameAll,qw]
 | x::xs,b=>by
   cases b with
   | nil=>simp only[pds,PySem.Spec.sameAll,qw]
   | cons y ys=>simp only[pds,PySem.Spec.sameAll,qw,aa_ x y,Fw xs ys]
end
end
section
variable{Pg:List Fn}{cl:Cn}{E:XK}{d:Nat}{X:Cx}{σ:L2.St}{H:Hp}
def aZ{op:Operator}{p:Pr}{r:R2}{a b:Expr}{x y:Ev.X}{pos:Pos}(z:Op2 cl p r)(o:OpR X (binaryOp op) r)(ha:PE X a (tE Pg cl E d x))(hb:PE X b (tE Pg cl E d y)):PE X (.BinOp a op b pos) (tE Pg cl E d (.pr p [x,y])):=
 PE.of (gJ o ha hb) fun _ _ _ q=>vR z q
def aaj{op:UnaryOp}{p:Pr}{r:V->Hp->VK->Prop}{a:Expr}{x:Ev.X}{pos:Pos}(z:Op1 cl p r)(o:UnR X (unaryOp op) r)(ha:PE X a (tE Pg cl E d x)):PE X (.UnaryOp op a pos) (tE Pg cl E d (.pr p [x])):=
 PE.of (ael o ha) fun _ _ _ q=>yJ z q
def yK{op:CmpOp}{p:Pr}{r:R2}{a b:Expr}{x y:Ev.X}{pos:Pos}(z:Op2 cl p r)(o:OpR X (compareOp op) r)(ha:PE X a (tE Pg cl E d x))(hb:PE X b (tE Pg cl E d y))(hm:behindInMarks op b=false):PE X (.Compare a [op] [b] pos) (tE Pg cl E d (.pr p [x,y])):=
 PE.of (aaM o ha hb hm) fun _ _ _ q=>vR z q
def bQ{op:CmpOp}{p:Pr}{r:R2}{a b:Expr}{x y:Ev.X}{pos:Pos}(z:Op2 cl p r)(o:OpR X (compareOp op) r)(ha:PE X a (tE Pg cl E d x))(hb:PE X b (tE Pg cl E d y))(hm:behindInMarks op b=false):PT X (.Compare a [op] [b] pos) (tT Pg cl E d (.pr p [x,y])):=
 PT.of (sU o ha hb hm) fun _ _ _ q=>vR z q
def Wv{a:Expr}{x:Ev.X}{pos pos' j}(ha:PE X a (tE Pg cl E d x)):PT X (.Compare a [.Is] [.Constant .none j pos'] pos) (tT Pg cl E d (.pr .isN [x])):=PT.of (Ny (abZ ha)) fun _ _ _ q=>yJ aey q
def Je{a:Expr}{x:Ev.X}{pos pos' j}(ha:PE X a (tE Pg cl E d x)):PT X (.Compare a [.IsNot] [.Constant .none j pos'] pos) (tT Pg cl E d (.pr .zE [x])):=PT.of (Ny (Rc ha)) fun _ _ _ q=>yJ ac2 q
def Oq{a:Expr}{x:Ev.X}{pos}(ha:PT X a (tT Pg cl E d x)):PT X (.UnaryOp .Not a pos) (tT Pg cl E d (.pr .BR [x])):=PT.of (VG ha) fun σ H Q q=>by
 obtain⟨ρ,τ,h,n,s,r,p⟩:=(show tE Pg cl E d x σ H (fun v H1=>∃ c,v= .bl c/\∃ b,V.bl (!c)= .bl b/\Q b H1) from yJ ac3 q);refine⟨ρ,τ,h,n,s,r,p.mono fun a h ρ H _ _ ⟨w,e,g⟩=>⟨w,e,fun v rv=>?_⟩⟩;obtain⟨c,ec,b,eb,qb⟩:=g v rv;cases eb;exact⟨c,ec,qb⟩
def Ot{a:Expr}{x:Ev.X}(ha:PE X a (tE Pg cl E d x))(he:∀ whole,isTrue a X.env whole=(do let v <- whole;standAt a.pos;holding [v] (truthy v))):PT X a (tT Pg cl E d (.pr .truth [x])):=PT.of (NQ ha he) fun σ H Q q=>
 yJ (r:=fun v H1 Q'=>∃ k,Tj X.K v H1 k/\Q' (.bl k) H1) (fun E ρ h H w v Q s r p=>aa9 s r p) q |> fun z=>by
 obtain⟨ρ,τ,h,n,s,r,p⟩:=z;refine⟨ρ,τ,h,n,s,r,p.mono fun a h ρ H _ _ ⟨w,e,g⟩=>⟨w,e,fun v rv=>?_⟩⟩;obtain⟨k,t,b,eb,qb⟩:=g v rv;cases eb;exact⟨k,t,qb⟩
def Ww{a b:Ev.X}{Q:VK}(x:tE Pg cl E d (.and a b) σ H Q):ZV (tE Pg cl E d a) (tE Pg cl E d b) σ H Q:=by
 obtain⟨ρ,τ,h,n,s,rs,q⟩:=x.step;refine ev.then s rs (show Post cl ρ H E ((evs Pg n d (.x a) τ h).bind fun r h=>r.toW fun w=>w.onB (.ok (.w (.bl false)) h) (evs Pg n d (.x b) τ h)) (VP Q) from q) fun a1 h1 ρ1 H1 b1 s1 p1=>?_;obtain⟨w,rfl,p2⟩:=b_ p1;refine⟨w,rfl,fun v rv=>?_⟩
 rcases yI p2 with ⟨rfl,p3⟩ | ⟨rfl,p3⟩
 · cases rv;exact⟨true,rfl,zm ⟨ρ1,τ,h1,n,s1,rs.mono b1.1,p3⟩⟩
 · cases rv;exact⟨false,rfl,zj (Post.gw s1 p3 (.bl false))⟩
def aeD{a b:Ev.X}{Q:VK}(x:tE Pg cl E d (.or a b) σ H Q):afk (tE Pg cl E d a) (tE Pg cl E d b) σ H Q:=by
 obtain⟨ρ,τ,h,n,s,rs,q⟩:=x.step;refine ev.then s rs (show Post cl ρ H E ((evs Pg n d (.x a) τ h).bind fun r h=>r.toW fun w=>w.onB (evs Pg n d (.x b) τ h) (.ok (.w (.bl true)) h)) (VP Q) from q) fun a1 h1 ρ1 H1 b1 s1 p1=>?_;obtain⟨w,rfl,p2⟩:=b_ p1;refine⟨w,rfl,fun v rv=>?_⟩
 rcases yI p2 with ⟨rfl,p3⟩ | ⟨rfl,p3⟩
 · cases rv;exact⟨true,rfl,zm (Post.gw s1 p3 (.bl true))⟩
 · cases rv;exact⟨false,rfl,zj ⟨ρ1,τ,h1,n,s1,rs.mono b1.1,p3⟩⟩
def Wx{a b:Expr}{rest:List Expr}{x y:Ev.X}{pos:Pos}(ha:PE X a (tE Pg cl E d x))(hb:PE X (.BoolOp .And (b::rest) pos) (tE Pg cl E d y)):PE X (.BoolOp .And (a::b::rest) pos) (tE Pg cl E d (.and x y)):=PE.of (ab3 ha hb) fun _ _ _ q=>Ww q
def aba{a b:Ev.X}{Q:Bool->Hp->Prop}(x:tT Pg cl E d (.and a b) σ H Q):ab1 (tT Pg cl E d a) (tT Pg cl E d b) σ H Q:=by
 obtain⟨ρ,τ,h,n,s,r,p⟩:=(show tE Pg cl E d a σ H (fun v H1=>∃ c,v= .bl c/\if c=true then tT Pg cl E d b σ H1 Q else ∃ b,V.bl false= .bl b/\Q b H1) from Ww x);refine⟨ρ,τ,h,n,s,r,p.mono fun a h ρ H _ _ ⟨w,e,g⟩=>⟨w,e,fun v rv=>?_⟩⟩;obtain⟨c,ec,q⟩:=g v rv;refine⟨c,ec,?_⟩
 cases c with
 | true=>exact q
 | false=>
   obtain⟨b,eb,q⟩:=(show ∃ b,V.bl false= .bl b/\Q b H from q);cases eb;exact q
def ac_{a b:Ev.X}{Q:Bool->Hp->Prop}(x:tT Pg cl E d (.or a b) σ H Q):tOr (tT Pg cl E d a) (tT Pg cl E d b) σ H Q:=by
 obtain⟨ρ,τ,h,n,s,r,p⟩:=(show tE Pg cl E d a σ H (fun v H1=>∃ c,v= .bl c/\if c=true then ∃ b,V.bl true= .bl b/\Q b H1 else tT Pg cl E d b σ H1 Q) from aeD x);refine⟨ρ,τ,h,n,s,r,p.mono fun a h ρ H _ _ ⟨w,e,g⟩=>⟨w,e,fun v rv=>?_⟩⟩;obtain⟨c,ec,q⟩:=g v rv;refine⟨c,ec,?_⟩
 cases c with
 | false=>exact q
 | true=>
   obtain⟨b,eb,q⟩:=(show ∃ b,V.bl true= .bl b/\Q b H from q);cases eb;exact q
def qx{a b:Expr}{rest:List Expr}{x y:Ev.X}{pos:Pos}(ha:PT X a (tT Pg cl E d x))(hb:PW X (.BoolOp .And (b::rest) pos) (tT Pg cl E d y)):PW X (.BoolOp .And (a::b::rest) pos) (tT Pg cl E d (.and x y)):=PW.of (pw_and ha hb) fun _ _ _ q=>aba q
def uV{a b:Expr}{rest:List Expr}{x y:Ev.X}{pos:Pos}(ha:PT X a (tT Pg cl E d x))(hb:PW X (.BoolOp .Or (b::rest) pos) (tT Pg cl E d y)):PW X (.BoolOp .Or (a::b::rest) pos) (tT Pg cl E d (.or x y)):=PW.of (pw_or ha hb) fun _ _ _ q=>ac_ q
def ada{c a b:Ev.X}{Q:VK}(x:tE Pg cl E d (.ite c a b) σ H Q):tIf (tT Pg cl E d c) (tE Pg cl E d a) (tE Pg cl E d b) σ H Q:=by
 obtain⟨ρ,τ,h,n,s,rs,q⟩:=x.step;refine ev.then s rs (show Post cl ρ H E ((evs Pg n d (.x c) τ h).bind fun r h=>r.toW fun w=>w.onB (evs Pg n d (.x b) τ h) (evs Pg n d (.x a) τ h)) (VP Q) from q) fun a1 h1 ρ1 H1 b1 s1 p1=>?_;obtain⟨w,rfl,p2⟩:=b_ p1;refine⟨w,rfl,fun v rv=>?_⟩
 rcases yI p2 with ⟨rfl,p3⟩ | ⟨rfl,p3⟩
 · cases rv;exact⟨true,rfl,zm ⟨ρ1,τ,h1,n,s1,rs.mono b1.1,p3⟩⟩
 · cases rv;exact⟨false,rfl,zj ⟨ρ1,τ,h1,n,s1,rs.mono b1.1,p3⟩⟩
def Ou{p q:Pr}{r r':R2}(o:Op2 cl p r)(o':Op2 cl q r')(hr:∀ x y H Q Q',(∀ v,Q v H->Q' v H)->r x y H Q->r x y H Q'){a b c:Ev.X}{Q:VK}(x:tE Pg cl E d (.chain p q a b c) σ H Q)
    (pure:∀(ρ:List Addr) (h:Hs) (u v:W) (w:A) (h':Hs),ofW (dF p [u,v] h)= .ok w h'->h'=h) (uq:∀(h:Hs) (u v:W) C f h',ofW (dF p [u,v] h) ≠ .ex C f h'):NP r r' (tE Pg cl E d a) (tE Pg cl E d b) (tE Pg cl E d c) σ H Q:=by
 obtain⟨ρ,τ,h,n,s,rs,z⟩:=x.step
 refine ev.then s rs (show Post cl ρ H E ((evs Pg n d (.x a) τ h).bind fun r h=>r.toW fun u=>(evs Pg n d (.x b) τ h).bind fun r h=>r.toW fun v=>(ofW (dF p [u,v] h)).bind fun r h=>r.toW fun k=>
  k.onB (.ok (.w (.bl false)) h) ((evs Pg n d (.x c) τ h).bind fun r h=>r.toW fun w=>ofW (dF q [v,w] h))) (VP Q) from z) fun a1 h1 ρ1 H1 b1 s1 p1=>?_
 obtain⟨u,rfl,p2⟩:=b_ p1;refine⟨u,rfl,fun uv ru=>?_⟩;refine ev.then s1 (rs.mono b1.1) p2 fun a2 h2 ρ2 H2 b2 s2 p3=>?_;obtain⟨v,rfl,p4⟩:=b_ p3;refine⟨v,rfl,fun vv rv=>?_⟩;refine o E ρ2 h2 H2 u v uv vv _ s2 (ru.mono b2.1) rv ?_
 cases e:ofW (dF p [u,v] h2) with
 | no=>rw[e]at p4;exact p4.elim
 | ex C f h'=>exact(uq _ _ _ _ _ _ e).elim
 | ok w h'=>
   have eh:=pure ρ2 h2 u v w h' e;subst eh;rw[e]at p4;have p4:Post cl ρ2 H2 E (w.toW fun k=>k.onB (.ok (.w (.bl false)) h') ((evs Pg n d (.x c) τ h').bind fun r h=>r.toW fun w=>ofW (dF q [v,w] h))) (VP Q):=p4;obtain⟨k,rfl,p5⟩:=b_ p4;intro ρ3 H3 b3 s3;refine⟨k,rfl,fun kv rk=>?_⟩
   rcases yI (p5.later b3) with ⟨rfl,p6⟩ | ⟨rfl,p6⟩
   · cases rk;refine⟨true,rfl,zm ?_⟩;refine ev.then s3 ((rs.mono b1.1).mono (b2.1.trans b3.1)) p6 fun a4 h4 ρ4 H4 b4 s4 p7=>?_;obtain⟨w,rfl,p8⟩:=b_ p7;exact⟨w,rfl,fun wv rw=>o' E ρ4 h4 H4 v w vv wv Q s4 (rv.mono (b3.1.trans b4.1)) rw p8⟩
   · cases rk;exact⟨false,rfl,zj (Post.gw s3 p6 (.bl false))⟩
def G4(n d:Nat)(o:Option Int):sIx n d o=HT.sIx n d o:=by
 cases o with
 | none=>rfl
 | some i=>cases i with
   | ofNat k=>
     show ifB (Nat.ble k n) k n=if(Int.ofNat k)<0 then((Int.ofNat k)+(n:Int)).toNat else min (Int.ofNat k).toNat n;rw[aA (by show ¬ (k:Int)<0;omega),ble_eq];show _=min k n
     by_cases c:k<=n
     · rw[bH c,Nat.min_eq_left c];rfl
     · rw[bM c,Nat.min_eq_right (by omega)];rfl
   | negSucc k=>
     show n - (k+1)=if(Int.negSucc k)<0 then((Int.negSucc k)+(n:Int)).toNat else min (Int.negSucc k).toNat n;rw[aB (by omega)];omega
def tO(o:Option Ev.X)(Pg:List Fn)(cl:Cn)(E:XK)(d:Nat):TO:=match o with
 | none=>Rm
 | some e=>Z2 (tE Pg cl E d e)
def abb:PO X none (tO none Pg cl E d):=Ip
def abd{e:Expr}{x:Ev.X}(h:PE X e (tE Pg cl E d x)):PO X (some e) (tO (some x) Pg cl E d):=Ir h
def RB{e:Option Ev.X}{ρ:List Addr}{τ:Sg}{h:Hs}{n:Nat}{k:Option Int->Hs->R A}{P:A->Hs->List Addr->Hp->Prop}{Q:Option Int->Hp->Prop}(s:Sim cl ρ h H)(rs:RS ρ τ σ)(p:Post cl ρ H E (Fi (bu Pg d) n e τ h k) P)
    (g:∀ i h1 ρ1 H1,Bt cl ρ H ρ1 H1->Sim cl ρ1 h1 H1->Post cl ρ1 H1 E (k i h1) P->Q i H1):tO e Pg cl E d σ H Q:=by
 cases e with
 | none=>exact g none h ρ H Bt.refl s p
 | some e=>
   refine ev.then s rs (show Post cl ρ H E ((evs Pg n d (.x e) τ h).bind fun a h=>a.toW fun w=>w.onI fun i=>k (some i) h) P from p) fun a1 h1 ρ1 H1 b1 s1 p1=>?_;obtain⟨w,rfl,p2⟩:=b_ p1;obtain⟨i,rfl,p3⟩:=GX p2;refine⟨_,rfl,fun v rv=>?_⟩;cases rv;exact⟨i,rfl,g (some i) h1 ρ1 H1 b1 s1 p3⟩
def adb(K:ao):V->Option Int->Option Int->Hp->VK->Prop:=fun x lo hi H Q=>acs K x lo hi H Q\/aci K x lo hi H Q
def YZ{K:ao}{a:Ev.X}{lo hi:Option Ev.X}{Q:VK}(x:tE Pg cl E d (.slice a lo hi) σ H Q):tSl (adb K) (tE Pg cl E d a) (tO lo Pg cl E d) (tO hi Pg cl E d) σ H Q:=by
 obtain⟨ρ,τ,h,n,s,rs,z⟩:=x.step
 refine ev.then s rs (show Post cl ρ H E ((evs Pg n d (.x a) τ h).bind fun r h=>r.toW fun w=>Fi (bu Pg d) n lo τ h fun l h=>Fi (bu Pg d) n hi τ h fun u h=>h.at w fun _ o=>
  O.rec (fun xs=>ifB (ifB (Nat.beq (sIx (len xs) 0 l) 0) (Nat.beq (sIx (len xs) (len xs) u) (len xs)) false) .no (ofW (.alloc h (.tup (tak (drp xs (sIx (len xs) 0 l)) (sIx (len xs) (len xs) u - sIx (len xs) 0 l)))))) (fun xs=>ofW (.alloc h (.lst (tak (drp xs (sIx (len xs) 0 l)) (sIx (len xs) (len xs) u - sIx (len xs) 0 l))))) (fun _ _=>.no) (fun _=>.no) (fun _=>.no) (fun _=>.no) o) (VP Q) from z) fun a1 h1 ρ1 H1 b1 s1 p1=>?_
 obtain⟨w,rfl,p2⟩:=b_ p1;refine⟨w,rfl,fun v rv=>?_⟩;refine RB s1 (rs.mono b1.1) p2 fun l h2 ρ2 H2 b2 s2 p3=>?_;refine RB s2 ((rs.mono b1.1).mono b2.1) p3 fun u h3 ρ3 H3 b3 s3 p4=>?_;obtain⟨k,o,ad,_,rfl,e1,g1,x1,p5⟩:=at_of s3 (rv.mono (b2.1.trans b3.1)) p4
 cases o with
 | lst xs=>
   obtain⟨vs,ru,q⟩:=x1;have p6:Post cl ρ3 H3 E (ofW (.alloc h3 (.lst (tak (drp xs (sIx (len xs) 0 l)) (sIx (len xs) (len xs) u - sIx (len xs) 0 l))))) (VP Q):=p5;rw[BW,BV,len_eq,G4,G4,ru.length]at p6
   exact .inl ⟨ad,vs,rfl,SqL.of q,fun p hp=>Post.newL s3 p6 hp ((ru.drop _).take _)⟩
 | tup xs=>
   obtain⟨vs,ru,q⟩:=x1;have p6:Post cl ρ3 H3 E (ifB (ifB (Nat.beq (sIx (len xs) 0 l) 0) (Nat.beq (sIx (len xs) (len xs) u) (len xs)) false) .no (ofW (.alloc h3 (.tup (tak (drp xs (sIx (len xs) 0 l)) (sIx (len xs) (len xs) u - sIx (len xs) 0 l)))))) (VP Q):=p5;rw[BW,BV,len_eq,G4,G4,ru.length]at p6;refine .inr ⟨ad,vs,rfl,SqT.of q,?_,fun p hp=>?_⟩
   · rintro⟨c1,c2⟩;rw[jA.mpr c1,jA.mpr c2]at p6;exact p6.elim
   · cases c:ifB (Nat.beq (HT.sIx vs.length 0 l) 0) (Nat.beq (HT.sIx vs.length vs.length u) vs.length) false with
     | true=>rw[c]at p6;exact p6.elim
     | false=>rw[c]at p6;exact Post.Ug s3 p6 hp ((ru.drop _).take _)
 | _=>exact p5.elim
def Y0{e:Expr}{lo hi:Option Expr}{x:Ev.X}{xl xh:Option Ev.X}{pos p2:Pos}(he:PE X e (tE Pg cl E d x))(hl:PO X lo (tO xl Pg cl E d))(hh:PO X hi (tO xh Pg cl E d)):PE X (.Subscript e (.Slice lo hi none p2) pos) (tE Pg cl E d (.slice x xl xh)):=
 PE.of (Fd (Iw.or acj) he hl hh) fun _ _ _ q=>YZ q
def fM{a b:Expr}{x y:Ev.X}{pos:Pos}(ha:PE X a (tE Pg cl E d x))(hb:PE X b (tE Pg cl E d y))(hs:Dr b:=by exact fun _ _=>rfl):PE X (.Subscript a b pos) (tE Pg cl E d (.pr .ix [x,y])):=
 PE.of (Ds V2 ha hb hs) fun _ _ _ q=>vR ac5 q
def iV{es:List Expr}{xs:List Ev.X}{x1 pos}(h:PA X es (tA Pg cl E d xs)):PE X (.Tuple es x1 pos) (tE Pg cl E d (.pr .tup xs)):=PE.of (yz h) fun _ _ _ q=>Ja aez q
def k_{es:List Expr}{xs:List Ev.X}{pos}(h:PA X es (tA Pg cl E d xs)):PE X (.List es pos) (tE Pg cl E d (.pr .lst xs)):=PE.of (yC h) fun _ _ _ q=>Ja aeA q
def abe{K:ao}{p:Pr}{r:V->List V->Hp->VK->Prop}(o:OpM cl p r){a:Ev.X}{as:List Ev.X}{Q:VK}(x:tE Pg cl E d (.lm p a as) σ H Q):tBM K "list" r (tE Pg cl E d a) (tA Pg cl E d as) σ H Q:=by
 obtain⟨ρ,τ,h,n,s,rs,q⟩:=x.step;refine ev.then s rs (show Post cl ρ H E ((evs Pg n d (.x a) τ h).bind fun r h=>r.toW fun w=>h.at w fun _ o=>o.onL fun _=>(evs Pg n d (.a as) τ h).bind fun r h=>r.toL fun ws=>ofW (dF p (w::ws) h)) (VP Q) from q) fun a1 h1 ρ1 H1 b1 s1 p1=>?_;obtain⟨w1,rfl,p2⟩:=b_ p1;refine⟨w1,rfl,fun v1 rv1=>?_⟩;obtain⟨k,ob,ad,rfl,rfl,e1,g1,x1,p3⟩:=at_of s1 rv1 p2;obtain⟨xs,rfl,p4⟩:=GZ p3;obtain⟨vs,ru,qh⟩:=x1;refine⟨.inl ⟨rfl,_,SqL.of qh⟩,?_⟩;refine ev.then s1 (rs.mono b1.1) p4 fun a2 h2 ρ2 H2 b2 s2 p5=>?_;obtain⟨ws,rfl,p6⟩:=oY p5;exact⟨ws,rfl,fun us ru'=>o E ρ2 h2 H2 _ _ ws us Q s2 (rv1.mono b2.1) ru' p6⟩
def Ui{p:Pr}{r:V->List V->Hp->VK->Prop}{o e:Expr}{es:List Expr}{x y:Ev.X}{ys:List Ev.X}{name:Str}{id:String}{apos cpos:Pos}(z:OpM cl p r)(slot:Slot "list" name id)(hty:typeOf (.builtin id)=pure (.type "method_descriptor"))(hm:MtM X id r)
    (ho:PE X o (tE Pg cl E d x)) (ha:PA X (e::es) (tA Pg cl E d (y::ys))) (hbase:attributeBase o name X.env (eval o X.env)=eval o X.env:=by rfl)
    (hfew:((backTo cpos (starEach (e::es) X.env)).all (fun x=> !x.1)&&(backToKw cpos (keywordEach [] X.env)).all (fun x=>x.1.isSome)
      && decide ((e::es).length+([]:List Keyword).length+(if([]:List Keyword).isEmpty then 0 else 1)<30))=true:=by rfl)
    (hline:(apos.endLine==cpos.line)=true:=by rfl) (hs:starEach (e::es) X.env=(false,eval e X.env)::starEach es X.env:=by rfl) (hplain:(backTo cpos (starEach es X.env)).any (·.1)=false:=by rfl):
    PE X (.Call (.Attribute o name apos) (e::es) [] cpos) (tE Pg cl E d (.lm p x (y::ys))):=PE.of (MP PySem.F.plainAttrs_list slot hty hm ho ha hbase hfew hline hs hplain) fun _ _ _ q=>abe z q
def iy{p:Pr}{r:List V->Hp->VK->Prop}{x:Str}{e:Expr}{es:List Expr}{y:Ev.X}{ys:List Ev.X}{id:String}{pos q:Pos}(z:OpN cl p r)(hc:oH X (.builtin id) r)(hg:Gl X x)(hm:X.mg x=none)(hv:bootBuiltins x=some (.builtin id))(ha:PA X (e::es) (tA Pg cl E d (y::ys)))(hn:x ≠ "__name__":=by decide)(hdb:(x==("__debug__":Str))=false:=by decide)
    (he:starEach (e::es) X.env=(false,eval e X.env)::starEach es X.env:=by rfl) (hpl:(backTo pos (starEach es X.env)).any (·.1)=false:=by rfl):PE X (.Call (.Name x q) (e::es) [] pos) (tE Pg cl E d (.pr p (y::ys))):=
 PE.of (qT hc hg hm hv ha hn hdb he hpl) fun _ _ _ q=>Ja z q
def Wy{p:Pr}{r:List V->Hp->VK->Prop}{x:Str}{e:Expr}{es:List Expr}{y:Ev.X}{ys:List Ev.X}{T:String}{pos q:Pos}(z:OpN cl p r)(hc:oH X (.type T) r)(hg:Gl X x)(hm:X.mg x=none)(hv:bootBuiltins x=some (.type T))(ha:PA X (e::es) (tA Pg cl E d (y::ys)))(hn:x ≠ "__name__":=by decide)(hdb:(x==("__debug__":Str))=false:=by decide)
    (he:starEach (e::es) X.env=(false,eval e X.env)::starEach es X.env:=by rfl) (hpl:(backTo pos (starEach es X.env)).any (·.1)=false:=by rfl):PE X (.Call (.Name x q) (e::es) [] pos) (tE Pg cl E d (.pr p (y::ys))):=
 PE.of (xj hc hg hm hv ha hn hdb he hpl) fun _ _ _ q=>Ja z q
end
section
mutual
def vars:Tg->List Nat
 | .nm i=>[i]
 | .tup ts=>zF ts
def zF:List Tg->List Nat
 | []=>[]
 | t::ts=>vars t++zF ts
end
def Off(vs:List Nat)(σ σ':L2.St):Prop:=σ'.length=σ.length/\∀ i,i ∉ vs->σ'[i]? =σ[i]?
def Off.refl{vs:List Nat}{σ:L2.St}:Off vs σ σ:=⟨rfl,fun _ _=>rfl⟩
def Off.trans{vs us:List Nat}{σ σ' ade:L2.St}(a:Off vs σ σ')(b:Off us σ' ade):Off (vs++us) σ ade:=⟨b.1.trans a.1,fun i hi=>by
 rw[List.mem_append]at hi
 exact(b.2 i fun z=>hi (.inr z)).trans (a.2 i fun z=>hi (.inl z))⟩
def tG(cl:Cn)(t:Tg):TG:=fun v σ H Q=>∃ ρ h w τ n τ',Sim cl ρ h H/\RW ρ w v/\RS ρ τ σ/\bw h n t w τ=some τ'/\∀ σ',RS ρ τ' σ'->Off (vars t) σ σ'->Q σ' H
def tGs(cl:Cn)(ts:List Tg):TGs:=fun vs σ H Q=>∃ ρ h ws τ n τ',Sim cl ρ h H/\RWs ρ ws vs/\RS ρ τ σ/\bindL (bw h n) ts ws τ=some τ'/\∀ σ',RS ρ τ' σ'->Off (zF ts) σ σ'->Q σ' H
variable{Pg:List Fn}{cl:Cn}{E:XK}{d:Nat}{X:Cx}{σ:L2.St}{H:Hp}
def PG.of{e:Expr}{t t':TG}(h:PG X e t)(f:∀ v σ H Q,t' v σ H Q->t v σ H Q):PG X e t':=fun pins s σ H v u Q I r q=>h pins s σ H v u Q I r (f v σ H Q q)
def PGs.of{e:List Expr}{t t':TGs}(h:PGs X e t)(f:∀ v σ H Q,t' v σ H Q->t v σ H Q):PGs X e t':=fun pins s σ H v u Q I r q=>h pins s σ H v u Q I r (f v σ H Q q)
def Fx{i:Nat}{v:V}{Q:L2.St->Hp->Prop}(x:tG cl (.nm i) v σ H Q):MF i v σ H Q:=by
 obtain⟨ρ,h,w,τ,n,τ',s,r,rs,e,q⟩:=x
 cases n with
 | zero=>cases e
 | succ n=>
   have e:some (setAt τ (some w) i)=some τ':=e;cases e;refine q _ (rs.set r i) ⟨List.length_set,fun j hj=>?_⟩;have ne:i ≠ j:=fun z=>hj (by simp[vars,z]);rw[List.getElem?_set_ne ne]
def abf{i:Nat}{x:Str}{pos:Pos}(hN:X.N.Nodup)(hi:X.N[i]? =some x)(hx:Loc X.env.scope x)(hf:X.fn x=true\/X.env.scope.names.lookup x=some .local:=by first | exact .inl rfl | exact .inr rfl | assumption):PG X (.Name x pos) (tG cl (.nm i)):=PG.of (sO hN hi hx hf) fun _ _ _ _ q=>Fx q
def fZ:PGs X [] (tGs cl []):=PGs.of aaL fun vs σ H Q x=>by
 obtain⟨ρ,h,ws,τ,n,τ',s,r,rs,e,q⟩:=x
 cases r with
 | nil=>
   have e:some τ=some τ':=e;cases e
   exact⟨rfl,q σ rs Off.refl⟩
 | cons _ _=>cases e
def bf{e:Expr}{es:List Expr}{t:Tg}{ts:List Tg}(h1:PG X e (tG cl t))(h2:PGs X es (tGs cl ts))(hs:(assignEach (e::es) X.env).map (·.2)=assign e X.env::(assignEach es X.env).map (·.2):=by rfl):PGs X (e::es) (tGs cl (t::ts)):=
 PGs.of (Yi h1 h2 hs) fun vs σ H Q x=>by
 obtain⟨ρ,h,ws,τ,n,τ',s,r,rs,e,q⟩:=x
 cases r with
 | nil=>cases e
 | @cons w v ws vs r1 rt=>
   have e:Option.rec none (fun τ=>bindL (bw h n) ts ws τ) (bw h n t w τ)=some τ':=e
   cases e1:bw h n t w τ with
   | none=>rw[e1]at e;cases e
   | some τ1=>
     rw[e1]at e;refine⟨v,vs,rfl,ρ,h,w,τ,n,τ1,s,r1,rs,e1,fun σ1 rs1 o1=>?_⟩;exact⟨ρ,h,ws,τ1,n,τ',s,rt,rs1,e,fun σ2 rs2 o2=>q σ2 rs2 (by have:=o1.trans o2;simpa [zF] using this)⟩
def iW{es:List Expr}{k:Nat}{ts:List Tg}{n:Nat}{pos:Pos}(hc:X.calm=true)(h:PGs X es (tGs cl ts))(hl:ts.length=n:=by rfl)
    (hn:(assignEach es X.env).length=n:=by rfl) (hst:(assignEach es X.env).findIdx? (·.1)=none:=by rfl):PG X (.Tuple es k pos) (tG cl (.tup ts)):=PG.of (ab4 hc h hn hst) fun v σ H Q x=>by
 obtain⟨ρ,h,w,τ,m,τ',s,r,rs,e,q⟩:=x
 cases m with
 | zero=>cases e
 | succ m=>
   cases r with
   | @ref j a qa=>
     have e:Option.rec none (fun o=>O.rec (fun xs=>bindL (bw h m) ts xs τ) (fun _=>none) (fun _ _=>none) (fun _=>none) (fun _=>none) (fun _=>none) o) (h.get j)=some τ':=e
     cases hg:h.get j with
     | none=>rw[hg]at e;cases e
     | some o=>
       rw[hg]at e;have x1:=s.at qa hg
       cases o with
       | tup xs=>
         have e:bindL (bw h m) ts xs τ=some τ':=e;obtain⟨vs,rv,qh⟩:=x1
         have len:∀(ts:List Tg) (xs:List W) (τ τ':Sg),bindL (bw h m) ts xs τ=some τ'->xs.length=ts.length:=by
          intro ts
          induction ts with
          | nil=>intro xs τ τ' e;cases xs with
            | nil=>rfl
            | cons _ _=>cases e
          | cons t ts ih=>intro xs τ τ' e;cases xs with
            | nil=>cases e
            | cons y ys=>
              have e:Option.rec none (fun τ=>bindL (bw h m) ts ys τ) (bw h m t y τ)=some τ':=e
              cases e1:bw h m t y τ with
              | none=>rw[e1]at e;cases e
              | some τ1=>rw[e1]at e;exact congrArg (· + 1) (ih ys τ1 τ' e)
         refine⟨a,vs,rfl,SqT.of qh,by rw[<- rv.length,len ts xs τ τ' e,hl],?_⟩
         exact⟨ρ,h,xs,τ,m,τ',s,rv,rs,e,fun σ' rs' o'=>q σ' rs' (by simpa [vars] using o')⟩
       | _=>cases e
   | _=>cases e
def Wz{α:Type}(τ:Sg)(w:W)(i j:Nat):cU (setAt τ (some w) i) j=none->cU τ j=none/\(j=i->τ.length<=j):=by
 rw[Fo,Oh,Oh];intro h
 by_cases z:i=j
 · subst z
   by_cases l:i<τ.length
   · rw[List.getElem?_set_self l]at h;cases h
   · refine⟨?_,fun _=>Nat.not_lt.mp l⟩;rw[List.getElem?_eq_none (Nat.not_lt.mp l)];rfl
 · rw[List.getElem?_set_ne z]at h;exact⟨h,fun q=>aK q.symm z⟩
def bind_none{h:Hs}:∀(n:Nat) {t:Tg} {w:W} {τ τ':Sg},bw h n t w τ=some τ'->τ'.length=τ.length/\∀ i,cU τ' i=none->cU τ i=none/\(i ∈ vars t->τ.length<=i)
 | 0,_,_,_,_,e=>nomatch e
 | n+1,t,w,τ,τ',e=>by
   have lst:∀(ts:List Tg) (ws:List W) (τ τ':Sg),bindL (bw h n) ts ws τ=some τ'->τ'.length=τ.length/\∀ i,cU τ' i=none->cU τ i=none/\(i ∈ zF ts->τ.length<=i):=by
    intro ts
    induction ts with
    | nil=>
      intro ws τ τ' e
      cases ws with
      | nil=>cases e;exact⟨rfl,fun i hi=>⟨hi,fun z=>by simp[zF]at z⟩⟩
      | cons _ _=>cases e
    | cons t ts ih=>
      intro ws τ τ' e
      cases ws with
      | nil=>cases e
      | cons y ys=>
        have e:Option.rec none (fun τ=>bindL (bw h n) ts ys τ) (bw h n t y τ)=some τ':=e
        cases e1:bw h n t y τ with
        | none=>rw[e1]at e;cases e
        | some τ1=>
          rw[e1]at e;obtain⟨l1,a1⟩:=bind_none n e1;obtain⟨l2,a2⟩:=ih ys τ1 τ' e;refine⟨l2.trans l1,fun i hi=>?_⟩;obtain⟨b1,b2⟩:=a2 i hi;obtain⟨c1,c2⟩:=a1 i b1;refine⟨c1,fun z=>?_⟩;simp only[zF,List.mem_append]at z
          rcases z with z | z
          · exact c2 z
          · rw[<- l1];exact b2 z
   cases t with
   | nm i=>
     have e:some (setAt τ (some w) i)=some τ':=e;cases e;refine⟨by rw[Fo,List.length_set],fun j hj=>?_⟩;obtain⟨a,b⟩:=Wz (α:=Unit) τ w i j hj
     exact⟨a,fun z=>b (by simpa [vars] using z)⟩
   | tup ts=>
     cases w with
     | ref k=>
       have e:Option.rec none (fun o=>O.rec (fun xs=>bindL (bw h n) ts xs τ) (fun _=>none) (fun _ _=>none) (fun _=>none) (fun _=>none) (fun _=>none) o) (h.get k)=some τ':=e
       cases hg:h.get k with
       | none=>rw[hg]at e;cases e
       | some o=>
         rw[hg]at e
         cases o with
         | tup xs=>
           obtain⟨a,b⟩:=lst ts xs τ τ' e
           exact⟨a,fun i hi=>by simpa [vars] using b i hi⟩
         | _=>cases e
     | _=>cases e
def RC{h:Hs}{n:Nat}{t:Tg}{w:W}{τ τ':Sg}{ρ:List Addr}{σ σ' σ0:L2.St}(e:bw h n t w τ=some τ')(rs:RS ρ τ σ)(o:Off (vars t) σ σ')(ag:Ag σ0 τ σ):Ag σ0 τ' σ':=fun i hi=>by
 obtain⟨l,a⟩:=bind_none n e;obtain⟨b1,b2⟩:=a i hi;have len:τ.length=σ.length:=Paired.length rs
 by_cases z:i ∈ vars t
 · have h1:=b2 z;rw[<- ag i b1,List.getElem?_eq_none (by rw[o.1];omega),List.getElem?_eq_none (by omega)]
 · rw[o.2 i z];exact ag i b1
section
variable{σ0:L2.St}
def Ov{t:Tg}{e:Ev.X}{D:Ends}(x:tS Pg cl E d σ0 (.asg t e) D σ H):S_ (tE Pg cl E d e) (tG cl t) D σ H:=by
 obtain⟨ρ,τ,h,n,s,rs,ag,q⟩:=x.step;refine ev.then s rs (show Post cl ρ H E ((evs Pg n d (.x e) τ h).bind fun r h=>r.toW fun w=>Opt (bw h 9 t w τ) fun τ=>.ok (.fl (.nx τ)) h) (SPo σ0 D) from q) fun a1 h1 ρ1 H1 b1 s1 p1=>?_;obtain⟨w,rfl,p2⟩:=b_ p1;obtain⟨τ',e1,p3⟩:=jo p2;refine⟨w,rfl,fun v rv=>⟨ρ1,h1,w,τ,9,τ',s1,rv,rs.mono b1.1,e1,fun σ' rs' o1=>?_⟩⟩;obtain⟨f,ef,qf⟩:=p3.now s1;cases ef;exact qf σ' rs' (RC e1 rs o1 ag)
def WD{i:Nat}{x:Str}{e:Expr}{y:Ev.X}{pos pos':Pos}(hN:X.N.Nodup)(hi:X.N[i]? =some x)(hx:Loc X.env.scope x)(he:PE X e (tE Pg cl E d y))(hs:swapsWith e (some (.Name x pos')) pos.line X.env=pure false:=by rfl)(hf:X.fn x=true\/X.env.scope.names.lookup x=some .local:=by first | exact .inl rfl | exact .inr rfl | assumption):
    PS X (.Assign [.Name x pos'] e pos) (tS Pg cl E d σ0 (.asg (.nm i) y)):=PS.of (rJ hN hi hx he hs hf) fun D σ H q=>by
 obtain⟨ρ,τ,h,n,s,rs,p⟩:=Ov q;exact⟨ρ,τ,h,n,s,rs,p.mono fun a h ρ H _ _ ⟨w,e,g⟩=>⟨w,e,fun v rv=>Fx (g v rv)⟩⟩
def vU{tg e:Expr}{t:Tg}{y:Ev.X}{pos:Pos}(he:PE X e (tE Pg cl E d y))(hg:PG X tg (tG cl t))(hs:swapsWithSole [tg] e pos.line X.env=pure false:=by rfl)(hw:swappedStores [tg] e X.env=pure none:=by rfl)
    (h1:(assignEach [tg] X.env).map (·.2)= [assign tg X.env]:=by rfl):PS X (.Assign [tg] e pos) (tS Pg cl E d σ0 (.asg t y)):=PS.of (ab5 he hg hs hw h1) fun _ _ _ q=>Ov q
def j8{e:Expr}{y:Ev.X}{pos:Pos}(he:PE X e (tE Pg cl E d y))(hs:swapsWith e none pos.line X.env=pure false:=by rfl):PS X (.Expr e pos) (tS Pg cl E d σ0 (.expr y)):=PS.of (jF he hs) fun D σ H x=>by
 obtain⟨ρ,τ,h,n,s,rs,ag,q⟩:=x.step;refine ev.then s rs (show Post cl ρ H E ((evs Pg n d (.x y) τ h).bind fun r h=>r.toW fun _=>.ok (.fl (.nx τ)) h) (SPo σ0 D) from q) fun a1 h1 ρ1 H1 b1 s1 p1=>?_;obtain⟨w,rfl,p2⟩:=b_ p1;refine⟨w,rfl,fun v rv=>?_⟩;obtain⟨f,ef,qf⟩:=p2.now s1;cases ef;exact qf σ (rs.mono b1.1) ag
def bI{e:Expr}{y:Ev.X}{pos:Pos}(he:PE X e (tE Pg cl E d y)):PS X (.Return (some e) pos) (tS Pg cl E d σ0 (.ret y)):=PS.of (nG he) fun D σ H x=>by
 obtain⟨ρ,τ,h,n,s,rs,ag,q⟩:=x.step;refine ev.then s rs (show Post cl ρ H E ((evs Pg n d (.x y) τ h).bind fun r h=>r.toW fun w=>.ok (.fl (.rt w)) h) (SPo σ0 D) from q) fun a1 h1 ρ1 H1 b1 s1 p1=>?_;obtain⟨w,rfl,p2⟩:=b_ p1;obtain⟨f,ef,qf⟩:=p2.now s1;cases ef;exact⟨w,rfl,qf⟩
def fO{c:Expr}{a b:List Stmt}{x:Ev.X}{sa sb:List S}{pos:Pos}(hc:PT X c (tT Pg cl E d x))(ha:PSs X a (tSs Pg cl E d σ0 sa))(hb:PSs X b (tSs Pg cl E d σ0 sb)):PS X (.If c a b pos) (tS Pg cl E d σ0 (.ife x sa sb)):=PS.of (Dm hc ha hb) fun D σ H z=>by
 obtain⟨ρ,τ,h,n,s,rs,ag,q⟩:=z.step;refine ev.then s rs (show Post cl ρ H E ((evs Pg n d (.x x) τ h).bind fun r h=>r.toW fun w=>w.onB (evs Pg n d (.ss sb) τ h) (evs Pg n d (.ss sa) τ h)) (SPo σ0 D) from q) fun a1 h1 ρ1 H1 b1 s1 p1=>?_;obtain⟨w,rfl,p2⟩:=b_ p1;refine⟨w,rfl,fun v rv=>?_⟩
 rcases yI p2 with ⟨rfl,p3⟩ | ⟨rfl,p3⟩
 · cases rv;exact⟨true,rfl,zm ⟨ρ1,τ,h1,n,s1,rs.mono b1.1,ag,p3⟩⟩
 · cases rv;exact⟨false,rfl,zj ⟨ρ1,τ,h1,n,s1,rs.mono b1.1,ag,p3⟩⟩
def az:PSs X [] (tSs Pg cl E d σ0 []):=PSs.of yx fun D σ H x=>by
 obtain⟨ρ,τ,h,n,s,rs,ag,q⟩:=x.step;obtain⟨f,ef,qf⟩:=Post.now s (show Post cl ρ H E (.ok (.fl (.nx τ)) h) (SPo σ0 D) from q);cases ef;exact qf σ rs ag
def aa{st:Stmt}{rest:List Stmt}{a:S}{as:List S}(h1:PS X st (tS Pg cl E d σ0 a))(h2:PSs X rest (tSs Pg cl E d σ0 as)):PSs X (st::rest) (tSs Pg cl E d σ0 (a::as)):=PSs.of (dz h1 h2) fun D σ H x=>by
 obtain⟨ρ,τ,h,n,s,rs,ag,q⟩:=x.step;refine evS.then s rs ag (show Post cl ρ H E ((evs Pg n d (.s a) τ h).bind fun r h=>r.toF fun f=>Fl.rec (fun τ=>evs Pg n d (.ss as) τ h) (fun w=>.ok (.fl (.rt w)) h) (fun τ=>.ok (.fl (.bk τ)) h) (fun τ=>.ok (.fl (.ct τ)) h) f) (SPo σ0 D) from q) fun a1 h1 ρ1 H1 b1 s1 p1=>?_;obtain⟨f,rfl,p2⟩:=GR p1;refine⟨f,rfl,?_⟩
 cases f with
 | nx τ1=>exact fun σ1 rs1 ag1=>⟨ρ1,τ1,h1,n,s1,rs1,ag1,p2⟩
 | rt w=>
   obtain⟨f,ef,qf⟩:=Post.now s1 (show Post cl ρ1 H1 E (.ok (.fl (.rt w)) h1) (SPo σ0 D) from p2)
   cases ef;exact qf
 | bk τ1=>
   obtain⟨f,ef,qf⟩:=Post.now s1 (show Post cl ρ1 H1 E (.ok (.fl (.bk τ1)) h1) (SPo σ0 D) from p2)
   cases ef;exact qf
 | ct τ1=>
   obtain⟨f,ef,qf⟩:=Post.now s1 (show Post cl ρ1 H1 E (.ok (.fl (.ct τ1)) h1) (SPo σ0 D) from p2);cases ef;exact qf
end
inductive oh (K:ao)(ρ:List Addr):Iv->It->Prop
 | lst {n a}:ρ[n]? =some a->oh K ρ (.lst n) (Itl K a)
 | tup {n a}:ρ[n]? =some a->oh K ρ (.tup n) (Itt K a)
 | rng (lo n):oh K ρ (.rng lo n) (Itr lo n)
 | zip {n m a b}:ρ[n]? =some a->ρ[m]? =some b->oh K ρ (.zip n m) (Itz K a b)
 | dwn (lo n):oh K ρ (.dwn lo n) (Itd lo n)
 | enu {n a}:ρ[n]? =some a->oh K ρ (.enu n) (Ite K a)
def oh.mono{K:ao}{ρ ρ':List Addr}(e:ρ <+:ρ'){v:Iv}{J:It}(x:oh K ρ v J):oh K ρ' v J:=by
 cases x with
 | lst h=>exact .lst (iu e h)
 | tup h=>exact .tup (iu e h)
 | rng lo n=>exact .rng lo n
 | zip h h'=>exact .zip (iu e h) (iu e h')
 | dwn lo n=>exact .dwn lo n
 | enu h=>exact .enu (iu e h)
def RD{K:ao}{ρ:List Addr}{h:Hs}{v:Iv}{J:It}{i:Nat}{fin:R A}{go:W->Hs->R A}{P:A->Hs->List Addr->Hp->Prop}(s:Sim cl ρ h H)(x:oh K ρ v J)(p:Post cl ρ H E (v.next i h fin go) P):
    (J.stop i H/\Post cl ρ H E fin P)\/(J.go i H/\∃ w h',∀ y H',J.yld i H y H'->∃ ρ',Bt cl ρ H ρ' H'/\Sim cl ρ' h' H'/\RW ρ' w y/\Post cl ρ' H' E (go w h') P):=by
 have here:∀ {w:W} {v':V},RW ρ w v'->Post cl ρ H E (go w h) P->(∀ y H',J.yld i H y H'->H'=H/\y=v')->∃ w h',∀ y H',J.yld i H y H'->∃ ρ',Bt cl ρ H ρ' H'/\Sim cl ρ' h' H'/\RW ρ' w y/\Post cl ρ' H' E (go w h') P:=fun {w v'} rw p f=>⟨w,h,fun y H' z=>by
  obtain⟨rfl,rfl⟩:=f y H' z
  exact⟨ρ,Bt.refl,s,rw,p⟩⟩
 cases x with
 | @lst n a e=>
   obtain⟨o,ho,p1⟩:=jo (show Post cl ρ H E (Opt (h.get n) fun o=>o.onS fun xs=>Option.rec fin (fun w=>go w h) (nth xs i)) P from p);have x1:=s.at e ho
   cases o with
   | lst xs=>
     obtain⟨vs,rv,q⟩:=x1;have p2:Post cl ρ H E (Option.rec fin (fun w=>go w h) (nth xs i)) P:=p1;rw[nH]at p2;have hl:=rv.length
     cases hx:xs[i]? with
     | none=>
       rw[hx]at p2
       exact .inl ⟨⟨vs,SqL.of q,by have:=List.getElem?_eq_none_iff.mp hx;omega⟩,p2⟩
     | some w=>
       rw[hx]at p2;obtain⟨v',ev,rw⟩:=rv.get hx
       exact .inr ⟨⟨vs,v',SqL.of q,ev⟩,here rw p2 fun y H' z=>⟨z.1,by
        have:=z.2 vs (SqL.of q);rw[ev]at this
        exact(gH this).symm⟩⟩
   | _=>exact p1.elim
 | @tup n a e=>
   obtain⟨o,ho,p1⟩:=jo (show Post cl ρ H E (Opt (h.get n) fun o=>o.onT fun xs=>Option.rec fin (fun w=>go w h) (nth xs i)) P from p);have x1:=s.at e ho
   cases o with
   | tup xs=>
     obtain⟨vs,rv,q⟩:=x1;have p2:Post cl ρ H E (Option.rec fin (fun w=>go w h) (nth xs i)) P:=p1;rw[nH]at p2;have hl:=rv.length
     cases hx:xs[i]? with
     | none=>
       rw[hx]at p2
       exact .inl ⟨⟨vs,SqT.of q,by have:=List.getElem?_eq_none_iff.mp hx;omega⟩,p2⟩
     | some w=>
       rw[hx]at p2;obtain⟨v',ev,rw⟩:=rv.get hx
       exact .inr ⟨⟨vs,v',SqT.of q,ev⟩,here rw p2 fun y H' z=>⟨z.1,by
        have:=z.2 vs (SqT.of q);rw[ev]at this
        exact(gH this).symm⟩⟩
   | _=>exact p1.elim
 | rng lo n=>
   have p1:Post cl ρ H E (Bool.rec fin (go (.int (lo + .ofNat i)) h) (Nat.ble (i+1) n)) P:=p;rw[ble_eq]at p1
   by_cases c:i+1<=n
   · rw[bH c]at p1;exact .inr ⟨c,here (.int _) p1 fun y H' z=>z⟩
   · rw[bM c]at p1
     exact .inl ⟨by show n<=i;omega,p1⟩
 | dwn lo n=>
   have p1:Post cl ρ H E (Bool.rec fin (go (.int (lo - .ofNat i)) h) (Nat.ble (i+1) n)) P:=p;rw[ble_eq]at p1
   by_cases c:i+1<=n
   · rw[bH c]at p1;exact .inr ⟨c,here (.int _) p1 fun y H' z=>z⟩
   · rw[bM c]at p1
     exact .inl ⟨by show n<=i;omega,p1⟩
 | @enu n a ea=>
   obtain⟨o,ho,p1⟩:=jo (show Post cl ρ H E (Opt (h.get n) fun o=>o.onS fun xs=>Option.rec fin (fun x=>go (.ref h.n) (h.push (.tup [.int (.ofNat i),x]))) (nth xs i)) P from p);have x1:=s.at ea ho
   cases o with
   | lst xs=>
     obtain⟨vs,rv,q⟩:=x1;have p3:Post cl ρ H E (Option.rec fin (fun x=>go (.ref h.n) (h.push (.tup [.int (.ofNat i),x]))) (nth xs i)) P:=p1;rw[nH]at p3;have hl:=rv.length
     cases hx:xs[i]? with
     | none=>
       rw[hx]at p3
       exact .inl ⟨⟨vs,SqL.of q,by have:=List.getElem?_eq_none_iff.mp hx;omega⟩,p3⟩
     | some x=>
       rw[hx]at p3;obtain⟨x',ex,rx⟩:=rv.get hx;refine .inr ⟨⟨vs,x',SqL.of q,ex⟩,.ref h.n,h.push (.tup [.int (.ofNat i),x]),fun v H' ⟨T,x2,hT,hv,hH,f1⟩=>?_⟩;have e1:=f1 vs (SqL.of q);rw[ex]at e1;cases e1;subst hv hH;have pe:=kE ρ [T];have s2:Sim cl (ρ ++ [T]) (h.push (.tup [.int (.ofNat i),x])) (upd H T (.tup [.int i,x'])):=s.push hT ⟨[.int i,x'],.cons (.int _) (.cons (rx.mono pe) .nil),aJ⟩
       exact⟨ρ ++ [T],Bt.new hT,s2,.ref (by rw[<- s.len,lJ (aG _),Nat.sub_self];rfl),p3.later (Bt.new hT)⟩
   | _=>exact p1.elim
 | @zip n m a b ea eb=>
   obtain⟨o,ho,p1⟩:=jo (show Post cl ρ H E (Opt (h.get n) fun o=>o.onS fun xs=>Opt (h.get m) fun o=>o.onS fun ys=>Option.rec fin (fun x=>Option.rec fin (fun y=>go (.ref h.n) (h.push (.tup [x,y]))) (nth ys i)) (nth xs i)) P from p);have x1:=s.at ea ho
   cases o with
   | lst xs=>
     obtain⟨vs,rv,q⟩:=x1;obtain⟨o2,ho2,p2⟩:=jo (show Post cl ρ H E (Opt (h.get m) fun o=>o.onS fun ys=>Option.rec fin (fun x=>Option.rec fin (fun y=>go (.ref h.n) (h.push (.tup [x,y]))) (nth ys i)) (nth xs i)) P from p1);have x2:=s.at eb ho2
     cases o2 with
     | lst ys=>
       obtain⟨us,ru,q2⟩:=x2;have p3:Post cl ρ H E (Option.rec fin (fun x=>Option.rec fin (fun y=>go (.ref h.n) (h.push (.tup [x,y]))) (nth ys i)) (nth xs i)) P:=p2;rw[nH,nH]at p3;have hl:=rv.length;have hl2:=ru.length
       cases hx:xs[i]? with
       | none=>
         rw[hx]at p3
         exact .inl ⟨⟨vs,us,SqL.of q,SqL.of q2,.inl (by have:=List.getElem?_eq_none_iff.mp hx;omega)⟩,p3⟩
       | some x=>
         rw[hx]at p3
         cases hy:ys[i]? with
         | none=>
           have p4:Post cl ρ H E (Option.rec fin (fun y=>go (.ref h.n) (h.push (.tup [x,y]))) ys[i]?) P:=p3;rw[hy]at p4
           exact .inl ⟨⟨vs,us,SqL.of q,SqL.of q2,.inr (by have:=List.getElem?_eq_none_iff.mp hy;omega)⟩,p4⟩
         | some y=>
           have p4:Post cl ρ H E (Option.rec fin (fun y=>go (.ref h.n) (h.push (.tup [x,y]))) ys[i]?) P:=p3;rw[hy]at p4;obtain⟨x',ex,rx⟩:=rv.get hx;obtain⟨y',ey,ry⟩:=ru.get hy;refine .inr ⟨⟨vs,us,x',y',SqL.of q,SqL.of q2,ex,ey⟩,.ref h.n,h.push (.tup [x,y]),fun v H' ⟨T,x2,y2,hT,hv,hH,f1,f2⟩=>?_⟩;have e1:=f1 vs (SqL.of q);have e2:=f2 us (SqL.of q2);rw[ex]at e1;rw[ey]at e2;cases e1;cases e2;subst hv hH;have pe:=kE ρ [T];have s2:Sim cl (ρ ++ [T]) (h.push (.tup [x,y])) (upd H T (.tup [x',y'])):=s.push hT ⟨[x',y'],.cons (rx.mono pe) (.cons (ry.mono pe) .nil),aJ⟩
           exact⟨ρ ++ [T],Bt.new hT,s2,.ref (by rw[<- s.len,lJ (aG _),Nat.sub_self];rfl),p4.later (Bt.new hT)⟩
     | _=>exact p2.elim
   | _=>exact p1.elim
def DI(Pg:List Fn)(cl:Cn)(E:XK)(d:Nat)(K:ao)(i:I)(wi:TI):Prop:=∀(σ:L2.St) (H:Hp) (R:It->Hp->Prop),ev Pg cl E d (.i i) σ H (fun r _ ρ1 H1=>∃ v,r= .iv v/\∀ J,oh K ρ1 v J->R J H1)->wi σ H R
def PI.or{tg l:Expr}{w w':TI}(h:PI X tg l w)(h':PI X tg l w'):PI X tg l (fun σ H R=>w σ H R\/w' σ H R):=fun pins s σ H R I q=>q.elim (h pins s σ H R I) (h' pins s σ H R I)
def rN{K:ao}{e:Ev.X}:DI Pg cl E d K (.seq e) (fun σ H R=>Tf K (tE Pg cl E d e) σ H R\/Yj K (tE Pg cl E d e) σ H R):=fun σ H R x=>by
 obtain⟨ρ,τ,h,n,s,rs,q⟩:=x.step;have q1:Post cl ρ H E ((evs Pg n d (.x e) τ h).bind fun r h=>r.toW fun w=>h.at w fun n o=>(O.casesOn (motive:=fun _=>Ev.R A) o (fun _=>.ok (.iv (.tup n)) h) (fun _=>.ok (.iv (.lst n)) h) (fun _ _=>.no) (fun _=>.no) (fun _=>.no) (fun _=>.no))) (fun r _ ρ1 H1=>∃ v,r= .iv v/\∀ J,oh K ρ1 v J->R J H1):=q;have q2:=q1.bind
 cases er:evs Pg n d (.x e) τ h with
 | no=>rw[er]at q2;exact q2.elim
 | ex C fs h1=>exact .inl ⟨ρ,τ,h,n,s,rs,by rw[er]at q2 ⊢;exact q2⟩
 | ok a h1=>
   rw[er]at q1;have q3:Post cl ρ H E (a.toW fun w=>h1.at w fun n o=>(O.casesOn (motive:=fun _=>Ev.R A) o (fun _=>.ok (.iv (.tup n)) h1) (fun _=>.ok (.iv (.lst n)) h1) (fun _ _=>.no) (fun _=>.no) (fun _=>.no) (fun _=>.no))) (fun r _ ρ1 H1=>∃ v,r= .iv v/\∀ J,oh K ρ1 v J->R J H1):=q1;obtain⟨w,rfl,q4⟩:=b_ q3;obtain⟨k,rfl,q5⟩:=Wo q4;obtain⟨o,ho,q6⟩:=jo q5
   cases o with
   | lst xs=>
     refine .inl ⟨ρ,τ,h,n,s,rs,?_⟩;rw[er];intro ρ1 H1 b1 s1;refine⟨_,rfl,fun v rv=>?_⟩
     cases rv with
     | @ref _ a ea=>
       obtain⟨vs,rv,qh⟩:=s1.at ea ho;obtain⟨v,ev,g⟩:=(show Post cl ρ H E (.ok (A.iv (.lst k)) h1) _ from q6) ρ1 H1 b1 s1;cases ev
       exact⟨a,rfl,⟨vs,SqL.of qh⟩,g _ (.lst ea)⟩
   | tup xs=>
     refine .inr ⟨ρ,τ,h,n,s,rs,?_⟩;rw[er];intro ρ1 H1 b1 s1;refine⟨_,rfl,fun v rv=>?_⟩
     cases rv with
     | @ref _ a ea=>
       obtain⟨vs,rv,qh⟩:=s1.at ea ho;obtain⟨v,ev,g⟩:=(show Post cl ρ H E (.ok (A.iv (.tup k)) h1) _ from q6) ρ1 H1 b1 s1;cases ev
       exact⟨a,rfl,⟨vs,SqT.of qh⟩,g _ (.tup ea)⟩
   | _=>exact q6.elim
def BX{ρ:List Addr}{H:Hp}{i:Int}{k:R A}{P:A->Hs->List Addr->Hp->Prop}(p:Post cl ρ H E (within i k) P):(-(2 ^ 62)<=i/\i<2 ^ 62)/\Post cl ρ H E k P:=by
 obtain⟨c,p⟩:=kW p;obtain⟨c2,p⟩:=kW p;rw[b8]at c c2;have c:=dw c;have c2:=dw c2;exact⟨⟨by omega,by omega⟩,p⟩
def RG{ρ:List Addr}{H:Hp}{ws:List W}{vs:List V}{f:W->R A}{P:A->Hs->List Addr->Hp->Prop}(r:RWs ρ ws vs)(p:Post cl ρ H E (Fj ws f) P):∃ w v,ws= [w]/\vs= [v]/\RW ρ w v/\Post cl ρ H E (f w) P:=by
 cases r with
 | nil=>exact p.elim
 | cons r1 t=>cases t with
   | nil=>exact⟨_,_,rfl,rfl,r1,p⟩
   | cons _ _=>exact p.elim
def RJ{ρ:List Addr}{H:Hp}{ws:List W}{vs:List V}{f:W->W->R A}{P:A->Hs->List Addr->Hp->Prop}(r:RWs ρ ws vs)(p:Post cl ρ H E (I9 ws f) P):∃ w v w' v',ws= [w,w']/\vs= [v,v']/\RW ρ w v/\RW ρ w' v'/\Post cl ρ H E (f w w') P:=by
 cases r with
 | nil=>exact p.elim
 | cons r1 t=>cases t with
   | nil=>exact p.elim
   | cons r2 t=>cases t with
     | nil=>exact⟨_,_,_,_,rfl,rfl,r1,r2,p⟩
     | cons _ _=>exact p.elim
def pH{K:ao}{as:List Ev.X}:DI Pg cl E d K (.j6 as) (L2.ZW (tA Pg cl E d as)):=fun σ H R x=>by
 obtain⟨ρ,τ,h,n,s,rs,q⟩:=x.step;refine ev.then s rs (show Post cl ρ H E ((evs Pg n d (.a as) τ h).bind fun r h=>r.toL fun ws=>Fj ws fun w=>w.onI fun j=>within j (.ok (A.iv (.rng 0 j.toNat)) h)) (fun r _ ρ1 H1=>∃ v,r= .iv v/\∀ J,oh K ρ1 v J->R J H1) from q) fun a1 h1 ρ1 H1 b1 s1 p1=>?_;obtain⟨ws,rfl,p2⟩:=oY p1;refine⟨ws,rfl,fun vs rv=>?_⟩;obtain⟨w,v,rfl,rfl,r1,p3⟩:=RG rv p2;obtain⟨j,rfl,p4⟩:=GX p3;obtain⟨c,p5⟩:=BX p4;cases r1;obtain⟨v,ev,g⟩:=p5.now s1;cases ev;exact⟨j,rfl,c.1,c.2,g _ (.rng _ _)⟩
def abg{K:ao}{as:List Ev.X}:DI Pg cl E d K (.acW as) (L2.ZX (tA Pg cl E d as)):=fun σ H R x=>by
 obtain⟨ρ,τ,h,n,s,rs,q⟩:=x.step;refine ev.then s rs (show Post cl ρ H E ((evs Pg n d (.a as) τ h).bind fun r h=>r.toL fun ws=>I9 ws fun v w=>v.onI fun i=>w.onI fun j=>within i (within j (.ok (A.iv (.rng i (j - i).toNat)) h))) (fun r _ ρ1 H1=>∃ v,r= .iv v/\∀ J,oh K ρ1 v J->R J H1) from q) fun a1 h1 ρ1 H1 b1 s1 p1=>?_;obtain⟨ws,rfl,p2⟩:=oY p1;refine⟨ws,rfl,fun vs rv=>?_⟩;obtain⟨w,v,w',v',rfl,rfl,r1,r2,p3⟩:=RJ rv p2;obtain⟨i,rfl,p4⟩:=GX p3;obtain⟨j,rfl,p5⟩:=GX p4;obtain⟨c,p6⟩:=BX p5;obtain⟨c2,p7⟩:=BX p6;cases r1;cases r2;obtain⟨v,ev,g⟩:=p7.now s1;cases ev;exact⟨i,j,rfl,⟨c.1,c.2,c2.1,c2.2⟩,g _ (.rng _ _)⟩
section
variable{σ0:L2.St}
def WK{K:ao}{as:List Ev.X}:DI Pg cl E d K (.zip as) (L2.acL K (tA Pg cl E d as)):=fun σ H R x=>by
 obtain⟨ρ,τ,h,n,s,rs,q⟩:=x.step;refine ev.then s rs (show Post cl ρ H E ((evs Pg n d (.a as) τ h).bind fun r h=>r.toL fun ws=>I9 ws fun v w=>h.at v fun n o=>o.onL fun _=>h.at w fun m o=>o.onL fun _=>.ok (.iv (.zip n m)) h) _ from q) fun a1 h1 ρ1 H1 b1 s1 p1=>?_;obtain⟨ws,rfl,p2⟩:=oY p1;refine⟨ws,rfl,fun vs rv=>?_⟩;obtain⟨u,v,u',v',rfl,rfl,r1,r2,p3⟩:=RJ rv p2;obtain⟨k,o,a,rfl,rfl,ea,ho,x1,p4⟩:=at_of s1 r1 p3;obtain⟨xs,rfl,p5⟩:=GZ p4;obtain⟨k2,o2,b,rfl,rfl,eb,ho2,x2,p6⟩:=at_of s1 r2 p5;obtain⟨ys,rfl,p7⟩:=GZ p6;obtain⟨v,e,f⟩:=p7.now s1;cases e;obtain⟨us,_,q1⟩:=x1;obtain⟨ws,_,q2⟩:=x2;exact⟨a,b,rfl,⟨us,SqL.of q1⟩,⟨ws,SqL.of q2⟩,f _ (.zip ea eb)⟩
def WL{K:ao}{as:List Ev.X}:DI Pg cl E d K (.enu as) (L2.aab K (tA Pg cl E d as)):=fun σ H R x=>by
 obtain⟨ρ,τ,h,n,s,rs,q⟩:=x.step;refine ev.then s rs (show Post cl ρ H E ((evs Pg n d (.a as) τ h).bind fun r h=>r.toL fun ws=>Fj ws fun v=>h.at v fun n o=>o.onL fun _=>.ok (.iv (.enu n)) h) _ from q) fun a1 h1 ρ1 H1 b1 s1 p1=>?_;obtain⟨ws,rfl,p2⟩:=oY p1;refine⟨ws,rfl,fun vs rv=>?_⟩;obtain⟨u,u',rfl,rfl,r1,p3⟩:=RG rv p2;obtain⟨k,o,a,rfl,rfl,ea,ho,x1,p4⟩:=at_of s1 r1 p3;obtain⟨xs,rfl,p5⟩:=GZ p4;obtain⟨v,e,f⟩:=p5.now s1;cases e;obtain⟨us,_,q1⟩:=x1;exact⟨a,rfl,⟨us,SqL.of q1⟩,f _ (.enu ea)⟩
def adf{K:ao}{i:I}{t:Tg}{b:List S}{wi:TI}{D:Ends}(di:DI Pg cl E d K i wi)(x:tS Pg cl E d σ0 (.for_ i t b) D σ H):ab7 wi (tG cl t) (tSs Pg cl E d σ0 b) D σ H:=by
 obtain⟨ρ,τ,h,n,s,rs,ag,q⟩:=x.step;refine di σ H _ (ev.then s rs (show Post cl ρ H E ((evs Pg n d (.i i) τ h).bind fun r h=>r.toV fun v=>evs Pg n d (.lp v 0 t b) τ h) (SPo σ0 D) from q) fun a1 h1 ρ1 H1 b1 s1 p1=>?_);obtain⟨v,rfl,p2⟩:=Oi p1;refine⟨v,rfl,fun J hJ=>?_⟩;refine⟨fun i m σ H=>∃ ρ τ h,Sim cl ρ h H/\RS ρ τ σ/\Ag σ0 τ σ/\oh K ρ v J/\Post cl ρ H E (evs Pg m d (.lp v i t b) τ h) (SPo σ0 D),⟨n,ρ1,τ,h1,s1,rs.mono b1.1,ag,hJ,p2⟩,?_⟩;rintro i m σ2 H2 ⟨ρ2,τ2,h2,s2,rs2,ag2,j2,p3⟩
 cases m with
 | zero=>exact p3.elim
 | succ m=>
   have p4:Post cl ρ2 H2 E (v.next i h2 (.ok (.fl (.nx τ2)) h2) fun w h2=>Opt (bw h2 9 t w τ2) fun τ=>(evs Pg m d (.ss b) τ h2).bind fun r h=>r.toF fun f=>lZ h f fun τ=>evs Pg m d (.lp v (i+1) t b) τ h) (SPo σ0 D):=p3
   rcases RD s2 j2 p4 with ⟨st,p5⟩ | ⟨go,w,h2',yl⟩
   · obtain⟨f,ef,qf⟩:=p5.now s2;cases ef;exact .inl ⟨st,qf σ2 rs2 ag2⟩
   · refine .inr ⟨go,fun σ' H'=>∃ ρ τ h,Sim cl ρ h H'/\RS ρ τ σ'/\Ag σ0 τ σ'/\oh K ρ v J/\Post cl ρ H' E (evs Pg m d (.lp v (i+1) t b) τ h) (SPo σ0 D),fun σ' H' z=>⟨m,Nat.lt_succ_self m,z⟩,fun y H' yy=>?_⟩;obtain⟨Ow,bb,s2',rw,p5⟩:=yl y H' yy;obtain⟨τ3,e3,p6⟩:=jo p5;have adg:=rs2.mono bb.1;have j2:=j2.mono bb.1;refine⟨Ow,h2',w,τ2,9,τ3,s2',rw,adg,e3,fun σ3 rs3 o3=>?_⟩;refine evS.then s2' rs3 (RC e3 adg o3 ag2) p6 fun a4 h4 ρ4 H4 b4 s4 p7=>?_;obtain⟨f,rfl,p8⟩:=GR p7;refine⟨f,rfl,?_⟩
     cases f with
     | nx τ4=>exact fun σ4 rs4 ag4=>⟨ρ4,τ4,h4,s4,rs4,ag4,j2.mono b4.1,p8⟩
     | ct τ4=>exact fun σ4 rs4 ag4=>⟨ρ4,τ4,h4,s4,rs4,ag4,j2.mono b4.1,p8⟩
     | rt w4=>
       obtain⟨f,ef,qf⟩:=Post.now s4 (show Post cl ρ4 H4 E (.ok (.fl (.rt w4)) h4) (SPo σ0 D) from p8)
       cases ef;exact qf
     | bk τ4=>
       obtain⟨f,ef,qf⟩:=Post.now s4 (show Post cl ρ4 H4 E (.ok (.fl (.nx τ4)) h4) (SPo σ0 D) from p8);cases ef;exact qf
def rO{iter tg:Expr}{body:List Stmt}{wi:TI}{i:I}{t:Tg}{b:List S}{pos:Pos}(hp:PassesOwn (model X.prog X.w) X.A X.env X.xe)(hc:X.calm=true)(di:DI Pg cl E d X.K i wi)(hi:PI X tg iter wi)(hg:PG X tg (tG cl t))(hb:PSs X body (tSs Pg cl E d σ0 b))
    (hs:∀ x,foldedSetIterable iter X.env x=pure x:=by intro _;rfl):PS X (.For tg iter body [] pos) (tS Pg cl E d σ0 (.for_ i t b)):=PS.of (Bu hp hc hi hg hb hs) fun _ _ _ q=>adf di q
end
end
section
variable{Pg:List Fn}{cl:Cn}{E:XK}{d:Nat}{X:Cx}{σ:L2.St}{H:Hp}
def tCd(Pg:List Fn)(cl:Cn)(d:Nat):Option Ev.X->TT
 | none=>Z9
 | some c=>tT Pg cl E0 d c
def Uj:∀ {σ σ':L2.St},σ'.length=σ.length->(∀(i:Nat) (v:V),σ[i]? =some (some v)->σ'[i]? =some (some v))->Wk σ σ'
 | [],[],_,_=>trivial
 | [],_::_,h,_=>by simp at h
 | _::_,[],h,_=>by simp at h
 | none::r,b::r',h,f=>by
   show Wk r r'
   exact Uj (by simpa using h) fun i v e=>by simpa using f (i+1) v (by simpa using e)
 | some a::r,b::r',h,f=>by
   have hb:=f 0 a rfl;refine⟨by simpa using hb,Uj (by simpa using h) fun i v e=>by simpa using f (i+1) v (by simpa using e)⟩
def Off.wk{vs:List Nat}{σ σ':L2.St}(o:Off vs σ σ')(h:∀ i ∈ vs,σ[i]? =some none):Wk σ σ':=Uj o.1 fun i v e=>by
 by_cases hi:i ∈ vs
 · rw[h i hi]at e;cases e
 · rw[o.2 i hi];exact e
def Inn(Pg:List Fn)(cl:Cn)(d:Nat)(e:Ev.X)(D0:Nat)(D:Addr)(m:Option G)(C:L2.St->Prop)(tin:TN):Prop:=∀(σ1:L2.St) (τ1:Sg) (h:Hs) (ρ:List Addr) (H:Hp) (n:Nat) (k:Hs->R A) (P:A->Hs->List Addr->Hp->Prop) (N:Hp->Prop),Sim cl ρ h H->RS ρ τ1 σ1->ρ[D0]? =some D->C σ1->
 Post cl ρ H E0 (inner (bu Pg d) n τ1 h e D0 m k) P->(∀ h' ρ' H',Bt cl ρ H ρ' H'->Sim cl ρ' h' H'->Post cl ρ' H' E0 (k h') P->N H')->tin σ1 H N
def RK{K:ao}{v:Iv}{J:It}{t:Tg}{c:Option Ev.X}{m:Option G}{e:Ev.X}{D0:Nat}{D:Addr}{C:L2.St->Prop}{tin:TN}(hin:Inn Pg cl d e D0 D m C tin){ρ:List Addr}{h:Hs}{τ:Sg}{n:Nat}{P:A->Hs->List Addr->Hp->Prop}{Q:Hp->Prop}
    (s:Sim cl ρ h H) (rs:RS ρ τ σ) (hJ:oh K ρ v J) (hD:ρ[D0]? =some D) (hv:∀ i ∈ vars t,σ[i]? =some none) (hC:∀ σ1,Off (vars t) σ σ1->C σ1) (p:Post cl ρ H E0 (evs Pg n d (.cl v 0 t c m e D0) τ h) P)
    (hQ:∀ r h' ρ' H',Bt cl ρ H ρ' H'->Sim cl ρ' h' H'->P r h' ρ' H'->Q H'):GD J (tG cl t) (tCd Pg cl d c) tin σ H Q:=by
 refine⟨fun i m' H'=>∃ ρ' h',Bt cl ρ H ρ' H'/\Sim cl ρ' h' H'/\Post cl ρ' H' E0 (evs Pg m' d (.cl v i t c m e D0) τ h') P,⟨n,ρ,h,Bt.refl,s,p⟩,?_⟩;rintro i m' H2 ⟨ρ2,h20,b2,s20,p2⟩
 cases m' with
 | zero=>exact p2.elim
 | succ m'=>
   have p3:Post cl ρ2 H2 E0 (v.next i h20 (.ok .u h20) fun w h2=>Opt (bw h2 9 t w τ) fun τ1=>
    test (bu Pg d) m' τ1 h2 c (fun h=>evs Pg m' d (.cl v (i+1) t c m e D0) τ h) (fun h=>inner (bu Pg d) m' τ1 h e D0 m fun h=>evs Pg m' d (.cl v (i+1) t c m e D0) τ h)) P:=p2
   rcases RD s20 (hJ.mono b2.1) p3 with ⟨st,p4⟩ | ⟨go,w,h2,yl⟩
   · exact .inl ⟨st,hQ _ _ _ _ b2 s20 (p4.now s20)⟩
   · refine .inr ⟨go,fun H'=>∃ ρ' h',Bt cl ρ H ρ' H'/\Sim cl ρ' h' H'/\Post cl ρ' H' E0 (evs Pg m' d (.cl v (i+1) t c m e D0) τ h') P,fun H' z=>⟨m',Nat.lt_succ_self m',z⟩,fun y H' yy=>?_⟩;obtain⟨Ow,bb,s2,rw,p4⟩:=yl y H' yy;obtain⟨τ1,e1,p5⟩:=jo p4;have b2:=b2.trans bb;refine⟨Ow,h2,w,τ,9,τ1,s2,rw,rs.mono b2.1,e1,fun σ1 rs1 o1=>⟨o1.wk hv,?_⟩⟩
     have fin:∀ {ρ3:List Addr} {h3:Hs} {H3:Hp},Bt cl Ow H' ρ3 H3->Sim cl ρ3 h3 H3->Post cl ρ3 H3 E0 (inner (bu Pg d) m' τ1 h3 e D0 m fun h=>evs Pg m' d (.cl v (i+1) t c m e D0) τ h) P->
      tin σ1 H3 fun H'=>∃ ρ' h',Bt cl ρ H ρ' H'/\Sim cl ρ' h' H'/\Post cl ρ' H' E0 (evs Pg m' d (.cl v (i+1) t c m e D0) τ h') P:=fun {ρ3 h3 H3} b3 s3 q3=>
      hin σ1 τ1 h3 ρ3 H3 m' _ P _ s3 (rs1.mono b3.1) (iu (b2.1.trans b3.1) hD) (hC σ1 o1) q3 fun h' ρ' H' b' s' q'=>⟨ρ',h',(b2.trans b3).trans b',s',q'⟩
     cases c with
     | none=>exact fin Bt.refl s2 p5
     | some c=>
       refine ev.then s2 rs1 (show Post cl Ow H' E0 ((evs Pg m' d (.x c) τ1 h2).bind fun r h=>r.toW fun w=>w.onB (evs Pg m' d (.cl v (i+1) t (some c) m e D0) τ h) (inner (bu Pg d) m' τ1 h e D0 m fun h=>evs Pg m' d (.cl v (i+1) t (some c) m e D0) τ h)) P from p5) fun a3 h3 ρ3 H3 b3 s3 p6=>?_;obtain⟨w3,rfl,p7⟩:=b_ p6;refine⟨w3,rfl,fun v3 rv3=>?_⟩
       rcases yI p7 with ⟨rfl,p8⟩ | ⟨rfl,p8⟩
       · cases rv3;exact⟨true,rfl,zm (fin b3 s3 p8)⟩
       · cases rv3;exact⟨false,rfl,zj ⟨ρ3,h3,b2.trans b3,s3,p8⟩⟩
def Ox{e:Ev.X}{D0:Nat}{D:Addr}{C:L2.St->Prop}:Inn Pg cl d e D0 D none C (GF D (tE Pg cl E0 d e)):=fun σ1 τ1 h ρ H n k P N s rs hD _ p hN=>by
 refine ev.then s rs (show Post cl ρ H E0 ((evs Pg n d (.x e) τ1 h).bind fun r h=>r.toW fun w=>(yG h (.ref D0) w).bind fun _ h=>k h) P from p) fun a1 h1 ρ1 H1 b1 s1 p1=>?_;obtain⟨w,rfl,p2⟩:=b_ p1;refine⟨w,rfl,fun v rv=>?_⟩;have hD1:=iu b1.1 hD;obtain⟨o,ho,x1⟩:=s1.obj D0 D hD1;have e1:yG h1 (.ref D0) w=Opt (h1.get D0) fun o=>o.onL fun xs=>size xs (.ok .non (h1.set D0 (.lst (app xs [w])))):=rfl;rw[e1,ho]at p2
 cases o with
 | lst xs=>
   have p3:Post cl ρ1 H1 E0 ((size xs (.ok .non (h1.set D0 (.lst (app xs [w]))))).bind fun _ h=>k h) P:=p2;unfold size at p3;rw[ble_eq,len_eq]at p3
   by_cases z:xs.length<=16777215
   · rw[bH z]at p3;obtain⟨vs,rvs,q⟩:=x1;have hl:=rvs.length;refine⟨vs,q,by rw[rm];omega,?_⟩;have s2:Sim cl ρ1 (h1.set D0 (.lst (app xs [w]))) (upd H1 D (.lst (vs ++ [v]))):=s1.put hD1 ⟨_,by rw[jM];exact rvs.append (.cons rv .nil),aJ⟩;refine hN _ ρ1 _ (b1.trans (Bt.put hD1)) s2 ?_;exact(show Post cl ρ1 H1 E0 (k (h1.set D0 (.lst (app xs [w])))) P from p3).later (Bt.put hD1)
   · rw[bM z]at p3
     exact p3.elim
 | _=>exact p2.elim
def RL{K:ao}{i2:I}{t2:Tg}{c2:Option Ev.X}{wi2:TI}{e:Ev.X}{D0:Nat}{D:Addr}(di:DI Pg cl E0 d K i2 wi2):Inn Pg cl d e D0 D (some (.mk i2 t2 c2)) (fun σ=>∀ i ∈ vars t2,σ[i]? =some none) (V_ wi2 (tG cl t2) (tCd Pg cl d c2) (GF D (tE Pg cl E0 d e))):=fun σ1 τ1 h ρ H n k P N s rs hD hC p hN=>by
 refine di σ1 H _ (ev.then s rs (show Post cl ρ H E0 ((evs Pg n d (.i i2) τ1 h).bind fun r h=>r.toV fun v=>(evs Pg n d (.cl v 0 t2 c2 none e D0) τ1 h).bind fun _ h=>k h) P from p) fun a1 h1 ρ1 H1 b1 s1 p1=>?_);obtain⟨v,rfl,p2⟩:=Oi p1;refine⟨v,rfl,fun J hJ=>?_⟩;refine RK Ox (C:=fun _=>True) s1 (rs.mono b1.1) hJ (iu b1.1 hD) hC (fun _ _=>trivial) p2.bind fun r h' ρ' H' b' s' q=>?_;exact hN h' ρ' H' (b1.trans b') s' q
def adh{ρ:List Addr}{H:Hp}{α:Type}{r:R α}{P:α->Hs->List Addr->Hp->Prop}(p:Post cl ρ H E r.nox P):Post cl ρ H E0 r P:=by
 cases r with
 | ok a h=>exact p
 | ex C fs h=>exact p.elim
 | no=>exact p
def WM{ρ:List Addr}{τ:Sg}(rs:RS ρ τ σ)(nt:Nat)(idx:List Nat):RS ρ (ir nt idx τ) (sgb nt idx σ):=by
 have base:RS ρ (List.rec (motive:=fun _=>Sg) [] (fun i _ r=>cU τ i::r) idx) (idx.map fun j=>(σ[j]?).getD none):=by
  induction idx with
  | nil=>exact .nil
  | cons i idx ih=>
    refine .cons ?_ ih;show RO ρ (cU τ i) ((σ[i]?).getD none)
    cases e:cU τ i with
    | none=>exact trivial
    | some w=>
      obtain⟨v,ev,rv⟩:=rs.get e;rw[ev];exact rv
 unfold sgb
 induction nt with
 | zero=>exact base
 | succ nt ih=>exact .cons trivial ih
def Oz{nt:Nat}{idx:List Nat}{i:Nat}(h:i<nt):(sgb nt idx σ)[i]? =some none:=by
 unfold sgb;rw[pG (by simpa using h),List.getElem?_replicate,aB h]
def Jf{K:ao}{nt:Nat}{idx:List Nat}{it:I}{t:Tg}{c:Option Ev.X}{m:Option G}{e:Ev.X}{wi:TI}{tin:Addr->TN}{Q:VK}(di:DI Pg cl E d K it wi){C:L2.St->Prop}(hin:∀ D0 D,Inn Pg cl d e D0 D m C (tin D))(hv:∀ i ∈ vars t,i<nt)
    (hC:∀ σ σ1,Off (vars t) (sgb nt idx σ) σ1->C σ1) (x:tE Pg cl E d (.comp nt idx it t c m e) σ H Q):M5 nt idx wi (tG cl t) (tCd Pg cl d c) tin σ H Q:=by
 obtain⟨ρ,τ,h,n,s,rs,q⟩:=x.step;refine di σ H _ (ev.then s rs (show Post cl ρ H E ((evs Pg n d (.i it) τ h).bind fun r h=>r.toV fun v=>(evs Pg n d (.cl v 0 t c m e h.n) (ir nt idx τ) (h.push (.lst []))).nox.bind fun _ h'=>.ok (.w (.ref h.n)) h') (VP Q) from q) fun a1 h1 ρ1 H1 b1 s1 p1=>?_);obtain⟨v,rfl,p2⟩:=Oi p1;refine⟨v,rfl,fun J hJ D hD=>?_⟩;have s2:Sim cl (ρ1 ++ [D]) (h1.push (.lst [])) (upd H1 D (.lst [])):=s1.push hD ⟨[],.nil,aJ⟩;have gD:(ρ1 ++ [D])[h1.n]? =some D:=by rw[<- s1.len,lJ (aG _),Nat.sub_self];rfl
 refine RK (hin h1.n D) s2 ((WM rs nt idx).mono (b1.1.trans (kE _ _))) (hJ.mono (kE _ _)) gD (fun i hi=>Oz (hv i hi)) (fun σ1 o=>hC σ σ1 o) (adh (p2.later (Bt.new hD)).bind) fun r h' ρ' H' b' s' q'=>?_;exact Post.gw s' q' (.ref (iu b'.1 gD))
def jH:PTs X [] (tCd Pg cl d none):=aaV
def abh{c:Expr}{x:Ev.X}(h:PT X c (tT Pg cl E0 d x)):PTs X [c] (tCd Pg cl d (some x)):=IV h
variable{N':List Str}{sc:Scope}{nt:Nat}{idx:List Nat}{elt tg iter tg2 cT:Expr}{ifs jw:List Expr}{gs:List Comprehension}{pos:Pos}{wi wi2:TI}{it it2:I}{t t2:Tg}{c c2:Option Ev.X}{e:Ev.X}
def lM(B:uQ X N' sc nt idx)(hc:X.calm=true)(di:DI Pg cl E d X.K it wi)(hi:PI X tg iter wi)(hg:∀ C s₀ H₀ fp,PG (blk X N' sc C s₀ H₀ fp) tg (tG cl t))(hif:∀ C s₀ H₀ fp,PTs (blk X N' sc C s₀ H₀ fp) ifs (tCd Pg cl d c))(he:∀ C s₀ H₀ fp,PE (blk X N' sc C s₀ H₀ fp) elt (tE Pg cl E0 d e))(hv:∀ i ∈ vars t,i<nt)
    (hs:∀ x,foldedSetIterable iter X.env x=pure x:=by intro _;rfl):PE X (.ListComp elt [⟨tg,iter,ifs,0⟩] sc pos) (tE Pg cl E d (.comp nt idx it t c none e)):=
 PE.of (IW B hc hi (TY hg hif he) hs) fun _ _ _ q=>Jf di (C:=fun _=>True) (fun _ _=>Ox) hv (fun _ _ _=>trivial) q
def WN(hv:∀ i ∈ vars t,i<nt)(hv2:∀ i ∈ vars t2,i<nt/\i ∉ vars t)(σ σ1:L2.St)(o:Off (vars t) (sgb nt idx σ) σ1):∀ i ∈ vars t2,σ1[i]? =some none:=fun i hi=>by
 obtain⟨h1,h2⟩:=hv2 i hi;rw[o.2 i h2];exact Oz h1
def Y4(B:uQ X N' sc nt idx)(hc:X.calm=true)(di:DI Pg cl E d X.K it wi)(hi:PI X tg iter wi)(hg:∀ C s₀ H₀ fp,PG (blk X N' sc C s₀ H₀ fp) tg (tG cl t))(hif:∀ C s₀ H₀ fp,PTs (blk X N' sc C s₀ H₀ fp) ifs (tCd Pg cl d c))
    (di2:DI Pg cl E0 d X.K it2 wi2) (hi2:∀ C s₀ H₀ fp,PI (blk X N' sc C s₀ H₀ fp) tg2 cT wi2) (hg2:∀ C s₀ H₀ fp,PG (blk X N' sc C s₀ H₀ fp) tg2 (tG cl t2)) (Oe:∀ C s₀ H₀ fp,PTs (blk X N' sc C s₀ H₀ fp) jw (tCd Pg cl d c2))
    (he:∀ C s₀ H₀ fp,PE (blk X N' sc C s₀ H₀ fp) elt (tE Pg cl E0 d e)) (hv:∀ i ∈ vars t,i<nt) (hv2:∀ i ∈ vars t2,i<nt/\i ∉ vars t)
    (hs:∀ x,foldedSetIterable iter X.env x=pure x:=by intro _;rfl) (hs2:∀ C s₀ H₀ fp x,foldedSetIterable cT (blk X N' sc C s₀ H₀ fp).env x=pure x:=by intro _ _ _ _ _;rfl):
    PE X (.ListComp elt [⟨tg,iter,ifs,0⟩,⟨tg2,cT,jw,0⟩] sc pos) (tE Pg cl E d (.comp nt idx it t c (some (.mk it2 t2 c2)) e)):=
 PE.of (IW B hc hi (Z_ hc hg hif hi2 hg2 Oe he hs2) hs) fun _ _ _ q=>Jf di (fun _ _=>RL di2) hv (WN hv hv2) q
def Y5{σ0:L2.St}{i:Nat}{y:Str}{py spos:Pos}(hN:X.N.Nodup)(hi':X.N[i]? =some y)(hy:Loc X.env.scope y)(B:uQ X N' sc nt idx)(hc:X.calm=true)(di:DI Pg cl E d X.K it wi)(hi:PI X tg iter wi)(hg:∀ C s₀ H₀ fp,PG (blk X N' sc C s₀ H₀ fp) tg (tG cl t))(hif:∀ C s₀ H₀ fp,PTs (blk X N' sc C s₀ H₀ fp) ifs (tCd Pg cl d c))
    (di2:DI Pg cl E0 d X.K it2 wi2) (hi2:∀ C s₀ H₀ fp,PI (blk X N' sc C s₀ H₀ fp) tg2 cT wi2) (hg2:∀ C s₀ H₀ fp,PG (blk X N' sc C s₀ H₀ fp) tg2 (tG cl t2)) (Oe:∀ C s₀ H₀ fp,PTs (blk X N' sc C s₀ H₀ fp) jw (tCd Pg cl d c2))
    (he:∀ C s₀ H₀ fp,PE (blk X N' sc C s₀ H₀ fp) elt (tE Pg cl E0 d e)) (hv:∀ i ∈ vars t,i<nt) (hv2:∀ i ∈ vars t2,i<nt/\i ∉ vars t)
    (hsw:swapsWith (.ListComp elt [⟨tg,iter,ifs,0⟩,⟨tg2,cT,jw,0⟩] sc pos) (some (.Name y py)) spos.line X.env=pure true:=by rfl) (hs:∀ x,foldedSetIterable iter X.env x=pure x:=by intro _;rfl) (hs2:∀ C s₀ H₀ fp x,foldedSetIterable cT (blk X N' sc C s₀ H₀ fp).env x=pure x:=by intro _ _ _ _ _;rfl)
    (hf:X.fn y=true\/X.env.scope.names.lookup y=some .local:=by first | exact .inl rfl | exact .inr rfl | assumption):
    PS X (.Assign [.Name y py] (.ListComp elt [⟨tg,iter,ifs,0⟩,⟨tg2,cT,jw,0⟩] sc pos) spos) (tS Pg cl E d σ0 (.asg (.nm i) (.comp nt idx it t c (some (.mk it2 t2 c2)) e))):=
 PS.of (Rr hN hi' hy B hc hi (Z_ hc hg hif hi2 hg2 Oe he hs2) hsw hs hf) fun D σ H q=>by
 obtain⟨ρ,τ,h,n,s,rs,p⟩:=Ov q;exact Jf di (fun _ _=>RL di2) hv (WN hv hv2) ⟨ρ,τ,h,n,s,rs,p.mono fun a h ρ H _ _ ⟨w,e,g⟩=>⟨w,e,fun v rv=>Fx (g v rv)⟩⟩
end
section
variable{Pg:List Fn}{cl:Cn}{E:XK}{d:Nat}{X:Cx}{σ:L2.St}{H:Hp}
def spF(Pg:List Fn)(cl:Cn)(d f:Nat):Sp:=fun vs H Q E=>∃ ρ ws h n,Sim cl ρ h H/\RWs ρ ws vs/\Post cl ρ H E (evs Pg n d (.call f ws) [] h) (VP Q)
def call_of{f:Nat}{as:List Ev.X}{Q:VK}(x:tE Pg cl E d (.call f as) σ H Q):Dq (spF Pg cl d f) [] E (tA Pg cl E d as) σ H Q:=by
 obtain⟨ρ,τ,h,n,s,rs,q⟩:=x.step;refine ev.then s rs (show Post cl ρ H E ((evs Pg n d (.a as) τ h).bind fun a h=>a.toL fun ws=>evs Pg n d (.call f ws) [] h) (VP Q) from q) fun a1 h1 ρ1 H1 b1 s1 p1=>?_;obtain⟨ws,rfl,p2⟩:=oY p1;exact⟨ws,rfl,fun vs rv=>⟨ρ1,ws,h1,n,s1,by rw[List.append_nil];exact rv,p2⟩⟩
def vV{f:Nat}{ws:List W}{h:Hs}{n:Nat}{ρ:List Addr}{P:A->Hs->List Addr->Hp->Prop}(p:Post cl ρ H E (evs Pg n d (.call f ws) [] h) P):∃ n' d' F,d=d'+1/\Pg[f]? =some F/\Post cl ρ H E (body (evs Pg n') d' h ws F) P:=by
 cases n with
 | zero=>exact p.elim
 | succ n=>
   cases d with
   | zero=>exact p.elim
   | succ d=>
     obtain⟨F,e,q⟩:=jo (show Post cl ρ H E (Opt (nth Pg f) (body (evs Pg n) d h ws)) P from p);rw[nH]at e;exact⟨n,d,F,rfl,e,q⟩
def Dy{np nn:Nat}{b:List S}{ws:List W}{h:Hs}{n:Nat}{ρ:List Addr}{P:A->Hs->List Addr->Hp->Prop}(p:Post cl ρ H E (body (evs Pg n) d h ws (.mk np nn b)) P):ws.length=np/\Post cl ρ H E ((evs Pg n d (.ss b) (frame nn ws) h).bind fun r h=>r.toF fun f=>Dw h f) P:=by
 obtain⟨e,q⟩:=kW (show Post cl ρ H E (ifB (Nat.beq (len ws) np) ((evs Pg n d (.ss b) (frame nn ws) h).bind fun r h=>r.toF fun f=>Dw h f) .no) P from p);rw[len_eq]at e;exact⟨jA.mp e,q⟩
def OD{ρ:List Addr}{ws:List W}{vs:List V}(r:RWs ρ ws vs)(N:List Str):RS ρ (frame N.length ws) (L2.start N vs):=by
 unfold frame L2.start;rw[jM,len_eq,r.length]
 have rep:∀ k:Nat,RS ρ (Nat.rec (motive:=fun _=>Sg) [] (fun _ r=>none::r) k) (List.replicate k none):=fun k=>by
  induction k with
  | zero=>exact .nil
  | succ k ih=>exact .cons trivial ih
 have app':∀ {a b:Sg} {u w:L2.St},RS ρ a u->RS ρ b w->RS ρ (a++b) (u++w):=by
  intro a b u w r1 r2
  induction r1 with
  | nil=>exact r2
  | cons x _ ih=>exact .cons x ih
 refine app' ?_ (rep _)
 have go:∀ {ws:List W} {vs:List V},RWs ρ ws vs->RS ρ (List.rec (motive:=fun _=>Sg) [] (fun w _ r=>some w::r) ws) (vs.map some):=by
  intro ws vs r
  induction r with
  | nil=>exact .nil
  | cons r1 _ ih=>exact .cons r1 ih
 exact go r
def cP{P:Program}{w:World}{K:ao}{mg:Str->Option Value}{base:Heap}{k i:Nat}{x qual:Str}{st:Stmt}{f:Addr}{fd:aR}{N ps:List Str}{b:List S}(F:Fun K x qual st f fd)(Sc:aQ N ps (ak st))(hp:Pg[i]? =some (.mk ps.length N.length b))
    (hbody:∀(σ0:L2.St) (cdv:Value) (A:Around) (outer:List Env) (s:aj) (H:Hp) (E:XK),bZ k (A.deeper (envOfC qual (ak st) s.heap.objs.size f cdv))->Passes (CXE P w) (ie (CXE P w) P w K mg base N qual (ak st) f cdv A outer s H E) E->
      PSs (ie (CXE P w) P w K mg base N qual (ak st) f cdv A outer s H E) (cG st) (tSs Pg cl E d σ0 b)):bU P w K mg base (CXE P w) (k+1) f fd ps (spF Pg cl (d+1) i):=by
 obtain⟨oc,od,kV,doc,pm,an,cdv,ct,osl,rfl,lk,hcd⟩:=F.ex
 have Y6:∀ vs H Q E,spF Pg cl (d+1) i vs H Q E->vs.length=ps.length:=fun vs H Q E ⟨ρ,ws,h,n,s,r,p⟩=>by
  obtain⟨n',d',F',e1,e2,q⟩:=vV p;rw[hp]at e2;cases e2;rw[<- r.length];exact(Dy q).1
 refine Tz lk hcd Sc Y6 fun A outer s H vs Q E hr hsp=>?_;obtain⟨ρ,ws,h,n,s1,r,p⟩:=hsp;obtain⟨n',d',F',e1,e2,q⟩:=vV p;rw[hp]at e2;cases e2;cases e1;obtain⟨_,q2⟩:=Dy q;refine⟨_,hbody (L2.start N vs) cdv A outer s H E hr (vN ⟨rfl,rfl,rfl⟩ rfl (fun _ _ _ z=>z)),ρ,frame N.length ws,h,n',s1,OD r N,fun _ _=>rfl,q2.bind.mono fun a h1 ρ1 H1 b1 s2 p2=>?_⟩;obtain⟨fl,rfl,p3⟩:=GR p2;refine⟨fl,rfl,?_⟩
 cases fl with
 | nx τ=>exact fun σ' _ _=>Post.gw s2 (show Post cl ρ1 H1 E (.ok (.w .non) h1) (VP Q) from p3) .non
 | rt w=>exact fun v rv=>Post.gw s2 (show Post cl ρ1 H1 E (.ok (.w w) h1) (VP Q) from p3) rv
 | bk τ=>exact p3.elim
 | ct τ=>exact p3.elim
def pI{k f:Nat}{fa:Addr}{fd:aR}{ps:List Str}{x:Str}{e:Expr}{es:List Expr}{y:Ev.X}{ys:List Ev.X}{p pos:Pos}(F:bU X.prog X.w X.K X.mg X.base (CXE X.prog X.w) k fa fd ps (spF Pg cl d f))(hr:bZ k X.A)(hg:Gl X x)(hm:X.mg x=some (.ref fa))(hk:PySem.W.keepIn X.K (.ref fa)=true)(hb:Binds X.K fd ps [])
    (hx:Passes (CXE X.prog X.w) X E) (ha:PA X (e::es) (tA Pg cl E d (y::ys))) (hdb:(x==("__debug__":Str))=false:=by decide) (he:starEach (e::es) X.env=(false,eval e X.env)::starEach es X.env:=by rfl) (hpl:(backTo pos (starEach es X.env)).any (·.1)=false:=by rfl):
    PE X (.Call (.Name x p) (e::es) [] pos) (tE Pg cl E d (.call f (y::ys))):=PE.of (yD F hr hg hm hk hb .nil hx ha hdb he hpl) fun _ _ _ q=>call_of q
def adi{C:Nat}{o:Ev.X}{f:List Nat}{K:ao}{Q:VK}(c:Cls K (cl C))(na:cY K (cl C) (nm f))(x:tE Pg cl E d (.fld C o f) σ H Q):acd K (tE Pg cl E d o) (nm f) σ H Q:=by
 obtain⟨ρ,τ,h,n,s,rs,q⟩:=x.step;refine ev.then s rs (show Post cl ρ H E ((evs Pg n d (.x o) τ h).bind fun r h=>r.toW fun w=>h.at w fun _ o=>o.onI fun C' fs=>ifB (Nat.beq C C') (Opt (fget fs f) fun w=>.ok (.w w) h) .no) (VP Q) from q) fun a1 h1 ρ1 H1 b1 s1 p1=>?_;obtain⟨w,rfl,p2⟩:=b_ p1;refine⟨w,rfl,fun v rv=>?_⟩;obtain⟨k,ob,a,rfl,rfl,e1,g1,x1,p3⟩:=at_of s1 rv p2;obtain⟨C',fs,rfl,p4⟩:=I_ p3;obtain⟨ec,p5⟩:=kW p4;obtain⟨w2,ew,p6⟩:=jo p5;have ec:=jA.mp ec;subst ec;obtain⟨dx,gs,fr,qh⟩:=x1;obtain⟨u,eu,ru⟩:=fr.get ew;exact⟨a,_,dx,gs,u,rfl,qh,c,na,eu,Post.gw s1 p6 ru⟩
def mG{C:Nat}{e:Expr}{o:Ev.X}{f:Str}{fc:List Nat}{pos:Pos}(c:Cls X.K (cl C))(na:cY X.K (cl C) f)(he:PE X e (tE Pg cl E d o))(ef:f=nm fc:=by decide +kernel)(hb:attributeBase e f X.env (eval e X.env)=eval e X.env:=by rfl):PE X (.Attribute e f pos) (tE Pg cl E d (.fld C o fc)):=by
 subst ef;exact PE.of (ace he hb) fun _ _ _ q=>adi c na q
def FR.put{ρ:List Addr}{f:List Nat}{w:W}{v:V}(r:RW ρ w v):∀ {fs:Fs} {gs:List (Str × V)},FR ρ fs gs->FR ρ (T9 f w fs) (m5 (nm f) v gs)
 | _,_,.nil=>.cons ⟨rfl,r⟩ .nil
 | p::fs,(x,u)::gs,.cons z t=>by
   obtain⟨e1,r1⟩:=z;have e1:x=nm p.1:=e1;show FR ρ (ifB (codes p.1 f) ((f,w)::fs) (p::T9 f w fs)) (if x=nm f then(x,v)::gs else(x,u)::m5 (nm f) v gs)
   cases c:codes p.1 f with
   | true=>
     have ec:=dh.mp c;rw[aB (by rw[e1,ec])]
     exact .cons ⟨by show x=nm f;rw[e1,ec],r⟩ t
   | false=>
     rw[aA (fun z=>by rw[e1]at z;rw[dh.mpr (vP z)]at c;cases c)];exact .cons ⟨e1,r1⟩ (FR.put r t)
def FR.length{ρ:List Addr}{fs:Fs}{gs:List (Str × V)}(h:FR ρ fs gs):fs.length=gs.length:=Paired.length h
def OJ{σ0:L2.St}{C:Nat}{o value:Expr}{xo xv:Ev.X}{f:Str}{fc:List Nat}{pos pos':Pos}(c:Cls X.K (cl C))(na:cY X.K (cl C) f)(ha:PE X o (tE Pg cl E d xo))(hv:PE X value (tE Pg cl E d xv))(ef:f=nm fc:=by decide +kernel)(hs:swapsWith value (some (.Attribute o f pos')) pos.line X.env=pure false:=by rfl):
    PS X (.Assign [.Attribute o f pos'] value pos) (tS Pg cl E d σ0 (.Ue C xo fc xv)):=by
 subst ef;refine PS.of (acf ha hv hs) fun D σ H x=>?_;obtain⟨ρ,τ,h,n,s,rs,ag,q⟩:=x.step;refine ev.then s rs (show Post cl ρ H E ((evs Pg n d (.x xv) τ h).bind fun r h=>r.toW fun w=>(evs Pg n d (.x xo) τ h).bind fun r h=>r.toW fun o=>h.at o fun n o=>o.onI fun C' fs=>ifB (Nat.beq C C') (ifB (Nat.ble (len fs) 900) (.ok (.fl (.nx τ)) (h.set n (.ins C (T9 fc w fs)))) .no) .no) (SPo σ0 D) from q) fun a1 h1 ρ1 H1 b1 s1 p1=>?_;obtain⟨w,rfl,p2⟩:=b_ p1;refine⟨w,rfl,fun v rv=>?_⟩;refine ev.then s1 (rs.mono b1.1) p2 fun a2 h2 ρ2 H2 b2 s2 p3=>?_;obtain⟨w2,rfl,p4⟩:=b_ p3;refine⟨w2,rfl,fun v2 rv2=>?_⟩;obtain⟨k,ob,a,rfl,rfl,e1,g1,x1,p5⟩:=at_of s2 rv2 p4;obtain⟨C',fs,rfl,p6⟩:=I_ p5;obtain⟨ec,p7⟩:=kW p6;obtain⟨el,p8⟩:=kW p7;have ec:=jA.mp ec;subst ec;rw[ble_eq,len_eq]at el;have el:=dw el;obtain⟨dx,gs,fr,qh⟩:=x1;have hl:=fr.length;refine⟨a,_,dx,gs,rfl,qh,c,na,by omega,?_⟩;obtain⟨fl,efl,qf⟩:=p8 ρ2 (upd H2 a (.ins (cl C) dx (m5 (nm fc) v gs))) (Bt.put e1) (s2.put e1 ⟨dx,_,fr.put (rv.mono b2.1),aJ⟩);cases efl;exact qf σ ((rs.mono b1.1).mono b2.1) ag
def O1{C f:Nat}{m:List Nat}{o:Ev.X}{as:List Ev.X}{Q:VK}(x:tE Pg cl E d (.meth C m f o as) σ H Q):Tw (cl C) (nm m) (spF Pg cl d f) [] E (tE Pg cl E d o) (tA Pg cl E d as) σ H Q:=by
 obtain⟨ρ,τ,h,n,s,rs,q⟩:=x.step
 refine ev.then s rs (show Post cl ρ H E ((evs Pg n d (.x o) τ h).bind fun r h=>r.toW fun w=>h.at w fun _ o=>o.onI fun C' fs=>
  ifB (Nat.beq C C') (Option.rec ((evs Pg n d (.a as) τ h).bind fun a h=>a.toL fun ws=>evs Pg n d (.call f (w::ws)) [] h) (fun _=>.no) (fget fs m)) .no) (VP Q) from q) fun a1 h1 ρ1 H1 b1 s1 p1=>?_
 obtain⟨w,rfl,p2⟩:=b_ p1;refine⟨w,rfl,fun v rv=>?_⟩;obtain⟨k,ob,a,rfl,rfl,e1,g1,x1,p3⟩:=at_of s1 rv p2;obtain⟨C',fs,rfl,p4⟩:=I_ p3;obtain⟨ec,p5⟩:=kW p4;have ec:=jA.mp ec;subst ec;obtain⟨dx,gs,fr,qh⟩:=x1
 cases eg:fget fs m with
 | some z=>rw[eg]at p5;exact p5.elim
 | none=>
   rw[eg]at p5;refine⟨a,dx,gs,rfl,qh,fr.acX eg,?_⟩;refine ev.then s1 (rs.mono b1.1) p5 fun a2 h2 ρ2 H2 b2 s2 p6=>?_;obtain⟨ws,rfl,p7⟩:=oY p6;exact⟨ws,rfl,fun vs rs'=>⟨ρ2,_,h2,n,s2,by rw[List.append_nil];exact .cons (rv.mono b2.1) rs',p7⟩⟩
def adk{Q:List V->Hp->Prop}(z:tA Pg cl E d [] σ H Q):Q [] H:=by
 obtain⟨ρ1,τ1,h1,n1,s1,_,p1⟩:=z.step;obtain⟨ws,e,q⟩:=Post.now s1 (show Post cl ρ1 H E (.ok (.ws []) h1) (LP Q) from p1);cases e;exact q [] .nil
def Sim.other{ρ:List Addr}{h:Hs}{p:Addr}{u:HO}(s:Sim cl ρ h H)(e:H p=none):Sim cl ρ h (upd H p u) where
 len:=s.len
 nd:=s.nd
 obj:=fun n a hn=>by
  obtain⟨o,q,y⟩:=s.obj n a hn;refine⟨o,q,y.keep (List.prefix_refl _) ?_⟩;obtain⟨w,hw⟩:=y.som;exact aN (cu hw e)
 tb:=s.tb.upd (by rw[e];trivial)
def Bt.other{ρ:List Addr}{p:Addr}{u:HO}(e:H p=none):Bt cl ρ H ρ (upd H p u):=⟨List.prefix_refl _,fun b v q nb=>by
 have q':upd H p u b=some v:=by rw[aN (cu q e)];exact q
 exact⟨nb,fun _=>q',v,q'⟩⟩
def abi{C f:Nat}{as:List Ev.X}{Q:VK}(x:tE Pg cl E d (.make C f as) σ H Q):Z1 (cl C) (spF Pg cl d f) [] E (tA Pg cl E d as) σ H Q:=by
 obtain⟨ρ,τ,h,n,s,rs,q⟩:=x.step;refine ev.then s rs (show Post cl ρ H E ((evs Pg n d (.a as) τ h).bind fun a h=>a.toL fun ws=>(evs Pg n d (.call f (.ref h.n::ws)) [] (h.push (.ins C []))).bind fun r h'=>r.toW fun w=>ifB (uR w) (.ok (.w (.ref h.n)) h') .no) (VP Q) from q) fun a1 h1 ρ1 H1 b1 s1 p1=>?_;obtain⟨ws,rfl,p2⟩:=oY p1;refine⟨ws,rfl,fun vs rv x dx hx hdx ne=>?_⟩;have hx':upd H1 dx (.own x) x=none:=by rw[aN (Ne.symm ne)];exact hx
 have s2:Sim cl (ρ1 ++ [x]) (h1.push (.ins C [])) (upd (upd H1 dx (.own x)) x (.ins (cl C) dx [])):=(s1.other hdx).push hx' ⟨dx,[],.nil,aJ⟩;have gx:(ρ1 ++ [x])[h1.n]? =some x:=by rw[<- s1.len,lJ (aG _),Nat.sub_self];rfl
 refine⟨ρ1 ++ [x],.ref h1.n::ws,_,n,s2,by rw[List.append_nil];exact .cons (.ref gx) (rv.mono (kE _ _)),?_⟩;refine(p2.later ((Bt.other hdx).trans (Bt.new hx'))).bind.mono fun a h3 ρ3 H3 b3 s3 p3=>?_;obtain⟨w,rfl,p4⟩:=b_ p3;obtain⟨en,p5⟩:=kW p4;refine⟨w,rfl,fun v rv'=>⟨?_,Post.gw s3 p5 (.ref (iu b3.1 gx))⟩⟩;rw[Fv rv']at en;exact dw en
def spX(C:Addr)(c:List Nat):Sp:=fun vs H Q _=>∃ e,vs= [.ref e]/\H e=some (XO e C none)/\∀ dx,H dx=none->dx ≠ e->Q .non (upd (upd H dx (.xd [(nm gm,.str ⟨c.toArray⟩)])) e (XO e C (some dx)))
def WQ{σ0:L2.St}{C:Nat}{c:List Nat}{D:Ends}(x:tS Pg cl E d σ0 (.raise C c) D σ H):Wf (cl C) (spX (cl C) c) E Tv D σ H:=by
 obtain⟨ρ,τ,h,n,s,rs,ag,q⟩:=x.step;have q:Post cl ρ H E (.ex C [(gm,.str c)] h) (SPo σ0 D):=q;refine⟨Nat.zero_le _,fun e he=>⟨e,rfl,aJ,fun dx hdx ne=>⟨rfl,some dx,aJ,?_⟩⟩⟩;have Y7:H dx=none:=by rwa[aN ne]at hdx
 have eq:(fun b=>if b=e then none else upd (upd (upd H e (XO e (cl C) none)) dx (.xd [(nm gm,.str ⟨c.toArray⟩)])) e (XO e (cl C) (some dx)) b)=upd H dx (.xd [(nm gm,.str ⟨c.toArray⟩)]):=by
  funext b
  by_cases z:b=e
  · subst z;show(if b=b then none else _)=_;rw[aB rfl,aN (Ne.symm ne),he]
  · show(if b=e then none else _)=_;rw[aA z,aN z]
    by_cases z2:b=dx
    · subst z2;rw[aJ,aJ]
    · rw[aN z2,aN z2,aN z]
 rw[eq];exact q ρ _ dx _ (Bt.other Y7) (s.other Y7) (.cons ⟨rfl,.str c⟩ .nil) (s.new Y7) aJ
end
section
variable{Pg:List Fn}{cl:Cn}{E:XK}{d:Nat}{X:Cx}{σ:L2.St}{H:Hp}{pins:List (Addr × Obj)}{s:aj}
structure Uk (cl:Cn)(X:Cx)(c:Addr):Prop where
 on:cl.on=true
 code:X.env.code= .ref c
 hd:PySem.W.CodeHd X.base c cl.P
 bm:X.base.BuiltinsAt X.mg cl.P
 q:X.env.qual ++ "<lambda>" =cl.q
def Y8(cl:Cn)(H H1:Hp):Prop:=H1=H\/∃ ps c',H cl.P ≠ none/\H c'=none/\H1=upd (upd H cl.P (.tbl ps)) c' (.ext fun h=>h.CodeRec (.ref c') cl.q)
def Li{pos:Pos}:∀ {l r:List Value} {cv:Value},TriplesOk l->codeAmong pos (l++r)=some cv->codeAmong pos l=some cv\/codeAmong pos r=some cv:=by
 intro l r cv ht h
 fun_induction TriplesOk l with
 | case1=>exact .inr h
 | case2 a t b u c rest ih=>
   simp only[List.cons_append,codeAmong]at h ⊢
   split at h
   · next z=>rw[aB z];exact .inl h
   · next z=>rw[aA z];exact ih ht h
 | case3=>exact ht.elim
def Q5:∀ {l r:List Value},TriplesOk l->TriplesOk r->TriplesOk (l++r):=by
 intro l r ht h
 fun_induction TriplesOk l with
 | case1=>exact h
 | case2 a t b u c rest ih=>simp only[List.cons_append,TriplesOk];exact ih ht
 | case3=>exact ht.elim
def adl{c:Addr}{params:Arguments}{body:Expr}{scope:Scope}{pos:Pos}(L:Uk cl X c)(I:Inv X pins σ H s)(t:Tb cl H)(hdef:defaultsOf params X.env=([],[]))(hfr:∀ y ∈ scope.names,y.2= .free->X.env.kindOf y.1=some .cell\/X.env.kindOf y.1=some .free){Ee:Value->aj->Prop}:
    wpAny (model X.prog X.w) X.A (eval (.Lambda params body scope pos) X.env) (fun u s1=>∃ f c' pm ctv H1,u= .ref f/\Y8 cl H H1/\Inv X pins σ H1 s1/\Tb cl H1/\H1 f=none/\s.heap.objs.size<=f/\s1.heap.get? f=some (PySem.W.kla_obj "<lambda>" cl.q params body scope (j0 X.env.cells scope.names []) pm c' ctv)/\H1 c'=some (.ext fun h=>h.CodeRec (.ref c') cl.q)) Ee s:=by
 obtain⟨ps,hP,htr,hcs⟩:=t L.on;have hPo:s.heap.get? cl.P=some (PySem.W.tabObj ps):=I.hok _ _ hP;have hcl:closureFor scope X.env=pure (j0 X.env.cells scope.names []):=ur fun y hy e=>I.ok.has y.1 (hfr y hy e);have hg:s.heap.Ns mainGlobals X.mg:=I.mod.glob.keeps I.bk;have C:=L.hd.keeps I.bk;have hb:s.heap.BuiltinsAt X.mg cl.P:=let ⟨bm,o,a1,a2,a3,a4,a5,a6⟩:=L.bm;⟨bm,o,a1,a2,a3,a4,I.bk _ _ a5,a6⟩;refine PySem.W.kla_eval hdef ?_;rw[L.q]
 cases hf:codeAmong pos ps.toList with
 | some cv=>
   obtain⟨c',rfl,hc'⟩:=hcs pos cv hf;refine PySem.W.kla_makeFunctionHit hcl I.ok.glob hg L.code C hPo htr hf hb fun ctv h' tk hk hsz=>?_;have hkk:∀ b o,s.heap.get? b=some o->(h'.push (PySem.W.kla_obj "<lambda>" cl.q params body scope (j0 X.env.cells scope.names []) ((X.mg "__name__").getD .none) c' ctv)).get? b=some o:=fun b o e=>dJ _ (hk b o e)
   refine⟨h'.objs.size,c',_,ctv,H,rfl,.inl rfl,I.kept hkk,t,I.hok.fresh hsz,hsz,jT _ rfl,hc'⟩
 | none=>
   have hgP:mainGlobals ≠ cl.P:=fun z=>by
    obtain⟨o,es,ep,e,hd,_⟩:=hg;rw[z,hPo]at e;cases e;cases hd
   refine PySem.W.kla_makeFunction hcl I.ok.glob hg L.code C hPo htr hf hgP hb fun c' ctv h' tk hx hge hlt hrec htb=>?_;have fc:H c'=none:=I.hok.fresh hge;have neP:∀ {b:Addr},H b=none->b ≠ cl.P:=fun {b} e z=>by rw[z,hP]at e;cases e
   have Y9:cl.P ≠ c':=Ne.symm (neP fc);generalize hfo:PySem.W.kla_obj "<lambda>" cl.q params body scope (j0 X.env.cells scope.names []) ((X.mg "__name__").getD .none) c' ctv=fo;have kk:∀ b o,b ≠ cl.P->s.heap.get? b=some o->(h'.push fo).get? b=some o:=fun b o hb e=>dJ _ (hx b o hb e);have hP1:(h'.push fo).get? cl.P=some (PySem.W.tabObj (ps ++ #[rawInt pos.line,rawInt pos.col,.ref c'])):=dJ _ htb;have aak:(h'.push fo).CodeRec (.ref c') cl.q:=hrec.push _;have h1P:upd (upd H cl.P (.tbl (ps ++ #[rawInt pos.line,rawInt pos.col,.ref c']))) c' (.ext fun h=>h.CodeRec (.ref c') cl.q) cl.P=some (.tbl (ps ++ #[rawInt pos.line,rawInt pos.col,.ref c'])):=by rw[aN Y9,aJ]
   have h1o:∀ {b:Addr},b ≠ cl.P->b ≠ c'->upd (upd H cl.P (.tbl (ps ++ #[rawInt pos.line,rawInt pos.col,.ref c']))) c' (.ext fun h=>h.CodeRec (.ref c') cl.q) b=H b:=fun {b} z1 z2=>by rw[aN z2,aN z1]
   have old:∀ {b:Addr} {u:HO},H b=some u->b ≠ c':=fun {b u} e z=>by rw[z,fc]at e;cases e
   have ltc:∀ {b:Addr} {o:Obj},s.heap.get? b=some o->b ≠ c':=fun {b o} e z=>by
    have:=cF e;rw[z]at this;exact aK this (Nat.not_lt.mpr hge)
   have hun:Un X.fs [] H (upd (upd H cl.P (.tbl (ps ++ #[rawInt pos.line,rawInt pos.col,.ref c']))) c' (.ext fun h=>h.CodeRec (.ref c') cl.q)) s.heap (h'.push fo):=by
    refine⟨fun b o e n _ _=>kk b o (neP n) e,fun b o e n _ _=>⟨o.slots,kk b o (neP n) e⟩,fun b o e n _=>?_,fun b o e _=>?_,fun b xs e=>?_,fun b o u e=>?_,fun b qs e=>?_⟩
    · rw[h1o (neP n) (ltc e)];exact n
    · by_cases z:b=cl.P
      · subst z;exact⟨_,hP1⟩
      · exact⟨o,kk b o z e⟩
    · rw[h1o (fun z=>by rw[z,hP]at e;cases e) (old e)];exact e
    · rw[h1o (fun z=>by rw[z,hP]at e;cases e) (old e)];exact e
    · by_cases z:b=cl.P
      · subst z;rw[hP]at e;cases e;exact⟨_,h1P⟩
      · exact⟨#[],by rw[h1o z (old e),e];simp⟩
   have hok:HOk X.prog X.w (upd (upd H cl.P (.tbl (ps ++ #[rawInt pos.line,rawInt pos.col,.ref c']))) c' (.ext fun h=>h.CodeRec (.ref c') cl.q)) (h'.push fo):=fun a o e=>by
    by_cases zc:a=c'
    · subst zc;rw[aJ]at e;cases e;obtain⟨c2,oc,vs,t2,e2,g2,r2⟩:=id aak;cases e2;refine⟨aak,⟨oc,g2⟩,fun h1 h2 φ st=>?_⟩;obtain⟨c2,oc,vs,t2,e2,g2,r2⟩:=φ;cases e2;exact⟨_,oc,vs,t2,rfl,st _ g2,r2⟩
    · by_cases zP:a=cl.P
      · subst zP;rw[h1P]at e;cases e;exact hP1
      · rw[h1o zP zc]at e;refine(I.hok a o e).stay (fun b u hb q=>kk b u ?_ q) (fun b q=>?_) fun b xs q=>?_
        · rcases hb with rfl | hb
          · exact zP
          · intro z;rw[z,hP]at hb;cases hb
        · rw[h1o (fun z=>by rw[z,hP]at q;cases q) (old q)];exact q
        · rw[h1o (fun z=>by rw[z,hP]at q;cases q) (old q)];exact q
   have I1:=I.un (t':=tk) hun hok;refine⟨h'.objs.size,c',_,ctv,_,rfl,.inr ⟨_,c',by rw[hP];simp,fc,rfl⟩,I1,fun _=>⟨_,h1P,?_,fun pos' cv e=>?_⟩,?_,Nat.le_of_lt (Nat.lt_of_le_of_lt hge hlt),by rw[<- hfo];exact jT _ rfl,aJ⟩
   · rw[Array.toList_append];exact Q5 htr trivial
   · rw[Array.toList_append]at e
     rcases Li htr e with e | e
     · obtain⟨c2,e1,e2⟩:=hcs pos' cv e;exact⟨c2,e1,by rw[h1o (fun z=>by rw[z,hP]at e2;cases e2) (old e2)];exact e2⟩
     · have e:(if((pos.line:Int)==pos'.line&&(pos.col:Int)==pos'.col)=true then some (Value.ref c') else codeAmong pos' [])=some cv:=e
       split at e
       · cases e;exact⟨c',rfl,aJ⟩
       · cases e
   · have:H h'.objs.size=none:=I.hok.fresh (Nat.le_of_lt (Nat.lt_of_le_of_lt hge hlt));rw[h1o (neP this) (Nat.ne_of_gt hlt)];exact this
end
section
def aeE{CX:CXT}{P:Program}{w:World}{K:ao}{mg:Str->Option Value}{base:Heap}{k:Nat}{x qual:Str}{st:Stmt}{f:Addr}{fd:aR}{N ps:List Str}(F:Fun K x qual st f fd)(Sc:aQ N ps (ak st))
    {A:Around} {outer:List Env} {s:aj} {H:Hp} {args:Args} {us:List Value} {vs:List V} {Q:VK} {E:XK} (hr:bZ (k+1) A) (e0:Bx P w K mg base A outer s H) (hb:BindsTo s fd args (ps.zip us)) (r:Vals vs us) (hl:vs.length=ps.length)
    (hbody:∀ cdv:Value,bZ k (A.deeper (envOfC qual (ak st) s.heap.objs.size f cdv))->∃ t,PSs (ie CX P w K mg base N qual (ak st) f cdv A outer s H E) (cG st) t/\t { nx:=fun _ H'=>Q .non H',rt:=Q } (L2.start N vs) H):
    codeAny (model P w) A (.call (.ref f) args) (CR CX outer P w H s Q E) s:=by
 obtain⟨oc,od,kV,doc,pm,an,cdv,ct,osl,rfl,lk,hcd⟩:=F.ex;have KX:K.In s.heap:=e0.mod.kin.keeps fun b o e=>(e0.bs b o e).1;have lim:s.heap.NoLimit:=e0.mod.nolimit.keeps fun b o e=>(e0.bs b o e).1
 have hkind:∀ y ∈ ps.zip us,(ak st).names.lookup y.1=some .local\/((ak st).names.lookup y.1=some .cell/\((cellsFrom (s.heap.objs.size+1) (ak st).names []).lookup y.1).isSome=true):=fun⟨n,v⟩ hy=>by
  rcases Sc.par n (List.of_mem_zip hy).1 with q | q
  · exact .inl q
  · exact .inr ⟨q,PySem.W.cellsFrom_some _ _ _ (.inl q)⟩
 refine codeAny_call_function hr.depth (KX _ _ lk) rfl Sc.co Sc.gen rfl (PySem.W.codeRec_of KX hcd) (hb _ _ _ _ ?_);refine wpAny_newFunctionEnv_cells Sc.kind hkind fun env he s1 x=>?_;subst he;refine⟨lim.keeps x.toInCall.keep,codeAny_func ?_⟩;obtain⟨t,ht,hq⟩:=hbody cdv (hr.deeper _);have I:Inv (ie CX P w K mg base N qual (ak st) f cdv A outer s H E) [] (L2.start N vs) H s1:=Kq Sc hr.hd e0 hl r x;refine wpAny_mono (ht [] s1 (L2.start N vs) H _ I hq) (fun fl s' hs=>?_) fun e s' hs=>hs
 have fin:∀ {σ':L2.St} {H':Hp} {v:V} {u:Value},Inv (ie CX P w K mg base N qual (ak st) f cdv A outer s H E) [] σ' H' s'->RelV v u->Q v H'->CE outer P w H s Q u s':=
  fun {σ' H' v u} J rv q=>⟨v,H',J.os,J.bare,J.base,J.hok,rv,q⟩
 cases fl with
 | ret u=>
   obtain⟨v,σ',H',J,rv,q⟩:=hs
   exact fin J rv q
 | next=>
   obtain⟨σ',H',J,q⟩:=hs
   exact fin (v:=V.non) (u:=Value.none) J rfl q
 | brk=>
   obtain⟨_,_,_,q⟩:=hs
   exact False.elim q
 | cont=>
   obtain⟨_,_,_,q⟩:=hs;exact False.elim q
variable{Pg:List Fn}{cl:Cn}{E:XK}{d:Nat}{X:Cx}{σ:L2.St}{H:Hp}{pins:List (Addr × Obj)}{s:aj}
def Jg(X:Cx)(N':List Str)(sc:Scope)(q:Str)(f c':Addr)(clos:List (Str × Addr))(s:aj)(H:Hp)(E:XK):Cx where
 prog:=X.prog
 w:=X.w
 K:=X.K
 mg:=X.mg
 base:=X.base
 A:=X.A.deeper (PySem.W.envX q sc s.heap.objs.size f (.ref c') clos)
 N:=N'
 s₀:=s
 H₀:=H
 env:=PySem.W.envX q sc s.heap.objs.size f (.ref c') clos
 outer:=X.stack
 stack:=PySem.W.envX q sc s.heap.objs.size f (.ref c') clos::X.stack
 ex:=[]
 calm:=true
 fn:=fun _=>false
 pn:=[]
 xe:=fun e s'=>wpAny (model X.prog X.w) (X.A.deeper (PySem.W.envX q sc s.heap.objs.size f (.ref c') clos)) (leaving (PySem.W.envX q sc s.heap.objs.size f (.ref c') clos) e) (fun _ s''=>CXE X.prog X.w X.stack H s E e s'') (fun e' s''=>CXE X.prog X.w X.stack H s E e' s'')  s'
def Cells(N':List Str)(clos:List (Str × Addr))(σY:L2.St)(h:Heap):Prop:=∀(i:Nat) (x:Str) (v:V),N'[i]? =some x->σY[i]? =some (some v)->∃ u c,RelV v u/\clos.lookup x=some c/\h.IsCell c (some u)
structure Ul (N':List Str)(sc:Scope):Prop where
 kind:sc.kind= .function
 co:sc.isCoroutine=false
 gen:sc.isGenerator=false
 free:∀ y ∈ sc.names,y.2 ≠ .cell
 isf:∀ x ∈ N',sc.names.lookup x=some .free
def Y_{N':List Str}{params:Arguments}{body:Expr}{sc:Scope}{q:Str}{f c':Addr}{clos:List (Str × Addr)}{pm ctv:Value}{σY:L2.St}{t:TE}{Q:VK}(S:Ul N' sc)(I:Inv X pins σ H s)(hc:X.calm=true)(hroom:X.A.depth<recursionLimit)
    (ho:s.heap.get? f=some (PySem.W.kla_obj "<lambda>" q params body sc clos pm c' ctv)) (hcd:s.heap.CodeRec (.ref c') q) (hbind:bindArgs (PySem.W.kla_fn "<lambda>" q params body sc clos pm (.ref c') ctv) ⟨[],[]⟩ =pure [])
    (hinj:∀ x y c,clos.lookup x=some c->clos.lookup y=some c->x=y) (hhas:∀ x,sc.names.lookup x=some .free->∃ c,clos.lookup x=some c) (hcell:∀ x c,clos.lookup x=some c->(∃ v,s.heap.IsCell c v)/\H c=none) (hcs:Cells N' clos σY s.heap) (hlen:σY.length=N'.length)
    (hp:PE (Jg X N' sc q f c' clos s H E) body t) (h:t σY H Q):codeAny (model X.prog X.w) X.A (.call (.ref f) ⟨[],[]⟩) (CR (CXE X.prog X.w) X.stack X.prog X.w H s Q E) s:=by
 refine PySem.W.kla_callFunE hroom ho rfl S.co S.gen rfl hcd ?_;rw[hbind];refine bN (wpAny_newFunctionEnv S.free (by intro y hy;simp at hy) (fun h₁ hns hsb=>⟨I.nolimit.fresh _ hsb,?_⟩) S.kind);show codeAny _ _ (.expr body (PySem.W.envX q sc s.heap.objs.size f (.ref c') clos)) _ _;have hk₁:∀ b o,s.heap.get? b=some o->h₁.get? b=some o:=fun b o e=>hsb.extBut b o (Nat.ne_of_lt (cF e)) (dJ _ e);have noA:∀ b:Addr,b ∉ (Jg X N' sc q f c' clos s H E).ex:=fun b z=>aK (show b ∈ ([]:List Addr) from z) (by simp);have fresh:H s.heap.objs.size=none:=I.hok.fresh (aG _)
 have IY:Inv (Jg X N' sc q f c' clos s H E) [] σY H { s with heap:=h₁,toks:=s.toks+([]:List (Str × Value)).length }:=by
  refine⟨⟨I.ok.mod,S.kind,rfl,rfl,aG _,hinj,fun x hx=>?_,fun x c z=>aK (show false=true from z) (by decide),fun _=>I.ok.hd hc,Around.frames_deeper I.ok.frames,.inr ⟨rfl,rfl⟩,fun b z=>aK z (noA b),I.bs,Nat.le_trans I.ok.bsz I.sz,fun b _ _=>noA b,fun b z=>aK z (noA b),I.stack,I.sJ⟩,
   rfl,I.bare,Un.kept hk₁,⟨_,hns,fun i x v h1 h2 h3=>?_⟩,fun x c e=>?_,fresh,fun x c e=>(hcell x c e).2,fun p hp=>aK (show p ∈ ([]:List (Addr × Obj)) from hp) (by simp),I.hok.kept hk₁,hlen⟩
  · have hx:sc.names.lookup x=some .cell\/sc.names.lookup x=some .free:=hx
    rcases hx with z | z
    · exact aK rfl (S.free _ (PySem.mem_of_lookup z))
    · exact hhas x z
  · obtain⟨u,c,ru,ec,hc'⟩:=hcs i x v h1 h2;refine⟨u,ru,.inr ⟨.inr (S.isf x (ju h1)),c,ec,?_⟩⟩;obtain⟨o,ho',hd⟩:=hc';exact⟨o,hk₁ _ _ ho',hd⟩
  · obtain⟨⟨v,o,ho',hd⟩,_⟩:=hcell x c e;exact⟨v,o,hk₁ _ _ ho',hd⟩
 refine PySem.W.kla_codeExpr (wpAny_mono (hp [] _ σY H Q IY h) (fun v s' ⟨x,H',J,rv,q⟩=>?_) fun e s' z=>z);exact⟨x,H',J.os,J.bare,J.base,J.hok,rv,q⟩
def Own.lam{N':List Str}{sc:Scope}{q:Str}{f c':Addr}{clos:List (Str × Addr)}:Own (Jg X N' sc q f c' clos s H E):=⟨rfl,rfl,rfl⟩
def afN(i:Nat)(f c':Addr)(q:Str)(σY:L2.St)(t:TE):TE:=fun σ H Q=>σ[i]? =some (some (.ref f))/\H c'=some (.ext fun h=>h.CodeRec (.ref c') q)/\t σY H Q
def Za{i:Nat}{x:Str}{p pos:Pos}{N':List Str}{params:Arguments}{body:Expr}{sc:Scope}{q:Str}{f c':Addr}{clos:List (Str × Addr)}{pm ctv:Value}{σY:L2.St}{t:TE}(S:Ul N' sc)(hc:X.calm=true)(hroom:X.A.depth<recursionLimit)(hx:Passes (CXE X.prog X.w) X E)(hex:X.ex= [])
    (ho:X.s₀.heap.get? f=some (PySem.W.kla_obj "<lambda>" q params body sc clos pm c' ctv)) (fn:X.H₀ f=none) (ff:f ∉ X.fs) (hbind:bindArgs (PySem.W.kla_fn "<lambda>" q params body sc clos pm (.ref c') ctv) ⟨[],[]⟩ =pure [])
    (hinj:∀ x y c,clos.lookup x=some c->clos.lookup y=some c->x=y) (hhas:∀ x,sc.names.lookup x=some .free->∃ c,clos.lookup x=some c) (hcell:∀ x c,clos.lookup x=some c->(∃ v,X.s₀.heap.IsCell c v)/\X.H₀ c=none/\c ∉ X.fs) (hcs:Cells N' clos σY X.s₀.heap) (hlen:σY.length=N'.length)
    (hp:∀ s H,PE (Jg X N' sc q f c' clos s H E) body t) (hN:X.N[i]? =some x) (hv:Vis X.env.scope x) (hd:(x==("__debug__":Str))=false:=by decide) (hcd:(x==("__classdict__":Str))=false:=by decide):
    PE X (.Call (.Name x p) [] [] pos) (afN i f c' q σY t):=by
 intro pins s σ H Q I h;obtain⟨hσ,hC,ht⟩:=h;have keep:∀ b o,X.s₀.heap.get? b=some o->X.H₀ b=none->b ∉ X.fs->s.heap.get? b=some o:=fun b o e n nf=>I.base.keep b o e n nf (by rw[hex];simp);have O4:∀ x c v,clos.lookup x=some c->X.s₀.heap.IsCell c v->s.heap.IsCell c v:=fun x c v e ⟨o,e1,e2⟩=>⟨o,keep c o e1 (hcell x c e).2.1 (hcell x c e).2.2,e2⟩;refine wpAny_Call_Name_kw (thn (Gm (X:=X) (i:=i) hN hv hd hcd pins s σ H (fun y H1=>y= .ref f/\H1=H) I ⟨.ref f,hσ,rfl,rfl⟩) fun u s1 ⟨y,H1,I1,ry,ey,eH⟩=>?_);subst ey eH;obtain rfl:u=Value.ref f:=ry;have keep:∀ b o,X.s₀.heap.get? b=some o->X.H₀ b=none->b ∉ X.fs->s1.heap.get? b=some o:=fun b o e n nf=>I1.base.keep b o e n nf (by rw[hex];simp);have O4:∀ x c v,clos.lookup x=some c->X.s₀.heap.IsCell c v->s1.heap.IsCell c v:=fun x c v e ⟨o,e1,e2⟩=>⟨o,keep c o e1 (hcell x c e).2.1 (hcell x c e).2.2,e2⟩;have ho1:=keep f _ ho fn ff;refine PySem.W.callWith_F0 ⟨_,_,_,_,ho1⟩ ?_;refine wpAny_call (codeAny_mono (Y_ S I1 hc hroom ho1 (I1.hok _ _ hC).1 hbind hinj hhas (fun x c e=>?_) (fun i x v h1 h2=>?_) hlen (hp s1 H1) ht) fun r s' hq=>?_)
 · obtain⟨⟨v,hv'⟩,n,nf⟩:=hcell x c e;refine⟨⟨v,O4 x c v e hv'⟩,?_⟩;obtain⟨o,e1,_⟩:=hv';exact I1.base.free c o e1 n (by rw[hex];simp)
 · obtain⟨u,c,ru,ec,hcc⟩:=hcs i x v h1 h2;exact⟨u,c,ru,ec,O4 x c _ ec hcc⟩
 · cases r with
   | error e=>exact hx pins σ H1 s1 e s' I1 hq
   | ok fl=>
     cases fl with
     | ret u=>exact I1.after hq
     | next=>exact False.elim hq
     | brk=>exact False.elim hq
     | cont=>exact False.elim hq
def Y8.sim{H1:Hp}{ρ:List Addr}{h:Hs}(l:Y8 cl H H1)(on:cl.on=true)(t:Tb cl H1)(s:Sim cl ρ h H):Sim cl ρ h H1/\Bt cl ρ H ρ H1:=by
 rcases l with rfl | ⟨ps,c',hP,hc,rfl⟩
 · exact⟨s,Bt.refl⟩
 · obtain⟨qs,hQ,_⟩:=s.tb on;have Y9:cl.P ≠ c':=fun z=>by rw[z,hc]at hQ;cases hQ
   have eq:∀ {a:Addr} {o:O},OA cl ρ H a o->upd (upd H cl.P (.tbl ps)) c' (.ext fun h=>h.CodeRec (.ref c') cl.q) a=H a:=fun {a o} x=>by
    have n1:a ≠ c':=fun z=>by
     obtain⟨u,hu⟩:=x.som;rw[z,hc]at hu;cases hu
    have n2:a ≠ cl.P:=fun z=>by
     have:=x.pl;rw[z,hQ]at this;exact this
    rw[aN n1,aN n2]
   refine⟨⟨s.len,s.nd,fun n a e=>?_,t⟩,List.prefix_refl _,fun b u q nb=>?_⟩
   · obtain⟨o,ho,x⟩:=s.obj n a e;exact⟨o,ho,x.keep (List.prefix_refl _) (eq x)⟩
   · have n1:b ≠ c':=cu q hc;refine⟨nb,fun z=>by rw[aN n1,aN (z on)];exact q,?_⟩
     by_cases z:b=cl.P
     · subst z;exact⟨_,by rw[aN Y9,aJ]⟩
     · exact⟨u,by rw[aN n1,aN z];exact q⟩
end
section
variable{Pg:List Fn}{cl:Cn}{E:XK}{d:Nat}{X:Cx}{σ:L2.St}{H:Hp}{pins:List (Addr × Obj)}{s:aj}
abbrev aeF(X:Cx)(NT:List Str)(tn:Str)(st:Stmt)(ft:Addr)(cdv:Value)(s1:aj)(H1:Hp)(E2:XK)(E':Value->aj->Prop)(pn:List (Addr × Obj)):Cx:=
 xm (ie (CXE X.prog X.w) X.prog X.w X.K X.mg X.base NT tn (ak st) ft cdv X.A X.stack s1 H1 E2) E' pn
def O5:(2:Nat)<=sizeLine:=by rw[rm];decide
def WR(I:Inv X pins σ H s)(hfn:∀ x,X.fn x=true){x:Str}{c:Addr}(e:X.env.cells.lookup x=some c):c ∉ frs X.stack:=fun z=>by
 rcases List.mem_cons.mp (I.Br c z) with z | z
 · exact I.cne x c e z
 · obtain⟨_,o,ho,_⟩:=I.ok.oU.mem z;exact aK (cF ho) (Nat.not_lt.mpr (I.ok.cab x c (hfn x) e))
def Jh{k nx:Nat}{c S ft:Addr}{fdT:aR}{st:Stmt}{NT N':List Str}{tn an en cx:Str}{idx:List Nat}{params:Arguments}{body:Expr}{sc:Scope}{a:Ev.X}{Um p pos:Pos}{t1 t2 w1 w2:Str}
    {q1 q2 q3 q4 q5 q6 q7 q8 q9 q10 q11 q12 q13:Pos} {j1 j2} {x1 x2}
    (L:Uk cl X c) (hfn:∀ x,X.fn x=true) (hr:bZ (k+1) X.A) (Ft:Fun X.K tn tn st ft fdT) (ScT:aQ [an,en] [an] (ak st)) (bT:Binds X.K fdT [an] []) (hg:Gl X tn) (mgT:X.mg tn=some (.ref ft)) (kpT:PySem.W.keepIn X.K (.ref ft)=true)
    (hst:cG st= [.Try [.Return (some (.Tuple [.Constant (.str t1) j1 q1,.Call (.Name an q2) [] [] q3] x1 q4)) q5] [.ExceptHandler (some (.Name cx q6)) (some en) [.Return (some (.Tuple [.Constant (.str t2) j2 q7,.Attribute (.Name en q8) w1 q9] x2 q10)) q11] q12] [] [] q13])
    (h1:t1=nm uT) (h2:t2=nm noT) (h3:w1=nm gm) (hen:(ak st).names.lookup en=some .local) (han:Vis (ak st) an) (hgS:(ak st).names.lookup cx=some .globalImplicit) (mgS:X.mg cx=some (.ref S)) (cS:mD X.K S) (hcx:(cx==("__debug__":Str))=false)
    (hd1:(an==("__debug__":Str))=false) (hd2:(an==("__classdict__":Str))=false) (hd3:(en==("__debug__":Str))=false) (hd4:(en==("__classdict__":Str))=false)
    (hX:∀ C,C<nx->mD X.K (cl C)/\uw X.K (cl C) S/\cY X.K (cl C) w1)
    (B:uQ X N' sc 0 idx) (hco:sc.isCoroutine=false) (hgen:sc.isGenerator=false) (hdef:defaultsOf params X.env=([],[])) (hbind:∀ q clos pm c' ctv,bindArgs (PySem.W.kla_fn "<lambda>" q params body sc clos pm (.ref c') ctv) ⟨[],[]⟩ =pure [])
    (hp:∀ cdv s1 H1 E2 E' pn f c' clos s H E3,PE (Jg (aeF X [an,en] tn st ft cdv s1 H1 E2 E' pn) N' sc cl.q f c' clos s H E3) body (tE Pg cl E3 d a))
    (hdb:(tn==("__debug__":Str))=false:=by decide) (he:starEach [Expr.Lambda params body sc Um] X.env=(false,eval (.Lambda params body sc Um) X.env)::starEach [] X.env:=by rfl) (hpl:(backTo pos (starEach [] X.env)).any (·.1)=false:=by rfl):
    PE X (.Call (.Name tn p) [.Lambda params body sc Um] [] pos) (tE Pg cl E (d+2) (.told nx idx a)):=by
 subst h1 h2 h3;intro pins s σ H Q I h;obtain⟨ρ,τ,hh,n,sm,rs,pz⟩:=h.step;have pz:Post cl ρ H E (R.rec (motive:=fun _=>R A) (fun r h=>r.toW fun w=>ofW (.alloc h (.tup [.str uT,w]))) (fun C fs h=>ifB (Nat.ble (C+1) nx) (Opt (fget fs gm) fun w=>ofW (.alloc h (.tup [.str noT,w]))) .no) .no (evs Pg n d (.x a) (ir 0 idx τ) hh)) (VP Q):=pz;have hfr:∀ y ∈ sc.names,y.2= .free->X.env.kindOf y.1=some .cell\/X.env.kindOf y.1=some .free:=B.fr;refine wpAny_Call_Name_kw (qZ I hg mgT ?_ hdb);refine PySem.W.callWith_K (h₀:=X.base) I.ok.mod.kin kpT ?_ he hpl;rw[he];show wpAny _ _ (spliced ((false,eval (.Lambda params body sc Um) X.env)::backTo pos (starEach [] X.env))) _ _ s;refine Calls.spliced_cons (thn (adl L I sm.tb hdef hfr) fun u s1 ⟨f,c',pm,ctv,H1,eu,lh,I1,t1,fn,fge,fo,hC⟩=>?_);subst eu;refine Calls.spliced_nil ⟨I1.kIn,?_⟩;obtain⟨sm1,bt1⟩:=lh.sim L.on t1 sm;have hcl:∀ y ∈ sc.names,y.2= .free->∃ c,X.env.cells.lookup y.1=some c:=fun y hy e=>I1.ok.has y.1 (hfr y hy e)
 have sub:∀ x c,(j0 X.env.cells sc.names []).lookup x=some c->X.env.cells.lookup x=some c:=fun x c h=>by
  rcases vM hcl h with z | z
  · exact z
  · simp at z
 have afO:Ul N' sc:=⟨B.kind,hco,hgen,B.Ob,fun x hx=>by
  obtain⟨i,hi⟩:=List.getElem?_of_mem hx
  have hlt:i<idx.length:=by
   have:=(bB hi).1;have:=B.len;omega
  obtain⟨j,hj⟩:∃ j,idx[i]? =some j:=⟨idx[i],by simp[hlt]⟩;refine(B.ix (j,x) (ju (i:=i) ?_)).2;rw[List.drop_zero,List.getElem?_zip_eq_some]
  exact⟨hj,hi⟩⟩
 have ffs:f ∉ frs X.stack:=fun z=>by
  obtain⟨_,o',ho',_⟩:=I.stack.mem z;exact aK (cF ho') (Nat.not_lt.mpr fge)
 have hcs:Cells N' (j0 X.env.cells sc.names []) (sgb 0 idx σ) s1.heap:=fun i x v h1 h2=>by
  unfold sgb at h2;rw[List.replicate_zero,List.nil_append,eN]at h2
  cases ej:idx[i]? with
  | none=>rw[ej]at h2;cases h2
  | some j=>
    rw[ej]at h2;have h2':(σ[j]?).getD none=some v:=by simpa using h2
    have hz:(j,x) ∈ idx.zip (N'.drop 0):=by
     refine ju (i:=i) ?_;rw[List.drop_zero,List.getElem?_zip_eq_some];exact⟨ej,h1⟩
    obtain⟨q1,q2⟩:=B.ix _ hz
    have hs:σ[j]? =some (some v):=by
     cases e:σ[j]? with
     | none=>rw[e]at h2';cases h2'
     | some o=>rw[e]at h2';exact congrArg some h2'
    have hkx:=B.fr (x,.free) (fX q2) rfl;obtain⟨mX,_,hl⟩:=I1.loc
    obtain⟨u,ru,lk⟩:=hl j x v q1 hs (by
     rcases hkx with z | z
     · exact .inr (.inl z)
     · exact .inr (.inr z))
    rcases lk with ⟨z,_⟩ | ⟨_,c,hc,hcell⟩
    · exfalso
      rcases hkx with y | y
      · rw[z]at y;cases y
      · rw[z]at y;cases y
    · exact⟨u,c,ru,vp hc (.inl (fX q2)),hcell⟩
 have hlen:(sgb 0 idx σ).length=N'.length:=by
  unfold sgb;rw[List.replicate_zero,List.nil_append,bK,<- B.len,Nat.zero_add]
 refine wpAny_call (codeAny_mono (aeE (CX:=CXE X.prog X.w) (Q:=Q) (E:=E0) (us:=[.ref f]) (vs:=[.ref f]) Ft ScT hr I1.env0 (bT s1 [.ref f] I1.kIn rfl) (.cons rfl .nil) rfl fun cdv hr2=>?_) fun r s' hq=>?_)
 · rw[hst];have O2:Own (ie (CXE X.prog X.w) X.prog X.w X.K X.mg X.base [an,en] tn (ak st) ft cdv X.A X.stack s1 H1 E0):=⟨rfl,rfl,rfl⟩
   refine⟨_,cA (acK (i:=1) O2 ScT.nd rfl hen hgS mgS cS (fun e oe=>cA (nG (yz (aX qp (aX (aa3 (i:=1) rfl (Or.inl hen) rfl hd3 hd4) bO)))))
    (fun E' pn E2 hpass=>cA (nG (yz (aX qp (aX (Za (i:=0) (E:=E2) (σY:=sgb 0 idx σ) (t:=tE Pg cl E2 d a) afO rfl hr2.depth hpass rfl fo fn ffs (hbind _ _ _ _ _)
      (fun x y c h1 h2=>I1.ok.inj x y c (sub x c h1) (sub y c h2)) (fun x hx=>?_) (fun x c e=>⟨I1.cell x c (sub x c e),I1.kI x c (sub x c e),WR I1 hfn (sub x c e)⟩) hcs hlen (fun s H=>hp _ _ _ _ _ _ _ _ _ _ _ _) rfl han hd1 hd2) bO))))) hcx),?_⟩
   · obtain⟨c,hc⟩:=hcl (x,.free) (fX hx) rfl;exact⟨c,vp hc (.inl (fX hx))⟩
   refine⟨rfl,hC,ρ,ir 0 idx τ,hh,n,sm1,WM rs 0 idx,?_⟩
   cases er:evs Pg n d (.x a) (ir 0 idx τ) hh with
   | no=>rw[er]at pz;exact pz.elim
   | ok r0 h3=>
     rw[er]at pz;obtain⟨w,rfl,p2⟩:=b_ (show Post cl ρ H E (r0.toW fun w=>ofW (.alloc h3 (.tup [.str uT,w]))) (VP Q) from pz);intro ρ' H' b' s';refine⟨w,rfl,fun v rv=>⟨O5,fun p hp=>?_⟩⟩
     exact Post.Ug s' (p2.later (bt1.trans b')) hp (.cons (.str uT) (.cons rv .nil))
   | ex C fs h3=>
     rw[er]at pz;obtain⟨cC,p2⟩:=kW (show Post cl ρ H E (ifB (Nat.ble (C+1) nx) (Opt (fget fs gm) fun w=>ofW (.alloc h3 (.tup [.str noT,w]))) .no) (VP Q) from pz);obtain⟨w,ew,p3⟩:=jo p2;rw[ble_eq]at cC;obtain⟨k1,k2,k3⟩:=hX C (dw cC);intro ρ' H' dx gs b' s' fr nd hx;refine⟨cl C,rfl,k1,k2,fun e oe e1 e2 ⟨vs,e3⟩ hn=>?_⟩;obtain⟨v,ev,rv⟩:=fr.get ew;refine⟨rfl,cl C,dx,gs,v,e1,e2,⟨vs,e3⟩,k1,k3,hx,ev,O5,fun p hp=>?_⟩;exact Post.Ug s' (p3.later (bt1.trans b')) hp (.cons (.str noT) (.cons rv .nil))
 · cases r with
   | error e=>exact(zA hq).elim
   | ok fl=>
     cases fl with
     | ret u=>exact I1.after hq
     | next=>exact False.elim hq
     | brk=>exact False.elim hq
     | cont=>exact False.elim hq
end
def Dz(P:Addr)(H:Hp):Prop:=H P=some (.tbl #[])/\∀ b,b ≠ P->H b=none\/∃ o xs,H b=some (.frz o (.lst xs))
def WT{P:Program}{w:World}{K:ao}{mg mb:Str->Option Value}{CX:CXT}{k:Nat}{fa a T c:Addr}{fd:aR}{x:Str}{sp:Sp}{s₁:aj}{vs:List Value}{ns:List Int}
    (KX:K.In s₁.heap) (hns:s₁.heap.Ns mainGlobals mg) (hb:s₁.heap.Ns builtinsNs mb) (hbb:∀ x:Str,x ≠ "__name__"->mb x=bootBuiltins x) (hlim:s₁.heap.NoLimit) (hg:s₁.gens= #[])
    (ha:s₁.heap.get? a=some { cls:=.type "list",data:=.seq vs.toArray }) (hi:IntsAre vs ns) (hl:ns.length<=sizeLine) (hr:bZ k callerA)
    (hT:s₁.heap.get? T=some (PySem.W.tabObj #[])) (hKT:K.lookup T=none) (hcT:PySem.W.codeHdIn K c T=true) (hbm:s₁.heap.BuiltinsAt mg T)
    (F:∀ base:Heap,K.In base->base.Ns mainGlobals mg->base.BuiltinsAt mg T->bU P w K mg base CX k fa fd [x] sp) (hbind:∀(s:aj) (u:Value),BindsTo s fd ⟨[u],[]⟩ [(x,u)])
    (hsp:∀ H:Hp,Dz T H->SqL K H a (ns.map V.int)->sp [.ref a] H (fun v _=>v= .bl true) fun _ _ _=>False)
    (hCX:∀ H e s',CX [] H s₁ (fun _ _ _=>False) e s'->False):
    codeAny (model P w) callerA (.call (.ref fa) ⟨[.ref a],[]⟩) (fun r s'=>r= .ok (.ret (.bool true))/\OldK s₁.heap s'.heap/\s'.os=s₁.os/\AllBare s'.gens) s₁:=by
 have rv:=Ku hi;have lenV:=hi.length;have aT:a ≠ T:=fun z=>by rw[z,hT]at ha;cases ha
 have core:∀ H:Hp,Dz T H->SqL K H a (ns.map V.int)->HOk P w H s₁.heap->(∀ b,H b ≠ none->b=a\/b=T)->(H a ≠ none->K.lookup a=none)->
  codeAny (model P w) callerA (.call (.ref fa) ⟨[.ref a],[]⟩) (fun r s'=>r= .ok (.ret (.bool true))/\OldK s₁.heap s'.heap/\s'.os=s₁.os/\AllBare s'.gens) s₁:=by
  intro H hO hS hok hA hK;have Ji:∀ {b:Addr} {o:Obj},s₁.heap.get? b=some o->H b=none->(xV s₁.heap H).get? b=some o:=fun e n=>Yg e n
  have noA:∀ {b:Addr} {o:Obj},s₁.heap.get? b=some o->(∀ vs n,o.data ≠ .seq vs n)->(∀ vs,o.data ≠ .fields vs)->H b=none:=fun {b o} e d1 d2=>by
   cases q:H b with
   | none=>rfl
   | some u=>
     rcases hA b (by rw[q];simp) with e' | e'
     · subst e';rw[ha]at e;cases e;exact aK rfl (d1 _ _)
     · subst e';rw[hT]at e;cases e;exact aK rfl (d2 _)
  have nsK:∀ {b:Addr} {m:Str->Option Value},s₁.heap.Ns b m->(xV s₁.heap H).Ns b m:=fun {b m} ⟨o,es,ep,e,d,r⟩=>⟨o,es,ep,Ji e (noA e (fun _ _ z=>by rw[d]at z;cases z) fun _ z=>by rw[d]at z;cases z),d,r⟩
  have hKb:K.In (xV s₁.heap H):=fun b o e=>Ji (KX b o e) (by
   cases q:H b with
   | none=>rfl
   | some u=>
     rcases hA b (by rw[q];simp) with e' | e'
     · subst e';rw[hK (by rw[q];simp)]at e;cases e
     · subst e'
       rw[hKT]at e;cases e)
  have afP:(xV s₁.heap H).BuiltinsAt mg T:=let ⟨bm,o,a1,a2,a3,a4,a5,a6,a7,a8⟩:=hbm
   ⟨bm,o,a1,a2,a3,a4,Ji a5 (noA a5 (fun _ _ z=>by rw[a8]at z;cases z) fun _ z=>by rw[a8]at z;cases z),a6,a7,a8⟩
  have hM:Mod K mg (xV s₁.heap H):=⟨hKb,nsK hns,⟨mb,nsK hb,hbb⟩,let ⟨mc,h1,h2⟩:=hlim;⟨mc,nsK h1,h2⟩⟩;have e0:Bx P w K mg (xV s₁.heap H) callerA [] s₁ H:=⟨rfl,hM,fun b o e=>aaJ e,Nat.le_of_eq (VB _ _),trivial,fun b hb=>aK (show b ∈ ([]:List Addr) from hb) (by simp),hok,.of_eq hg⟩;refine codeAny_mono ((F _ hKb (nsK hns) afP).run callerA [] s₁ H ⟨[.ref a],[]⟩ [.ref a] [.ref a] _ _ hr e0 (hbind s₁ (.ref a)) (.cons rfl .nil) (hsp H hO hS)) fun r s' h=>?_
  cases r with
  | error e=>exact(hCX H e s' h).elim
  | ok fl=>
    cases fl with
    | next=>exact False.elim h
    | brk=>exact False.elim h
    | cont=>exact False.elim h
    | ret u=>
      obtain⟨v,H',os,bare,un,hok',r',q⟩:=h;have q':v= .bl true:=q;subst q';obtain rfl:u=Value.bool true:=r';obtain⟨ps,hP'⟩:=un.oR T #[] hO.1;have hTs:s'.heap.get? T=some (PySem.W.tabObj (#[]++ps)):=hok' T _ hP'
      have keep:∀ b o,b ≠ T->s₁.heap.get? b=some o->s'.heap.get? b=some o:=fun b o hb e=>by
       cases q:H b with
       | none=>exact un.keep b o e q (by intro z;exact aK (show b ∈ ([]:List Addr) from z) (by simp)) (by simp)
       | some u=>
         rcases hO.2 b hb with z | ⟨ob,xs,z⟩
         · rw[q]at z;cases z
         · have z2:=un.oO b ob _ z;obtain⟨e1,_⟩:=hok b _ z;obtain⟨e2,_⟩:=hok' b _ z2;rw[e]at e1;cases e1;exact e2
      have hd:=PySem.W.codeHd_of_K KX hcT;refine⟨rfl,⟨fun b o e=>?_,fun b o e=>?_⟩,os,bare⟩
      · by_cases hb:b=T
        · subst hb;rw[hT]at e;cases e;exact .inr (.inl ⟨(hd.tab hT).isCodeTable,rfl,#[],ps,rfl,hTs⟩)
        · exact .inl (keep b o hb e)
      · by_cases hb:b=T
        · subst hb;exact⟨_,hTs⟩
        · exact⟨o,keep b o hb e⟩
 cases hk:K.lookup a with
 | some o=>
   have e:=KX a o hk;rw[ha]at e;cases e;refine core (fun b=>if b=T then some (.tbl #[]) else none) ⟨aB rfl,fun b hb=>.inl (aA hb)⟩ (.inr ⟨_,vs.toArray,_,hk,rfl,rfl,rfl,by rw[gj,lenV];exact hl,by simpa using rv⟩) (fun b u z=>?_) (fun b z=>?_) fun z=>aK (aA aT) z
   · by_cases hb:b=T
     · have z':=(aB hb).symm.trans z;cases z';subst hb;exact hT
     · have z':=(aA hb).symm.trans z;cases z'
   · by_cases hb:b=T
     · exact .inr hb
     · exact aK (aA hb) z
 | none=>
   refine core (fun b=>if b=T then some (.tbl #[]) else if b=a then some (.frz { cls:=.type "list",data:=.seq vs.toArray } (.lst (ns.map V.int))) else none) ⟨aB rfl,fun b hb=>?_⟩ (.inl (.inr ⟨{ cls:=.type "list",data:=.seq vs.toArray },by show(if a=T then _ else _)=_;rw[aA aT,aB rfl]⟩)) (fun b u z=>?_) (fun b z=>?_) fun _=>hk
   · by_cases hba:b=a
     · exact .inr ⟨_,_,by show(if b=T then _ else _)=_;rw[aA hb,aB hba]⟩
     · exact .inl (by show(if b=T then _ else _)=_;rw[aA hb,aA hba])
   · have z:(if b=T then some (HO.tbl #[]) else if b=a then some (.frz { cls:=.type "list",data:=.seq vs.toArray } (.lst (ns.map V.int))) else none)=some u:=z
     by_cases hb:b=T
     · rw[aB hb]at z;cases z;subst hb;exact hT
     · rw[aA hb]at z
       by_cases hba:b=a
       · rw[aB hba]at z;cases z;subst hba;exact⟨ha,by rw[bK];exact hl,vs,_,rv,ha⟩
       · rw[aA hba]at z;cases z
   · by_cases hb:b=T
     · exact .inr hb
     · by_cases hba:b=a
       · exact .inl hba
       · exact aK (by show(if b=T then _ else _)=_;rw[aA hb,aA hba]) z
def aeG{l:PySem.W.OpenLaw}{n k:Nat}{q:Program}{loose:List Str}{XP:(Str->Option Value)->Heap->Prop}{YP:World->Heap->Prop}{d:DefRec}{K:Params->ao}{CX:World->CXT}{sp:World->Sp}{x:Str}{T c:Addr}
    (hn:l.most=some n) (hn2:n<=sizeLine) (hdf:d.params.defaults= []) (hr:bZ k callerA)
    (hY:∀(w:World) (h:Heap),YP w h->(K w.params).In h/\h.get? T=some (PySem.W.tabObj #[])) (hK:∀ P:Params,(K P).lookup T=none/\PySem.W.codeHdIn (K P) c T=true)
    (F:∀(w:World) (mg:Str->Option Value) (fa:Addr) (h:Heap),(K w.params).In h->h.Ns mainGlobals mg->mg d.name=some (.ref fa)->
      ∃ fd:aR,(∀(s:aj) (u:Value),BindsTo s fd ⟨[u],[]⟩ [(x,u)])/\
        ∀ base:Heap,(K w.params).In base->base.Ns mainGlobals mg->base.BuiltinsAt mg T->bU l.prog w (K w.params) mg base (CX w) k fa fd [x] (sp w))
    (hsp:∀(w:World) (H:Hp) (a:Addr) (ns:List Int),ns.length<=n->Dz T H->SqL (K w.params) H a (ns.map V.int)->sp w [.ref a] H (fun v _=>v= .bl true) fun _ _ _=>False)
    (hCX:∀(w:World) (H:Hp) (s:aj) (e:Value) (s':aj),CX w [] H s (fun _ _ _=>False) e s'->False):
    PySem.W.WalkO q loose XP YP l.row.toRowW d [] (fun f vs=>PySem.call f vs):=by
 refine Att.QX hn hdf fun w s₀ s₁ mg mb fa o pm cd doc a vs ns G Y ho hd hcd hmg hobj hints hlen hg=>?_;obtain⟨KX,hT⟩:=hY w _ Y;obtain⟨fd,hb,hF⟩:=F w mg fa _ KX G.T.g hmg;obtain⟨bm,ob,b1,b2,b3,b4,b5,b6⟩:=G.T.bmain
 have hbm:s₁.heap.BuiltinsAt mg T:=by
  refine⟨bm,ob,b1,b2,fun z=>?_,fun z=>?_,b3,b4,b5,b6⟩
  · obtain⟨o,es,ep,e,hd,_⟩:=G.T.g;rw[z,e]at b3;cases b3;rw[hd]at b6;cases b6
  · rw[z,hT]at b3;cases b3;cases b4
 exact WT KX G.T.g G.T.b G.T.builtins G.T.nolimit hg hobj hints (Nat.le_trans hlen hn2) hr hT (hK _).1 (hK _).2 hbm hF hb (fun H hO hS=>hsp w H a ns hlen hO hS) fun H e s'=>hCX w H s₁ e s'
section
variable{Pg:List Fn}{cl:Cn}{E:XK}{d:Nat}{X:Cx}{σ:L2.St}{H:Hp}
def pJ{K:ao}{tg l:Expr}{e:Ev.X}(hK:X.K=K)(he:PE X l (tE Pg cl E d e)):PI X tg l (fun σ H R=>Tf K (tE Pg cl E d e) σ H R\/Yj K (tE Pg cl E d e) σ H R):=by
 subst hK;exact PI.or (sS he) (ab6 he)
def zG{c a b:Expr}{x y z:Ev.X}{pos}(hc:PT X c (tT Pg cl E d x))(ha:PE X a (tE Pg cl E d y))(hb:PE X b (tE Pg cl E d z)):PE X (.IfExp c a b pos) (tE Pg cl E d (.ite x y z)):=PE.of (Nz hc ha hb) fun _ _ _ q=>ada q
def bJ{P:Program}{w:World}{K:ao}{mg:Str->Option Value}{base:Heap}{k i:Nat}{f:Addr}{fd:aR}{ps:List Str}:bU P w K mg base (CXE P w) k f fd ps (spF Pg cl 0 i):=by
 have no:∀ vs H Q E,¬ spF Pg cl 0 i vs H Q E:=fun vs H Q E ⟨ρ,ws,h,n,s,r,p⟩=>by
  obtain⟨_,_,_,e,_⟩:=vV p;cases e
 exact⟨fun vs H Q E z=>(no vs H Q E z).elim,fun _ _ _ _ _ _ _ _ _ _ _ _ _ z=>(no _ _ _ _ z).elim⟩
def vW{N':List Str}{sc:Scope}{C:Addr}{s₀:aj}{H₀:Hp}{fp:List Addr}:Passes (CXE X.prog X.w) (blk X N' sc C s₀ H₀ fp) E0:=fun _ _ _ _ _ _ _ h=>(zA h).elim
def nQ{C k f:Nat}{fa:Addr}{m:Str}{mc:List Nat}{fd:aR}{ps:List Str}{o e:Expr}{es:List Expr}{xo y:Ev.X}{ys:List Ev.X}{apos pos:Pos}{pl:Sem Bool}(c:Cls X.K (cl C))(hm:Meth X.K (cl C) m fa)(F:bU X.prog X.w X.K X.mg X.base (CXE X.prog X.w) k fa fd ps (spF Pg cl d f))(hr:bZ k X.A)(hb:Binds X.K fd ps [])
    (hx:Passes (CXE X.prog X.w) X E) (he:PE X o (tE Pg cl E d xo)) (ha:PA X (e::es) (tA Pg cl E d (y::ys))) (ef:m=nm mc:=by decide +kernel)
    (hst:starEach (e::es) X.env=(false,eval e X.env)::starEach es X.env:=by rfl) (hpl:(backTo pos (starEach es X.env)).any (·.1)=false:=by rfl)
    (ht:eval (.Call (.Attribute o m apos) (e::es) [] pos) X.env=(do
      let ov <- eval o X.env
      standAt apos.atName
      let (f,first) <- holding [ov] (getMethod ov m pl)
      callWith pos f first (backTo pos (starEach (e::es) X.env)) (backToKw pos (keywordEach [] X.env))):=by rfl):
    PE X (.Call (.Attribute o m apos) (e::es) [] pos) (tE Pg cl E d (.meth C mc f xo (y::ys))):=by
 subst ef;exact PE.of (L2.aaO he c hm F hr hb .nil hx ha hst hpl ht) fun _ _ _ q=>O1 q
def lN{C k f:Nat}{fa:Addr}{m:Str}{mc:List Nat}{fd:aR}{ps:List Str}{o:Expr}{xo:Ev.X}{apos pos:Pos}{pl:Sem Bool}(c:Cls X.K (cl C))(hm:Meth X.K (cl C) m fa)(F:bU X.prog X.w X.K X.mg X.base (CXE X.prog X.w) k fa fd ps (spF Pg cl d f))(hr:bZ k X.A)(hb:Binds X.K fd ps [])
    (hx:Passes (CXE X.prog X.w) X E) (he:PE X o (tE Pg cl E d xo)) (ef:m=nm mc:=by decide +kernel)
    (ht:eval (.Call (.Attribute o m apos) [] [] pos) X.env=(do
      let ov <- eval o X.env
      standAt apos.atName
      let (f,first) <- holding [ov] (getMethod ov m pl)
      callWith pos f first (backTo pos (starEach [] X.env)) (backToKw pos (keywordEach [] X.env))):=by rfl):
    PE X (.Call (.Attribute o m apos) [] [] pos) (tE Pg cl E d (.meth C mc f xo [])):=by
 subst ef;refine PE.of (L2.Yr he c hm F hr hb .nil hx ht) fun σ H Q q=>?_;obtain⟨ρ,τ,h,n,s,rs,p⟩:=O1 q;refine⟨ρ,τ,h,n,s,rs,p.mono fun a h ρ H _ _ ⟨w,e,g⟩=>⟨w,e,fun v rv=>?_⟩⟩;obtain⟨a,dx,fs,e1,e2,e3,z⟩:=g v rv;exact⟨a,dx,fs,e1,e2,e3,adk z⟩
def abj{C k f:Nat}{fa:Addr}{x:Str}{fd:aR}{ps:List Str}{e:Expr}{es:List Expr}{y:Ev.X}{ys:List Ev.X}{p pos:Pos}(M:Mk X.K (cl C) fa)(F:bU X.prog X.w X.K X.mg X.base (CXE X.prog X.w) k fa fd ps (spF Pg cl d f))(hr:bZ (k+1) X.A)(hg:Gl X x)(hm:X.mg x=some (.ref (cl C)))(hb:Binds X.K fd ps [])(hx:Passes (CXE X.prog X.w) X E)
    (ha:PA X (e::es) (tA Pg cl E d (y::ys))) (hdb:(x==("__debug__":Str))=false:=by decide) (he:starEach (e::es) X.env=(false,eval e X.env)::starEach es X.env:=by rfl) (hpl:(backTo pos (starEach es X.env)).any (·.1)=false:=by rfl):
    PE X (.Call (.Name x p) (e::es) [] pos) (tE Pg cl E d (.make C f (y::ys))):=PE.of (aaP M F hr hg hm hb .nil hx ha hdb he hpl) fun _ _ _ q=>abi q
def o4{σ0:L2.St}{C k:Nat}{cc:List Nat}{fa:Addr}{fd:aR}{ps:List Str}{x:Str}{p cpos pos:Pos}(O:Own X)(hxe:X.xe=Ff X E)(hc:X.calm=true)(M:XMk X.K (cl C) fa)(F:bU X.prog X.w X.K X.mg X.base CX0 k fa fd ps (spX (cl C) cc))(hr:bZ (k+1) X.A)(hb:Binds X.K fd ps [])
    (hg:Gl X x) (hm:X.mg x=some (.ref (cl C))) (hdb:(x==("__debug__":Str))=false:=by decide):PS X (.Raise (some (.Call (.Name x p) [] [] cpos)) none pos) (tS Pg cl E d σ0 (.raise C cc)):=PS.of (Wg O hxe hc M F hr hb hg hm hdb) fun _ _ _ q=>WQ q
end
section
variable{Pg:List Fn}{cl:Cn}{E:XK}{d:Nat}{X:Cx}{σ:L2.St}{H:Hp}
def KTup(K:ao)(a:Addr)(ns:List Int):Prop:=∀ H,SqT K H a (ns.map V.int)
inductive Fy (K:ao):List DictEntry->List (List Nat × List Int)->Prop
 | nil:Fy K [] []
 | cons {hs c t a ns es tb}:KTup K a ns->Fy K es tb->Fy K (⟨hs,.str (nm c) t,.ref a⟩::es) ((c,ns)::tb)
structure Uo (K:ao)(w:World)(da:Addr)(tb:List (List Nat × List Int)):Prop where
 ex:∃(es:List DictEntry) (n:Nat),K.lookup da=some ⟨.type "dict",none,.dict es.toArray n,#[]⟩/\PySem.W.KeysLit w.params es/\Fy K es tb
 ns:(da==sysModules)=false
def Fy.look{K:ao}{c:List Nat}:∀ {es:List DictEntry} {tb:List (List Nat × List Int)},Fy K es tb->
    (∃ a,(es.find? fun e=>Value.isStrOf (nm c) e.key).map (·.val)=some (.ref a)/\KTup K a (tabOf tb c))\/((es.find? fun e=>Value.isStrOf (nm c) e.key).map (·.val)=none/\tabOf tb c= [])
 | _,_,.nil=>.inr ⟨rfl,rfl⟩
 | _,_,@Fy.cons _ hs c' t a ns es tb k r=>by
   rw[List.find?_cons]
   cases z:codes c' c with
   | true=>
     have e:=dh.mp z;have e1:Value.isStrOf (nm c) (Value.str (nm c') t)=true:=by rw[e];simp[Value.isStrOf]
     have e2:tabOf ((c',ns)::tb) c=ns:=by show ifB (codes c' c) ns (tabOf tb c)=ns;rw[z];rfl
     rw[e1,e2]
     exact .inl ⟨a,rfl,k⟩
   | false=>
     have e1:Value.isStrOf (nm c) (Value.str (nm c') t)=false:=by
      show(nm c'==nm c)=false;exact beq_eq_false_iff_ne.mpr fun q=>by rw[dh.mpr (vP q)]at z;cases z
     have e2:tabOf ((c',ns)::tb) c=tabOf tb c:=by show ifB (codes c' c) ns (tabOf tb c)=_;rw[z];rfl
     rw[e1,e2];exact r.look
def Up(K:ao)(tb:List (List Nat × List Int))(t:TE):TE:=fun σ H Q=>t σ H fun v H2=>∃ c,v= .str (nm c)/\∀ p,H2 p=none->∀ a,(a=p/\tabOf tb c= []\/KTup K a (tabOf tb c))->Q (.ref a) (upd H2 p (.tup []))
def abk{x:Str}{da:Addr}{tb:List (List Nat × List Int)}{k:Expr}{t:TE}{p apos cpos tpos:Pos}{x1:Nat}(T:Uo X.K X.w da tb)(hg:Gl X x)(hm:X.mg x=some (.ref da))(hk:PE X k t)(hxd:(x==("__debug__":Str))=false:=by decide)
    (hbase:attributeBase (.Name x p) "get" X.env (eval (.Name x p) X.env)=eval (.Name x p) X.env:=by rfl)
    (hfew:((backTo cpos (starEach [k,.Tuple [] x1 tpos] X.env)).all (fun x=> !x.1)&&(backToKw cpos (keywordEach [] X.env)).all (fun x=>x.1.isSome)
      && decide (([k,.Tuple [] x1 tpos]:List Expr).length+([]:List Keyword).length+(if([]:List Keyword).isEmpty then 0 else 1)<30))=true:=by rfl)
    (hline:(apos.endLine==cpos.line)=true:=by rfl) (hs:starEach [k,.Tuple [] x1 tpos] X.env=(false,eval k X.env)::starEach [.Tuple [] x1 tpos] X.env:=by rfl) (hs2:starEach [Expr.Tuple [] x1 tpos] X.env=(false,eval (.Tuple [] x1 tpos) X.env)::starEach [] X.env:=by rfl) (hplain:(backTo cpos (starEach [Expr.Tuple [] x1 tpos] X.env)).any (·.1)=false:=by rfl):
    PE X (.Call (.Attribute (.Name x p) "get" apos) [k,.Tuple [] x1 tpos] [] cpos) (Up X.K tb t):=by
 intro pins s σ H Q I h;obtain⟨⟨es,n,lk,kl,en⟩,ns⟩:=T;refine wpAny_Call_method_late hbase hfew hline rfl (qZ I hg hm ?_ hxd);have hob:=I.kIn _ _ lk;refine⟨"dict","dict.get",PySem.F.plainAttrs_dict,PySem.F.slot_dict_get,PySem.F.type_dict_get,⟨_,hob,rfl⟩,fun a e=>by cases e;exact⟨_,hob,rfl⟩,?_⟩;rw[hs];refine Calls.callWith_builtin (by show(false||(backTo cpos (starEach [Expr.Tuple [] x1 tpos] X.env)).any (·.1))=false;rw[hplain] <;> rfl) (Calls.evalArgs_plain ?_);show wpAny _ _ (spliced ((false,eval k X.env)::backTo cpos (starEach [Expr.Tuple [] x1 tpos] X.env))) _ _ s;refine Calls.spliced_cons (thn (hk pins s σ H _ I h) fun u s1 ⟨v,H1,I1,rv,c,ev,q⟩=>?_);subst ev;obtain⟨tk,rfl⟩:=rv;rw[hs2];show wpAny _ _ (spliced ((false,eval (.Tuple [] x1 tpos) X.env)::backTo cpos (starEach [] X.env))) _ _ s1;refine Calls.spliced_cons (thn (yz (X:=X) (x1:=x1) (pos:=tpos) bO pins s1 σ H1 (fun y H2=>∃ q',y= .ref q'/\H1 q'=none/\H2=upd H1 q' (.tup [])) I1 ⟨Nat.zero_le _,fun p hp=>⟨p,rfl,hp,rfl⟩⟩) fun u2 s2 ⟨y,H2,I2,ry,q',ey,hq',eH⟩=>?_);subst ey eH;obtain rfl:u2=Value.ref q':=ry;refine Calls.spliced_nil ?_;have mo:=PySem.W.mapOf_K (prog:=X.prog) (w:=X.w) I2.kIn lk (by simpa using kl);refine call_meetsIn PySem.F.slot_dict_get ⟨_,I2.kIn _ _ lk,rfl⟩ PySem.F.entry_dict_get (PySem.F.args_dict_get_3 _ _ _) (meets_dict_get_default (strKind X.prog X.w) da (strKind_is X.prog X.w (nm c) tk) ns (.ref q')) ⟨_,mo,?_⟩
 have fe:findBy Value.isStrOf es.toArray (nm c)=(es.find? fun e=>Value.isStrOf (nm c) e.key).map (·.val):=by
  unfold findBy;rw[List.find?_toArray]
 rcases en.look (c:=c) with ⟨a,e1,e2⟩ | ⟨e1,e2⟩
 · refine⟨.ref a,_,I2.tok _,?_,q q' hq' a (.inr e2)⟩;show(findBy Value.isStrOf es.toArray (nm c)).getD (.ref q')= .ref a;rw[fe,e1];rfl
 · refine⟨.ref q',_,I2.tok _,?_,q q' hq' q' (.inl ⟨rfl,e2⟩)⟩;show(findBy Value.isStrOf es.toArray (nm c)).getD (.ref q')= .ref q';rw[fe,e1];rfl
def abl(i:Int)(ns:List Int):xY i ns=inV (.int i) (ns.map V.int):=by
 induction ns with
 | nil=>rfl
 | cons n ns ih=>
   show ifB (ieq n i) true (xY i ns)=(eqV (.int n) (.int i)||inV (.int i) (ns.map V.int));rw[ih,show eqV (.int n) (.int i)=(n==i) from rfl,M9];cases ieq n i <;> rfl
def WW(ns:List Int):(ns.map V.int).all qJ=true:=by
 induction ns with
 | nil=>rfl
 | cons n ns ih=>exact ih
def aeH{K:ao}{tb:List (List Nat × List Int)}:Op2 cl (.tab tb) (fun x y H2 Q=>∃ c,y= .str (nm c)/\∀ p,H2 p=none->∀ a,(a=p/\tabOf tb c= []\/KTup K a (tabOf tb c))->rIn K true x (.ref a) (upd H2 p (.tup [])) Q):=fun E ρ h H w1 w2 v1 v2 Q s r1 r2 p=>by
 obtain⟨i,rfl,p1⟩:=oI (show Post cl ρ H E (ofW (acV tb h w1 w2)) (VP Q) from p);cases r1
 cases r2 with
 | str c=>
   refine⟨c,rfl,fun q hq a ha=>?_⟩;have p2:Post cl ρ H E (ofW (.yes (!xY i (tabOf tb c)) h)) (VP Q):=p1
   have fin:Q (.bl (!inV (.int i) ((tabOf tb c).map V.int))) (upd H q (.tup [])):=by
    rw[<- abl];exact Post.yes (s.other hq) (p2.later (Bt.other hq)) rfl
   rcases ha with ⟨rfl,e⟩ | ha
   · rw[e]at fin;exact⟨a,[],rfl,.inr (SqT.of aJ),rfl,rfl,fin⟩
   · exact⟨a,_,rfl,.inr (ha _),rfl,WW _,fin⟩
 | _=>exact p1.elim
def tab_of{K:ao}{tb:List (List Nat × List Int)}{a k:Ev.X}{Q:VK}(x:tE Pg cl E d (.pr (.tab tb) [a,k]) σ H Q):tOp (rIn K true) (tE Pg cl E d a) (Up K tb (tE Pg cl E d k)) σ H Q:=vR aeH x
def adm{x:Str}{da:Addr}{tb:List (List Nat × List Int)}{a k:Expr}{xa xk:Ev.X}{p apos cpos tpos pos:Pos}{x1:Nat}(T:Uo X.K X.w da tb)(hg:Gl X x)(hm:X.mg x=some (.ref da))(ha:PE X a (tE Pg cl E d xa))(hk:PE X (.Call (.Attribute (.Name x p) "get" apos) [k,.Tuple [] x1 tpos] [] cpos) (Up X.K tb (tE Pg cl E d xk)))
    (hmk:behindInMarks .NotIn (.Call (.Attribute (.Name x p) "get" apos) [k,.Tuple [] x1 tpos] [] cpos)=false):PT X (.Compare a [.NotIn] [.Call (.Attribute (.Name x p) "get" apos) [k,.Tuple [] x1 tpos] [] cpos] pos) (tT Pg cl E d (.pr (.tab tb) [xa,xk])):=PT.of (sU BJ ha hk hmk) fun _ _ _ q=>tab_of q
end
def sV:("word":Str)=nm gm:=by decide +kernel
def spS(K:ao):Sp:=fun vs H Q _=>∃ e C y,vs= [.ref e,y]/\H e=some (XO e C none)/\mD K C/\cY K C "word"/\∀ dx,H dx=none->dx ≠ e->Q .non (upd (upd H dx (.xd [("word",y)])) e (XO e C (some dx)))
section
variable{Pg:List Fn}{cl:Cn}{E:XK}{d:Nat}{X:Cx}{σ:L2.St}{H:Hp}
def Sim.same{ρ:List Addr}{h:Hs}{H':Hp}(s:Sim cl ρ h H)(e:gn H H'):Sim cl ρ h H'/\Bt cl ρ H ρ H':=by
 refine⟨⟨s.len,s.nd,fun n a q=>?_,fun on=>?_⟩,List.prefix_refl _,fun b u q nb=>⟨nb,fun _=>e b u q,u,e b u q⟩⟩
 · obtain⟨o,ho,x⟩:=s.obj n a q;obtain⟨u,hu⟩:=x.som;exact⟨o,ho,x.keep (List.prefix_refl _) ((e a u hu).trans hu.symm)⟩
 · obtain⟨ps,h1,h2,h3⟩:=s.tb on;refine⟨ps,e _ _ h1,h2,fun pos cv z=>?_⟩;obtain⟨c',e1,e2⟩:=h3 pos cv z;exact⟨c',e1,e _ _ e2⟩
end
end Ev
namespace Ev
open PySem L2
section
variable{Pg:List Fn}{cl:Cn}{E:XK}{d:Nat}{X:Cx}{σ σ0:L2.St}{H:Hp}
def never:S:=.expr (.pr .neg [])
def Sim.none(t:Tb cl H):Sim cl [] (.mk 0 .lf) H:=⟨rfl,by simp,fun n a h=>by simp at h,t⟩
def Sim.adopt{ρ:List Addr}{h:Hs}{p:Addr}{o:O}(s:Sim cl ρ h H)(e:p ∉ ρ)(x:OA cl (ρ ++ [p]) H p o):Sim cl (ρ ++ [p]) (h.push o) H where
 len:=by rw[ji,Hs.mF,s.len];rfl
 nd:=List.nodup_append.mpr ⟨s.nd,by simp,fun a ha b hb z=>by
  simp only[List.mem_singleton]at hb
  exact e (by rw[<- hb,<- z];exact ha)⟩
 obj:=fun n a hn=>by
  rw[Hs.oX]
  by_cases hlt:n<ρ.length
  · rw[pG hlt]at hn;obtain⟨o',q,y⟩:=s.obj n a hn;exact⟨o',by rw[aA (by rw[<- s.len];omega)];exact q,y.keep (kE _ _) rfl⟩
  · have hn':n=ρ.length:=by
     have:=(bB hn).1;rw[ji]at this;simp at this;omega
    subst hn';rw[lJ (aG _),Nat.sub_self]at hn;simp at hn;subst hn;exact⟨o,by rw[aB s.len],x⟩
 tb:=s.tb
def RM{a:Addr}{u:HO}(t:Tb cl H)(e:H a=some u)(n:∀ ps,u ≠ .tbl ps):cl.on=true->a ≠ cl.P:=fun on z=>by
 obtain⟨ps,q,_⟩:=t on;rw[<- z,e]at q;exact n ps (gH q)
def goes(r:R A)(f:Sg->Hs->Bool):Bool:=match r with
 | .ok (.fl (.nx τ)) h=>f τ h
 | _=>false
def Zb{α:Type}{xs:List α}{i:Nat}{x:α}(h:xs[i]? =some x):xs.set i x=xs:=by
 apply List.ext_getElem?;intro j;rw[List.getElem?_set]
 by_cases e:i=j
 · subst e;rw[aB rfl,h,aB (bB h).1]
 · rw[aA e]
def abm{T:Addr}(h:Dz T H)(e:cl.P=T):Tb cl H:=fun _=>⟨#[],by rw[e];exact h.1,trivial,fun pos cv z=>by simp[codeAmong]at z⟩
def rw_ints(ρ:List Addr):∀ ns:List Int,RWs ρ (ns.map W.int) (ns.map V.int)
 | []=>.nil
 | n::ns=>.cons (.int n) (rw_ints ρ ns)
def aq{x p}{es:List Expr}{a:Ev.X}{as:List Ev.X}(ha:PE X (.Name x p) (tE Pg cl E d a))(hr:PA X es (tA Pg cl E d as)):PA X (.Name x p::es) (tA Pg cl E d (a::as)):=iw ha hr rfl
def bz{x k p}{es:List Expr}{a:Ev.X}{as:List Ev.X}(ha:PE X (.Constant x k p) (tE Pg cl E d a))(hr:PA X es (tA Pg cl E d as)):PA X (.Constant x k p::es) (tA Pg cl E d (a::as)):=iw ha hr rfl
def O6{x k p}{es:List Expr}{a:Ev.X}{as:List Ev.X}(ha:PE X (.Tuple x k p) (tE Pg cl E d a))(hr:PA X es (tA Pg cl E d as)):PA X (.Tuple x k p::es) (tA Pg cl E d (a::as)):=iw ha hr rfl
def Jj{x p}{es:List Expr}{a:Ev.X}{as:List Ev.X}(ha:PE X (.List x p) (tE Pg cl E d a))(hr:PA X es (tA Pg cl E d as)):PA X (.List x p::es) (tA Pg cl E d (a::as)):=iw ha hr rfl
def dN{x o y p}{es:List Expr}{a:Ev.X}{as:List Ev.X}(ha:PE X (.BinOp x o y p) (tE Pg cl E d a))(hr:PA X es (tA Pg cl E d as)):PA X (.BinOp x o y p::es) (tA Pg cl E d (a::as)):=iw ha hr rfl
def pK{f x k p}{es:List Expr}{a:Ev.X}{as:List Ev.X}(ha:PE X (.Call f x k p) (tE Pg cl E d a))(hr:PA X es (tA Pg cl E d as)):PA X (.Call f x k p::es) (tA Pg cl E d (a::as)):=iw ha hr rfl
def iY{x i p}{es:List Expr}{a:Ev.X}{as:List Ev.X}(ha:PE X (.Subscript x i p) (tE Pg cl E d a))(hr:PA X es (tA Pg cl E d as)):PA X (.Subscript x i p::es) (tA Pg cl E d (a::as)):=iw ha hr rfl
def O7{x f p}{es:List Expr}{a:Ev.X}{as:List Ev.X}(ha:PE X (.Attribute x f p) (tE Pg cl E d a))(hr:PA X es (tA Pg cl E d as)):PA X (.Attribute x f p::es) (tA Pg cl E d (a::as)):=iw ha hr rfl
def Uq{x o y p}{es:List Expr}{a:Ev.X}{as:List Ev.X}(ha:PE X (.Compare x o y p) (tE Pg cl E d a))(hr:PA X es (tA Pg cl E d as)):PA X (.Compare x o y p::es) (tA Pg cl E d (a::as)):=iw ha hr rfl
def G5{o x p}{es:List Expr}{a:Ev.X}{as:List Ev.X}(ha:PE X (.UnaryOp o x p) (tE Pg cl E d a))(hr:PA X es (tA Pg cl E d as)):PA X (.UnaryOp o x p::es) (tA Pg cl E d (a::as)):=iw ha hr rfl
end
structure QE (X:Cx)(e:Expr)(t:TE):Prop where
 h:PE X e t
structure QA (X:Cx)(e:List Expr)(t:TA):Prop where
 h:PA X e t
structure QS (X:Cx)(e:Stmt)(t:TS):Prop where
 h:PS X e t
structure QSs (X:Cx)(e:List Stmt)(t:TS):Prop where
 h:PSs X e t
section
variable{Pg:List Fn}{cl:Cn}{E:XK}{d:Nat}{X:Cx}{σ0:L2.St}
def WX{es:List Expr}{xs:List Ev.X}{pos}(h:QA X es (tA Pg cl E d xs)):QE X (.List es pos) (tE Pg cl E d (.pr .lst xs)):=⟨k_ h.h⟩
def WY:QA X [] (tA Pg cl E d []):=⟨au⟩
def pL{s:Str}(c:List Nat){n:Int}{j1 j2 x}{p1 p2 pos:Pos}{es:List Expr}{as:List Ev.X}(hr:QA X es (tA Pg cl E d as))(e:s= ⟨c.toArray⟩:=by decide +kernel):
    QA X (.Tuple [.Constant (.str s) j1 p1,.Constant (.int n) j2 p2] x pos::es) (tA Pg cl E d (.pr .tup [.cst (.str c),.cst (.int n)]::as)):=⟨O6 (iV (bz (d_ c e) (bz aD au))) hr.h⟩
def aeI{op:Operator}{p:Pr}{r:R2}{a b:Expr}{x y:Ev.X}{pos:Pos}(z:Op2 cl p r)(o:OpR X (binaryOp op) r)(ha:QE X a (tE Pg cl E d x))(hb:QE X b (tE Pg cl E d y)):QE X (.BinOp a op b pos) (tE Pg cl E d (.pr p [x,y])):=⟨aZ z o ha.h hb.h⟩
def W0{i:Nat}{x:Str}{e:Expr}{y:Ev.X}{pos pos':Pos}(hN:X.N.Nodup)(hi:X.N[i]? =some x)(hx:Loc X.env.scope x)(he:QE X e (tE Pg cl E d y))(hs:swapsWith e (some (.Name x pos')) pos.line X.env=pure false:=by rfl)(hf:X.fn x=true\/X.env.scope.names.lookup x=some .local:=by first | exact .inl rfl | exact .inr rfl | assumption):
    QS X (.Assign [.Name x pos'] e pos) (tS Pg cl E d σ0 (.asg (.nm i) y)):=⟨WD hN hi hx he.h hs hf⟩
end
end Ev
namespace Ev
open PySem PyProof.Rows L2
def Fz(a:Addr)(n:Nat)(h:Heap):Prop:=∃(o:Obj) (es:Array (Int × Value)) (ep:Nat) (t:SetTable),h.get? a=some o/\o.ExactSet/\o.data= .set es ep t/\t.fits es.size=true/\es.size=n/\n<scanBound
def W2{a:Addr}{n:Nat}(h1 h2:Heap)(x:Fz a n h1)(k:∀ o,h1.get? a=some o->h2.get? a=some o):Fz a n h2:=by
 obtain⟨o,es,ep,t,e,r⟩:=x;exact⟨o,es,ep,t,k o e,r⟩
def BZ:∀ {ns:List Int} {us:List Value},Vals (ns.map V.int) us->IntsAre us ns
 | [],[],_=>.nil
 | [],_::_,h=>by cases h
 | _::_,[],h=>by cases h
 | n::ns,u::us,h=>by
   cases h with
   | cons h1 h2=>
     obtain⟨t,rfl⟩:=h1;exact .cons n t (BZ h2)
def unlike(ns:List Int):Nat:=(firstMet (fun i=>ns.getD i 0) ns.length).length
section
variable{X:Cx}
def W3:oH X (.builtin "len") (fun xs H Q=>∃ a n,xs= [.ref a]/\H a=some (.ext (Fz a n))/\Q (.int n) H):=by
 intro pins s σ H xs us Q I r h;obtain⟨a,n,rfl,he,q⟩:=h;obtain⟨u,rfl,rx⟩:=vals1 r;cases rx;obtain⟨⟨o,es,ep,t,ho,hex,hd,hf,rfl,hb⟩,_⟩:=I.hok a _ he;have h4:((es.size:Int)<2 ^ 63):=by unfold scanBound at hb;omega
 exact call_len_set ho hex hd hf h4 ⟨.int es.size,H,I.tok _,⟨s.toks+1,rfl⟩,q⟩
def W4(hh:X.A.handled=none):oH X (.type "set") (fun xs H Q=>∃ p ns,xs= [.ref p]/\SqL X.K H p (ns.map V.int)/\ns.length<=1000/\∀ l,H l=none->Q (.ref l) (upd H l (.ext (Fz l (unlike ns))))):=by
 intro pins s σ H xs us Q I r h;obtain⟨p,ns,rfl,hq,hn,q⟩:=h;obtain⟨u,rfl,rx⟩:=vals1 r;cases rx;obtain⟨its,r',pl,hz⟩:=I.list hq;have hlen:=r'.length;rw[bK]at hlen;refine call_set_list (items:=its.toArray) (ns:=ns) hh pl.isList (by simpa using BZ r') (by simp;unfold scanBound;omega) fun h' tk hS kp=>?_;obtain⟨o,es,ep,t,e1,e2,e3,_,_,e4,e5,e6⟩:=hS;have e7:es.size=unlike ns:=by rw[e6];unfold unlike;rw[gj,<- hlen]
 exact⟨.ref s.heap.objs.size,_,I.laid (t':=tk) (fun b o e=>kp b o (cF e) e) (aG _) (show dg X.prog X.w _ h' _ (.ext (Fz s.heap.objs.size (unlike ns))) from ⟨⟨o,es,ep,t,e1,e2,e3,e5,e7,by rw[<- e7];exact e4⟩,⟨o,e1⟩,fun h1 h2=>W2 h1 h2⟩),rfl,q _ (I.hok.fresh (aG _))⟩
variable{Pg:List Fn}{cl:Cn}{E:XK}{d:Nat}
def FJ{ρ:List Addr}:∀ {xs:List W} {vs:List V} {ns:List Int},RWs ρ xs vs->jz xs=some ns->vs=ns.map V.int
 | [],_,_,.nil,e=>by cases e;rfl
 | x::xs,_,ns,.cons r rs,e=>by
   have e:W.elim x none (fun _=>none) (fun i=>Option.rec none (fun r=>some (i::r)) (jz xs)) (fun _=>none) (fun _=>none)=some ns:=e
   cases r with
   | int i=>
     cases z:jz xs with
     | none=>rw[z]at e;cases e
     | some r=>rw[z]at e;cases e;rw[FJ rs z];rfl
   | non=>cases e
   | bl b=>cases e
   | str c=>cases e
   | ref h=>cases e
def O8(x:Int):∀ acc:List Int,xY x acc=acc.any (· == x)
 | []=>rfl
 | y::acc=>by
   show ifB (ieq y x) true (xY x acc)=((y==x)||acc.any (· == x));rw[kO,O8 x acc]
   by_cases z:y=x
   · subst z;simp[ifB]
   · have:(y==x)=false:=by simpa using z
     rw[bM z,this];rfl
def aal:∀(l acc:List Int),dd l acc=l.foldl step_dedup acc
 | [],_=>rfl
 | x::l,acc=>by
   show dd l (ifB (xY x acc) acc (app acc [x]))=l.foldl step_dedup (step_dedup acc x);rw[aal l,O8,jM];unfold step_dedup;cases acc.any (· == x) <;> rfl
def W5(ns:List Int):unlike ns=(dd ns []).length:=by
 unfold unlike firstMet;rw[aal]
 have:(List.range ns.length).map (fun i=>ns.getD i 0)=ns:=by
  apply List.ext_getElem?;intro i
  by_cases h:i<ns.length
  · simp[h]
  · simp[h]
 rw[this]
def Zc{K:ao}:Op1 cl .yH (fun x H Q=>∃ p ns,x= .ref p/\SqL K H p (ns.map V.int)/\ns.length<=1000/\∀ l,H l=none->Q (.int (unlike ns)) (upd H l (.ext (Fz l (unlike ns))))):=fun E ρ h H w1 v1 Q s r1 p=>by
 have p:Post cl ρ H E (ofW (pLs h w1)) (VP Q):=p;obtain⟨n,o,a,rfl,rfl,e1,g1,x1,p⟩:=oAt s r1 p;obtain⟨xs,rfl,p⟩:=oL p;obtain⟨hl,p⟩:=oIf p;obtain⟨ns,hn,p⟩:=ux p;obtain⟨us,ru,q⟩:=x1;have hlen:=ru.length;rw[FJ ru hn]at q hlen;rw[bK]at hlen;have hl':xs.length<=1000:=by rw[len_eq]at hl;exact Nat.le_of_ble_eq_true hl
 refine⟨a,ns,rfl,SqL.of q,by omega,fun l hl=>?_⟩;have z:=Post.gw (s.other (u:=.ext (Fz l (unlike ns))) hl) (p.later (Bt.other hl)) (.int _);rw[len_eq,<- W5]at z;exact z
def B_{a:Expr}{x:Ev.X}{p q pos1 pos:Pos}(hh:X.A.handled=none)(hg:Gl X "len")(hm:X.mg "len" =none)(hg2:Gl X "set")(hm2:X.mg "set" =none)(ha:PE X a (tE Pg cl E d x))
    (he:starEach [a] X.env=(false,eval a X.env)::starEach [] X.env:=by rfl):
    PE X (.Call (.Name "len" p) [.Call (.Name "set" q) [a] [] pos1] [] pos) (tE Pg cl E d (.pr .yH [x])):=by
 refine PE.of (qT W3 hg hm boot_len (aX (xj (W4 hh) hg2 hm2 rfl (aX ha bO he) (by decide) (by decide) he rfl) bO rfl) (by decide) (by decide) rfl rfl) fun σ H Q z=>?_;obtain⟨ρ,τ,h,n,s,rs,p⟩:=yJ (Zc (K:=X.K)) z;refine⟨ρ,τ,h,n,s,rs,p.mono fun a h ρ H _ _ ⟨w,e,g⟩=>⟨w,e,fun v rv=>?_⟩⟩;obtain⟨p',ns,rfl,q1,q2,q3⟩:=g v rv;exact⟨p',ns,rfl,q1,q2,fun l hl=>⟨l,_,rfl,aJ,q3 l hl⟩⟩
end
def G6(r:Addr)(lo hi:Int)(h:Heap):Prop:=∃ t u v,IsRange h r lo hi 1 t u v
def Cd(n:Nat)(lo:Int):List V:=(List.range n).map fun(k:Nat)=>V.int (lo+k)
def Ur{n:Nat}(h:n<=3000):n<sizeLine:=Nat.lt_of_le_of_lt h (by decide)
def RN:∀ {xs:List V} {us:List Value},xs.length=us.length->(∀(i:Nat) (x:V) (u:Value),xs[i]? =some x->us[i]? =some u->RelV x u)->Vals xs us
 | [],[],_,_=>.nil
 | [],_::_,e,_=>by simp at e
 | _::_,[],e,_=>by simp at e
 | x::xs,u::us,e,h=>.cons (h 0 x u rfl rfl) (RN (by simpa using e) fun i x u a b=>h (i+1) x u (by simpa using a) (by simpa using b))
section
variable{X:Cx}
def Us:oH X (.type "range") (fun xs H Q=>∃ i j,xs= [.int i,.int j]/\∀ l,H l=none->Q (.ref l) (upd H l (.ext (G6 l i j)))):=by
 intro pins s σ H xs us Q I r h;obtain⟨i,j,rfl,q⟩:=h;obtain⟨u1,u2,rfl,⟨t,rfl⟩,⟨t',rfl⟩⟩:=vals2 r;refine call_range_2 ?_;exact⟨.ref s.heap.objs.size,_,I.laid (t':=_) (fun b o e=>dJ _ e) (aG _) (show dg X.prog X.w _ _ _ (.ext (G6 s.heap.objs.size i j)) from ⟨⟨_,_,_,IsRange.new ..⟩,⟨_,IsRange.new ..⟩,fun h1 h2 ⟨t,u,v,e⟩ k=>⟨t,u,v,k _ e⟩⟩),rfl,q _ (I.hok.fresh (aG _))⟩
def Ut(hh:X.A.handled=none):oH X (.type "list") (fun xs H Q=>∃ p lo hi,xs= [.ref p]/\H p=some (.ext (G6 p lo hi))/\-1000<lo/\lo<1000/\-1000<hi/\hi<1000/\∀ l,H l=none->Q (.ref l) (upd H l (.lst (Cd (hi - lo).toNat lo)))):=by
 intro pins s σ H xs us Q I r h;obtain⟨p,lo,hi,rfl,he,h1,h2,h3,h4,q⟩:=h;obtain⟨u,rfl,rx⟩:=vals1 r;cases rx;obtain⟨⟨t,u,v,hr⟩,_⟩:=I.hok p _ he;refine call_list_range (n:=(hi - lo).toNat) hh hr (small_one (by omega) (by omega) (by omega) (by omega)) (by rw[rangeSize_one];split <;> omega) (by omega) fun h' tk acc c kp e it=>?_;refine⟨.ref s.heap.objs.size,_,I.laid (t':=tk) (fun b o e=>kp b o e) (aG _) (show dg X.prog X.w _ h' _ (.lst (Cd (hi - lo).toNat lo)) from ?_),rfl,q _ (I.hok.fresh (aG _))⟩;have hlen:(Cd (hi - lo).toNat lo).length=acc.toList.length:=by have:=it.1;simp[Cd];omega
 refine⟨?_,acc.toList,c,RN hlen fun i x u a b=>?_,by simpa using e⟩
 · refine Nat.le_of_lt (Ur ?_);simp[Cd];omega
 · rw[Array.getElem?_toList]at b;obtain⟨t,rfl⟩:=it.2 i u b
   have hi:i<(hi - lo).toNat:=by
    have:=(Array.getElem?_eq_some_iff.mp b).1;rw[it.1]at this;exact this
   simp[Cd,hi]at a;subst a;exact⟨t,by simp⟩
variable{Pg:List Fn}{cl:Cn}{E:XK}{d:Nat}
end
end Ev
namespace Ev
open PySem PySem.Spec PySem.SeqAt PyProof.Rows L2
section
variable{Pg:List Fn}{cl:Cn}{E:XK}{d:Nat}{X:Cx}{σ σ0:L2.St}{H:Hp}
def frm(n:Nat)(kv:List (Nat × W)):Sg:=kv.foldr (fun p τ=>setAt τ (some p.2) p.1) (List.replicate n none)
end
section
variable{P:Program}{w:World}{K:ao}{mg:Str->Option Value}{base:Heap}
def W6{i:Int}(h1: -(2 ^ 20)<i)(h2:i<2 ^ 20):L2.Sml i:=by
 unfold L2.Sml;exact a_ (show i.natAbs<2 ^ 20 by omega) (Nat.pow_le_pow_right (by decide) (by decide))
def below(n:Nat):List Int:=(List.range n).map Int.ofNat
end
section
variable{Pg:List Fn}{cl:Cn}{E:XK}{d:Nat}{X:Cx}{σ σ0:L2.St}{H:Hp}
def ends(n:Nat)(r:R A):Bool:=goes r fun τ _=>Nat.beq τ.length n&&(cU τ 0).isNone
def again(Pg:List Fn)(m d i:Nat)(tl:List S)(row:List Int)(τ:Sg)(h:Hs):R A:=evs Pg m d (.ss tl) (setAt τ (some (.ref h.n)) i) (h.push (.lst (row.map W.int)))
end
section
variable{Pg:List Fn}{cl:Cn}{E:XK}{d:Nat}{X:Cx}{σ σ0:L2.St}{H:Hp}
def post(i:Nat)(r:R A):Option (Nat × Option W × Option O):=R.rec (fun a h=>A.rec (fun _=>none) (fun _=>none) (fun _=>none) (fun f=>Fl.rec (fun τ=>some (len τ,cU τ i,h.get 0)) (fun _=>none) (fun _=>none) (fun _=>none) f) none a) (fun _ _ _=>none) none r
end
section
variable{ρ:List Addr}
abbrev KR(ρ:List Addr):List (W × W)->List (Key × V)->Prop:=Paired fun p q=>KW p.1 q.1/\RW ρ p.2 q.2
def M_{b:W}{v:V}(h:jj b=true)(r:RW ρ b v):∃ k,KW b k/\v=kV k:=by
 cases r with
 | int i=>exact⟨.inl i,.int i,rfl⟩
 | str c=>exact⟨.inr _,.str c,rfl⟩
 | _=>cases h
def W7{a b:W}{k l:Key}(ha:KW a k)(hb:KW b l):keq a b=decide (k=l):=by
 cases ha with
 | int i=>cases hb with
   | int j=>
     show ieq i j=_;rw[kO]
     by_cases z:i=j
     · rw[bH z,z];simp
     · rw[bM z,bM (fun q=>z (Sum.inl.inj q))]
   | str c=>show false=_;simp
 | str x=>cases hb with
   | int j=>show false=_;simp
   | str y=>
     show codes x y=_
     cases c:codes x y with
     | true=>rw[dh.mp c];simp
     | false=>
       refine(bM fun q=>?_).symm;have e:=vP (show nm x=nm y from Sum.inr.inj q);rw[dh.mpr e]at c;cases c
def zH{b:W}{k:Key}(hb:KW b k):∀ {kvs:List (W × W)} {gs:List (Key × V)},KR ρ kvs gs->(∀ w,bL kvs b=some w->∃ v,rM gs k=some v/\RW ρ w v)/\isS (bL kvs b)=(rM gs k).isSome
 | _,_,.nil=>⟨fun w e=>(by have e:(none:Option W)=some w:=e;cases e),rfl⟩
 | p::kvs,q::gs,.cons r t=>by
   obtain⟨ih1,ih2⟩:=zH hb t;have e:bL (p::kvs) b=ifB (keq p.1 b) (some p.2) (bL kvs b):=rfl;rw[e,W7 r.1 hb]
   by_cases z:q.1=k
   · rw[bH z,zp z];exact⟨fun w h=>(by have h:some p.2=some w:=h;cases h;exact⟨_,rfl,r.2⟩),rfl⟩
   · rw[bM z,zq z];exact⟨ih1,ih2⟩
def O9{b w:W}{k:Key}{v:V}(hb:KW b k)(rw':RW ρ w v):∀ {kvs:List (W × W)} {gs:List (Key × V)},KR ρ kvs gs->KR ρ (lY kvs b w) (gs.map fun kv=>if kv.1=k then(kv.1,v) else kv)
 | _,_,.nil=>.nil
 | p::kvs,q::gs,.cons r t=>by
   have e:lY (p::kvs) b w=ifB (keq p.1 b) (p.1,w) p::lY kvs b w:=rfl;rw[e,W7 r.1 hb,List.map_cons];refine .cons ?_ (O9 hb rw' t)
   by_cases z:q.1=k
   · rw[bH z,aB z];exact⟨r.1,rw'⟩
   · rw[bM z,aA z];exact r
def KR.snoc{p:W × W}{q:Key × V}(r:KW p.1 q.1/\RW ρ p.2 q.2):∀ {kvs:List (W × W)} {gs:List (Key × V)},KR ρ kvs gs->KR ρ (kvs ++ [p]) (gs ++ [q])
 | _,_,.nil=>.cons r .nil
 | _,_,.cons h t=>.cons h (KR.snoc r t)
def O_{b w:W}{k:Key}{v:V}(hb:KW b k)(rw':RW ρ w v){kvs:List (W × W)}{gs:List (Key × V)}(h:KR ρ kvs gs):KR ρ (cJ kvs b w) (putK gs k v):=by
 unfold cJ putK;rw[(zH hb h).2,Fe]
 cases (rM gs k).isSome with
 | true=>rw[aB rfl];exact O9 hb rw' h
 | false=>rw[aA (by simp),jM];exact KR.snoc ⟨hb,rw'⟩ h
def W8{cl:Cn}{E:XK}{H:Hp}{β:Type}{o:O}{f:List (W × W)->R β}{P:β->Hs->List Addr->Hp->Prop}(p:Post cl ρ H E (o.onD f) P):∃ xs,o= .dk xs/\Post cl ρ H E (f xs) P:=by
 cases o with
 | dk xs=>exact⟨xs,rfl,p⟩
 | _=>exact p.elim
end
section
variable{Pg:List Fn}{cl:Cn}{E:XK}{d:Nat}{X:Cx}{σ σ0:L2.St}{H:Hp}
def rDG:R2:=fun x y H Q=>∃ a v,x= .ref a/\zu H a y (some v)/\Q v H
def RP(hu:X.A.units+1<cLine):IxR X rDG:=by
 intro value slice pins s σ H x y v u Q I rx ry h hs;obtain⟨a,w,rfl,g,q⟩:=h;cases rx;exact tail_any (QZ I g) PySem.F.slot_dict_getitem.lookup (V7 hu I g ry fun w' s3 I3 rw'=>⟨w,H,I3,rw',q⟩) hs
def W9:Op2 cl .Og rDG:=fun E ρ h H w1 w2 v1 v2 Q s r1 r2 p=>by
 obtain⟨n,o,a,rfl,rfl,e1,g1,x1,p⟩:=oAt s r1 (show Post cl ρ H E (ofW (GQ h w1 w2)) (VP Q) from p)
 cases o with
 | dk kvs=>
   obtain⟨gs,kr,hH⟩:=x1;have p:Post cl ρ H E (ofW (ifB (jj w2) (Opt (bL kvs w2) fun w=>.ok w h) .no)) (VP Q):=p
   cases c:jj w2 with
   | false=>rw[c]at p;exact p.elim
   | true=>
     rw[c]at p;obtain⟨k,kw,rfl⟩:=M_ c r2;obtain⟨f,_⟩:=zH kw kr;have p:Post cl ρ H E (ofW (Opt (bL kvs w2) fun w=>.ok w h)) (VP Q):=p
     cases e:bL kvs w2 with
     | none=>rw[e]at p;exact p.elim
     | some w=>
       rw[e]at p;obtain⟨v,ev,rv⟩:=f w e
       exact⟨a,v,rfl,ev ▸ zu.k hH,Post.gw s p rv⟩
 | _=>exact p.elim
def RQ{a b:Expr}{x y:Ev.X}{pos:Pos}(hu:X.A.units+1<cLine)(ha:PE X a (tE Pg cl E d x))(hb:PE X b (tE Pg cl E d y))(hs:Dr b:=by exact fun _ _=>rfl):PE X (.Subscript a b pos) (tE Pg cl E d (.pr .Og [x,y])):=
 PE.of (Ds (RP hu) ha hb hs) fun _ _ _ q=>vR W9 q
def rDI(f:Bool->Bool):R2:=fun y x H Q=>∃ a o,x= .ref a/\zu H a y o/\Q (.bl (f o.isSome)) H
def adn(f:Bool->Bool){p:Pr}(hp:∀ ws h,dF p ws h=jy ws (YW f h)):Op2 cl p (rDI f):=fun E ρ h H w1 w2 v1 v2 Q s r1 r2 q=>by
 rw[hp]at q;obtain⟨n,o,a,rfl,rfl,e1,g1,x1,p⟩:=oAt s r2 (show Post cl ρ H E (ofW (YW f h w1 w2)) (VP Q) from q)
 cases o with
 | dk kvs=>
   obtain⟨gs,kr,hH⟩:=x1;have p:Post cl ρ H E (ofW (ifB (jj w1) (.yes (f (isS (bL kvs w1))) h) .no)) (VP Q):=p
   cases c:jj w1 with
   | false=>rw[c]at p;exact p.elim
   | true=>
     rw[c]at p;obtain⟨k,kw,rfl⟩:=M_ c r1;obtain⟨_,f2⟩:=zH kw kr;have p:Post cl ρ H E (ofW (.yes (f (isS (bL kvs w1))) h)) (VP Q):=p;rw[f2]at p
     exact⟨a,_,rfl,zu.k hH,Post.gw s p (.bl _)⟩
 | _=>exact p.elim
def aeJ:Op2 cl .din (rDI id):=adn id fun _ _=>rfl
def ado(hu:X.A.units+1<cLine):OpR X (compareOp .In) (rDI id):=by
 intro pins s σ H x y v u Q I rx ry h;obtain⟨a,o,rfl,g,q⟩:=h;cases ry;exact afx hu I g rx fun s3 I3=>⟨.bl o.isSome,H,I3,rfl,q⟩
def RT{pos:Pos}:PE X (.Dict [] [] pos) (tE Pg cl E d (.pr .Uc [])):=PE.of Yy fun σ H Q x=>by
 obtain⟨ρ,τ,h,n,s,rs,q⟩:=x.step;intro p hp;have q:Post cl ρ H E (ofW (.alloc h (.dk []))) (VP Q):=q;exact q.new s hp ⟨[],.nil,aJ⟩
def abn{o k v:Ev.X}{D:Ends}(x:tS Pg cl E d σ0 (.dput o k v) D σ H):Z5 (tE Pg cl E d o) (tE Pg cl E d k) (tE Pg cl E d v) D σ H:=by
 obtain⟨ρ,τ,h,n,s,rs,ag,q⟩:=x.step;refine ev.then s rs (show Post cl ρ H E ((evs Pg n d (.x v) τ h).bind fun r h=>r.toW fun w=>(evs Pg n d (.x o) τ h).bind fun r h=>r.toW fun a=>(evs Pg n d (.x k) τ h).bind fun r h=>r.toW fun b=>h.at a fun n o=>o.onD fun kvs=>ifB (jj b) (ifB (Nat.ble (len kvs) 1000000) (.ok (.fl (.nx τ)) (h.set n (.dk (cJ kvs b w)))) .no) .no) (SPo σ0 D) from q) fun a1 h1 ρ1 H1 b1 s1 p1=>?_;obtain⟨w,rfl,p2⟩:=b_ p1;refine⟨w,rfl,fun wv rwv=>?_⟩;refine ev.then s1 (rs.mono b1.1) p2 fun a2 h2 ρ2 H2 b2 s2 p3=>?_;obtain⟨a,rfl,p4⟩:=b_ p3;refine⟨a,rfl,fun av rav=>?_⟩;refine ev.then s2 (rs.mono (b1.1.trans b2.1)) p4 fun a3 h3 ρ3 H3 b3 s3 p5=>?_;obtain⟨b,rfl,p6⟩:=b_ p5;refine⟨b,rfl,fun bv rbv=>?_⟩;obtain⟨m,ob,ad,rfl,rfl,e1,g1,x1,p7⟩:=at_of s3 (rav.mono b3.1) p6;obtain⟨kvs,rfl,p8⟩:=W8 p7;obtain⟨ck,p9⟩:=kW p8;obtain⟨cl1,p10⟩:=kW p9;obtain⟨gs,kr,hH⟩:=x1;obtain⟨key,kw,rfl⟩:=M_ ck rbv;have hl:kvs.length=gs.length:=Paired.length kr
 have hlt:gs.length<sizeLine:=by
  rw[ble_eq,len_eq]at cl1;have:=dw cl1;rw[rm];omega
 have kr2:=O_ kw ((rwv.mono b2.1).mono b3.1) kr;refine⟨ad,_,rfl,N8.k hH hlt,?_⟩;obtain⟨f,ef,qf⟩:=p10 ρ3 (upd H3 ad (.dK (putK gs key wv))) (Bt.put e1) (s3.put e1 ⟨_,kr2,aJ⟩);cases ef;exact qf σ (rs.mono (b1.1.trans (b2.1.trans b3.1))) ag
def Jk{o i value:Expr}{xo xi xv:Ev.X}{pos pos':Pos}(hu:X.A.units+1<cLine)(ho:PE X o (tE Pg cl E d xo))(hi:PE X i (tE Pg cl E d xi))(hv:PE X value (tE Pg cl E d xv))(hs:swapsWith value (some (.Subscript o i pos')) pos.line X.env=pure false:=by rfl):
    PS X (.Assign [.Subscript o i pos'] value pos) (tS Pg cl E d σ0 (.dput xo xi xv)):=PS.of (aaR hu ho hi hv hs) fun _ _ _ q=>abn q
end
end Ev
namespace L2
def bZ.u1{k:Nat}{A:PySem.Around}(r:bZ k A):A.units+1<PySem.cLine:=by have:=r.un;omega
end L2
namespace Ev
open PySem PySem.Spec PySem.SeqAt PyProof.Rows L2
section
variable{Pg:List Fn}{cl:Cn}{E:XK}{d:Nat}{X:Cx}{σ0:L2.St}
def RV:QSs X [] (tSs Pg cl E d σ0 []):=⟨az⟩
def vX{st:Stmt}{rest:List Stmt}{a:S}{as:List S}(h1:QS X st (tS Pg cl E d σ0 a))(h2:QSs X rest (tSs Pg cl E d σ0 as)):QSs X (st::rest) (tSs Pg cl E d σ0 (a::as)):=⟨aa h1.h h2.h⟩
def adp{P:Program}{w:World}{K:ao}{mg:Str->Option Value}{base:Heap}{k i:Nat}{x qual:Str}{st:Stmt}{f:Addr}{fd:aR}{N ps:List Str}{b:List S}(F:Fun K x qual st f fd)(Sc:aQ N ps (ak st))(hp:Pg[i]? =some (.mk ps.length N.length b))
    (hbody:∀(σ0:L2.St) (cdv:Value) (A:Around) (outer:List Env) (s:aj) (H:Hp) (E:XK),bZ k (A.deeper (envOfC qual (ak st) s.heap.objs.size f cdv))->Passes (CXE P w) (ie (CXE P w) P w K mg base N qual (ak st) f cdv A outer s H E) E->
      QSs (ie (CXE P w) P w K mg base N qual (ak st) f cdv A outer s H E) (cG st) (tSs Pg cl E d σ0 b)):bU P w K mg base (CXE P w) (k+1) f fd ps (spF Pg cl (d+1) i):=
 cP F Sc hp fun σ0 cdv A outer s H E hr hq=>(hbody σ0 cdv A outer s H E hr hq).h
end
section
def heapOf(os:List O):Hs:=os.foldl (fun h o=>h.push o) (.mk 0 .lf)
def Ub(n:Nat)(ns:List Nat):Bool:=List.rec true (fun x _ r=>ifB (Nat.beq x n) false r) ns
end
section
variable{Pg:List Fn}{cl:Cn}{E:XK}{d:Nat}{X:Cx}{σ σ0:L2.St}{H:Hp}{ρ:List Addr}{h:Hs}{m:List Nat}
def Et(os:List O)(o:O):heapOf (os ++ [o])=(heapOf os).push o:=by unfold heapOf;rw[List.foldl_append];rfl
def tV:∀(os:List O),(heapOf os).n=os.length/\∀ k,(heapOf os).get k=os[k]?:=by
 intro os;generalize e:os.length=n
 induction n generalizing os with
 | zero=>
   have:os= []:=List.length_eq_zero_iff.mp e;subst this
   exact⟨rfl,fun k=>by cases k <;> rfl⟩
 | succ n ih=>
   obtain⟨xs,x,rfl⟩:∃ xs x,os=xs ++ [x]:=⟨os.dropLast,os.getLast (by intro z;rw[z]at e;cases e),(List.dropLast_concat_getLast _).symm⟩;have l:xs.length=n:=by simpa using e
   obtain⟨h1,h2⟩:=ih xs l;rw[Et];refine⟨by rw[Hs.mF,h1],fun k=>?_⟩;rw[Hs.oX,h1]
   by_cases z:k=n
   · subst z;rw[aB rfl,lJ (by omega),l,Nat.sub_self];rfl
   · rw[aA z,h2]
     by_cases q:k<n
     · rw[pG (by omega)]
     · rw[List.getElem?_eq_none (by omega),List.getElem?_eq_none (by rw[ji,l];simp;omega)]
structure CS (cl:Cn)(n i:Nat)(kv:List (Nat × W))(os:List O)(r:Addr)(row:List V)(σ:L2.St)(H:Hp):Prop where
 len:σ.length=n
 at_:σ[i]? =some (some (.ref r))
 row:H r=some (.lst row)
 sim:∃ ρ,Sim cl ρ (heapOf os) H/\RS ρ (frm n kv) σ/\r ∉ ρ
end
section
variable{Pg:List Fn}{cl:Cn}{E:XK}{d:Nat}{X:Cx}{H H' H'':Hp}{ρ:List Addr}
def dG(cl:Cn)(H H':Hp):Prop:=(∀ b u,H b=some u->((cl.on=true->b ≠ cl.P)->H' b=some u)/\∃ u',H' b=some u')/\(Tb cl H->Tb cl H')
def dG.trans(a:dG cl H H')(b:dG cl H' H''):dG cl H H'':=⟨fun c u e=>by
 obtain⟨h1,u',h2⟩:=a.1 c u e;obtain⟨h3,h4⟩:=b.1 c u' h2;refine⟨fun n=>?_,h4⟩;have:=h1 n;rw[h2]at this;cases this
 exact h3 n,fun t=>b.2 (a.2 t)⟩
def dG.of(s:gn H H'):dG cl H H':=⟨fun b u e=>⟨fun _=>s b u e,u,s b u e⟩,fun t on=>by
 obtain⟨ps,h1,h2,h3⟩:=t on;refine⟨ps,s _ _ h1,h2,fun pos cv e=>?_⟩;obtain⟨c',e1,e2⟩:=h3 pos cv e
 exact⟨c',e1,s _ _ e2⟩⟩
def dG.at(s:dG cl H H')(t:Tb cl H){b:Addr}{u:HO}(n:∀ ps,u ≠ .tbl ps)(e:H b=some u):H' b=some u:=(s.1 b u e).1 (RM t e n)
def dG.free(s:dG cl H H'){b:Addr}(e:H' b=none):H b=none:=by
 cases z:H b with
 | none=>rfl
 | some u=>
   obtain⟨_,u',q⟩:=s.1 b u z;rw[e]at q;cases q
def RX{os:List O}(t:Tb cl H)(l:ρ.length=os.length)(nd:ρ.Nodup)(h:∀(k:Nat) (a:Addr) (o:O),ρ[k]? =some a->os[k]? =some o->OA cl ρ H a o):Sim cl ρ (heapOf os) H:=by
 obtain⟨g1,g2⟩:=tV os;refine⟨by rw[g1,l],nd,fun k a e=>?_,t⟩;have hk:k<os.length:=by rw[<- l];exact(bB e).1
 exact⟨os[k],by rw[g2];exact gY hk,h k a _ e (gY hk)⟩
def uW(os:List O)(h:Hs):Bool:=(List.range os.length).all fun k=>decide (h.get k=os[k]?)
def Zd{os:List O}{h:Hs}(e:uW os h=true){k:Nat}(hk:k<os.length):h.get k=os[k]?:=dw (List.all_eq_true.mp e k (List.mem_range.mpr hk))
def Ze{os:List O}{h':Hs}{ρ':List Addr}(s:Sim cl ρ (heapOf os) H)(b:Bt cl ρ H ρ' H')(s':Sim cl ρ' h' H')(k:uW os h'=true)(flat:∀ a ∈ ρ,∃ u,H a=some u/\∀ ps,u ≠ .tbl ps)
    (same:∀(j:Nat) (a:Addr) (o:O),ρ[j]? =some a->os[j]? =some o->OA cl ρ' H' a o->H' a=H a):dG cl H H':=by
 obtain⟨g1,_⟩:=tV os;refine⟨fun c u e=>?_,fun _=>s'.tb⟩
 by_cases z:c ∈ ρ
 · obtain⟨j,hj⟩:=List.getElem?_of_mem z;have hjl:j<os.length:=by rw[<- g1,<- s.len];exact(bB hj).1
   have x:=s'.at (iu b.1 hj) ((Zd k hjl).trans (gY hjl));have q:=same j c _ hj (gY hjl) x;exact⟨fun _=>q.trans e,u,q.trans e⟩
 · obtain⟨_,h2,h3⟩:=b.2 c u e z;exact⟨h2,h3⟩
end
section
variable{Pg:List Fn}{cl:Cn}{E:XK}{d:Nat}{X:Cx}{H H' H'':Hp}{ρ:List Addr}
def PsA(H:Hp)(a:Addr)(bs:List Addr)(ps:List (Int × Int)):Prop:=H a=some (.lst (bs.map V.ref))/\Paired (fun b (p:Int × Int)=>H b=some (.tup [.int p.1,.int p.2])) bs ps
def psO(ps:List (Int × Int)):List O:=.lst ((List.range ps.length).map fun k=>.ref (k+1))::ps.map fun p=>.tup [.int p.1,.int p.2]
def Paired.Jl{α β:Type}{R:α->β->Prop}:∀ {xs:List α} {ys:List β} {i:Nat} {a:α} {b:β},Paired R xs ys->xs[i]? =some a->ys[i]? =some b->R a b
 | _,_,_,_,_,.nil,e,_=>by simp at e
 | _,_,0,_,_,.cons r _,e,e'=>by simp at e e';subst e;subst e';exact r
 | _,_,i+1,a,b,.cons _ t,e,e'=>Paired.Jl (i:=i) (a:=a) (b:=b) t (by simpa using e) (by simpa using e')
def PsA.nd{a:Addr}{bs:List Addr}{ps:List (Int × Int)}(h:PsA H a bs ps)(n:ps.Nodup):(a::bs).Nodup:=by
 obtain⟨h1,h2⟩:=h;rw[List.nodup_cons]
 constructor
 · intro m;obtain⟨i,hi⟩:=List.getElem?_of_mem m;have hl:i<ps.length:=by rw[<- h2.length];exact(bB hi).1
   have:=Paired.Jl h2 hi (gY hl);rw[h1]at this;cases this
 · clear h1
   induction h2 with
   | nil=>exact List.nodup_nil
   | @cons b p bs ps r t ih=>
     rw[List.nodup_cons]at n ⊢;refine⟨fun m=>n.1 ?_,ih n.2⟩;obtain⟨i,hi⟩:=List.getElem?_of_mem m;have hl:i<ps.length:=by rw[<- t.length];exact(bB hi).1
     have q:=Paired.Jl t hi (gY hl);rw[r]at q
     have:p=ps[i]:=by
      injection q with q;injection q with q;injection q with q1 q2;injection q1 with q1;injection q2 with q2;injection q2 with q2;exact Prod.ext q1 q2
     rw[this];exact List.getElem_mem hl
def Pa(ρ:List Addr):∀(bs:List Addr) (k:Nat),(∀ i b,bs[i]? =some b->ρ[k+i]? =some b)->RWs ρ ((List.range' k bs.length).map W.ref) (bs.map V.ref)
 | [],_,_=>.nil
 | b::bs,k,h=>.cons (.ref (by simpa using h 0 b rfl)) (Pa ρ bs (k+1) fun i c e=>by
    have:=h (i+1) c (by simpa using e)
    rw[<- this];congr 1;omega)
def PsA.sim{a:Addr}{bs:List Addr}{ps:List (Int × Int)}(h:PsA H a bs ps)(n:ps.Nodup)(t:Tb cl H):Sim cl (a::bs) (heapOf (psO ps)) H:=by
 refine RX t (by simp[psO,h.2.length]) (h.nd n) fun k c o hk ho=>?_
 cases k with
 | zero=>
   simp at hk;subst hk;simp[psO]at ho;subst ho;refine⟨_,?_,h.1⟩;have:=Pa (a::bs) bs 1 fun i b e=>by rw[Nat.add_comm];simpa using e
   rw[h.2.length]at this;rw[List.range'_eq_map_range,List.map_map]at this
   simpa [Function.comp_def,Nat.add_comm] using this
 | succ k=>
   have hk':bs[k]? =some c:=by simpa using hk
   have ho':(ps.map fun p=>O.tup [.int p.1,.int p.2])[k]? =some o:=by simpa [psO] using ho
   rw[eN]at ho'
   cases e:ps[k]? with
   | none=>rw[e]at ho';cases ho'
   | some p=>
     rw[e]at ho';cases gH ho';have w1:=Paired.Jl h.2 hk' e;exact⟨_,.cons (.int _) (.cons (.int _) .nil),w1⟩
def PsA.call{a:Addr}{bs:List Addr}{ps:List (Int × Int)}(h:PsA H a bs ps)(n:ps.Nodup)(t:Tb cl H){f k:Nat}{m:Int}{r:W}{h':Hs}{Q:VK}
    (e:evs Pg k d (.call f [.int m,.ref 0]) [] (heapOf (psO ps))= .ok (.w r) h') (kq:uW (psO ps) h'=true)
    (q:∀ ρ' H' v,(a::bs) <+:ρ'->(∀ x ∈ ρ',x ∉ a::bs->H x=none)->Sim cl ρ' h' H'->dG cl H H'->RW ρ' r v->Q v H'):spF Pg cl d f [.int m,.ref a] H Q E:=by
 have s:=h.sim n t;refine⟨a::bs,[.int m,.ref 0],heapOf (psO ps),k,s,.cons (.int m) (.cons (.ref rfl) .nil),?_⟩;rw[e];intro ρ' H' b s';refine⟨r,rfl,fun v hv=>q ρ' H' v b.1 (fun x hx hn=>?_) s' ?_ hv⟩
 · cases z:H x with
   | none=>rfl
   | some u=>exact((b.2 x u z hn).1 hx).elim
 · refine Ze s b s' kq (fun c hc=>?_) fun j c o hj ho x=>?_
   · rcases List.mem_cons.mp hc with rfl | m
     · exact⟨_,h.1,fun _ z=>by cases z⟩
     · obtain⟨i,hi⟩:=List.getElem?_of_mem m;have hl:i<ps.length:=by rw[<- h.2.length];exact(bB hi).1
       have w1:=Paired.Jl h.2 hi (gY hl);exact⟨_,w1,fun _ z=>by cases z⟩
   · have y:=s.at hj ((tV (psO ps)).2 j |>.trans ho)
     have up:∀ xs vs,RWs (a::bs) xs vs->∀ vs',RWs ρ' xs vs'->vs=vs':=fun xs vs u=>by
      induction u with
      | nil=>intro vs' u';cases u';rfl
      | cons r1 _ ih=>
        intro vs' u'
        cases u' with
        | cons r2 t2=>
          rw[ih _ t2];congr 1
          cases r1 <;> cases r2 <;> first | rfl | skip
          rename_i e1 _ e2;rw[iu b.1 e1]at e2;rw[gH e2]
     have:(∃ xs,o= .tup xs)\/∃ xs,o= .lst xs:=by
      cases j with
      | zero=>simp[psO]at ho;exact .inr ⟨_,ho.symm⟩
      | succ j=>
        have ho':(ps.map fun p=>O.tup [.int p.1,.int p.2])[j]? =some o:=by simpa [psO] using ho
        rw[eN]at ho'
        cases e:ps[j]? with
        | none=>rw[e]at ho';cases ho'
        | some p=>rw[e]at ho';cases gH ho';exact .inl ⟨_,rfl⟩
     rcases this with ⟨xs,rfl⟩ | ⟨xs,rfl⟩
     · obtain⟨v1,u1,w1⟩:=y;obtain⟨v2,u2,w2⟩:=x;rw[w1,w2,up _ _ u1 _ u2]
     · obtain⟨v1,u1,w1⟩:=y;obtain⟨v2,u2,w2⟩:=x;rw[w1,w2,up _ _ u1 _ u2]
end
def aU:Nat->List Int->List (List (Int × Int))
 | _,[]=>[[]]
 | 0,_::_=>[]
 | n+1,x::t=>t.flatMap fun p=>(aU n (t.filter fun y=> !decide (y=p))).map fun rest=>(x,p)::rest
def Lp(H₀ H:Hp)(a:Addr)(ps:List (Int × Int)):Prop:=∃ bs:List Addr,PsA H a bs ps/\∀ b ∈ bs,H₀ b=none
def Lp.keep{H₀ H H':Hp}{a:Addr}{ps:List (Int × Int)}(h:Lp H₀ H a ps)(ha:∀ u,H a=some u->H' a=some u)(ht:∀ b xs,H b=some (.tup xs)->H' b=some (.tup xs)):Lp H₀ H' a ps:=by
 obtain⟨bs,⟨e,r⟩,n⟩:=h;exact⟨bs,⟨ha _ e,Paired.pZ r fun _ _ q=>ht _ _ q⟩,n⟩
def Lp.same{H₀ H H':Hp}{a:Addr}{ps:List (Int × Int)}(h:Lp H₀ H a ps)(s:gn H H'):Lp H₀ H' a ps:=h.keep (fun _ e=>s _ _ e) fun _ _ e=>s _ _ e
def Lp.old{H₀ H₁ H:Hp}{a:Addr}{ps:List (Int × Int)}(h:Lp H₁ H a ps)(s:∀ b,H₁ b=none->H₀ b=none):Lp H₀ H a ps:=by
 obtain⟨bs,p,n⟩:=h;exact⟨bs,p,fun b hb=>s b (n b hb)⟩
def gn.free{H H':Hp}(s:gn H H')(b:Addr)(e:H' b=none):H b=none:=by
 cases z:H b with
 | none=>rfl
 | some u=>rw[s b u z]at e;cases e
def Lp.put{H₀ H:Hp}{a F:Addr}{o:HO}{ps xs}(h:Lp H₀ H a ps)(ne:a ≠ F)(hF:H F=some (.lst xs)):Lp H₀ (upd H F o) a ps:=h.keep (fun _ e=>by rw[aN ne];exact e) fun b ys e=>by rw[aN (ZS e hF (fun z=>by cases z))];exact e
abbrev LAs(H₀ H:Hp):List Addr->List (List (Int × Int))->Prop:=Paired (Lp H₀ H)
def Paired.Uu{α β:Type}{R:α->β->Prop}{a:α}{b:β}(r:R a b):∀ {xs:List α} {ys:List β},Paired R xs ys->Paired R (xs ++ [a]) (ys ++ [b])
 | _,_,.nil=>.cons r .nil
 | _,_,.cons h t=>.cons h (Paired.Uu r t)
def Paired.FN{α β:Type}{R:α->β->Prop}:∀ {xs:List α} {ys:List β} {i:Nat} {a:α},Paired R xs ys->xs[i]? =some a->∃ b,ys[i]? =some b/\R a b
 | _,_,_,_,.nil,e=>by simp at e
 | _,_,0,_,.cons r _,e=>by simp at e;subst e;exact⟨_,rfl,r⟩
 | _,_,i+1,a,.cons _ t,e=>by
   obtain⟨b,h1,h2⟩:=Paired.FN (i:=i) (a:=a) t (by simpa using e);exact⟨b,by simpa using h1,h2⟩
def G7(n:Nat):Sp:=fun vs H Q _=>∃(a:Addr) (ns:List Int),vs= [.ref a]/\H a=some (.lst (ns.map V.int))/\ns.length<n/\ns.length<=20/\(aU n ns).length<=100000/\
 ∀(r:Addr) (as:List Addr) (H':Hp),H r=none->gn H H'->H' r=some (.lst (as.map V.ref))->LAs H H' as (aU n ns)->(∀ x ∈ as,H x=none/\x ≠ r)->Q (.ref r) H'
def adq{x:Int}{t:List Int}{n:Nat}{p:Int}(h:p ∈ t):(aU n (t.filter fun y=> !decide (y=p))).length<=(aU (n+1) (x::t)).length:=by
 show _<=(t.flatMap fun p=>(aU n (t.filter fun y=> !decide (y=p))).map fun rest=>(x,p)::rest).length;generalize ht:t=s at h ⊢
 have:∀ l:List Int,p ∈ l->(aU n (s.filter fun y=> !decide (y=p))).length<=(l.flatMap fun p=>(aU n (s.filter fun y=> !decide (y=p))).map fun rest=>(x,p)::rest).length:=by
  intro l
  induction l with
  | nil=>intro h;simp at h
  | cons q l ih=>
    intro h;rw[List.flatMap_cons,ji,bK]
    rcases List.mem_cons.mp h with e | e
    · rw[e];omega
    · have:=ih e;omega
 exact this s h
def W_{α β:Type}(f:α->List β)(l:List α)(i:Nat):((l.take i).flatMap f).length<=(l.flatMap f).length:=by
 have:l.flatMap f=(l.take i).flatMap f++(l.drop i).flatMap f:=by rw[<- List.flatMap_append,List.take_append_drop]
 rw[this,ji];omega
def LAs.put{H₀ H:Hp}{F:Addr}{o:HO}{xs:List V}(hF:H F=some (.lst xs)):∀ {as:List Addr} {pss:List (List (Int × Int))},LAs H₀ H as pss->(∀ z ∈ as,z ≠ F)->LAs H₀ (upd H F o) as pss
 | _,_,.nil,_=>.nil
 | a::as,_::_,.cons r t,h=>.cons (r.put (h a (by simp)) hF) (LAs.put hF t fun z hz=>h z (iI _ hz))
def LAs.same{H₀ H H':Hp}{as:List Addr}{pss:List (List (Int × Int))}(h:LAs H₀ H as pss)(s:gn H H'):LAs H₀ H' as pss:=Paired.pZ h fun _ _ r=>r.same s
def LAs.old{H₀ H₁ H:Hp}{as:List Addr}{pss:List (List (Int × Int))}(h:LAs H₁ H as pss)(s:∀ b,H₁ b=none->H₀ b=none):LAs H₀ H as pss:=Paired.pZ h fun _ _ r=>r.old s
def pairs_len:∀ {n:Nat} {ns:List Int} {ps:List (Int × Int)},ps ∈ aU n ns->ps.length<=ns.length
 | _,[],ps,h=>by
   have:ps= []:=by simpa [aU] using h
   rw[this];simp
 | 0,_::_,ps,h=>by simp[aU]at h
 | n+1,x::t,ps,h=>by
   obtain⟨p,hp,h⟩:=List.mem_flatMap.mp (show ps ∈ t.flatMap fun p=>(aU n (t.filter fun y=> !decide (y=p))).map fun rest=>(x,p)::rest from h);obtain⟨r,hr,rfl⟩:=List.mem_map.mp h;have h1:=pairs_len hr;have h2:=List.length_filter_le (fun y=> !decide (y=p)) t;simp only[gG];omega
def Lp.G8{cl:Cn}{H₀ H H':Hp}{a:Addr}{ps:List (Int × Int)}(h:Lp H₀ H a ps)(s:dG cl H H')(t:Tb cl H):Lp H₀ H' a ps:=by
 obtain⟨bs,⟨e,r⟩,n⟩:=h;exact⟨bs,⟨s.at t (fun _ z=>by cases z) e,Paired.pZ r fun _ _ q=>s.at t (fun _ z=>by cases z) q⟩,n⟩
def LAs.G8{cl:Cn}{H₀ H H':Hp}{as:List Addr}{pss:List (List (Int × Int))}(h:LAs H₀ H as pss)(s:dG cl H H')(t:Tb cl H):LAs H₀ H' as pss:=Paired.pZ h fun _ _ r=>r.G8 s t
def dG.put{cl:Cn}{H H':Hp}{D:Addr}{xs ys:List V}(s:dG cl H H')(t:Tb cl H')(n:H D=none)(e:H' D=some (.lst xs)):dG cl H (upd H' D (.lst ys)):=⟨fun b u q=>by
 have nb:b ≠ D:=cu q n
 rw[aN nb];exact s.1 b u q,fun _ on=>by
 obtain⟨ps,h1,h2,h3⟩:=t on;refine⟨ps,by rw[aN (fun z=>by rw[z,e]at h1;cases h1)];exact h1,h2,fun pos cv q=>?_⟩;obtain⟨c',e1,e2⟩:=h3 pos cv q
 exact⟨c',e1,by rw[aN (fun z=>by rw[z,e]at e2;cases e2)];exact e2⟩⟩
abbrev Jm:=Nat->Option (List (Int × Int) × List Int)
def Jo(cl:Cn)(tbl:Jm):Sp:=fun vs H Q _=>∃ m ps adds,vs= [.int (m:Nat)]/\tbl m=some (ps,adds)/\Tb cl H/\
 ∀(r a b:Addr) (bs:List Addr) (H':Hp),(a::bs ++ [b,r]).Nodup->(∀ x ∈ a::bs ++ [b,r],H x=none)->dG cl H H'->H' r=some (.tup [.ref a,.ref b])->PsA H' a bs ps->H' b=some (.lst (adds.map V.int))->Q (.ref r) H'
def plO(n:Nat)(ps:List (Int × Int))(adds:List Int):List O:=(.lst ((List.range' (n+1) ps.length).map W.ref)::ps.map fun p=>.tup [.int p.1,.int p.2]) ++ [.lst (adds.map W.int),.tup [.ref n,.ref (n+1+ps.length)]]
def Uv:Jm
 | 7=>some ([(1,3),(2,6),(4,5)],[2,4,1])
 | 9=>some ([(1,2),(3,7),(4,6),(5,8)],[5,4,2,7])
 | 11=>some ([(1,2),(3,6),(4,8),(5,10),(7,9)],[3,9,1,4,5])
 | _=>none
def vY(h:Hs)(os:List O):Hs:=os.foldl (fun h o=>h.push o) h
def Eu:∀(os:List O) (h:Hs),(vY h os).n=h.n+os.length/\∀ k,(vY h os).get k=if k<h.n then h.get k else if k<h.n+os.length then os[k - h.n]? else h.get k
 | [],h=>⟨rfl,fun k=>by
   show h.get k=_
   by_cases c:k<h.n
   · rw[aB c]
   · rw[aA c,aA (by simpa using c)]⟩
 | o::os,h=>by
   obtain⟨g1,g2⟩:=Eu os (h.push o);have e:vY h (o::os)=vY (h.push o) os:=rfl;rw[Hs.mF]at g1 g2;rw[e];refine⟨by rw[g1,gG];omega,fun k=>?_⟩;rw[g2 k,Hs.oX]
   by_cases c:k<h.n
   · rw[aB (show k<h.n+1 by omega),aA (show ¬ k=h.n by omega),aB c]
   · rw[aA c]
     by_cases c2:k=h.n
     · subst c2;rw[aB (Nat.lt_succ_self _),aB rfl,aB (by rw[gG];omega),Nat.sub_self];rfl
     · rw[aA (show ¬ k<h.n+1 by omega),aA c2,gG]
       by_cases c3:k<h.n+1+os.length
       · rw[aB c3,aB (show k<h.n+(os.length+1) by omega),show k - h.n=(k - (h.n+1))+1 by omega];simp
       · rw[aA c3,aA (show ¬ k<h.n+(os.length+1) by omega)]
def Pb{ρ:List Addr}:∀(xs:List Int),RWs ρ (xs.map W.int) (xs.map V.int)
 | []=>.nil
 | _::xs=>.cons (.int _) (Pb xs)
def pPl(tbl:Jm)(h:Hs)(w:W):R W:=w.onI fun i=>Int.rec (fun m=>Opt (tbl m) fun t=>.ok (.ref (h.n+t.1.length+2)) (vY h (plO h.n t.1 t.2))) (fun _=>.no) i
def Pr.plan(tbl:Jm):Pr:=⟨fun ws h=>lK ws (pPl tbl h)⟩
variable{Pg:List Fn}{cl:Cn}{E:XK}{d:Nat}{X:Cx}
def adt{tbl:Jm}:OpN cl (.plan tbl) (fun vs H Q=>Jo cl tbl vs H Q E0):=fun E ρ h H ws vs Q s r p=>by
 obtain⟨w,v,rfl,rfl,r1,p⟩:=G3 r (show Post cl ρ H E (ofW (lK ws (pPl tbl h))) (VP Q) from p);obtain⟨i,rfl,p⟩:=oI p;cases r1
 cases i with
 | negSucc _=>exact p.elim
 | ofNat m=>
   obtain⟨⟨ps,adds⟩,e,p⟩:=ux (show Post cl ρ H E (ofW (Opt (tbl m) fun t=>.ok (.ref (h.n+t.1.length+2)) (vY h (plO h.n t.1 t.2)))) (VP Q) from p);refine⟨m,ps,adds,rfl,e,s.tb,fun r a b bs H' nd fr sm hr pa hb=>?_⟩;have bl:bs.length=ps.length:=pa.2.length;obtain⟨g1,g2⟩:=Eu (plO h.n ps adds) h;have ol:(plO h.n ps adds).length=ps.length+3:=by simp[plO]
   have sl:=s.len
   have gN:∀ k,(ρ++(a::bs ++ [b,r]))[h.n+k]? =(a::bs ++ [b,r])[k]?:=fun k=>by
    rw[lJ (by omega)];congr 1;omega
   have B:Bt cl ρ H (ρ++(a::bs ++ [b,r])) H':=⟨kE _ _,fun c u q n=>⟨fun z=>(List.mem_append.mp z).elim n fun z=>by
    exact aK q (by rw[fr c z];intro y;cases y),sm.1 c u q⟩⟩
   have S:Sim cl (ρ++(a::bs ++ [b,r])) (vY h (plO h.n ps adds)) H':=by
    refine⟨?_,?_,fun k c hk=>?_,sm.2 s.tb⟩
    · rw[g1,ol,ji,sl];simp[bl]
    · refine List.nodup_append.mpr ⟨s.nd,nd,fun c hc e he z=>?_⟩;subst z;obtain⟨j,hj⟩:=List.getElem?_of_mem hc;obtain⟨o,_,x⟩:=s.obj j c hj;obtain⟨u,hu⟩:=x.som;rw[fr c he]at hu;cases hu
    · by_cases c1:k<h.n
      · rw[pG (by omega)]at hk;obtain⟨o,ho,x⟩:=s.obj k c hk;refine⟨o,by rw[g2,aB c1];exact ho,x.keep (kE _ _) ?_⟩;obtain⟨u,hu⟩:=x.som
        have np:cl.on=true->c ≠ cl.P:=fun on z=>by
         obtain⟨ps',h1,_⟩:=s.tb on;have y:=x.pl;rw[z,h1]at y;exact y.elim
        rw[hu];exact(sm.1 c u hu).1 np
      · obtain⟨j,rfl⟩:∃ j,k=h.n+j:=⟨k - h.n,by omega⟩;rw[gN]at hk
        have hj:j<ps.length+3:=by
         have:=(bB hk).1;simp[bl]at this;omega
        rw[g2,aA c1,aB (by omega),Nat.add_sub_cancel_left]
        cases j with
        | zero=>
          have:a=c:=by simpa using hk
          subst this;refine⟨_,rfl,bs.map V.ref,?_,pa.1⟩
          have:=Pa (ρ++(a::bs ++ [b,r])) bs (h.n+1) fun i b' e=>by
           rw[show h.n+1+i=h.n+(i+1) by omega,gN,List.cons_append,List.getElem?_cons_succ,pG (bB e).1];exact e
          rw[bl]at this
          exact this
        | succ j=>
          rw[List.cons_append,List.getElem?_cons_succ]at hk;have e0:(plO h.n ps adds)[j+1]? =((ps.map fun p=>O.tup [.int p.1,.int p.2]) ++ [.lst (adds.map W.int),.tup [.ref h.n,.ref (h.n+1+ps.length)]])[j]?:=rfl;rw[e0]
          by_cases c2:j<ps.length
          · rw[pG (by omega)]at hk;rw[pG (by simpa using c2)];have q:=Paired.Jl pa.2 hk (gY c2);refine⟨.tup [.int ps[j].1,.int ps[j].2],by simp[c2],_,.cons (.int _) (.cons (.int _) .nil),q⟩
          · rw[lJ (by omega),bl]at hk;rw[lJ (by simpa using c2),bK]
            obtain hz | hz:j - ps.length=0\/j - ps.length=1:=by omega
            · rw[hz]at hk ⊢;have:b=c:=by simpa using hk
              subst this;exact⟨_,rfl,adds.map V.int,Pb adds,hb⟩
            · rw[hz]at hk ⊢;have:r=c:=by simpa using hk
              subst this;refine⟨_,rfl,_,.cons (.ref ?_) (.cons (.ref ?_) .nil),hr⟩
              · rw[<- Nat.add_zero h.n,gN];rfl
              · rw[show h.n+1+ps.length=h.n+(ps.length+1) by omega,gN,List.cons_append,List.getElem?_cons_succ,lJ (by omega),bl,Nat.sub_self];rfl
   obtain⟨w,e2,q⟩:=p _ _ B S;cases e2;refine q _ (.ref ?_);show(ρ++(a::bs ++ [b,r]))[h.n+ps.length+2]? =some r;rw[show h.n+ps.length+2=h.n+(ps.length+1+1) by omega,gN,List.cons_append,List.getElem?_cons_succ,lJ (by omega),bl,show ps.length+1 - ps.length=1 by omega];rfl
def abo{k:Nat}{fa:Addr}{fd:aR}{ps:List Str}{x:Str}{e:Expr}{es:List Expr}{y:Ev.X}{ys:List Ev.X}{p pos:Pos}{tbl:Jm}(F:bU X.prog X.w X.K X.mg X.base CX0 k fa fd ps (Jo cl tbl))(hr:bZ k X.A)(hg:Gl X x)(hm:X.mg x=some (.ref fa))(hk:PySem.W.keepIn X.K (.ref fa)=true)(hb:Binds X.K fd ps [])
    (ha:PA X (e::es) (tA Pg cl E d (y::ys))) (hdb:(x==("__debug__":Str))=false:=by decide) (he:starEach (e::es) X.env=(false,eval e X.env)::starEach es X.env:=by rfl) (hpl:(backTo pos (starEach es X.env)).any (·.1)=false:=by rfl):
    PE X (.Call (.Name x p) (e::es) [] pos) (tE Pg cl E d (.pr (.plan tbl) (y::ys))):=PE.of (yD F hr hg hm hk hb .nil tQ ha hdb he hpl) fun σ H Q z=>by
 have o:OpN cl (.plan tbl) (fun vs H Q=>Jo cl tbl (vs ++ []) H Q E0):=fun E ρ h H ws vs Q s r p=>by
  show Jo cl tbl (vs ++ []) H Q E0;rw[List.append_nil];exact adt E ρ h H ws vs Q s r p
 exact Ja o z
end Ev
namespace Ev
open PySem L2
section
variable{Pg:List Fn}{cl:Cn}{E:XK}{d:Nat}{X:Cx}{σ0:L2.St}
def fsc{N P:List Str}{sc:Scope}(h4:N.Nodup:=by decide +kernel)(h6:∀ x ∈ P,sc.names.lookup x=some .local\/sc.names.lookup x=some .cell:=by decide +kernel)(h7:∀ y ∈ sc.names,y.2 ≠ .free:=by decide +kernel)(h1:sc.kind= .function:=by rfl)(h2:sc.isCoroutine=false:=by rfl)(h3:sc.isGenerator=false:=by rfl)(h5:N.take P.length=P:=by rfl):aQ N P sc:=⟨h1,h2,h3,h4,h5,h6,h7⟩
def dv(i:Nat){x:Str}{pos:Pos}(hN:X.N[i]? =some x:=by rfl)(hv:Vis X.env.scope x:=by first | exact Or.inl rfl | exact Or.inr (Or.inl rfl) | exact Or.inr (Or.inr rfl))(hd:(x==("__debug__":Str))=false:=by decide)
    (hcd:(x==("__classdict__":Str))=false:=by decide):PE X (.Name x pos) (tE Pg cl E d (.var i)):=acZ hN hv hd hcd
def bF(i:Nat){x:Str}{pos:Pos}(hN:X.N.Nodup)(hi:X.N[i]? =some x:=by rfl)(hx:Loc X.env.scope x:=by first | exact Or.inl rfl | exact Or.inr rfl)(hf:X.fn x=true\/X.env.scope.names.lookup x=some .local:=by first | exact .inl rfl | exact .inr rfl | assumption):PG X (.Name x pos) (tG cl (.nm i)):=abf hN hi hx hf
def cQ(i:Nat){x:Str}{e:Expr}{y:Ev.X}{pos pos':Pos}(hN:X.N.Nodup)(he:PE X e (tE Pg cl E d y))(hi:X.N[i]? =some x:=by rfl)(hx:Loc X.env.scope x:=by first | exact Or.inl rfl | exact Or.inr rfl)(hs:swapsWith e (some (.Name x pos')) pos.line X.env=pure false:=by rfl)(hf:X.fn x=true\/X.env.scope.names.lookup x=some .local:=by first | exact .inl rfl | exact .inr rfl | assumption):
    PS X (.Assign [.Name x pos'] e pos) (tS Pg cl E d σ0 (.asg (.nm i) y)):=WD hN hi hx he hs hf
def fP{k k' f:Nat}{fa:Addr}{fd:aR}{ps:List Str}{x:Str}{st:Stmt}{e:Expr}{es:List Expr}{y:Ev.X}{ys:List Ev.X}{p pos:Pos}(F:bU X.prog X.w X.K X.mg X.base (CXE X.prog X.w) k fa fd ps (spF Pg cl d f))(D:Df X.K X.mg x st ps fa fd)(hr:bZ k' X.A)
    (hx:Passes (CXE X.prog X.w) X E) (ha:PA X (e::es) (tA Pg cl E d (y::ys))) (hk:k<=k':=by omega) (hg:Gl X x:=by rfl) (hdb:(x==("__debug__":Str))=false:=by decide) (he:starEach (e::es) X.env=(false,eval e X.env)::starEach es X.env:=by rfl) (hpl:(backTo pos (starEach es X.env)).any (·.1)=false:=by rfl):
    PE X (.Call (.Name x p) (e::es) [] pos) (tE Pg cl E d (.call f (y::ys))):=pI F (hr.mono hk) hg D.mg D.fn.kp D.bd hx ha hdb he hpl
end
def Qn(ps:List Str)(P:List Value->Prop):Prop:=match ps with
 | []=>P []
 | _::ps=>∀ v,Qn ps fun us=>P (v::us)
def Xa:∀ {ps:List Str} {P:List Value->Prop},Qn ps P->∀ us:List Value,us.length=ps.length->P us
 | [],_,h,[],_=>h
 | [],_,_,_::_,e=>by simp at e
 | _::_,_,_,[],e=>by simp at e
 | _::_,_,h,v::us,e=>Xa (h v) us (by simpa using e)
section
variable{K:ao}{x q m:Str}{st:Stmt}{f C:Addr}{fd:aR}{ps:List Str}{h:Heap}{mg:Str->Option Value}
def fbn(F:Fun K x q st f fd)(b:∀ kV doc pm an cdv ct,Qn ps fun us=>bindArgs (PySem.W.fnOf x q (jG st) (cG st) (ak st) .none kV doc pm an cdv ct) ⟨us,[]⟩ =pure (ps.zip us):=by(repeat intro _);exact rfl):Binds K fd ps []:=
 F.binds fun kV doc pm an cdv ct us hl=>Xa (b kV doc pm an cdv ct) us hl
structure DK (K:ao)(x:Str)(st:Stmt)(f:Addr)(fd:aR):Prop where
 F:Fun K x x st f fd
 a:PySem.W.nsIn K mainGlobals x=some (some (.ref f))
def DK.df(D:DK K x st f fd)(X:K.In h)(G:h.Ns mainGlobals mg)(b:∀ kV doc pm an cdv ct,Qn ps fun us=>bindArgs (PySem.W.fnOf x x (jG st) (cG st) (ak st) .none kV doc pm an cdv ct) ⟨us,[]⟩ =pure (ps.zip us):=by(repeat intro _);exact rfl):Df K mg x st ps f fd:=⟨D.F,fbn D.F b,PySem.W.mg_of X G D.a⟩
def cZ{oc:Value}{od an:Option Addr}{osl:Array (Option Value)}{kV doc pm cdv ct:Value}(a:PySem.W.nsIn K mainGlobals x=some (some (.ref f)))(l:K.lookup f=some ⟨oc,od,.func (PySem.W.fnOf x x (jG st) (cG st) (ak st) .none kV doc pm an cdv ct),osl⟩)
    (c:PySem.W.codeIn K cdv x=true) (k:PySem.W.keepIn K (.ref f)=true):∃ fd,DK K x st f fd:=⟨_,Gv l c k,a⟩
structure MK (K:ao)(C:Addr)(m q:Str)(st:Stmt)(f:Addr)(fd:aR):Prop where
 F:Fun K m q st f fd
 a:PySem.W.findIn K (.ref C) m=some (some (.ref f))
 n:PySem.W.isFn K (.ref f)=true
def MK.mt(D:MK K C m q st f fd):Meth K C m f:=⟨D.a,D.n,D.F.kp⟩
def tW{oc:Value}{od an:Option Addr}{osl:Array (Option Value)}{kV doc pm cdv ct:Value}(a:PySem.W.findIn K (.ref C) m=some (some (.ref f)))(l:K.lookup f=some ⟨oc,od,.func (PySem.W.fnOf m q (jG st) (cG st) (ak st) .none kV doc pm an cdv ct),osl⟩)
    (c:PySem.W.codeIn K cdv q=true) (k:PySem.W.keepIn K (.ref f)=true) (n:PySem.W.isFn K (.ref f)=true):∃ fd,MK K C m q st f fd:=⟨_,Gv l c k,a,n⟩
structure IK (K:ao)(C:Addr)(m q:Str)(st:Stmt)(f:Addr)(fd:aR):Prop where
 F:Fun K m q st f fd
 a:PySem.W.findIn K (.ref C) m=some (some (.ref f))
 n:PySem.W.typeIn K (.ref f)=some (.type "function")
def xq{oc:Value}{od an:Option Addr}{osl:Array (Option Value)}{kV doc pm cdv ct:Value}(a:PySem.W.findIn K (.ref C) m=some (some (.ref f)))(l:K.lookup f=some ⟨oc,od,.func (PySem.W.fnOf m q (jG st) (cG st) (ak st) .none kV doc pm an cdv ct),osl⟩)
    (c:PySem.W.codeIn K cdv q=true) (k:PySem.W.keepIn K (.ref f)=true) (n:PySem.W.typeIn K (.ref f)=some (.type "function")):∃ fd,IK K C m q st f fd:=⟨_,Gv l c k,a,n⟩
section
variable{n q':Str}{N S:Addr}{bs sub:List Value}{sn:List Str}{ab:Bool}{col:Option Bool}{dd:Option Addr}{k0 k1 k2 k3 k5:Option Value}
def aeK(o:K.lookup C=some (excClassObj n q' C N bs bmV true sn sub ab col dd k0 k1 k2 k3 k5 "ValueError.__new__"))(a:PySem.W.findIn K (.ref C) "__setattr__" =some (some (.builtin "object.__setattr__")))(g:PySem.W.findIn K (.ref C) "__getattribute__" =some (some (.builtin "BaseException.__getattribute__")))(e:PySem.W.findIn K (.ref C) "__getattr__" =some none):mD K C:=
 ⟨⟨n,q',N,bs,[],sn,sub,ab,col,dd,k0,k1,k2,k3,k5,o⟩,a,g,e⟩
structure XK1 (K:ao)(C S:Addr):Prop where
 X:mD K C
 k:PySem.W.keepIn K (.ref C)=true
 w:cY K C "word"
 s:uw K C S
def zJ{cd:ClassData}(o:K.lookup C=some (excClassObj n q' C N bs (.ref S::bmV) true sn sub ab col dd k0 k1 k2 k3 k5 "ValueError.__new__"))(a:PySem.W.findIn K (.ref C) "__setattr__" =some (some (.builtin "object.__setattr__")))(g:PySem.W.findIn K (.ref C) "__getattribute__" =some (some (.builtin "BaseException.__getattribute__")))(e:PySem.W.findIn K (.ref C) "__getattr__" =some none)
    (k:PySem.W.keepIn K (.ref C)=true) (w:PySem.W.findIn K (.ref C) "word" =some none) (i:PySem.W.clsIn K C=some cd) (j:cd.mro.contains (.ref S)=true):XK1 K C S:=
 ⟨⟨⟨n,q',N,bs,[S],sn,sub,ab,col,dd,k0,k1,k2,k3,k5,o⟩,a,g,e⟩,k,w,cd,i,j⟩
end
end
end Ev
namespace Ev
open PySem PyProof.Rows L2
section
def afQ(i:Int)(xs:List Int):Nat:=List.rec 0 (fun x _ r=>ifB (ieq x i) (r+1) r) xs
def adu(h:Hs)(a b:W):R W:=h.at a fun _ o=>o.onL fun xs=>Opt (jz xs) fun ns=>b.onI fun i=>.ok (.int (.ofNat (afQ i ns))) h
def Pr.count:Pr:=⟨fun ws h=>jy ws (adu h)⟩
end
section
variable{Pg:List Fn}{cl:Cn}{E:XK}{d:Nat}{X:Cx}
def DG(h:Hs)(u v:W):(∃ b,dF .le [u,v] h= .ok (.bl b) h)\/dF .le [u,v] h= .no:=by
 cases u <;> cases v <;> first | exact .inr rfl | exact .inl ⟨_,rfl⟩
def Jp{a b c:Expr}{x y z:Ev.X}{pos:Pos}(hu:X.A.units<cLine)(ha:PE X a (tE Pg cl E d x))(hb:PE X b (tE Pg cl E d y))(hc:PE X c (tE Pg cl E d z))(hm:lastMarks [.LtE,.Lt] [b,c] =false:=by with_unfolding_all rfl):PE X (.Compare a [.LtE,.Lt] [b,c] pos) (tE Pg cl E d (.chain .le .lt x y z)):=
 PE.of (Ym ZZ (L2.OpR.or xg (vJ hu)) ha hb hc hm) fun σ H Q q=>Ou ac1 (Fp (K:=X.K)) (fun x y H Q Q' f ⟨i,j,e1,e2,g⟩=>⟨i,j,e1,e2,f _ g⟩) q
  (fun ρ h u v w h' e=>by
    rcases DG h u v with ⟨b,g⟩ | g
    · rw[g]at e;cases e;rfl
    · rw[g]at e;cases e)
  fun h u v C f h' e=>by
   rcases DG h u v with ⟨b,g⟩ | g
   · rw[g]at e;cases e
   · rw[g]at e;cases e
end
end Ev
namespace Ev
open PySem PySem.Spec PySem.SeqAt PyProof.Rows L2
section
variable{Pg:List Fn}{cl:Cn}{E:XK}{d:Nat}{X:Cx}{σ σ0:L2.St}{H H0:Hp}{ρ:List Addr}{h:Hs}
def Far(r:Addr)(H0 H:Hp)(ρ:List Addr):Prop:=∀ a u,a ≠ r->(∀ ps,u ≠ .tbl ps)->H0 a=some u->a ∉ ρ/\H a=some u
structure CT (cl:Cn)(n i:Nat)(kv:List (Nat × W))(os:List O)(r:Addr)(row:List V)(σ0:L2.St)(H0:Hp)(σ:L2.St)(H:Hp):Prop where
 len:σ.length=n
 z:σ[0]? =σ0[0]?
 at_:σ[i]? =some (some (.ref r))
 row:H r=some (.lst row)
 sim:∃ ρ,Sim cl ρ (heapOf os) H/\RS ρ (frm n kv) σ/\r ∉ ρ/\Far r H0 H ρ
def CT.in{n i:Nat}{kv:List (Nat × W)}{os:List O}{r:Addr}{row:List Int}(c:CT cl n i kv os r (row.map V.int) σ0 H0 σ H):∃ ρ,Sim cl (ρ ++ [r]) (heapOf (os ++ [.lst (row.map W.int)])) H/\RS (ρ ++ [r]) (frm n ((i,.ref os.length)::kv)) σ/\(ρ ++ [r])[os.length]? =some r/\Far r H0 H (ρ ++ [r]):=by
 obtain⟨ρ,s,rs,nr,fa⟩:=c.sim;have s2:=s.adopt (o:=.lst (row.map W.int)) nr ⟨_,rw_ints _ row,c.row⟩;rw[<- Et]at s2;have hl:ρ.length=os.length:=by rw[s.len,(tV os).1]
 have g:(ρ ++ [r])[os.length]? =some r:=by rw[<- hl,lJ (aG _),Nat.sub_self];rfl
 have z:=(rs.mono (kE ρ [r])).set (w:=.ref os.length) (v:=.ref r) (.ref g) i;rw[Zb c.at_]at z;refine⟨ρ,s2,z,g,fun a u na nu eu=>?_⟩;obtain⟨n1,q⟩:=fa a u na nu eu;exact⟨fun y=>(List.mem_append.mp y).elim n1 fun y=>na (by simpa using y),q⟩
end
section
variable{Pg:List Fn}{cl:Cn}{E:XK}{d:Nat}{X:Cx}{σ σ0:L2.St}{H H':Hp}{ρ ρ' ρ2:List Addr}{h h2:Hs}
def KVs(ρ:List Addr)(kv:List (Nat × W))(σ:L2.St):Prop:=∀ j w,(j,w) ∈ kv->∃ v,σ[j]? =some (some v)/\RW ρ w v
structure C2 (cl:Cn)(n i:Nat)(kv:List (Nat × W))(os:List O)(kw:List (Nat × W))(ot:List O)(r:Addr)(row:List V)(σ:L2.St)(H:Hp):Prop where
 len:σ.length=n
 at_:σ[i]? =some (some (.ref r))
 row:H r=some (.lst row)
 sim:∃ ρ ρ2,Sim cl ρ (heapOf os) H/\KVs ρ kv σ/\r ∉ ρ/\Sim cl ρ2 (heapOf ot) H/\KVs ρ2 kw σ/\r ∉ ρ2/\∀ a ∈ ρ2,a ∉ ρ
end
section
variable{Pg:List Fn}{cl:Cn}{E:XK}{d:Nat}{X:Cx}{σ:L2.St}{H:Hp}{ρ:List Addr}
abbrev afR(Pg:List Fn)(cl:Cn)(E:XK)(d:Nat)(cs:List (List Nat))(es:List Ev.X):List (TE × TE):=List.zipWith (fun c e=>(tE Pg cl E d (.cst (.str c)),tE Pg cl E d e)) cs es
end
end Ev
namespace Ev
open PySem L2
section
variable{Pg:List Fn}{cl:Cn}{E:XK}{d:Nat}{X:Cx}
structure QPs (X:Cx)(pos:Pos)(keys:List (Option Expr))(values:List Expr)(Pg:List Fn)(cl:Cn)(E:XK)(d:Nat)(cs:List (List Nat))(es:List Ev.X):Prop where
 h:PPs X pos keys values (afR Pg cl E d cs es)
end
end Ev
namespace L2
open PySem PySem.Spec PySem.SeqAt PyProof.Rows
def Ph(X:Cx)(N':List Str)(sc:Scope)(y:Str)(C:Addr)(s₀:aj)(H₀:Hp)(fp:List Addr):Cx:=
 { X with N:=N',s₀:=s₀,H₀:=H₀,env:=compEnvC sc ((y,C+1)::j0 X.env.cells sc.names []) C X.env,outer:=X.stack,ex:=fp,fn:=fun x=>x==y,pn:=[],xe:=fun _ _=>False }
structure agh (X:Cx)(N':List Str)(sc:Scope)(nt:Nat)(idx:List Nat)(y:Str):Prop where
 kind:sc.kind= .function
 cf:∀ n acc,cellsFrom n sc.names acc=(y,n)::acc
 pc:∀ h,pushCells h sc.names=h.push { cls:=.type "cell",data:=.cell none }
 nc:∀ z ∈ sc.names,z.2= .cell->z.1=y
 nf:∀ z ∈ sc.names,z.2= .free->z.1 ≠ y
 loc:∀ y ∈ sc.names,y.2= .local->sc.names.lookup y.1=some .local
 fr:∀ y ∈ sc.names,y.2= .free->X.env.kindOf y.1=some .cell\/X.env.kindOf y.1=some .free
 len:nt+idx.length=N'.length
 ix:∀ p ∈ idx.zip (N'.drop nt),X.N[p.1]? =some p.2/\sc.names.lookup p.2=some .free
section
variable{X:Cx}{N':List Str}{sc:Scope}{yc:Str}{nt:Nat}{idx:List Nat}{elt tg iter:Expr}{ifs:List Expr}{gs:List Comprehension}{pos:Pos}{wi:TI}{g:TG}{tif:TT}{tin:Addr->TN}
structure agd (X:Cx)(N':List Str)(sc:Scope)(yc:Str)(elt tg iter:Expr)(ifs:List Expr)(gs:List Comprehension)(pos:Pos)(g:TG)(tif:TT)(tin:Addr->TN):Prop where
 ok:∀(C:Addr) (s₀:aj) (H₀:Hp) (fp:List Addr) (D it:Addr),∃ inner:Sem Unit,
  compTurn (.ListComp elt (⟨tg,iter,ifs,0⟩::gs) sc pos) 0 (.ref it) (.ref D) (Ph X N' sc yc C s₀ H₀ fp).env=oV (.ListComp elt (⟨tg,iter,ifs,0⟩::gs) sc pos) 0 (.ref it) (.ref D) (Ph X N' sc yc C s₀ H₀ fp).env tg ifs iter.pos inner/\
  PG (Ph X N' sc yc C s₀ H₀ fp) tg g/\PTs (Ph X N' sc yc C s₀ H₀ fp) ifs tif/\PN (Ph X N' sc yc C s₀ H₀ fp) inner (tin D)
end
end L2
namespace Ev
section
def okQ{α:Type}(r:R α)(Q:α->Hs->Prop):Prop:=R.rec Q (fun _ _ _=>False) False r
def aW(Q:W->Hs->Prop)(a:A)(h:Hs):Prop:=A.rec (fun w=>Q w h) (fun _=>False) (fun _=>False) (fun _=>False) False a
def aL(Q:List W->Hs->Prop)(a:A)(h:Hs):Prop:=A.rec (fun _=>False) (fun w=>Q w h) (fun _=>False) (fun _=>False) False a
def aV(Q:Iv->Hs->Prop)(a:A)(h:Hs):Prop:=A.rec (fun _=>False) (fun _=>False) (fun w=>Q w h) (fun _=>False) False a
def aF(Q:Fl->Hs->Prop)(a:A)(h:Hs):Prop:=A.rec (fun _=>False) (fun _=>False) (fun _=>False) (fun w=>Q w h) False a
def wX(e:X)(K:Ks)(n:Nat)(τ:Sg)(h:Hs)(Q:W->Hs->Prop):Prop:=okQ (e.f K n τ h) (aW Q)
def wA(es:List X)(K:Ks)(n:Nat)(τ:Sg)(h:Hs)(Q:List W->Hs->Prop):Prop:=okQ (goA es K n τ h) (aL Q)
def wI(e:I)(K:Ks)(n:Nat)(τ:Sg)(h:Hs)(Q:Iv->Hs->Prop):Prop:=okQ (e.f K n τ h) (aV Q)
def w1(s:S)(K:Ks)(n:Nat)(τ:Sg)(h:Hs)(Q:Fl->Hs->Prop):Prop:=okQ (s.f K n τ h) (aF Q)
def wS(s:List S)(K:Ks)(n:Nat)(τ:Sg)(h:Hs)(Q:Fl->Hs->Prop):Prop:=okQ (c7 s K n τ h) (aF Q)
def wP(p:Pr)(ws:List W)(h:Hs)(Q:W->Hs->Prop):Prop:=okQ (p.f ws h) Q
def wC(f:Nat)(ws:List W)(K:Ks)(n:Nat)(h:Hs)(Q:W->Hs->Prop):Prop:=okQ (b7 f ws K n h) (aW Q)
def Nb(ss:List S)(K:Ks)(n:Nat)(h:Hs)(Q:Fl->Hs->Prop)(f:Fl):Prop:=Fl.rec (fun τ=>wS ss K n τ h Q) (fun w=>Q (.rt w) h) (fun τ=>Q (.bk τ) h) (fun τ=>Q (.ct τ) h) f
def Uw(Q:W->Hs->Prop)(f:Fl)(h:Hs):Prop:=Fl.rec (fun _=>Q .non h) (fun w=>Q w h) (fun _=>False) (fun _=>False) f
def bW(w:W)(t f:Prop):Prop:=W.rec False (fun b=>Bool.rec f t b) (fun _=>False) (fun _=>False) (fun _=>False) w
end
section
variable{K:Ks}{n:Nat}{τ:Sg}{h:Hs}
def qW{α:Type}{r:R α}{Q Q':α->Hs->Prop}(x:okQ r Q)(f:∀ a h,Q a h->Q' a h):okQ r Q':=by
 cases r with
 | ok a h=>exact f a h x
 | _=>exact x
def abp{Q Q':W->Hs->Prop}(f:∀ w h,Q w h->Q' w h):∀ a h,aW Q a h->aW Q' a h:=fun a h x=>by
 cases a with
 | w w=>exact f w h x
 | _=>exact x
def RZ{Q Q':Fl->Hs->Prop}(f:∀ w h,Q w h->Q' w h):∀ a h,aF Q a h->aF Q' a h:=fun a h x=>by
 cases a with
 | fl w=>exact f w h x
 | _=>exact x
def vz{e:X}{Q Q':W->Hs->Prop}(x:wX e K n τ h Q)(f:∀ w h,Q w h->Q' w h):wX e K n τ h Q':=qW x (abp f)
def R0{s:List S}{Q Q':Fl->Hs->Prop}(x:wS s K n τ h Q)(f:∀ w h,Q w h->Q' w h):wS s K n τ h Q':=qW x (RZ f)
def Zf{α β:Type}{r:R α}{f:α->Hs->R β}{Q:β->Hs->Prop}:okQ (r.bind f) Q ↔ okQ r fun a h=>okQ (f a h) Q:=by cases r <;> exact Iff.rfl
def g8{e:X}{Q:W->Hs->Prop}(x:wX e K n τ h Q):∃ w h',e.f K n τ h= .ok (.w w) h'/\Q w h':=by
 unfold wX at x;generalize e.f K n τ h=r at x
 cases r with
 | ok a h'=>cases a with
   | w w=>exact⟨w,h',rfl,x⟩
   | _=>exact x.elim
 | _=>exact x.elim
def aeL{f:Nat}{ws:List W}{Q:W->Hs->Prop}(x:wC f ws K n h Q):∃ w h',b7 f ws K n h= .ok (.w w) h'/\Q w h':=by
 unfold wC at x;generalize b7 f ws K n h=r at x
 cases r with
 | ok a h'=>cases a with
   | w w=>exact⟨w,h',rfl,x⟩
   | _=>exact x.elim
 | _=>exact x.elim
def Ux{s:List S}{Q:Fl->Hs->Prop}(x:wS s K n τ h Q):∃ w h',c7 s K n τ h= .ok (.fl w) h'/\Q w h':=by
 unfold wS at x;generalize c7 s K n τ h=r at x
 cases r with
 | ok a h'=>cases a with
   | fl w=>exact⟨w,h',rfl,x⟩
   | _=>exact x.elim
 | _=>exact x.elim
def adv{i:Nat}{w:W}{Q:W->Hs->Prop}(e:cU τ i=some w):wX (.var i) K n τ h Q ↔ Q w h:=by
 show okQ (Option.rec (motive:=fun _=>R A) .no (fun w=>.ok (.w w) h) (cU τ i)) _ ↔ _;rw[e];exact Iff.rfl
def ue{w:W}{Q:W->Hs->Prop}:wX (.cst w) K n τ h Q ↔ Q w h:=Iff.rfl
def bR{Q:List W->Hs->Prop}:wA [] K n τ h Q ↔ Q [] h:=Iff.rfl
theorem aH{e:X}{es:List X}{Q:List W->Hs->Prop}:wA (e::es) K n τ h Q ↔ wX e K n τ h fun w h=>wA es K n τ h fun ws h=>Q (w::ws) h:=by
 show okQ (R.rec (motive:=fun _=>R A) (fun r h=>A.rec (motive:=fun _=>R A) (fun w=>R.rec (motive:=fun _=>R A) (fun r h=>A.rec (motive:=fun _=>R A) (fun _=>.no) (fun ws=>.ok (.ws (w::ws)) h) (fun _=>.no) (fun _=>.no) .no r) (fun C fs h=>.ex C fs h) .no (goA es K n τ h)) (fun _=>.no) (fun _=>.no) (fun _=>.no) .no r) (fun C fs h=>.ex C fs h) .no (e.f K n τ h)) _ ↔ okQ (e.f K n τ h) _;generalize e.f K n τ h=r
 cases r with
 | ok a h1=>cases a with
   | w w=>
     show okQ (R.rec (motive:=fun _=>R A) (fun r h=>A.rec (motive:=fun _=>R A) (fun _=>.no) (fun ws=>.ok (.ws (w::ws)) h) (fun _=>.no) (fun _=>.no) .no r) (fun C fs h=>.ex C fs h) .no (goA es K n τ h1)) _ ↔ okQ (goA es K n τ h1) _;generalize goA es K n τ h1=r
     cases r with
     | ok a h2=>cases a <;> exact Iff.rfl
     | _=>exact Iff.rfl
   | _=>exact Iff.rfl
 | _=>exact Iff.rfl
theorem cz{p:Pr}{es:List X}{Q:W->Hs->Prop}:wX (.pr p es) K n τ h Q ↔ wA es K n τ h fun ws h=>wP p ws h Q:=by
 show okQ (R.rec (motive:=fun _=>R A) (fun r h=>A.rec (motive:=fun _=>R A) (fun _=>.no) (fun ws=>R.rec (motive:=fun _=>R A) (fun w h=>.ok (.w w) h) (fun C f h=>.ex C f h) .no (p.f ws h)) (fun _=>.no) (fun _=>.no) .no r) (fun C fs h=>.ex C fs h) .no (goA es K n τ h)) _ ↔ okQ (goA es K n τ h) _;generalize goA es K n τ h=r
 cases r with
 | ok a h1=>cases a with
   | ws ws=>
     show okQ (R.rec (motive:=fun _=>R A) (fun w h=>.ok (.w w) h) (fun C f h=>.ex C f h) .no (p.f ws h1)) _ ↔ okQ (p.f ws h1) Q;generalize p.f ws h1=r
     cases r <;> exact Iff.rfl
   | _=>exact Iff.rfl
 | _=>exact Iff.rfl
def nR{f:Nat}{es:List X}{Q:W->Hs->Prop}:wX (.call f es) K n τ h Q ↔ wA es K n τ h fun ws h=>wC f ws K n h Q:=by
 show okQ ((goA es K n τ h).bind fun a h=>a.toL fun ws=>b7 f ws K n h) _ ↔ okQ (goA es K n τ h) _;generalize goA es K n τ h=r
 cases r with
 | ok a h1=>cases a <;> exact Iff.rfl
 | _=>exact Iff.rfl
def G9{c a b:X}{Q:W->Hs->Prop}:wX (.ite c a b) K n τ h Q ↔ wX c K n τ h fun w h=>bW w (wX a K n τ h Q) (wX b K n τ h Q):=by
 show okQ ((c.f K n τ h).bind fun r h=>r.toW fun w=>w.onB (b.f K n τ h) (a.f K n τ h)) _ ↔ okQ (c.f K n τ h) _;generalize c.f K n τ h=r
 cases r with
 | ok x h1=>cases x with
   | w w=>cases w with
     | bl k=>cases k <;> exact Iff.rfl
     | _=>exact Iff.rfl
   | _=>exact Iff.rfl
 | _=>exact Iff.rfl
def vZ{a b:X}{Q:W->Hs->Prop}:wX (.and a b) K n τ h Q ↔ wX a K n τ h fun w h=>bW w (wX b K n τ h Q) (Q (.bl false) h):=by
 show okQ ((a.f K n τ h).bind fun r h=>r.toW fun w=>w.onB (.ok (.w (.bl false)) h) (b.f K n τ h)) _ ↔ okQ (a.f K n τ h) _;generalize a.f K n τ h=r
 cases r with
 | ok x h1=>cases x with
   | w w=>cases w with
     | bl k=>cases k <;> exact Iff.rfl
     | _=>exact Iff.rfl
   | _=>exact Iff.rfl
 | _=>exact Iff.rfl
def tX{a b:X}{Q:W->Hs->Prop}:wX (.or a b) K n τ h Q ↔ wX a K n τ h fun w h=>bW w (Q (.bl true) h) (wX b K n τ h Q):=by
 show okQ ((a.f K n τ h).bind fun r h=>r.toW fun w=>w.onB (b.f K n τ h) (.ok (.w (.bl true)) h)) _ ↔ okQ (a.f K n τ h) _;generalize a.f K n τ h=r
 cases r with
 | ok x h1=>cases x with
   | w w=>cases w with
     | bl k=>cases k <;> exact Iff.rfl
     | _=>exact Iff.rfl
   | _=>exact Iff.rfl
 | _=>exact Iff.rfl
def cW{Q:Fl->Hs->Prop}:wS [] K n τ h Q ↔ Q (.nx τ) h:=Iff.rfl
def aC{s:S}{ss:List S}{Q:Fl->Hs->Prop}:wS (s::ss) K n τ h Q ↔ w1 s K n τ h fun f h=>Nb ss K n h Q f:=by
 show okQ ((s.f K n τ h).bind fun r h=>r.toF fun f=>Fl.rec (motive:=fun _=>R A) (fun τ=>c7 ss K n τ h) (fun w=>.ok (.fl (.rt w)) h) (fun τ=>.ok (.fl (.bk τ)) h) (fun τ=>.ok (.fl (.ct τ)) h) f) _ ↔ okQ (s.f K n τ h) _;generalize s.f K n τ h=r
 cases r with
 | ok x h1=>cases x with
   | fl f=>cases f <;> exact Iff.rfl
   | _=>exact Iff.rfl
 | _=>exact Iff.rfl
def dH{i:Nat}{e:X}{Q:Fl->Hs->Prop}:w1 (.asg (.nm i) e) K n τ h Q ↔ wX e K n τ h fun w h=>Q (.nx (setAt τ (some w) i)) h:=by
 show okQ ((e.f K n τ h).bind fun r h=>r.toW fun w=>R.ok (A.fl (.nx (setAt τ (some w) i))) h) (aF Q) ↔ okQ (e.f K n τ h) _;generalize e.f K n τ h=r
 cases r with
 | ok x h1=>cases x <;> exact Iff.rfl
 | _=>exact Iff.rfl
def lA{e:X}{Q:Fl->Hs->Prop}:w1 (.ret e) K n τ h Q ↔ wX e K n τ h fun w h=>Q (.rt w) h:=by
 show okQ ((e.f K n τ h).bind fun r h=>r.toW fun w=>R.ok (A.fl (.rt w)) h) (aF Q) ↔ okQ (e.f K n τ h) _;generalize e.f K n τ h=r
 cases r with
 | ok x h1=>cases x <;> exact Iff.rfl
 | _=>exact Iff.rfl
def jh{e:X}{Q:Fl->Hs->Prop}:w1 (.expr e) K n τ h Q ↔ wX e K n τ h fun w h=>Q (.nx τ) h:=by
 show okQ ((e.f K n τ h).bind fun r h=>r.toW fun w=>R.ok (A.fl (.nx τ)) h) (aF Q) ↔ okQ (e.f K n τ h) _;generalize e.f K n τ h=r
 cases r with
 | ok x h1=>cases x <;> exact Iff.rfl
 | _=>exact Iff.rfl
def h_{c:X}{a b:List S}{Q:Fl->Hs->Prop}:w1 (.ife c a b) K n τ h Q ↔ wX c K n τ h fun w h=>bW w (wS a K n τ h Q) (wS b K n τ h Q):=by
 show okQ ((c.f K n τ h).bind fun r h=>r.toW fun w=>w.onB (c7 b K n τ h) (c7 a K n τ h)) _ ↔ okQ (c.f K n τ h) _;generalize c.f K n τ h=r
 cases r with
 | ok x h1=>cases x with
   | w w=>cases w with
     | bl k=>cases k <;> exact Iff.rfl
     | _=>exact Iff.rfl
   | _=>exact Iff.rfl
 | _=>exact Iff.rfl
def dI{Pg:List Fn}{d f np k:Nat}{b:List S}{ws:List W}{Q:W->Hs->Prop}(e:nth Pg f=some (.mk np k b))(l:Nat.beq (len ws) np=true):wC f ws (bu Pg (d+1)) (n+1) h Q ↔ wS b (bu Pg d) n (frame k ws) h (Uw Q):=by
 show okQ (Opt (nth Pg f) (Ud (bu Pg d) n h ws)) _ ↔ _;rw[e];show okQ (ifB (Nat.beq (len ws) np) ((c7 b (bu Pg d) n (frame k ws) h).bind fun r h=>r.toF fun f=>Dw h f) .no) _ ↔ okQ (c7 b (bu Pg d) n (frame k ws) h) _;rw[l];generalize c7 b (bu Pg d) n (frame k ws) h=r
 cases r with
 | ok x h1=>cases x with
   | fl f=>cases f <;> exact Iff.rfl
   | _=>exact Iff.rfl
 | _=>exact Iff.rfl
end
def Ext(h h':Hs):Prop:=h.n<=h'.n/\∀ k,k<h.n->h'.get k=h.get k
def Ext.refl{h:Hs}:Ext h h:=⟨aG _,fun _ _=>rfl⟩
def Ext.trans{a b c:Hs}(x:Ext a b)(y:Ext b c):Ext a c:=⟨Nat.le_trans x.1 y.1,fun k l=>(y.2 k (a_ l x.1)).trans (x.2 k l)⟩
def Ext.push{h:Hs}{o:O}:Ext h (h.push o):=⟨by rw[Hs.mF];omega,fun k l=>by rw[Hs.oX,aA (by omega)]⟩
def Ext.set{h h':Hs}{k:Nat}{o:O}(x:Ext h h')(l:h.n<=k):Ext h (h'.set k o):=⟨by rw[Hs.gZ];exact x.1,fun j g=>by rw[Hs.get_set,aA (by omega)];exact x.2 j g⟩
def Ext.get{h h':Hs}{k:Nat}{o:O}(x:Ext h h')(l:k<h.n)(e:h.get k=some o):h'.get k=some o:=(x.2 k l).trans e
def aY{h:Hs}{o:O}:(h.push o).get h.n=some o:=by rw[Hs.oX,aB rfl]
def bV{h:Hs}{o:O}:h.n<(h.push o).n:=by rw[Hs.mF];omega
mutual
def Rd(h:Hs)(A:Nat->Prop):D->W->Prop
 | .non,w=>w= .non
 | .bl b,w=>w= .bl b
 | .int i,w=>w= .int i
 | .str c,w=>w= .str c
 | .lst ds,w=>∃ p ws,w= .ref p/\p<h.n/\A p/\h.get p=some (.lst ws)/\Rds h A ds ws
 | .tup ds,w=>∃ p ws,w= .ref p/\p<h.n/\A p/\h.get p=some (.tup ws)/\Rds h A ds ws
def Rds(h:Hs)(A:Nat->Prop):List D->List W->Prop
 | [],ws=>ws= []
 | d::ds,ws=>∃ w r,ws=w::r/\Rd h A d w/\Rds h A ds r
end
mutual
def Rd.to{h h':Hs}{A A':Nat->Prop}(n:h.n<=h'.n)(x:∀ k,k<h.n->A k->h'.get k=h.get k/\A' k):∀(d:D) (w:W),Rd h A d w->Rd h' A' d w
 | .non,_,z | .bl _,_,z | .int _,_,z | .str _,_,z=>by simpa [Rd] using z
 | .lst ds,w,z=>by
   simp only[Rd]at z ⊢;obtain⟨p,ws,e,l,a,g,r⟩:=z
   exact⟨p,ws,e,a_ l n,(x p l a).2,(x p l a).1.trans g,Rds.to n x ds ws r⟩
 | .tup ds,w,z=>by
   simp only[Rd]at z ⊢;obtain⟨p,ws,e,l,a,g,r⟩:=z;exact⟨p,ws,e,a_ l n,(x p l a).2,(x p l a).1.trans g,Rds.to n x ds ws r⟩
def Rds.to{h h':Hs}{A A':Nat->Prop}(n:h.n<=h'.n)(x:∀ k,k<h.n->A k->h'.get k=h.get k/\A' k):∀(ds:List D) (ws:List W),Rds h A ds ws->Rds h' A' ds ws
 | [],_,z=>by simpa [Rds] using z
 | d::ds,ws,z=>by
   simp only[Rds]at z ⊢;obtain⟨w,r,e,a,b⟩:=z;exact⟨w,r,e,Rd.to n x d w a,Rds.to n x ds r b⟩
end
def Rds.ext{h h':Hs}{A:Nat->Prop}{d:List D}{w:List W}(z:Rds h A d w)(x:Ext h h'):Rds h' A d w:=Rds.to x.1 (fun k l a=>⟨x.2 k l,a⟩) d w z
def Rd.imp{h:Hs}{A A':Nat->Prop}{d:D}{w:W}(z:Rd h A d w)(x:∀ k,k<h.n->A k->A' k):Rd h A' d w:=Rd.to (aG _) (fun k l a=>⟨rfl,x k l a⟩) d w z
def Rds.imp{h:Hs}{A A':Nat->Prop}{d:List D}{w:List W}(z:Rds h A d w)(x:∀ k,k<h.n->A k->A' k):Rds h A' d w:=Rds.to (aG _) (fun k l a=>⟨rfl,x k l a⟩) d w z
def Rds.length{h:Hs}{A:Nat->Prop}:∀ {ds:List D} {ws:List W},Rds h A ds ws->ws.length=ds.length
 | [],_,z=>by simp only[Rds]at z;subst z;rfl
 | d::ds,ws,z=>by
   simp only[Rds]at z;obtain⟨w,r,rfl,a,b⟩:=z;simp[Rds.length b]
def Rds.get{h:Hs}{A:Nat->Prop}:∀ {ds:List D} {ws:List W} {i:Nat} {d:D},Rds h A ds ws->ds[i]? =some d->∃ w,ws[i]? =some w/\Rd h A d w
 | [],_,i,d,z,e=>by simp at e
 | d::ds,ws,i,d',z,e=>by
   simp only[Rds]at z;obtain⟨w,r,rfl,a,b⟩:=z
   cases i with
   | zero=>simp at e;subst e;exact⟨w,rfl,a⟩
   | succ i=>simpa using Rds.get b (by simpa using e)
def Rds.snoc{h:Hs}{A:Nat->Prop}:∀ {ds:List D} {ws:List W} {d:D} {w:W},Rds h A ds ws->Rd h A d w->Rds h A (ds ++ [d]) (ws ++ [w])
 | [],_,d,w,z,e=>by simp only[Rds]at z;subst z;simp only[List.nil_append,Rds];exact⟨w,[],rfl,e,rfl⟩
 | d::ds,ws,d',w',z,e=>by
   simp only[Rds]at z;obtain⟨w,r,rfl,a,b⟩:=z;simp only[List.cons_append,Rds];exact⟨w,r ++ [w'],rfl,a,b.snoc e⟩
def Rds.ints{h:Hs}{A:Nat->Prop}:∀ {ns:List Int} {ws:List W},Rds h A (ns.map D.int) ws ↔ ws=ns.map W.int
 | [],ws=>by simp only[List.map_nil,Rds]
 | n::ns,ws=>by
   simp only[List.map_cons,Rds,Rd]
   constructor
   · rintro⟨w,r,rfl,rfl,b⟩;rw[Rds.ints.mp b]
   · rintro rfl;exact⟨_,_,rfl,rfl,Rds.ints.mpr rfl⟩
abbrev Dis(ns:List Int):D:=.lst (ns.map D.int)
def yL{h:Hs}{A:Nat->Prop}{ns:List Int}{w:W}:Rd h A (Dis ns) w ↔ ∃ p,w= .ref p/\p<h.n/\A p/\h.get p=some (.lst (ns.map W.int)):=by
 simp only[Dis,Rd,Rds.ints]
 constructor
 · rintro⟨p,ws,e,l,a,g,rfl⟩;exact⟨p,e,l,a,g⟩
 · rintro⟨p,e,l,a,g⟩;exact⟨p,_,e,l,a,g,rfl⟩
mutual
def j7:D->Nat
 | .lst ds | .tup ds=>uX ds+1
 | _=>1
def uX:List D->Nat
 | []=>0
 | d::ds=>max (j7 d) (uX ds)
end
section
mutual
def okD:D->Bool
 | .str c=>okC c
 | .lst ds | .tup ds=>zK ds
 | _=>true
def zK:List D->Bool
 | []=>true
 | d::ds=>okD d&&zK ds
end
end
mutual
def Xb{h:Hs}{A:Nat->Prop}:∀(d:D) (w:W) (k:Nat),Rd h A d w->j7 d<=k->okD d=true->toD h k w=some d
 | .non,w,0,z,l,_ | .bl _,w,0,z,l,_ | .int _,w,0,z,l,_ | .str _,w,0,z,l,_=>by simp[j7]at l
 | .lst _,w,0,z,l,_ | .tup _,w,0,z,l,_=>by simp[j7]at l
 | .non,w,k+1,z,_,_=>by simp only[Rd]at z;subst z;rfl
 | .bl _,w,k+1,z,_,_=>by simp only[Rd]at z;subst z;rfl
 | .int _,w,k+1,z,_,_=>by simp only[Rd]at z;subst z;rfl
 | .str c,w,k+1,z,_,o=>by
   simp only[Rd]at z;subst z;have o:okC c=true:=by simpa [okD] using o
   show ifB (okC c) (some (D.str c)) none=_
   rw[o];rfl
 | .lst ds,w,k+1,z,l,o=>by
   simp only[Rd]at z;obtain⟨p,ws,rfl,_,_,g,r⟩:=z;have e:=Jq ds ws k r (by simpa [j7] using l) (by simpa [okD] using o);show Option.rec (motive:=fun _=>Option D) none (fun o=>O.rec (motive:=fun _=>Option D) (fun xs=>Option.rec (motive:=fun _=>Option D) none (fun ds=>some (D.tup ds)) (n_ (toD h k) xs)) (fun xs=>Option.rec (motive:=fun _=>Option D) none (fun ds=>some (D.lst ds)) (n_ (toD h k) xs)) (fun _ _=>none) (fun _=>none) (fun _=>none) (fun _=>none) o) (h.get p)=_;rw[g];show Option.rec (motive:=fun _=>Option D) none (fun ds=>some (D.lst ds)) (n_ (toD h k) ws)=_
   rw[e]
 | .tup ds,w,k+1,z,l,o=>by
   simp only[Rd]at z;obtain⟨p,ws,rfl,_,_,g,r⟩:=z;have e:=Jq ds ws k r (by simpa [j7] using l) (by simpa [okD] using o);show Option.rec (motive:=fun _=>Option D) none (fun o=>O.rec (motive:=fun _=>Option D) (fun xs=>Option.rec (motive:=fun _=>Option D) none (fun ds=>some (D.tup ds)) (n_ (toD h k) xs)) (fun xs=>Option.rec (motive:=fun _=>Option D) none (fun ds=>some (D.lst ds)) (n_ (toD h k) xs)) (fun _ _=>none) (fun _=>none) (fun _=>none) (fun _=>none) o) (h.get p)=_;rw[g];show Option.rec (motive:=fun _=>Option D) none (fun ds=>some (D.tup ds)) (n_ (toD h k) ws)=_;rw[e]
def Jq{h:Hs}{A:Nat->Prop}:∀(ds:List D) (ws:List W) (k:Nat),Rds h A ds ws->uX ds<=k->zK ds=true->n_ (toD h k) ws=some ds
 | [],ws,k,z,_,_=>by simp only[Rds]at z;subst z;rfl
 | d::ds,ws,k,z,l,o=>by
   simp only[Rds]at z;obtain⟨w,r,rfl,a,b⟩:=z;simp only[uX,zK,Bool.and_eq_true]at l o;have e1:=Xb d w k a (by omega) o.1;have e2:=Jq ds r k b (by omega) o.2;show Option.rec (motive:=fun _=>Option (List D)) none (fun d=>Option.rec (motive:=fun _=>Option (List D)) none (fun ds=>some (d::ds)) (n_ (toD h k) r)) (toD h k w)=_;rw[e1];show Option.rec (motive:=fun _=>Option (List D)) none (fun ds=>some (d::ds)) (n_ (toD h k) r)=_;rw[e2]
end
mutual
def xr:∀ d:D,dY d d=true
 | .non=>by simp[dY]
 | .bl b=>by simp[dY]
 | .int i=>by simp[dY,kO]
 | .str c=>by simp[dY,dh.mpr]
 | .lst ds=>by simp[dY,Ce ds]
 | .tup ds=>by simp[dY,Ce ds]
def Ce:∀ ds:List D,vO ds ds=true
 | []=>by simp[vO]
 | d::ds=>by simp[vO,xr d,Ce ds]
end
mutual
def Uy:∀ d:D,lX d d=true
 | .non=>by simp[lX]
 | .bl b=>by simp[lX]
 | .int i=>by simp[lX,kO]
 | .str c=>by simp[lX,dh.mpr]
 | .lst ds=>by simp[lX,x_ ds]
 | .tup ds=>by simp[lX,x_ ds]
def x_:∀ ds:List D,qw ds ds=true
 | []=>by simp[qw]
 | d::ds=>by simp[qw,Uy d,x_ ds]
end
section
variable{K:Ks}{n:Nat}{τ:Sg}{h:Hs}
def Its(v:Iv)(ws:List W)(h:Hs):Prop:=(∃ p,v= .lst p/\h.get p=some (.lst ws))\/(∃ p,v= .tup p/\h.get p=some (.tup ws))\/(∃ lo:Int,v= .rng lo ws.length/\∀ i,i<ws.length->ws[i]? =some (.int (lo+Int.ofNat i)))
def Its.next{v:Iv}{ws:List W}{β:Type}{i:Nat}{fin:R β}{go:W->Hs->R β}(x:Its v ws h):v.next i h fin go=Option.rec fin (fun w=>go w h) (ws[i]?):=by
 rcases x with ⟨p,rfl,g⟩ | ⟨p,rfl,g⟩ | ⟨lo,rfl,g⟩
 · show Opt (h.get p) (fun o=>o.onS fun xs=>Option.rec fin (fun w=>go w h) (nth xs i))=_;rw[g,<- nH];rfl
 · show Opt (h.get p) (fun o=>o.onT fun xs=>Option.rec fin (fun w=>go w h) (nth xs i))=_;rw[g,<- nH];rfl
 · show Bool.rec (motive:=fun _=>R β) fin (go (.int (lo + .ofNat i)) h) (Nat.ble (i+1) ws.length)=_
   by_cases l:i<ws.length
   · rw[g i l,ble_eq,bH (show i+1<=ws.length from l)]
   · rw[List.getElem?_eq_none (by omega),ble_eq,bM (show ¬ i+1<=ws.length from by omega)]
def lpQ(I:Sg->Hs->Prop)(Q:Fl->Hs->Prop)(f:Fl)(h:Hs):Prop:=Fl.rec (fun τ=>I τ h) (fun w=>Q (.rt w) h) (fun τ=>Q (.nx τ) h) (fun τ=>I τ h) f
def Uz{v:Iv}{t:Tg}{b:List S}{ws:List W}{Q:Fl->Hs->Prop}(I:Nat->Sg->Hs->Prop)(its:∀ i τ h,I i τ h->Its v ws h)
    (turn:∀ i w τ h m,ws[i]? =some w->n<=m+ws.length->I i τ h->∃ τ1,bw h 9 t w τ=some τ1/\wS b K m τ1 h (lpQ (I (i+1)) Q)) (fin:∀ τ h,I ws.length τ h->Q (.nx τ) h):
    ∀(k i m:Nat) (τ:Sg) (h:Hs),i+k=ws.length->k<m->n+i<=m+ws.length+i->n<=m+i->I i τ h->okQ (iU v t b K m i τ h) (aF Q)
 | k,i,0,τ,h,e,l,_,_,x=>aK l (by omega)
 | k,i,m+1,τ,h,e,l,l1,l2,x=>by
   have u:iU v t b K (m+1) i τ h=v.next i h (.ok (.fl (.nx τ)) h) fun w h=>Opt (bw h 9 t w τ) fun τ=>(c7 b K m τ h).bind fun r h=>r.toF fun f=>lZ h f fun τ=>iU v t b K m (i+1) τ h:=rfl;rw[u,(its i τ h x).next]
   cases k with
   | zero=>
     rw[List.getElem?_eq_none (by omega)];rw[Nat.add_zero]at e;subst e
     exact fin τ h x
   | succ k=>
     have li:i<ws.length:=by omega
     rw[gY li];obtain⟨τ1,e1,y⟩:=turn i ws[i] τ h m (gY li) (by omega) x;show okQ (Opt (bw h 9 t ws[i] τ) fun τ=>(c7 b K m τ h).bind fun r h=>r.toF fun f=>lZ h f fun τ=>iU v t b K m (i+1) τ h) (aF Q);rw[e1];show okQ ((c7 b K m τ1 h).bind fun r h=>r.toF fun f=>lZ h f fun τ=>iU v t b K m (i+1) τ h) (aF Q);obtain⟨f,h',z,q⟩:=Ux y;rw[z]
     cases f with
     | nx τ2=>exact Uz I its turn fin k (i+1) m τ2 h' (by omega) (by omega) (by omega) (by omega) q
     | ct τ2=>exact Uz I its turn fin k (i+1) m τ2 h' (by omega) (by omega) (by omega) (by omega) q
     | rt w=>exact q
     | bk τ2=>exact q
def yM{i:I}{t:Tg}{b:List S}{Q:Fl->Hs->Prop}(x:wI i K n τ h fun v h1=>∃(ws:List W) (J:Nat->Sg->Hs->Prop),(∀ i τ h,J i τ h->Its v ws h)/\ws.length<n/\J 0 τ h1/\
    (∀ i w τ h m,ws[i]? =some w->n<=m+ws.length->J i τ h->∃ τ1,bw h 9 t w τ=some τ1/\wS b K m τ1 h (lpQ (J (i+1)) Q))/\∀ τ h,J ws.length τ h->Q (.nx τ) h):w1 (.for_ i t b) K n τ h Q:=by
 show okQ ((i.f K n τ h).bind fun r h=>r.toV fun v=>iU v t b K n 0 τ h) (aF Q);unfold wI at x;generalize i.f K n τ h=r at x
 cases r with
 | ok a h1=>cases a with
   | iv v=>
     obtain⟨ws,J,its,l,s,turn,fin⟩:=x
     exact Uz J its turn fin ws.length 0 n τ h1 (by omega) l (by omega) (by omega) s
   | _=>exact x.elim
 | _=>exact x.elim
def abq{D:Nat}{w:W}{acc:List W}{k:Hs->R A}(g:h.get D=some (.lst acc))(l:acc.length<=16777215):emit h D w k=k (h.set D (.lst (acc ++ [w]))):=by
 show R.bind (Opt (h.get D) fun o=>o.onL fun xs=>size xs (.ok W.non (h.set D (.lst (app xs [w]))))) (fun _ h=>k h)=_;rw[g];show R.bind (ifB (Nat.ble (len acc) 16777215) (.ok W.non (h.set D (.lst (app acc [w])))) .no) (fun _ h=>k h)=_;rw[len_eq,ble_eq,bH l,jM];rfl
def aam(c:Option X)(e:X)(K:Ks)(m:Nat)(τ:Sg)(h:Hs)(no:Hs->Prop)(yes:W->Hs->Prop):Prop:=Option.rec (wX e K m τ h yes) (fun c=>wX c K m τ h fun w h=>bW w (wX e K m τ h yes) (no h)) c
def Nf{v:Iv}{t:Tg}{c:Option X}{e:X}{D:Nat}{ws:List W}{Q:A->Hs->Prop}(b:Nat)(J:Nat->List W->Hs->Prop)(its:∀ i acc h,J i acc h->Its v ws h/\h.get D=some (.lst acc)/\acc.length<=b+i)(lw:b+ws.length<=16777215)
    (turn:∀ i w acc h m,ws[i]? =some w->n<=m+ws.length->J i acc h->∃ τ1,bw h 9 t w τ=some τ1/\aam c e K m τ1 h (fun h=>J (i+1) acc h) (fun w h=>h.get D=some (.lst acc)/\J (i+1) (acc ++ [w]) (h.set D (.lst (acc ++ [w]))))) (fin:∀ acc h,J ws.length acc h->Q .u h):
    ∀(k i m:Nat) (acc:List W) (h:Hs),i+k=ws.length->k<m->n<=m+i->J i acc h->okQ (fU v t c none e D K m i τ h) Q
 | k,i,0,acc,h,_,l,_,_=>aK l (by omega)
 | k,i,m+1,acc,h,ek,l,l2,x=>by
   have u:fU v t c none e D K (m+1) i τ h=v.next i h (.ok .u h) fun w h=>Opt (bw h 9 t w τ) fun τ1=>test K m τ1 h c (fun h=>fU v t c none e D K m (i+1) τ h) (fun h=>inner K m τ1 h e D none fun h=>fU v t c none e D K m (i+1) τ h):=rfl;obtain⟨it,gD,la⟩:=its i acc h x;rw[u,it.next]
   cases k with
   | zero=>
     rw[List.getElem?_eq_none (by omega)];rw[Nat.add_zero]at ek;subst ek
     exact fin acc h x
   | succ k=>
     have li:i<ws.length:=by omega
     rw[gY li];obtain⟨τ1,e1,y⟩:=turn i ws[i] acc h m (gY li) (by omega) x;show okQ (Opt (bw h 9 t ws[i] τ) fun τ1=>test K m τ1 h c (fun h=>fU v t c none e D K m (i+1) τ h) (fun h=>inner K m τ1 h e D none fun h=>fU v t c none e D K m (i+1) τ h)) Q;rw[e1]
     have yes:∀ h2,wX e K m τ1 h2 (fun w h=>h.get D=some (.lst acc)/\J (i+1) (acc ++ [w]) (h.set D (.lst (acc ++ [w]))))->okQ (inner K m τ1 h2 e D none fun h=>fU v t c none e D K m (i+1) τ h) Q:=fun h2 z=>by
      obtain⟨w,h3,ez,g3,j3⟩:=g8 z;show okQ ((e.f K m τ1 h2).bind fun r h=>r.toW fun w=>emit h D w fun h=>fU v t c none e D K m (i+1) τ h) Q;rw[ez];show okQ (emit h3 D w fun h=>fU v t c none e D K m (i+1) τ h) Q;rw[abq g3 (by omega)];exact Nf b J its lw turn fin k (i+1) m (acc ++ [w]) _ (by omega) (by omega) (by omega) j3
     cases c with
     | none=>exact yes h y
     | some c=>
       obtain⟨w,h2,ez,q⟩:=g8 (show wX c K m τ1 h _ from y);show okQ ((c.f K m τ1 h).bind fun r h=>r.toW fun w=>w.onB (fU v t (some c) none e D K m (i+1) τ h) (inner K m τ1 h e D none fun h=>fU v t (some c) none e D K m (i+1) τ h)) Q;rw[ez]
       cases w with
       | bl bb=>cases bb with
         | false=>exact Nf b J its lw turn fin k (i+1) m acc h2 (by omega) (by omega) (by omega) q
         | true=>exact yes h2 q
       | _=>exact q.elim
def R1{nt:Nat}{idx:List Nat}{it:I}{t:Tg}{c:Option X}{e:X}{Q:W->Hs->Prop}(x:wI it K n τ h fun v h1=>∃(ws:List W) (J:Nat->List W->Hs->Prop),(∀ i acc h,J i acc h->Its v ws h/\h.get h1.n=some (.lst acc)/\acc.length<=i)/\ws.length<=16777215/\ws.length<n/\J 0 [] (h1.push (.lst []))/\
    (∀ i w acc h m,ws[i]? =some w->n<=m+ws.length->J i acc h->∃ τ1,bw h 9 t w (ir nt idx τ)=some τ1/\aam c e K m τ1 h (fun h=>J (i+1) acc h) (fun w h=>h.get h1.n=some (.lst acc)/\J (i+1) (acc ++ [w]) (h.set h1.n (.lst (acc ++ [w])))))/\∀ acc h,J ws.length acc h->Q (.ref h1.n) h):wX (.comp nt idx it t c none e) K n τ h Q:=by
 show okQ ((it.f K n τ h).bind fun r h=>r.toV fun v=>(fU v t c none e h.n K n 0 (ir nt idx τ) (h.push (.lst []))).nox.bind fun _ h'=>.ok (.w (.ref h.n)) h') (aW Q);unfold wI at x;generalize it.f K n τ h=r at x
 cases r with
 | ok a h1=>cases a with
   | iv v=>
     obtain⟨ws,J,its,lw,l,s,turn,fin⟩:=x;have z:=Nf (Q:=fun a h=>a= .u/\Q (.ref h1.n) h) 0 J (fun i acc h j=>by rw[Nat.zero_add];exact its i acc h j) (by rw[Nat.zero_add];exact lw) turn (fun acc h j=>⟨rfl,fin acc h j⟩) ws.length 0 n [] (h1.push (.lst [])) (by omega) l (by omega) s;show okQ ((fU v t c none e h1.n K n 0 (ir nt idx τ) (h1.push (.lst []))).nox.bind fun _ h'=>.ok (.w (.ref h1.n)) h') (aW Q);generalize fU v t c none e h1.n K n 0 (ir nt idx τ) (h1.push (.lst []))=r at z
     cases r with
     | ok a h'=>exact z.2
     | _=>exact z.elim
   | _=>exact x.elim
 | _=>exact x.elim
def comp_map{nt:Nat}{idx:List Nat}{it:I}{t:Tg}{e:X}{Q:W->Hs->Prop}(x:wI it K n τ h fun v h1=>Ext h h1/\∃(ws:List W) (ds:List D) (B:Nat->Prop),(∀ h2,Ext h1 h2->Its v ws h2)/\(∀ p,B p->p<h1.n)/\ws.length=ds.length/\ws.length<=16777215/\ws.length<n/\
    (∀(i:Nat) w d h2 m,ws[i]? =some w->ds[i]? =some d->n<=m+ws.length->Ext h1 h2->h1.n<h2.n->∃ τ1,bw h2 9 t w (ir nt idx τ)=some τ1/\wX e K m τ1 h2 (fun w h3=>Ext h2 h3/\Rd h3 (fun p=>B p\/h2.n<=p) d w))/\
    ∀ h3,Ext h1 h3->Rd h3 (fun p=>B p\/h1.n<=p) (.lst ds) (.ref h1.n)->Q (.ref h1.n) h3):wX (.comp nt idx it t none none e) K n τ h Q:=by
 refine R1 ?_;refine qW x fun a h1 z=>?_
 cases a with
 | iv v=>
   obtain⟨x1,ws,ds,B,its,hB,le,l1,l2,turn,fin⟩:=z;refine⟨ws,fun i acc h2=>Ext h1 h2/\h1.n<h2.n/\h2.get h1.n=some (.lst acc)/\acc.length=i/\Rds h2 (fun p=>p ≠ h1.n/\(B p\/h1.n<=p)) (ds.take i) acc,fun i acc h2 j=>⟨its h2 j.1,j.2.2.1,by omega⟩,l1,l2,⟨.push,bV,aY,rfl,by simp[Rds]⟩,?_,?_⟩
   · rintro i w acc h2 m ei lm ⟨j1,j2,j3,j4,j5⟩;have li:i<ws.length:=(bB ei).1;have ed:ds[i]? =some (ds[i]'(by omega)):=gY (by omega);obtain⟨τ1,eb,y⟩:=turn i w _ h2 m ei ed lm j1 j2;refine⟨τ1,eb,?_⟩;refine vz y fun w' h3 ⟨y1,y2⟩=>?_;have g3:h3.get h1.n=some (.lst acc):=y1.get j2 j3;refine⟨g3,(j1.trans y1).set (aG _),by rw[Hs.gZ];exact a_ j2 y1.1,by rw[Hs.get_set,aB rfl],by simp[j4],?_⟩;rw[List.take_add_one,ed]
     have z1:Rds h3 (fun p=>p ≠ h1.n/\(B p\/h1.n<=p)) (ds.take i++(some (ds[i]'(by omega))).toList) (acc ++ [w']):=(j5.ext y1).snoc (y2.imp fun p _ q=>by
      rcases q with q | q
      · have:=hB p q;exact⟨by omega,.inl q⟩
      · exact⟨by omega,.inr (by omega)⟩)
     exact Rds.to (by rw[Hs.gZ];exact aG _) (fun k _ a=>⟨by rw[Hs.get_set,aA a.1],a⟩) _ _ z1
   · rintro acc h2 ⟨j1,j2,j3,j4,j5⟩;refine fin h2 j1 ?_;rw[le,List.take_length]at j5;simp only[Rd]
     exact⟨_,acc,rfl,j2,.inr (aG _),j3,j5.imp fun p _ q=>q.2⟩
 | _=>exact z.elim
end
end Ev
namespace Ev
open PySem PySem.Spec PySem.SeqAt PyProof.Rows L2
section
def sumZ(xs:List Int):Int:=List.rec 0 (fun x _ r=>Fg x r) xs
def adw(h:Hs)(a:W):R W:=h.at a fun _ o=>o.onL fun xs=>Opt (jz xs) fun ns=>.ok (.int (sumZ ns)) h
def Pr.sum:Pr:=⟨fun ws h=>lK ws (adw h)⟩
end
section
variable{X:Cx}
def Xc(hc:X.calm=true):oH X (.builtin "sum") (fun xs H Q=>∃(p:Addr) (ns:List Int),xs= [.ref p]/\SqL X.K H p (ns.map V.int)/\Q (.int ns.sum) H):=by
 intro pins s σ H xs us Q I r h;obtain⟨p,ns,rfl,hq,q⟩:=h;obtain⟨u,rfl,rx⟩:=vals1 r;cases rx;obtain⟨its,r',pl,hz⟩:=I.list hq;have hi:=BZ r';obtain⟨xs,hx⟩:=hi.allInts.items;have hl':s.heap.IsList p (intItems xs):=hx ▸ pl.isList;refine sum_intListG (I.ok.hd hc) hl' fun h' tk t' hk=>?_
 have e1:ns=xs.toList.map (·.1):=by
  rw[<- nums_intItems,<- hx];exact(show numsOf its.toArray.toList=ns from hi.numsOf).symm
 have e2:preSum (numAt xs) xs.size=ns.sum:=by rw[preSum_eq,List.take_of_length_le (by simp),e1]
 rw[e2];exact⟨.int ns.sum,H,I.kept (h':=h') (t':=tk) hk,⟨t',rfl⟩,q⟩
def Jr:∀ xs:List Int,sumZ xs=xs.sum
 | []=>rfl
 | x::xs=>by
   show Fg x (sumZ xs)=_;rw[Jb,Jr xs,List.sum_cons]
variable{Pg:List Fn}{cl:Cn}{E:XK}{d:Nat}{σ:L2.St}{H:Hp}
def aeM{K:ao}:OpN cl .sum (fun xs H Q=>∃(p:Addr) (ns:List Int),xs= [.ref p]/\SqL K H p (ns.map V.int)/\Q (.int ns.sum) H):=fun E ρ h H ws vs Q s r p=>by
 obtain⟨w,v,rfl,rfl,r1,p⟩:=G3 r (show Post cl ρ H E (ofW (lK ws (adw h))) (VP Q) from p);obtain⟨n,o,a,rfl,rfl,e1,g1,x1,p⟩:=oAt s r1 p;obtain⟨xs,rfl,p2⟩:=oL p;obtain⟨ns,hn,p3⟩:=ux p2;obtain⟨us,ru,q⟩:=x1;rw[FJ ru hn]at q;rw[Jr]at p3;exact⟨a,ns,rfl,SqL.of q,Post.gw s p3 (.int _)⟩
end
end Ev
namespace Ev
section
variable{K:Ks}{n:Nat}{τ:Sg}{h:Hs}{Q:W->Hs->Prop}{i j:Int}{p q:Nat}{xs ys:List W}{ns:List Int}{A B:Nat->Prop}{d d':D}{w w':W}
def p_add(z:Q (.int (i+j)) h):wP .add [.int i,.int j] h Q:=by show Q (.int (Fg i j)) h;rw[Jb];exact z
def aeN(z:Q (.int (i - j)) h):wP .sub [.int i,.int j] h Q:=by show Q (.int (T_ i j)) h;rw[Rw];exact z
def aeO(z:Q (.int (-i)) h):wP .neg [.int i] h Q:=z
def dM{β:Type}{b:Bool}{t f:β}(e:b=true):ifB b t f=t:=by subst e;rfl
def Pj(l:i.natAbs<2 ^ 64):Sml i=true:=by
 have b:(2:Nat) ^ 64<=2 ^ 4000:=Nat.pow_le_pow_right (by decide) (by decide)
 cases i with
 | ofNat a=>
   show Nat.ble (a+1) (2 ^ 4000)=true;have:a<2 ^ 64:=l
   exact Nat.ble_eq_true_of_le (Nat.le_trans this b)
 | negSucc a=>
   show Nat.ble (a+2) (2 ^ 4000)=true;have:a+1<2 ^ 64:=l;exact Nat.ble_eq_true_of_le (Nat.le_trans (by omega) b)
def aan(a:i.natAbs<2 ^ 64)(b:j.natAbs<2 ^ 64)(z:Q (.int (i*j)) h):wP .mul [.int i,.int j] h Q:=by
 show okQ (ifB (Sml i) (ifB (Sml j) (.ok (.int (i*j)) h) .no) .no) Q;rw[dM (Pj a),dM (Pj b)];exact z
def aeP(a:0<j)(z:Q (.int (i % j)) h):wP .mod [.int i,.int j] h Q:=by
 show okQ (ifB (ilt 0 j) (.ok (.int (fmod i j)) h) .no) Q;rw[dM (by rw[b8];exact bH a),fmod_eq];exact z
def Xd(a:0<j)(b:j.natAbs<2 ^ 64)(z:Q (.int (i.fdiv j)) h):wP .fdiv [.int i,.int j] h Q:=by
 show okQ (ifB (ilt 0 j) (ifB (Sml j) (.ok (.int (i.fdiv j)) h) .no) .no) Q;rw[dM (by rw[b8];exact bH a),dM (Pj b)];exact z
def afS(z:Q (.bl (decide (i<j))) h):wP .lt [.int i,.int j] h Q:=by show Q (.bl (ilt i j)) h;rw[b8];exact z
def afT(z:Q (.bl (decide (j<i))) h):wP .gt [.int i,.int j] h Q:=by show Q (.bl (ilt j i)) h;rw[b8];exact z
def adx(z:Q (.bl (decide (j<=i))) h):wP .ge [.int i,.int j] h Q:=by
 show Q (.bl (!ilt i j)) h;rw[b8,show(!decide (i<j))=decide (j<=i) by rw[Bool.eq_iff_iff];simp];exact z
def aeQ(z:Q (.bl (decide (i=j))) h):wP .eq [.int i,.int j] h Q:=by
 show Q (.bl (dY (.int i) (.int j))) h;rw[show dY (.int i) (.int j)=decide (i=j) by simp[dY,kO]];exact z
def aeR(z:Q (.bl (!decide (i=j))) h):wP .ne [.int i,.int j] h Q:=by
 show Q (.bl (!dY (.int i) (.int j))) h;rw[show dY (.int i) (.int j)=decide (i=j) by simp[dY,kO]];exact z
def Ng{f:D->R W}(a:Rd h A d w)(l:j7 d<=12:=by decide)(o:okD d=true:=by rfl):wD h w f=f d:=by
 show Opt (toD h 12 w) f=_;rw[Xb d w 12 a l o];rfl
def aao(a:Rd h A d w)(b:Rd h B d' w')(l:j7 d<=12)(l':j7 d'<=12)(o:okD d=true)(o':okD d'=true)(z:Q (.bl (dY d d')) h):wP .eq [w,w'] h Q:=by
 show okQ (wD h w fun x=>wD h w' fun y=>.yes (id (dY x y)) h) Q;rw[Ng a l o,Ng b l' o'];exact z
def Nh(a:Rd h A d w)(b:Rd h B d' w')(l:j7 d<=12)(l':j7 d'<=12)(o:okD d=true)(o':okD d'=true)(z:Q (.bl (!dY d d')) h):wP .ne [w,w'] h Q:=by
 show okQ (wD h w fun x=>wD h w' fun y=>.yes (not (dY x y)) h) Q;rw[Ng a l o,Ng b l' o'];exact z
def fQ{β:Type}{f:Nat->O->R β}{o:O}(e:h.get p=some o):h.at (.ref p) f=f p o:=by
 show Opt (h.get p) (f p)=_;rw[e];rfl
def xu(e:h.get p=some (.lst xs))(z:Q (.int xs.length) h):wP .len [.ref p] h Q:=by
 show okQ (h.at (.ref p) fun _ o=>o.items fun xs=>.ok (.int (.ofNat (len xs))) h) Q;rw[fQ e,show len=List.length from funext fun _=>len_eq _]at *;exact z
def ady(e:h.get p=some (.lst xs))(e2:xs[q]? =some w)(z:Q w h):wP .ix [.ref p,.int (Int.ofNat q)] h Q:=by
 show okQ (h.at (.ref p) fun _ o=>o.items fun xs=>Opt (nth xs q) fun w=>.ok w h) Q;rw[fQ e];show okQ (Opt (nth xs q) fun w=>.ok w h) Q;rw[nH,e2];exact z
def DN(e:h.get p=some (.lst xs))(l:0<=i)(e2:xs[i.toNat]? =some w)(z:Q w h):wP .ix [.ref p,.int i] h Q:=by
 rw[show i=Int.ofNat i.toNat by show i=((i.toNat:Nat):Int);omega];exact ady e e2 z
def aeS(e:h.get p=some (.tup xs))(e2:xs[q]? =some w)(z:Q w h):wP .ix [.ref p,.int (Int.ofNat q)] h Q:=by
 show okQ (h.at (.ref p) fun _ o=>o.items fun xs=>Opt (nth xs q) fun w=>.ok w h) Q;rw[fQ e];show okQ (Opt (nth xs q) fun w=>.ok w h) Q;rw[nH,e2];exact z
def aap(l:xs.length<=16777215)(z:Q (.ref h.n) (h.push (.lst xs))):wP .lst xs h Q:=by
 show okQ (ifB (Nat.ble (len xs) 16777215) (.alloc h (.lst xs)) .no) Q;rw[len_eq,ble_eq,dM (bH l)];exact z
def aeT(l:xs.length<=16777215)(z:Q (.ref h.n) (h.push (.tup xs))):wP .tup xs h Q:=by
 show okQ (ifB (Nat.ble (len xs) 16777215) (.alloc h (.tup xs)) .no) Q;rw[len_eq,ble_eq,dM (bH l)];exact z
def adz(e:h.get p=some (.lst xs))(z:Q (.ref h.n) (h.push (.lst xs))):wP .list [.ref p] h Q:=by
 show okQ (h.at (.ref p) fun _ o=>o.items fun xs=>.alloc h (.lst xs)) Q;rw[fQ e];exact z
def xx:∀ ns:List Int,jz (ns.map W.int)=some ns
 | []=>rfl
 | n::ns=>by
   show Option.rec (motive:=fun _=>Option (List Int)) none (fun r=>some (n::r)) (jz (ns.map W.int))=_;rw[xx ns]
def aeU(e:h.get p=some (.lst (ns.map W.int)))(z:Q (.int ns.sum) h):wP .sum [.ref p] h Q:=by
 show okQ (h.at (.ref p) fun _ o=>o.onL fun xs=>Opt (jz xs) fun ns=>.ok (.int (sumZ ns)) h) Q;rw[fQ e];show okQ (Opt (jz (ns.map W.int)) fun ns=>.ok (.int (sumZ ns)) h) Q;rw[xx];show Q (.int (sumZ ns)) h;rw[Jr];exact z
def adA{b:Bool}(z:Q (.bl (!b)) h):wP .BR [.bl b] h Q:=by cases b <;> exact z
def Zg{b:Bool}(z:Q (.bl b) h):wP .truth [.bl b] h Q:=z
theorem Pk{a e:X}(x:wX a K n τ h fun w h1=>∃ p xs,w= .ref p/\h1.get p=some (.lst xs)/\wX e K n τ h1 fun u h2=>∃ ys,h2.get p=some (.lst ys)/\ys.length<=16777215/\Q .non (h2.set p (.lst (ys ++ [u])))):wX (.lm .append a [e]) K n τ h Q:=by
 show okQ ((a.f K n τ h).bind fun r h=>r.toW fun w=>h.at w fun _ o=>o.onL fun _=>(goA [e] K n τ h).bind fun r h=>r.toL fun ws=>ofW (dF .append (w::ws) h)) (aW Q);obtain⟨w,h1,ea,p,xs,rfl,g,y⟩:=g8 x;rw[ea];show okQ (h1.at (.ref p) fun _ o=>o.onL fun _=>(goA [e] K n τ h1).bind fun r h=>r.toL fun ws=>ofW (dF .append (.ref p::ws) h)) (aW Q);rw[fQ g];show okQ ((goA [e] K n τ h1).bind fun r h=>r.toL fun ws=>ofW (dF .append (.ref p::ws) h)) (aW Q);obtain⟨u,h2,eb,ys,g2,l2,q⟩:=g8 y
 have:goA [e] K n τ h1= .ok (.ws [u]) h2:=by
  show R.rec (motive:=fun _=>R Ev.A) (fun r h=>A.rec (motive:=fun _=>R Ev.A) (fun w=>R.rec (motive:=fun _=>R Ev.A) (fun r h=>A.rec (motive:=fun _=>R Ev.A) (fun _=>.no) (fun ws=>.ok (.ws (w::ws)) h) (fun _=>.no) (fun _=>.no) .no r) (fun C fs h=>.ex C fs h) .no (goA [] K n τ h)) (fun _=>.no) (fun _=>.no) (fun _=>.no) .no r) (fun C fs h=>.ex C fs h) .no (e.f K n τ h1)=_;rw[eb];rfl
 rw[this];show okQ (ofW (h2.at (.ref p) fun n o=>o.onL fun xs=>ifB (Nat.ble (len xs) 16777215) (.ok W.non (h2.set n (.lst (app xs [u])))) .no)) (aW Q);rw[fQ g2];show okQ (ofW (ifB (Nat.ble (len ys) 16777215) (.ok W.non (h2.set p (.lst (app ys [u])))) .no)) (aW Q);rw[len_eq,ble_eq,dM (bH l2),jM];exact q
def DP{e:X}{Q:Iv->Hs->Prop}(x:wX e K n τ h fun w h1=>∃ p ws,w= .ref p/\((h1.get p=some (.lst ws)/\Q (.lst p) h1)\/(h1.get p=some (.tup ws)/\Q (.tup p) h1))):wI (.seq e) K n τ h Q:=by
 show okQ ((e.f K n τ h).bind fun r h=>r.toW fun w=>h.at w fun n o=>O.casesOn o (fun _=>.ok (.iv (.tup n)) h) (fun _=>.ok (.iv (.lst n)) h) (fun _ _=>.no) (fun _=>.no) (fun _=>.no) (fun _=>.no)) (aV Q);obtain⟨w,h1,ea,p,ws,rfl,g⟩:=g8 x;rw[ea];show okQ (h1.at (.ref p) fun n o=>O.casesOn o (fun _=>.ok (.iv (.tup n)) h1) (fun _=>.ok (.iv (.lst n)) h1) (fun _ _=>.no) (fun _=>.no) (fun _=>.no) (fun _=>.no)) (aV Q)
 rcases g with ⟨g,q⟩ | ⟨g,q⟩ <;> rw[fQ g] <;> exact q
def Xe{k:R Ev.A}(a:j<1000000000)(b: -1000000000<j):within j k=k:=by
 show ifB (ilt j 1000000000) (ifB (ilt (-1000000000) j) k .no) .no=_;rw[b8,b8,dM (bH a),dM (bH b)]
theorem uf{e:X}{Q:Iv->Hs->Prop}(x:wX e K n τ h fun w h1=>∃ j:Int,w= .int j/\j<1000000000/\-1000000000<j/\Q (.rng 0 j.toNat) h1):wI (.j6 [e]) K n τ h Q:=by
 show okQ ((goA [e] K n τ h).bind fun r h=>r.toL fun ws=>Fj ws fun w=>w.onI fun j=>within j (.ok (.iv (.rng 0 j.toNat)) h)) (aV Q);obtain⟨w,h1,ea,j,rfl,l1,l2,q⟩:=g8 x
 have:goA [e] K n τ h= .ok (.ws [.int j]) h1:=by
  show R.rec (motive:=fun _=>R Ev.A) (fun r h=>A.rec (motive:=fun _=>R Ev.A) (fun w=>R.rec (motive:=fun _=>R Ev.A) (fun r h=>A.rec (motive:=fun _=>R Ev.A) (fun _=>.no) (fun ws=>.ok (.ws (w::ws)) h) (fun _=>.no) (fun _=>.no) .no r) (fun C fs h=>.ex C fs h) .no (goA [] K n τ h)) (fun _=>.no) (fun _=>.no) (fun _=>.no) .no r) (fun C fs h=>.ex C fs h) .no (e.f K n τ h)=_;rw[ea];rfl
 rw[this];show okQ (within j (.ok (.iv (.rng 0 j.toNat)) h1)) (aV Q);rw[Xe l1 l2];exact q
def sW(lo:Int)(m:Nat):List W:=(List.range m).map fun k=>.int (lo+Int.ofNat k)
def bC{lo:Int}{m:Nat}:(sW lo m).length=m:=by simp[sW]
def m6{lo:Int}{m k:Nat}(l:k<m):(sW lo m)[k]? =some (.int (lo+Int.ofNat k)):=by simp[sW,l]
def rz{lo:Int}{m:Nat}{h:Hs}:Its (.rng lo m) (sW lo m) h:=.inr (.inr ⟨lo,by rw[bC],fun i l=>m6 (by rw[bC]at l;exact l)⟩)
def Js{h1 h2:Hs}(e:h1.get p=some (.lst xs))(l:p<h1.n)(x:Ext h1 h2):Its (.lst p) xs h2:=.inl ⟨p,rfl,x.get l e⟩
end
section
variable{K:Ks}{n:Nat}{τ:Sg}{h:Hs}{ss:List S}
def aM{i:Nat}{w:W}{Q:W->Hs->Prop}(e:cU τ i=some w)(q:Q w h):wX (.var i) K n τ h Q:=(adv e).mpr q
def yN{A:Nat->Prop}{i:Int}:Rd h A (.int i) (.int i):=by simp only[Rd]
def aP{Q:Fl->Hs->Prop}(x:wS ss K n τ h Q):Nb ss K n h Q (.nx τ):=x
def abr{w:W}{Q:Fl->Hs->Prop}(x:Q (.rt w) h):Nb ss K n h Q (.rt w):=x
def adB{w:W}{Q:W->Hs->Prop}(x:Q w h):Uw Q (.rt w) h:=x
def adC{Q:W->Hs->Prop}(x:Q .non h):Uw Q (.nx τ) h:=x
def uY{J:Sg->Hs->Prop}{Q:Fl->Hs->Prop}(x:J τ h):lpQ J Q (.nx τ) h:=x
def v5{t f:Prop}(x:t):bW (.bl true) t f:=x
def lO{t f:Prop}(x:f):bW (.bl false) t f:=x
def Ni{t f:Prop}(x:f):bW (.bl (!true)) t f:=x
def Nj{t f:Prop}(x:t):bW (.bl (!false)) t f:=x
def Cg{c:Prop}[Decidable c]{t f:Prop}(x:c->t)(y:¬ c->f):bW (.bl (decide c)) t f:=by
 by_cases z:c
 · rw[bH z];exact x z
 · rw[bM z];exact y z
def zL{b:Bool}{t f:Prop}(e:b=false)(y:f):bW (.bl b) t f:=by subst e;exact y
def yO{l:List Int}{k:Nat}(z:k<l.length):(l.map W.int)[k]? =some (.int (l.getD k 0)):=by
 rw[eN,gY z];simp[List.getD,gY z]
def Pn:∀ ns:List Int,uX (ns.map D.int)<=1
 | []=>by simp[uX]
 | n::ns=>by simp only[List.map_cons,uX,j7];have:=Pn ns;omega
def R3:∀ ns:List Int,zK (ns.map D.int)=true
 | []=>by simp[zK]
 | n::ns=>by simp[zK,okD,R3 ns]
def G_(ns:List Int):j7 (Dis ns)<=12:=by simp only[Dis,j7];have:=Pn ns;omega
def Nk(ns:List Int):okD (Dis ns)=true:=by simp only[Dis,okD];exact R3 ns
def KJ:∀ {row ls:List Int},L2.Drawn row ls->row.length=ls.length
 | _,_,.nil=>rfl
 | _,_,.cons _ t=>by simp[KJ t]
def Pq:∀ {row ls:List Int} {k:Nat},L2.Drawn row ls->k<ls.length->0<=row.getD k 0/\row.getD k 0<ls.getD k 0
 | _,_,k,.nil,l=>by simp at l
 | _,_,0,.cons a _,_=>by simpa using a
 | _,_,k+1,.cons _ t,l=>by simpa using Pq (k:=k) t (by simpa using l)
end
section
variable{K:Ks}{n:Nat}{τ:Sg}{h:Hs}{Q:W->Hs->Prop}{i j:Int}{p q:Nat}{xs ys:List W}{A B:Nat->Prop}
def KN:∀ bs:List Bool,bools (bs.map W.bl)=some bs
 | []=>rfl
 | b::bs=>by
   show Option.rec (motive:=fun _=>Option (List Bool)) none (fun r=>some (b::r)) (bools (bs.map W.bl))=_;rw[KN bs]
def aeV{bs:List Bool}(e:h.get p=some (.lst (bs.map W.bl)))(z:Q (.bl (bs.all id)) h):wP .all [.ref p] h Q:=by
 show okQ (h.at (.ref p) fun _ o=>o.onL fun xs=>Opt (bools xs) fun bs=>.yes (allB bs) h) Q;rw[fQ e];show okQ (Opt (bools (bs.map W.bl)) fun bs=>.yes (allB bs) h) Q;rw[KN];show Q (.bl (allB bs)) h;rw[Rz];exact z
def Rds.bls:∀ {ns:List Bool} {ws:List W},Rds h A (ns.map D.bl) ws ↔ ws=ns.map W.bl
 | [],ws=>by simp only[List.map_nil,Rds]
 | n::ns,ws=>by
   simp only[List.map_cons,Rds,Rd]
   constructor
   · rintro⟨w,r,rfl,rfl,b⟩;rw[Rds.bls.mp b]
   · rintro rfl;exact⟨_,_,rfl,rfl,Rds.bls.mpr rfl⟩
def adD{ns:List Bool}{w:W}:Rd h A (.lst (ns.map D.bl)) w ↔ ∃ p,w= .ref p/\p<h.n/\A p/\h.get p=some (.lst (ns.map W.bl)):=by
 simp only[Rd,Rds.bls]
 constructor
 · rintro⟨p,ws,e,l,a,g,rfl⟩;exact⟨p,e,l,a,g⟩
 · rintro⟨p,e,l,a,g⟩;exact⟨p,_,e,l,a,g,rfl⟩
def FQ{ds:List D}{w:W}:Rd h A (.lst ds) w ↔ ∃ p ws,w= .ref p/\p<h.n/\A p/\h.get p=some (.lst ws)/\Rds h A ds ws:=by simp only[Rd]
end
section
variable{K:Ks}{n:Nat}{τ:Sg}{h:Hs}{Q:W->Hs->Prop}{i j:Int}{p q:Nat}{xs ys:List W}{ns:List Int}{A B:Nat->Prop}
def adE(v:Iv)(it:List (Hs->W × Hs))(h:Hs):Prop:=∀(i:Nat) (fin:R Ev.A) (go:W->Hs->R Ev.A),v.next i h fin go=Option.rec fin (fun f=>go (f h).1 (f h).2) (it[i]?)
def Its.two{v:Iv}{ws:List W}(x:Its v ws h):adE v (ws.map fun w h=>(w,h)) h:=fun i fin go=>by
 rw[x.next,eN];cases ws[i]? <;> rfl
def Xf{v:Iv}{t:Tg}{g:I}{t2:Tg}{e:X}{D:Nat}{it:List (Hs->W × Hs)}{Q:Ev.A->Hs->Prop}(J:Nat->Hs->Prop)(its:∀ i h,J i h->adE v it h)
    (turn:∀ i f h m,it[i]? =some f->n<=m+it.length->J i h->∃ τ1,bw (f h).2 9 t (f h).1 τ=some τ1/\wI g K m τ1 (f h).2 fun v2 h2=>okQ (fU v2 t2 none none e D K m 0 τ1 h2) fun _ h3=>J (i+1) h3) (fin:∀ h,J it.length h->Q .u h):
    ∀(k i m:Nat) (h:Hs),i+k=it.length->k<m->n<=m+i->J i h->okQ (fU v t none (some (.mk g t2 none)) e D K m i τ h) Q
 | k,i,0,h,_,l,_,_=>aK l (by omega)
 | k,i,m+1,h,ek,l,l2,x=>by
   have u:fU v t none (some (.mk g t2 none)) e D K (m+1) i τ h=v.next i h (.ok .u h) fun w h=>Opt (bw h 9 t w τ) fun τ1=>(g.f K m τ1 h).bind fun r h=>r.toV fun v2=>(fU v2 t2 none none e D K m 0 τ1 h).bind fun _ h=>fU v t none (some (.mk g t2 none)) e D K m (i+1) τ h:=rfl;rw[u,its i h x]
   cases k with
   | zero=>
     rw[List.getElem?_eq_none (by omega)];rw[Nat.add_zero]at ek;subst ek
     exact fin h x
   | succ k=>
     have li:i<it.length:=by omega
     rw[gY li];obtain⟨τ1,e1,y⟩:=turn i it[i] h m (gY li) (by omega) x;show okQ (Opt (bw (it[i] h).2 9 t (it[i] h).1 τ) fun τ1=>(g.f K m τ1 (it[i] h).2).bind fun r h=>r.toV fun v2=>(fU v2 t2 none none e D K m 0 τ1 h).bind fun _ h=>fU v t none (some (.mk g t2 none)) e D K m (i+1) τ h) Q;rw[e1];show okQ ((g.f K m τ1 (it[i] h).2).bind fun r h=>r.toV fun v2=>(fU v2 t2 none none e D K m 0 τ1 h).bind fun _ h=>fU v t none (some (.mk g t2 none)) e D K m (i+1) τ h) Q;unfold wI at y;generalize g.f K m τ1 (it[i] h).2=r at y
     cases r with
     | ok a h2=>cases a with
       | iv v2=>
         show okQ ((fU v2 t2 none none e D K m 0 τ1 h2).bind fun _ h=>fU v t none (some (.mk g t2 none)) e D K m (i+1) τ h) Q;refine Zf.mpr (qW (show okQ (fU v2 t2 none none e D K m 0 τ1 h2) (fun _ h3=>J (i+1) h3) from y) fun _ h3 j3=>?_)
         exact Xf J its turn fin k (i+1) m h3 (by omega) (by omega) (by omega) j3
       | _=>exact y.elim
     | _=>exact y.elim
def v7(D:Nat)(h h':Hs):Prop:=h.n<=h'.n/\∀ k,k<h.n->k ≠ D->h'.get k=h.get k
def v7.refl{D:Nat}:v7 D h h:=⟨aG _,fun _ _ _=>rfl⟩
def v7.trans{D:Nat}{a b c:Hs}(x:v7 D a b)(y:v7 D b c):v7 D a c:=⟨Nat.le_trans x.1 y.1,fun k l ne=>(y.2 k (a_ l x.1) ne).trans (x.2 k l ne)⟩
def Ext.D{D:Nat}{a b:Hs}(x:Ext a b):v7 D a b:=⟨x.1,fun k l _=>x.2 k l⟩
def v7.set{D:Nat}{a b:Hs}{o:O}(x:v7 D a b):v7 D a (b.set D o):=⟨by rw[Hs.gZ];exact x.1,fun k l ne=>by rw[Hs.get_set,aA ne];exact x.2 k l ne⟩
def FT(e:h.get p=some (.lst (ns.map W.int)))(l:ns.length<=1000)(z:Q (.int (len (dd ns []):Nat)) h):wP .yH [.ref p] h Q:=by
 show okQ (h.at (.ref p) fun _ o=>o.onL fun xs=>ifB (Nat.ble (len xs) 1000) (Opt (jz xs) fun ns=>.ok (.int (.ofNat (len (dd ns [])))) h) .no) Q;rw[fQ e];show okQ (ifB (Nat.ble (len (ns.map W.int)) 1000) (Opt (jz (ns.map W.int)) fun ns=>.ok (.int (.ofNat (len (dd ns [])))) h) .no) Q;rw[len_eq,bK,ble_eq,dM (bH l),xx];exact z
def KQ(i:Int):∀ ns:List Int,BP (.int i) (ns.map W.int)=some (decide (i ∈ ns))
 | []=>rfl
 | n::ns=>by
   show Option.rec (motive:=fun _=>Option Bool) none (fun b=>Option.rec (motive:=fun _=>Option Bool) none (fun r=>some (ifB b true r)) (BP (.int i) (ns.map W.int))) (some (ieq n i))=_;rw[KQ i ns,kO];show some (ifB (decide (n=i)) true (decide (i ∈ ns)))=_
   by_cases c:n=i
   · subst c;simp[ifB]
   · have c':¬ i=n:=fun z=>c z.symm;rw[bM c];simp[ifB,c']
def adF(e:h.get p=some (.lst (ns.map W.int)))(z:Q (.bl (decide (i ∈ ns))) h):wP .in_ [.int i,.ref p] h Q:=by
 show okQ (h.at (.ref p) fun _ o=>o.items fun xs=>Opt (some (ieq i i)) fun _=>Opt (BP (.int i) xs) fun c=>.yes (id c) h) Q;rw[fQ e];show okQ (Opt (BP (.int i) (ns.map W.int)) fun c=>.yes (id c) h) Q;rw[KQ];exact z
def aaq{a b:Int}(ha:0<a/\a<1000)(hb:0<b/\b<1000)(z:Q (.int (a ^ b.toNat)) h):wP .pow [.int a,.int b] h Q:=by
 show okQ (ifB (ilt a 1000) (ifB (ilt 0 a) (ifB (ilt 0 b) (ifB (ilt b 1000) (.ok (.int (a ^ b.toNat)) h) .no) .no) .no) .no) Q;rw[b8,b8,b8,b8,dM (bH ha.2),dM (bH ha.1),dM (bH hb.1),dM (bH hb.2)];exact z
def aar{w:W}(z:Q (.bl (uR w)) h):wP .isN [w] h Q:=z
def Xg{w:W}(z:Q (.bl (!uR w)) h):wP .zE [w] h Q:=z
end
section
variable{K:Ks}{n:Nat}{τ:Sg}{h:Hs}{Q:W->Hs->Prop}
def Pu{nx:Nat}{idx:List Nat}{e:X}{c1 c2:Nat->Nat->List W->Hs->R A}{C:Nat}{fs:Fs}{h1:Hs}{w:W}(z:e.f K n (ir 0 idx τ) h= .ex C fs h1)(l:C<nx)(g:fget fs gm=some w)(q:Q (.ref h1.n) (h1.push (.tup [.str noT,w]))):wX (.told nx idx e) (c1::c2::K) n τ h Q:=by
 show okQ (R.rec (motive:=fun _=>R A) (fun r h=>r.toW fun w=>ofW (.alloc h (.tup [.str uT,w]))) (fun C fs h=>ifB (Nat.ble (C+1) nx) (Opt (fget fs gm) fun w=>ofW (.alloc h (.tup [.str noT,w]))) .no) .no (e.f K n (ir 0 idx τ) h)) (aW Q);rw[z];show okQ (ifB (Nat.ble (C+1) nx) (Opt (fget fs gm) fun w=>ofW (.alloc h1 (.tup [.str noT,w]))) .no) (aW Q);rw[dM (Nat.ble_eq_true_of_le l),g];exact q
def DQ{es:List X}{Q:List W->Hs->Prop}(x:wA es K n τ h Q):∃ w h',goA es K n τ h= .ok (.ws w) h'/\Q w h':=by
 unfold wA at x;generalize goA es K n τ h=r at x
 cases r with
 | ok a h'=>cases a with
   | ws w=>exact⟨w,h',rfl,x⟩
   | _=>exact x.elim
 | _=>exact x.elim
def R4{a b c:X}(x:wX a K n τ h fun u h1=>wX b K n τ h1 fun v h2=>wX c K n τ h2 fun w h3=>∃ i j k:Int,u= .int i/\v= .int j/\w= .int k/\h2=h3/\Q (.bl (decide (i<=j)&&decide (j<k))) h3):wX (.chain .le .lt a b c) K n τ h Q:=by
 obtain⟨u,h1,e1,x⟩:=g8 x;obtain⟨v,h2,e2,x⟩:=g8 x;obtain⟨w,h3,e3,i,j,k,rfl,rfl,rfl,rfl,q⟩:=g8 x;show okQ ((a.f K n τ h).bind fun r h=>r.toW fun u=>(b.f K n τ h).bind fun r h=>r.toW fun v=>(ofW (dF .le [u,v] h)).bind fun r h=>r.toW fun k=>k.onB (.ok (.w (.bl false)) h) ((c.f K n τ h).bind fun r h=>r.toW fun w=>ofW (dF .lt [v,w] h))) (aW Q);rw[e1];show okQ ((b.f K n τ h1).bind fun r h=>r.toW fun v=>(ofW (dF .le [.int i,v] h)).bind fun r h=>r.toW fun k=>k.onB (.ok (.w (.bl false)) h) ((c.f K n τ h).bind fun r h=>r.toW fun w=>ofW (dF .lt [v,w] h))) (aW Q);rw[e2];show okQ (W.onB (.bl (!ilt j i)) (.ok (.w (.bl false)) h2) ((c.f K n τ h2).bind fun r h=>r.toW fun w=>ofW (dF .lt [.int j,w] h))) (aW Q);rw[b8]
 by_cases c1:j<i
 · rw[bH c1];rw[bM (show ¬ i<=j by omega)]at q;exact q
 · rw[bM c1];show okQ ((c.f K n τ h2).bind fun r h=>r.toW fun w=>ofW (dF .lt [.int j,w] h)) (aW Q);rw[e3];show Q (.bl (ilt j k)) h2;rw[b8];rw[bH (show i<=j by omega)]at q;exact q
def DW{i j:Nat}{e:X}{Q:Fl->Hs->Prop}(x:wX e K n τ h fun w h1=>∃ p u v,w= .ref p/\h1.get p=some (.tup [u,v])/\Q (.nx (setAt (setAt τ (some u) i) (some v) j)) h1):w1 (.asg (.tup [.nm i,.nm j]) e) K n τ h Q:=by
 obtain⟨w,h1,e1,p,u,v,rfl,g,q⟩:=g8 x;show okQ ((e.f K n τ h).bind fun r h=>r.toW fun w=>Opt (bw h 9 (.tup [.nm i,.nm j]) w τ) fun τ=>.ok (.fl (.nx τ)) h) (aF Q);rw[e1];show okQ (Opt (Option.rec (motive:=fun _=>Option Sg) none (fun o=>O.rec (motive:=fun _=>Option Sg) (fun xs=>bindL (bw h1 8) [.nm i,.nm j] xs τ) (fun _=>none) (fun _ _=>none) (fun _=>none) (fun _=>none) (fun _=>none) o) (h1.get p)) fun τ=>.ok (.fl (.nx τ)) h1) (aF Q);rw[g];exact q
def yP{f:Nat}{es:List X}{ws:List W}{h1 h2:Hs}{C:Nat}{fs:Fs}(e:goA es K n τ h= .ok (.ws ws) h1)(z:b7 f ws K n h1= .ex C fs h2):(X.call f es).f K n τ h= .ex C fs h2:=by
 show(goA es K n τ h).bind (fun a h=>a.toL fun ws=>b7 f ws K n h)=_;rw[e];exact z
end
section
variable{K:Ks}{n:Nat}{τ:Sg}{h:Hs}{Q:W->Hs->Prop}{p q:Nat}{xs ys:List W}{A B:Nat->Prop}
def Rds.at{ds:List D}{ws:List W}{i:Nat}{w:W}(r:Rds h A ds ws)(e:ws[i]? =some w):∃ d,ds[i]? =some d/\Rd h A d w:=by
 have l:i<ds.length:=by have:=(bB e).1;rw[r.length]at this;exact this
 obtain⟨w',e',x⟩:=r.get (gY l);rw[e]at e';cases e';exact⟨_,gY l,x⟩
end
end Ev
namespace Ev
open PySem PySem.Spec PySem.SeqAt PyProof.Rows L2
section
def W.onS{β:Type}(w:W)(f:List Nat->R β):R β:=W.rec .no (fun _=>.no) (fun _=>.no) f (fun _=>.no) w
def aeW(xs:List W):Option (List (List Nat)):=List.rec (some []) (fun x _ r=>W.elim x none (fun _=>none) (fun _=>none) (fun c=>Option.rec none (fun cs=>some (c::cs)) r) (fun _=>none)) xs
def adG(cs:List (List Nat)):Nat:=List.rec 0 (fun c _ r=>len c+r) cs
def aeX(z:List Nat)(cs:List (List Nat)):List Nat:=(PySem.Txt.join (nm z) (cs.map nm)).cps.toList
def aeY(z:List Nat)(h:Hs)(a:W):R W:=h.at a fun _ o=>o.onL fun xs=>Opt (aeW xs) fun cs=>ifB (Nat.ble (adG cs+len cs*len z) 16777216) (.ok (.str (aeX z cs)) h) .no
def Pr.join(z:List Nat):Pr:=⟨fun ws h=>lK ws (aeY z h)⟩
end
section
variable{h:Hs}{Q:W->Hs->Prop}{K:Ks}{n:Nat}{τ:Sg}{A:Nat->Prop}
def v8{c:List Nat}:Rd h A (.str c) (.str c):=by simp only[Rd]
end
section
variable{K:Ks}{n:Nat}{τ:Sg}{h:Hs}{Q:W->Hs->Prop}{p q:Nat}{xs ys:List W}{A B:Nat->Prop}
def Px{p:Nat}{t:Tg}{b:List S}{ws:List W}{Q:Fl->Hs->Prop}(I:Nat->Sg->Hs->Prop)(its:∀ i τ h,I i τ h->h.get p=some (.lst ws))
    (turn:∀ i w τ h m,ws[i]? =some w->n<=m+ws.length->I i τ h->∃ τ1,bw (h.push (.tup [.int (.ofNat i),w])) 9 t (.ref h.n) τ=some τ1/\wS b K m τ1 (h.push (.tup [.int (.ofNat i),w])) (lpQ (I (i+1)) Q)) (fin:∀ τ h,I ws.length τ h->Q (.nx τ) h):
    ∀(k i m:Nat) (τ:Sg) (h:Hs),i+k=ws.length->k<m->n<=m+i->I i τ h->okQ (iU (.enu p) t b K m i τ h) (aF Q)
 | k,i,0,τ,h,e,l,_,x=>aK l (by omega)
 | k,i,m+1,τ,h,e,l,l2,x=>by
   have u:iU (.enu p) t b K (m+1) i τ h=Iv.next (.enu p) i h (.ok (.fl (.nx τ)) h) fun w h=>Opt (bw h 9 t w τ) fun τ=>(c7 b K m τ h).bind fun r h=>r.toF fun f=>lZ h f fun τ=>iU (.enu p) t b K m (i+1) τ h:=rfl;rw[u];show okQ (Opt (h.get p) fun o=>o.onS fun xs=>Option.rec (.ok (.fl (.nx τ)) h) (fun x=>Opt (bw (h.push (.tup [.int (.ofNat i),x])) 9 t (.ref h.n) τ) fun τ=>(c7 b K m τ (h.push (.tup [.int (.ofNat i),x]))).bind fun r h=>r.toF fun f=>lZ h f fun τ=>iU (.enu p) t b K m (i+1) τ h) (nth xs i)) (aF Q);rw[its i τ h x];show okQ (Option.rec (.ok (.fl (.nx τ)) h) (fun x=>Opt (bw (h.push (.tup [.int (.ofNat i),x])) 9 t (.ref h.n) τ) fun τ=>(c7 b K m τ (h.push (.tup [.int (.ofNat i),x]))).bind fun r h=>r.toF fun f=>lZ h f fun τ=>iU (.enu p) t b K m (i+1) τ h) (nth ws i)) (aF Q);rw[nH]
   cases k with
   | zero=>
     rw[List.getElem?_eq_none (by omega)];rw[Nat.add_zero]at e;subst e
     exact fin τ h x
   | succ k=>
     have li:i<ws.length:=by omega
     rw[gY li];obtain⟨τ1,e1,y⟩:=turn i ws[i] τ h m (gY li) (by omega) x;show okQ (Opt (bw (h.push (.tup [.int (.ofNat i),ws[i]])) 9 t (.ref h.n) τ) fun τ=>(c7 b K m τ (h.push (.tup [.int (.ofNat i),ws[i]]))).bind fun r h=>r.toF fun f=>lZ h f fun τ=>iU (.enu p) t b K m (i+1) τ h) (aF Q);rw[e1];show okQ ((c7 b K m τ1 (h.push (.tup [.int (.ofNat i),ws[i]]))).bind fun r h=>r.toF fun f=>lZ h f fun τ=>iU (.enu p) t b K m (i+1) τ h) (aF Q);obtain⟨f,h',z,q⟩:=Ux y;rw[z]
     cases f with
     | nx τ2=>exact Px I its turn fin k (i+1) m τ2 h' (by omega) (by omega) (by omega) q
     | ct τ2=>exact Px I its turn fin k (i+1) m τ2 h' (by omega) (by omega) (by omega) q
     | rt w=>exact q
     | bk τ2=>exact q
def R5{e:X}{t:Tg}{b:List S}{Q:Fl->Hs->Prop}(x:wX e K n τ h fun w h1=>∃(p:Nat) (ws:List W) (J:Nat->Sg->Hs->Prop),w= .ref p/\h1.get p=some (.lst ws)/\(∀ i τ h,J i τ h->h.get p=some (.lst ws))/\ws.length<n/\J 0 τ h1/\
    (∀ i w τ h m,ws[i]? =some w->n<=m+ws.length->J i τ h->∃ τ1,bw (h.push (.tup [.int (.ofNat i),w])) 9 t (.ref h.n) τ=some τ1/\wS b K m τ1 (h.push (.tup [.int (.ofNat i),w])) (lpQ (J (i+1)) Q))/\∀ τ h,J ws.length τ h->Q (.nx τ) h):w1 (.for_ (.enu [e]) t b) K n τ h Q:=by
 have y:wA [e] K n τ h fun us h1=>∃(p:Nat) (ws:List W) (J:Nat->Sg->Hs->Prop),us= [.ref p]/\h1.get p=some (.lst ws)/\(∀ i τ h,J i τ h->h.get p=some (.lst ws))/\ws.length<n/\J 0 τ h1/\
  (∀ i w τ h m,ws[i]? =some w->n<=m+ws.length->J i τ h->∃ τ1,bw (h.push (.tup [.int (.ofNat i),w])) 9 t (.ref h.n) τ=some τ1/\wS b K m τ1 (h.push (.tup [.int (.ofNat i),w])) (lpQ (J (i+1)) Q))/\∀ τ h,J ws.length τ h->Q (.nx τ) h:=by
  refine aH.mpr (vz x fun v h1 ⟨p,ws,J,e,z⟩=>?_);subst e;exact⟨p,ws,J,rfl,z⟩
 obtain⟨us,h1,e1,p,ws,J,rfl,g,its,l,s,turn,fin⟩:=DQ y;show okQ (((goA [e] K n τ h).bind fun r h=>r.toL fun ws=>Fj ws fun v=>h.at v fun n o=>o.onL fun _=>.ok (.iv (.enu n)) h).bind fun r h=>r.toV fun v=>iU v t b K n 0 τ h) (aF Q);rw[e1];show okQ ((h1.at (.ref p) fun n o=>o.onL fun _=>(.ok (Ev.A.iv (.enu n)) h1:Ev.R Ev.A)).bind fun r h=>r.toV fun v=>iU v t b K n 0 τ h) (aF Q);rw[fQ g];exact Px J its turn fin ws.length 0 n τ h1 (by omega) l (by omega) s
variable{kvs:List (List W × W)}{ks:List W}
end
section
variable{h:Hs}{Q:W->Hs->Prop}{K:Ks}{n:Nat}{τ:Sg}{A:Nat->Prop}
def Xh{a hi:X}(x:wX a K n τ h fun w h1=>wX hi K n τ h1 fun u h3=>∃(p:Nat) (xs:List W) (j:Nat),w= .ref p/\u= .int (Int.ofNat j)/\j<xs.length/\h3.get p=some (.tup xs)/\Q (.ref h3.n) (h3.push (.tup (xs.take j)))):wX (.slice a none (some hi)) K n τ h Q:=by
 obtain⟨w,h1,e1,x⟩:=g8 x;obtain⟨u,h3,e2,p,xs,j,rfl,rfl,lj,g,q⟩:=g8 x
 have si:sIx (len xs) (len xs) (some (Int.ofNat j))=j:=by
  show ifB (Nat.ble j (len xs)) j (len xs)=j;rw[len_eq,ble_eq,dM (bH (Nat.le_of_lt lj))]
 show okQ ((a.f K n τ h).bind fun r h=>r.toW fun w=>Fi K n none τ h fun l h=>Fi K n (some hi) τ h fun u h=>h.at w fun _ o=>
  O.rec (fun xs=>ifB (ifB (Nat.beq (sIx (len xs) 0 l) 0) (Nat.beq (sIx (len xs) (len xs) u) (len xs)) false) .no (ofW (.alloc h (.tup (tak (drp xs (sIx (len xs) 0 l)) (sIx (len xs) (len xs) u - sIx (len xs) 0 l)))))) (fun xs=>ofW (.alloc h (.lst (tak (drp xs (sIx (len xs) 0 l)) (sIx (len xs) (len xs) u - sIx (len xs) 0 l))))) (fun _ _=>.no) (fun _=>.no) (fun _=>.no) (fun _=>.no) o) (aW Q)
 rw[e1]
 show okQ ((hi.f K n τ h1).bind fun r h=>r.toW fun w=>w.onI fun u=>h.at (.ref p) fun _ o=>
  O.rec (fun xs=>ifB (ifB (Nat.beq (sIx (len xs) 0 none) 0) (Nat.beq (sIx (len xs) (len xs) (some u)) (len xs)) false) .no (ofW (.alloc h (.tup (tak (drp xs (sIx (len xs) 0 none)) (sIx (len xs) (len xs) (some u) - sIx (len xs) 0 none)))))) (fun xs=>ofW (.alloc h (.lst (tak (drp xs (sIx (len xs) 0 none)) (sIx (len xs) (len xs) (some u) - sIx (len xs) 0 none))))) (fun _ _=>.no) (fun _=>.no) (fun _=>.no) (fun _=>.no) o) (aW Q)
 rw[e2];show okQ (h3.at (.ref p) fun _ o=>O.rec (fun xs=>ifB (ifB (Nat.beq (sIx (len xs) 0 none) 0) (Nat.beq (sIx (len xs) (len xs) (some (Int.ofNat j))) (len xs)) false) .no (ofW (.alloc h3 (.tup (tak (drp xs (sIx (len xs) 0 none)) (sIx (len xs) (len xs) (some (Int.ofNat j)) - sIx (len xs) 0 none)))))) (fun xs=>ofW (.alloc h3 (.lst (tak (drp xs (sIx (len xs) 0 none)) (sIx (len xs) (len xs) (some (Int.ofNat j)) - sIx (len xs) 0 none))))) (fun _ _=>.no) (fun _=>.no) (fun _=>.no) (fun _=>.no) o) (aW Q);rw[fQ g];show okQ (ifB (ifB (Nat.beq 0 0) (Nat.beq (sIx (len xs) (len xs) (some (Int.ofNat j))) (len xs)) false) .no (ofW (.alloc h3 (.tup (tak (drp xs 0) (sIx (len xs) (len xs) (some (Int.ofNat j)) - 0)))))) (aW Q);rw[si]
 have nb:Nat.beq j (len xs)=false:=by rw[len_eq];cases z:Nat.beq j xs.length with
  | false=>rfl
  | true=>have:=Nat.eq_of_beq_eq_true z;omega
 show okQ (ifB (Nat.beq j (len xs)) .no (ofW (.alloc h3 (.tup (tak (drp xs 0) (j - 0)))))) (aW Q);rw[nb];show Q (.ref h3.n) (h3.push (.tup (tak (drp xs 0) (j - 0))));rw[BW,BV,List.drop_zero,Nat.sub_zero];exact q
abbrev D3(t:Int × Int × Int):D:=.tup [.int t.1,.int t.2.1,.int t.2.2]
def afU{t:Int × Int × Int}{w:W}:Rd h A (D3 t) w ↔ ∃ p,w= .ref p/\p<h.n/\A p/\h.get p=some (.tup [.int t.1,.int t.2.1,.int t.2.2]):=by
 have e:[D.int t.1,D.int t.2.1,D.int t.2.2] = [t.1,t.2.1,t.2.2].map D.int:=rfl;simp only[D3,Rd,e,Rds.ints]
 constructor
 · rintro⟨p,ws,e,l,a,g,rfl⟩;exact⟨p,e,l,a,g⟩
 · rintro⟨p,e,l,a,g⟩;exact⟨p,_,e,l,a,g,rfl⟩
def Py{i j k:Nat}{e:X}{Q:Fl->Hs->Prop}(x:wX e K n τ h fun w h1=>∃ p u v z,w= .ref p/\h1.get p=some (.tup [u,v,z])/\Q (.nx (setAt (setAt (setAt τ (some u) i) (some v) j) (some z) k)) h1):w1 (.asg (.tup [.nm i,.nm j,.nm k]) e) K n τ h Q:=by
 obtain⟨w,h1,e1,p,u,v,z,rfl,g,q⟩:=g8 x;show okQ ((e.f K n τ h).bind fun r h=>r.toW fun w=>Opt (bw h 9 (.tup [.nm i,.nm j,.nm k]) w τ) fun τ=>.ok (.fl (.nx τ)) h) (aF Q);rw[e1]
 have eb:bw h1 9 (.tup [.nm i,.nm j,.nm k]) (.ref p) τ=some (setAt (setAt (setAt τ (some u) i) (some v) j) (some z) k):=by
  show Option.rec (motive:=fun _=>Option Sg) _ _ (h1.get p)=_;rw[g];rfl
 show okQ (Opt (bw h1 9 (.tup [.nm i,.nm j,.nm k]) (.ref p) τ) fun τ=>.ok (.fl (.nx τ)) h1) (aF Q);rw[eb];exact q
def abt{nt:Nat}{idx:List Nat}{it:I}{t:Tg}{c e:X}{Q:W->Hs->Prop}(x:wI it K n τ h fun v h1=>Ext h h1/\∃(ws:List W) (ds:List (Bool × D)),(∀ h2,Ext h1 h2->Its v ws h2)/\ws.length=ds.length/\ws.length<=16777215/\ws.length<n/\
    (∀(i:Nat) w b d h2 m,ws[i]? =some w->ds[i]? =some (b,d)->n<=m+ws.length->Ext h1 h2->h1.n<h2.n->∃ τ1,bw h2 9 t w (ir nt idx τ)=some τ1/\wX c K m τ1 h2 (fun u h3=>u= .bl b/\Ext h2 h3/\(b=true->wX e K m τ1 h3 fun w' h4=>Ext h3 h4/\Ev.Rd h4 (fun p=>h2.n<=p) d w')))/\
    ∀ us h3,Ext h1 h3->h1.n<h3.n->h3.get h1.n=some (.lst us)->Rds h3 (fun p=>h1.n<=p/\p ≠ h1.n) ((ds.filter fun x=>x.1).map fun x=>x.2) us->Q (.ref h1.n) h3):wX (.comp nt idx it t (some c) none e) K n τ h Q:=by
 refine R1 ?_;refine qW x fun a h1 z=>?_
 cases a with
 | iv v=>
   obtain⟨x1,ws,ds,its,le,l1,l2,turn,fin⟩:=z;refine⟨ws,fun i acc h2=>Ext h1 h2/\h1.n<h2.n/\h2.get h1.n=some (.lst acc)/\acc.length<=i/\Rds h2 (fun p=>h1.n<=p/\p ≠ h1.n) (((ds.take i).filter fun x=>x.1).map fun x=>x.2) acc,fun i acc h2 j=>⟨its h2 j.1,j.2.2.1,j.2.2.2.1⟩,l1,l2,⟨.push,bV,aY,aG _,by simp[Rds]⟩,?_,?_⟩
   · rintro i w acc h2 m ei lm ⟨j1,j2,j3,j4,j5⟩;have li:i<ws.length:=(bB ei).1;have ed:ds[i]? =some ((ds[i]'(by omega)).1,(ds[i]'(by omega)).2):=gY (by omega);obtain⟨τ1,eb,y⟩:=turn i w _ _ h2 m ei ed lm j1 j2;refine⟨τ1,eb,?_⟩;refine vz y fun u h3 ⟨y0,y1,y2⟩=>?_;subst y0
     have tk:((ds.take (i+1)).filter fun x=>x.1).map (fun x=>x.2)=(((ds.take i).filter fun x=>x.1).map fun x=>x.2)++if(ds[i]'(by omega)).1 then [(ds[i]'(by omega)).2] else []:=by
      rw[List.take_add_one,ed,List.filter_append,List.map_append];congr 1
      cases hb:(ds[i]'(by omega)).1 <;> simp[hb]
     cases hp:(ds[i]'(by omega)).1 with
     | false=>
       rw[hp]at tk
       exact⟨j1.trans y1,a_ j2 y1.1,y1.get j2 j3,by omega,by rw[tk];simpa using j5.ext y1⟩
     | true=>
       rw[hp]at tk;refine vz (y2 hp) fun w' h4 ⟨x4,r4⟩=>?_;have x24:=y1.trans x4;refine⟨x24.get j2 j3,(j1.trans x24).set (aG _),by rw[Hs.gZ];exact a_ j2 x24.1,by rw[Hs.get_set,aB rfl],by simp;omega,?_⟩;rw[tk];have z1:=(j5.ext x24).snoc (r4.imp (A':=fun p=>h1.n<=p/\p ≠ h1.n) fun p _ q=>⟨by omega,by omega⟩);exact Rds.to (by rw[Hs.gZ];exact aG _) (fun k _ a=>⟨by rw[Hs.get_set,aA a.2],a⟩) _ _ z1
   · rintro acc h2 ⟨j1,j2,j3,j4,j5⟩;rw[le,List.take_length]at j5
     exact fin acc h2 j1 j2 j3 j5
 | _=>exact z.elim
end
section
def O.onC{β:Type}(o:O)(f:List Int->R β):R β:=O.rec (fun _=>.no) (fun _=>.no) (fun _ _=>.no) (fun _=>.no) (fun _=>.no) f o
def uZ(ns:List Int)(k:Int):Int:=if k<(ns.length:Int) then ns.getD k.toNat 0 else if ns.length=0 then 7919*k else ns.getD (k % (ns.length:Int)).toNat 0+104729*k
def aas(h:Hs)(a b:W):R W:=h.at a fun _ o=>o.onC fun ns=>b.onI fun k=>ifB (ilt (-1) k) (ifB (Nat.ble (len ns) 63) (.ok (.int (uZ ns k)) h) .no) .no
def Pr.cell:Pr:=⟨fun ws h=>jy ws (aas h)⟩
def Pz(s k:Int):Int:=(s*s % 2147483647*(s % 65521+3)+k*7919+131) % 2147483647
def rP:Int->Int->Nat->List Int->List Int
 | _,_,_,[]=>[]
 | rest,seed,i,z::ls=>if 0<rest then rest % z::rP (rest.fdiv z) seed (i+1) ls else(Pz seed i).fdiv 61 % z::rP rest (Pz seed i) (i+1) ls
def lD(c:Int)(ls:List Int):List Int:=rP (if(10:Int) ^ (18:Int).toNat<=c then c else 0) (((if c<0 then -c else c)*2654435+40503) % 2147483647) 0 ls
def zM(ls:List Int):Bool:=List.rec true (fun z _ r=>ifB (ilt 0 z) (ifB (ilt z 1000000) r false) false) ls
def aat(h:Hs)(a b:W):R W:=a.onI fun c=>h.at b fun _ o=>o.onL fun xs=>Opt (jz xs) fun ls=>ifB (Nat.ble (len ls) 63) (ifB (zM ls) (.alloc h (.lst ((lD c ls).map W.int))) .no) .no
def Pr.draw:Pr:=⟨fun ws h=>jy ws (aat h)⟩
end
def FW:∀ {ls:List Int},zM ls=true ↔ ∀ z ∈ ls,0<z/\z<1000000
 | []=>by simp[zM]
 | z::ls=>by
   show ifB (ilt 0 z) (ifB (ilt z 1000000) (zM ls) false) false=true ↔ _;rw[b8,b8]
   by_cases a:0<z
   · by_cases b:z<1000000
     · rw[bH a,bH b];show zM ls=true ↔ _;rw[FW];simp[a,b]
     · rw[bH a,bM b]
       constructor
       · intro x;cases x
       · intro x;exact aK (x z (qI ..)).2 b
   · rw[bM a]
     constructor
     · intro x;cases x
     · intro x;exact aK (x z (qI ..)).1 a
def FZ:∀(ls:List Int) (rest seed:Int) (i:Nat),(∀ z ∈ ls,0<z)->Drawn (rP rest seed i ls) ls
 | [],_,_,_,_=>.nil
 | z::ls,rest,seed,i,h=>by
   have z0:=h z (qI ..);have hl:∀ z ∈ ls,0<z:=fun z hz=>h z (iI _ hz);unfold rP
   split
   · exact .cons ⟨Int.emod_nonneg _ (by omega),Int.emod_lt_of_pos _ z0⟩ (FZ ls _ _ _ hl)
   · exact .cons ⟨Int.emod_nonneg _ (by omega),Int.emod_lt_of_pos _ z0⟩ (FZ ls _ _ _ hl)
def abu(c:Int){ls:List Int}(h:∀ z ∈ ls,0<z):Drawn (lD c ls) ls:=FZ ls _ _ _ h
section
variable{Pg:List Fn}{cl:Cn}{E:XK}{d:Nat}{X:Cx}{σ:L2.St}{H:Hp}
def adH:Sp:=fun vs H Q _=>∃ a k:Int,vs= [.int a,.int k]/\0<=a/\a<2147483647/\Q (.int (Pz a k)) H
def R6:Sp:=fun vs H Q _=>∃(c:Int) (l:Addr) (ls:List Int),vs= [.int c,.ref l]/\H l=some (.lst (ls.map V.int))/\ls.length<=63/\(∀ z ∈ ls,0<z/\L2.Sml z)/\∀(r:Addr) (H':Hp),H r=none->gn H H'->H' r=some (.lst ((lD c ls).map V.int))->Q (.ref r) H'
def R7(K:ao):Sp:=fun vs H Q _=>∃(a:Addr) (ns:List Int) (k:Int),vs= [.ref a,.int k]/\SqL K H a (ns.map V.int)/\ns.length<=63/\0<=k/\Q (.int (uZ ns k)) H
def oCl{ρ:List Addr}{o:O}{f:List Int->R W}{P:A->Hs->List Addr->Hp->Prop}(p:Post cl ρ H E (ofW (o.onC f)) P):∃ xs,o= .scr xs/\Post cl ρ H E (ofW (f xs)) P:=by
 cases o with
 | scr xs=>exact⟨xs,rfl,p⟩
 | _=>exact p.elim
def adI{K:ao}:OpN cl .cell (fun vs H Q=>R7 K vs H Q E0):=fun E ρ h H ws vs Q s r p=>by
 obtain⟨w,v,w',v',rfl,rfl,r1,r2,p1⟩:=M8 r (show Post cl ρ H E (ofW (jy ws (aas h))) (VP Q) from p);obtain⟨n,o,a,rfl,rfl,e1,g1,x1,p⟩:=oAt s r1 p1;obtain⟨ns,rfl,p⟩:=oCl p;obtain⟨ob,eo⟩:=x1
 cases r2 with
 | int k=>
   obtain⟨ek,p⟩:=oIf (show Post cl ρ H E (ofW (ifB (ilt (-1) k) (ifB (Nat.ble (len ns) 63) (.ok (.int (uZ ns k)) h) .no) .no)) (VP Q) from p);obtain⟨el,p⟩:=oIf p;rw[b8]at ek;rw[ble_eq,len_eq]at el;have ek:=dw ek
   exact⟨a,ns,k,rfl,.inl (.inr ⟨ob,eo⟩),dw el,by omega,Post.gw s (show Post cl ρ H E (.ok (.w (.int (uZ ns k))) h) (VP Q) from p) (.int _)⟩
 | _=>exact p.elim
def KY{ρ:List Addr}:∀ {xs:List W} {vs:List V} {ls:List Int},RWs ρ xs vs->jz xs=some ls->vs=ls.map V.int/\xs=ls.map W.int
 | [],_,ls,.nil,e=>by cases e;exact⟨rfl,rfl⟩
 | x::xs,_,ls,.cons r t,e=>by
   cases x with
   | int i=>
     have e:Option.rec (motive:=fun _=>Option (List Int)) none (fun r=>some (i::r)) (jz xs)=some ls:=e
     cases q:jz xs with
     | none=>rw[q]at e;cases e
     | some l=>
       rw[q]at e;cases e;obtain⟨a,b⟩:=KY t q
       cases r with
       | int _=>exact⟨by rw[a];rfl,by rw[b];rfl⟩
   | _=>cases e
def Sim.drawn{ρ:List Addr}{h:Hs}{H':Hp}{r:Addr}{ns:List Int}(s:Sim cl ρ h H)(n:H r=Option.none)(e:gn H H')(g:H' r=some (.lst (ns.map V.int))):Sim cl (ρ ++ [r]) (h.push (.lst (ns.map W.int))) H'/\Bt cl ρ H (ρ ++ [r]) H':=by
 refine⟨(s.same e).1.adopt (s.new n) ⟨ns.map V.int,?_,g⟩,kE _ _,fun b u q nb=>⟨fun z=>?_,fun _=>e b u q,u,e b u q⟩⟩
 · exact rw_ints _ ns
 · rcases List.mem_append.mp z with z | z
   · exact nb z
   · simp at z;rw[z,n]at q;cases q
def adJ:OpN cl .draw (fun vs H Q=>R6 vs H Q E0):=fun E ρ h H ws vs Q s r p=>by
 obtain⟨w,v,w',v',rfl,rfl,r1,r2,p1⟩:=M8 r (show Post cl ρ H E (ofW (jy ws (aat h))) (VP Q) from p)
 cases r1 with
 | int c=>
   obtain⟨n,o,a,rfl,rfl,e1,g1,x1,p⟩:=oAt s r2 (show Post cl ρ H E (ofW (h.at w' fun _ o=>o.onL fun xs=>Opt (jz xs) fun ls=>ifB (Nat.ble (len ls) 63) (ifB (zM ls) (.alloc h (.lst ((lD c ls).map W.int))) .no) .no)) (VP Q) from p1);obtain⟨xs,rfl,p2⟩:=oL p;obtain⟨ls,el,p3⟩:=ux p2;obtain⟨k1,p4⟩:=oIf p3;obtain⟨k2,p5⟩:=oIf p4;obtain⟨us,ru,eu⟩:=x1;obtain⟨rfl,rfl⟩:=KY ru el;rw[ble_eq,len_eq]at k1;have k2:=FW.mp k2;refine⟨c,a,ls,rfl,eu,dw k1,fun z hz=>⟨(k2 z hz).1,W6 (by have:=k2 z hz;omega) (by have:=k2 z hz;omega)⟩,fun r H' hr sm g=>?_⟩;obtain⟨s',bt⟩:=s.drawn hr sm g;obtain⟨w',e',q⟩:=(show Post cl ρ H E (.ok (.w (.ref h.n)) (h.push (.lst ((lD c ls).map W.int)))) (VP Q) from p5) _ _ bt s';cases e'
   exact q _ (.ref (by rw[<- s.len,lJ (aG _),Nat.sub_self];rfl))
 | _=>exact p1.elim
def aau{pr:Pr}{sp:Sp}{k:Nat}{fa:Addr}{fd:aR}{ps:List Str}{st:Stmt}{x:Str}{e:Expr}{es:List Expr}{y:Ev.X}{ys:List Ev.X}{p pos:Pos}(z:OpN cl pr (fun vs H Q=>sp vs H Q E0))(D:Df X.K X.mg x st ps fa fd)(F:bU X.prog X.w X.K X.mg X.base CX0 k fa fd ps sp)(hr:bZ k X.A)(hg:Gl X x)(ha:PA X (e::es) (tA Pg cl E d (y::ys)))(hdb:(x==("__debug__":Str))=false:=by decide)
    (he:starEach (e::es) X.env=(false,eval e X.env)::starEach es X.env:=by rfl) (hpl:(backTo pos (starEach es X.env)).any (·.1)=false:=by rfl):
    PE X (.Call (.Name x p) (e::es) [] pos) (tE Pg cl E d (.pr pr (y::ys))):=PE.of (GC D F hr hg ha hdb he hpl) fun σ H Q q=>by
 obtain⟨ρ,τ,h,n,s,rs,z⟩:=Ja z q;exact⟨ρ,τ,h,n,s,rs,z.mono fun a h ρ H _ _ ⟨ws,e,g⟩=>⟨ws,e,fun vs rv=>by show sp (vs ++ []) H Q E0;rw[List.append_nil];exact g vs rv⟩⟩
end
def noL(K:ao):Bool:=K.all fun p=>match p.2.cls with
 | .type n=> !(n == "list")
 | _=>true
def Xi{K:ao}{H:Hp}{a:Addr}{xs:List V}(hO:∀ u,H a=some u->∃ o xs,u= .frz o (.lst xs))(hS:SqL K H a xs)(hl:noL K=true):∃ o,H a=some (.frz o (.lst xs)):=by
 rcases hS with (e | ⟨o,e⟩) | ⟨o,its,n,e,c,_⟩
 · obtain⟨o,xs,z⟩:=hO _ e;cases z
 · exact⟨o,e⟩
 · have m:(a,o) ∈ K:=by
    clear hl
    induction K with
    | nil=>cases e
    | cons p K ih=>
      obtain⟨b,ob⟩:=p;rw[List.lookup_cons]at e
      by_cases z:a==b
      · rw[z]at e;cases e;rw[eq_of_beq z];exact qI ..
      · have z':(a==b)=false:=by simpa using z
        rw[z']at e;exact iI _ (ih e)
   have z:=List.all_eq_true.mp hl _ m;simp[c]at z
def F_(ns:List Int):Hs:=(Hs.mk 0 .lf).push (.scr ns)
section
variable{K:Ks}{n:Nat}{τ:Sg}{h:Hs}{Q:W->Hs->Prop}{p:Nat}
def adK{ns:List Int}{k:Int}(e:h.get p=some (.scr ns))(l:ns.length<=63)(k0:0<=k)(z:Q (.int (uZ ns k)) h):wP .cell [.ref p,.int k] h Q:=by
 show okQ (h.at (.ref p) fun _ o=>o.onC fun ns=>ifB (ilt (-1) k) (ifB (Nat.ble (len ns) 63) (.ok (.int (uZ ns k)) h) .no) .no) Q;rw[fQ e];show okQ (ifB (ilt (-1) k) (ifB (Nat.ble (len ns) 63) (.ok (.int (uZ ns k)) h) .no) .no) Q;rw[b8,bH (show -1<k by omega),ble_eq,len_eq,bH l];exact z
def adL{ls:List Int}{c:Int}(e:h.get p=some (.lst (ls.map W.int)))(l:ls.length<=63)(z0:∀ z ∈ ls,0<z/\z<1000000)(z:Drawn (lD c ls) ls->Q (.ref h.n) (h.push (.lst ((lD c ls).map W.int)))):wP .draw [.int c,.ref p] h Q:=by
 show okQ (h.at (.ref p) fun _ o=>o.onL fun xs=>Opt (jz xs) fun ls=>ifB (Nat.ble (len ls) 63) (ifB (zM ls) (.alloc h (.lst ((lD c ls).map W.int))) .no) .no) Q;rw[fQ e];show okQ (Opt (jz (ls.map W.int)) fun ls=>ifB (Nat.ble (len ls) 63) (ifB (zM ls) (.alloc h (.lst ((lD c ls).map W.int))) .no) .no) Q;rw[xx];show okQ (ifB (Nat.ble (len ls) 63) (ifB (zM ls) (.alloc h (.lst ((lD c ls).map W.int))) .no) .no) Q;rw[ble_eq,len_eq,bH l,FW.mpr z0];exact z (abu c fun z hz=>(z0 z hz).1)
end
section
def shW(n:Nat)(w:W):W:=W.rec .non .bl .int .str (fun k=>.ref (n+k)) w
def shO(n:Nat)(o:O):O:=O.rec (fun xs=>.tup (xs.map (shW n))) (fun xs=>.lst (xs.map (shW n))) (fun C fs=>.ins C (fs.map fun p=>(p.1,shW n p.2))) (fun kvs=>.dk (kvs.map fun p=>(p.1,shW n p.2))) (fun kvs=>.dt (kvs.map fun p=>(p.1,shW n p.2))) (fun ns=>.scr ns) o
def Ci(h g:Hs):Nat->Hs
 | 0=>h
 | m+1=>(Ci h g m).push (shO h.n ((g.get m).getD (.lst [])))
def Hs.cat(h g:Hs):Hs:=Ci h g g.n
def v9(ws:List W):Bool:=List.rec true (fun w _ r=>W.elim w r (fun _=>r) (fun _=>r) (fun _=>r) (fun _=>false)) ws
def X.iso(N f:Nat)(es:List X):X:=⟨fun K n τ h=>(goA es K n τ h).bind fun r h=>r.toL fun ws=>ifB (v9 ws) ((b7 f ws K N (.mk 0 .lf)).nox.bind fun r g=>r.toW fun w=>.ok (.w (shW h.n w)) (h.cat g)) .no⟩
end
def Cj{h g:Hs}:∀ m,(Ci h g m).n=h.n+m
 | 0=>rfl
 | m+1=>by rw[Ci,Hs.mF,Cj m];omega
def PB{h g:Hs}{k:Nat}(l:k<h.n):∀ m,(Ci h g m).get k=h.get k
 | 0=>rfl
 | m+1=>by rw[Ci,Hs.oX,aA (by rw[Cj];omega),PB l m]
def PJ{h g:Hs}{k:Nat}:∀ m,k<m->(Ci h g m).get (h.n+k)=some (shO h.n ((g.get k).getD (.lst [])))
 | 0,l=>aK l (by omega)
 | m+1,l=>by
   rw[Ci,Hs.oX]
   by_cases e:k=m
   · subst e;rw[aB (by rw[Cj])]
   · rw[aA (by rw[Cj];omega)];exact PJ m (by omega)
def Hf{h g:Hs}:(h.cat g).n=h.n+g.n:=Cj g.n
def Jt{h g:Hs}:Ext h (h.cat g):=⟨by rw[Hf];omega,fun k l=>PB l g.n⟩
def Ju{h g:Hs}{k:Nat}{o:O}(l:k<g.n)(e:g.get k=some o):(h.cat g).get (h.n+k)=some (shO h.n o):=by
 have:=PJ (h:=h) (g:=g) g.n l;rw[e]at this;exact this
section
variable{Pg:List Fn}{cl:Cn}{E:XK}{d:Nat}{X:Cx}{σ:L2.St}{H:Hp}
def RW.sh{ρ ρ':List Addr}{w:W}{v:V}(r:RW ρ' w v):RW (ρ++ρ') (shW ρ.length w) v:=by
 cases r with
 | non=>exact .non
 | bl _=>exact .bl _
 | int _=>exact .int _
 | str _=>exact .str _
 | ref q=>exact .ref (by rw[lJ (by omega),Nat.add_sub_cancel_left];exact q)
def RWs.sh{ρ ρ':List Addr}:∀ {ws:List W} {vs:List V},RWs ρ' ws vs->RWs (ρ++ρ') (ws.map (shW ρ.length)) vs
 | _,_,.nil=>.nil
 | _,_,.cons r t=>.cons r.sh (RWs.sh t)
def FR.sh{ρ ρ':List Addr}:∀ {fs:Fs} {gs:List (Str × V)},FR ρ' fs gs->FR (ρ++ρ') (fs.map fun p=>(p.1,shW ρ.length p.2)) gs
 | _,_,.nil=>.nil
 | _,_,.cons r t=>.cons ⟨r.1,r.2.sh⟩ (FR.sh t)
def OA.sh{ρ ρ':List Addr}{a:Addr}{o:O}(x:OA cl ρ' H a o):OA cl (ρ++ρ') H a (shO ρ.length o):=by
 cases o with
 | tup xs=>obtain⟨vs,r,q⟩:=x;exact⟨vs,r.sh,q⟩
 | lst xs=>obtain⟨vs,r,q⟩:=x;exact⟨vs,r.sh,q⟩
 | ins C fs=>obtain⟨dx,gs,r,q⟩:=x;exact⟨dx,gs,r.sh,q⟩
 | dk kvs=>
   obtain⟨gs,r,q⟩:=x;refine⟨gs,?_,q⟩;clear q
   induction r with
   | nil=>exact .nil
   | cons a _ ih=>exact .cons ⟨a.1,a.2.sh⟩ ih
 | dt kvs=>
   obtain⟨gs,r,q⟩:=x;refine⟨gs,?_,q⟩;clear q
   induction r with
   | nil=>exact .nil
   | cons a _ ih=>exact .cons ⟨a.1,a.2.sh⟩ ih
 | scr ns=>exact x
def Sim.cat{ρ ρ':List Addr}{h g:Hs}{H':Hp}(s:Sim cl ρ h H)(b:Bt cl [] H ρ' H')(s':Sim cl ρ' g H'):Sim cl (ρ++ρ') (h.cat g) H'/\Bt cl ρ H (ρ++ρ') H':=by
 have dj:∀ a ∈ ρ,a ∉ ρ':=fun a ha=>by
  obtain⟨u,hu⟩:=s.som ha;exact(b.2 a u hu (by simp)).1
 refine⟨⟨by rw[ji,Hf,s.len,s'.len],List.nodup_append.mpr ⟨s.nd,s'.nd,fun a ha c hc z=>dj a ha (by rw[z];exact hc)⟩,fun n a hn=>?_,s'.tb⟩,kE _ _,fun c u q nc=>?_⟩
 · by_cases l:n<ρ.length
   · rw[pG l]at hn;obtain⟨o,e,x⟩:=s.obj n a hn;refine⟨o,Jt.get (by rw[<- s.len];exact l) e,x.keep (kE _ _) ?_⟩;obtain⟨u,hu⟩:=x.som;have p:=x.pl;rw[hu]at p;exact((b.2 a u hu (by simp)).2.1 (RM s.tb hu fun ps z=>by rw[z]at p;exact p)).trans hu.symm
   · rw[lJ (by omega)]at hn;obtain⟨o,e,x⟩:=s'.obj _ a hn;have lt:=(bB hn).1;refine⟨shO h.n o,?_,?_⟩
     · have:=Ju (h:=h) (by rw[<- s'.len];exact lt) e;rw[<- s.len]at this ⊢;rw[show ρ.length+(n - ρ.length)=n by omega]at this;exact this
     · rw[<- s.len];exact x.sh
 · obtain⟨a1,a2,a3⟩:=b.2 c u q (by simp);exact⟨fun z=>(List.mem_append.mp z).elim nc a1,a2,a3⟩
def v_{ρ:List Addr}:∀ {ws:List W} {vs:List V},v9 ws=true->RWs ρ ws vs->RWs [] ws vs
 | [],_,_,.nil=>.nil
 | w::ws,_,f,.cons r t=>by
   cases r with
   | non=>exact .cons .non (v_ (ws:=ws) f t)
   | bl _=>exact .cons (.bl _) (v_ (ws:=ws) f t)
   | int _=>exact .cons (.int _) (v_ (ws:=ws) f t)
   | str _=>exact .cons (.str _) (v_ (ws:=ws) f t)
   | ref _=>cases f
def adM{N f:Nat}{as:List Ev.X}{Q:VK}(x:tE Pg cl E d (.iso N f as) σ H Q):Dq (spF Pg cl d f) [] E (tA Pg cl E d as) σ H Q:=by
 obtain⟨ρ,τ,h,n,s,rs,q⟩:=x.step;refine ev.then s rs (show Post cl ρ H E ((evs Pg n d (.a as) τ h).bind fun a h=>a.toL fun ws=>ifB (v9 ws) ((b7 f ws (bu Pg d) N (.mk 0 .lf)).nox.bind fun r g=>r.toW fun w=>.ok (.w (shW h.n w)) (h.cat g)) .no) (VP Q) from q) fun a1 h1 ρ1 H1 b1 s1 p1=>?_;obtain⟨ws,rfl,p2⟩:=oY p1;obtain⟨fl,p3⟩:=kW p2;refine⟨ws,rfl,fun vs rv=>⟨[],ws,.mk 0 .lf,N,Sim.none s1.tb,by rw[List.append_nil];exact v_ fl rv,?_⟩⟩;show Post cl [] H1 E (b7 f ws (bu Pg d) N (.mk 0 .lf)) (VP Q);generalize b7 f ws (bu Pg d) N (.mk 0 .lf)=r at p3
 cases r with
 | ok a g=>
   obtain⟨w,rfl,p4⟩:=b_ (show Post cl ρ1 H1 E (a.toW fun w=>.ok (.w (shW h1.n w)) (h1.cat g)) (VP Q) from p3);intro ρ2 H2 b2 s2;obtain⟨s3,b3⟩:=s1.cat b2 s2;obtain⟨w',e',z⟩:=p4 _ _ b3 s3;cases e';refine⟨w,rfl,fun v r2=>z v ?_⟩;have:=r2.sh (ρ:=ρ1);rw[s1.len]at this
   exact this
 | ex C fs g=>exact p3.elim
 | no=>exact p3.elim
def adN{N k k' f:Nat}{fa:Addr}{fd:aR}{ps:List Str}{x:Str}{st:Stmt}{e:Expr}{es:List Expr}{y:Ev.X}{ys:List Ev.X}{p pos:Pos}(F:bU X.prog X.w X.K X.mg X.base (CXE X.prog X.w) k fa fd ps (spF Pg cl d f))(D:Df X.K X.mg x st ps fa fd)(hr:bZ k' X.A)
    (hx:Passes (CXE X.prog X.w) X E) (ha:PA X (e::es) (tA Pg cl E d (y::ys))) (hk:k<=k':=by omega) (hg:Gl X x:=by rfl) (hdb:(x==("__debug__":Str))=false:=by decide) (he:starEach (e::es) X.env=(false,eval e X.env)::starEach es X.env:=by rfl) (hpl:(backTo pos (starEach es X.env)).any (·.1)=false:=by rfl):
    PE X (.Call (.Name x p) (e::es) [] pos) (tE Pg cl E d (.iso N f (y::ys))):=PE.of (yD F (hr.mono hk) hg D.mg D.fn.kp D.bd .nil hx ha hdb he hpl) fun _ _ _ q=>adM q
end
section
variable{K:Ks}{n:Nat}{τ:Sg}{h:Hs}{Q:W->Hs->Prop}
def aeZ{N f:Nat}{es:List X}{ws:List W}{w:W}{g:Hs}(fl:v9 ws=true)(run:b7 f ws K N (.mk 0 .lf)= .ok (.w w) g)(x:wA es K n τ h fun us h1=>us=ws/\Q (shW h1.n w) (h1.cat g)):wX (.iso N f es) K n τ h Q:=by
 obtain⟨us,h1,e,rfl,q⟩:=DQ x;show okQ ((goA es K n τ h).bind fun r h=>r.toL fun ws=>ifB (v9 ws) ((b7 f ws K N (.mk 0 .lf)).nox.bind fun r g=>r.toW fun w=>.ok (.w (shW h.n w)) (h.cat g)) .no) (aW Q);rw[e];show okQ (ifB (v9 us) ((b7 f us K N (.mk 0 .lf)).nox.bind fun r g=>r.toW fun w=>.ok (.w (shW h1.n w)) (h1.cat g)) .no) (aW Q);rw[fl,run];exact q
end
section
def uy(f:W->Option D)(xs:List W):Option (List D):=List.rec (some []) (fun x _ r=>Option.rec none (fun d=>Option.rec none (fun ds=>some (d::ds)) r) (f x)) xs
def rdD(g:Hs)(n:Nat):W->Option D:=Nat.rec (fun _=>none) (fun _ ih w=>W.elim w (some .non) (fun b=>some (.bl b)) (fun i=>some (.int i)) (fun c=>some (.str c)) fun k=>
 ifB (Nat.ble (k+1) g.n) (Option.rec none (fun o=>O.rec (fun xs=>Option.rec none (fun ds=>some (.tup ds)) (uy ih xs)) (fun xs=>Option.rec none (fun ds=>some (.lst ds)) (uy ih xs)) (fun _ _=>none) (fun _=>none) (fun _=>none) (fun _=>none) o) (g.get k)) none) n
end
def Jv{h g:Hs}{f:W->Option D}(hf:∀ w d,f w=some d->Rd (h.cat g) (fun p=>h.n<=p) d (shW h.n w)):∀(xs:List W) (ds:List D),uy f xs=some ds->Rds (h.cat g) (fun p=>h.n<=p) ds (xs.map (shW h.n))
 | [],ds,e=>by cases e;simp[Rds]
 | x::xs,ds,e=>by
   have e:Option.rec (motive:=fun _=>Option (List D)) none (fun d=>Option.rec (motive:=fun _=>Option (List D)) none (fun ds=>some (d::ds)) (uy f xs)) (f x)=some ds:=e
   cases e1:f x with
   | none=>rw[e1]at e;cases e
   | some d=>
     rw[e1]at e;have e:Option.rec (motive:=fun _=>Option (List D)) none (fun ds=>some (d::ds)) (uy f xs)=some ds:=e
     cases e2:uy f xs with
     | none=>rw[e2]at e;cases e
     | some ds'=>
       rw[e2]at e;cases e;simp only[List.map_cons,Rds];exact⟨_,_,rfl,hf x d e1,Jv hf xs ds' e2⟩
def Hg{h g:Hs}:∀(n:Nat) (w:W) (d:D),rdD g n w=some d->Rd (h.cat g) (fun p=>h.n<=p) d (shW h.n w)
 | 0,w,d,e=>by cases e
 | n+1,w,d,e=>by
   cases w with
   | non=>cases e;simp[Rd,shW]
   | bl b=>cases e;simp[Rd,shW]
   | int i=>cases e;simp[Rd,shW]
   | str c=>cases e;simp[Rd,shW]
   | ref k=>
     have e:ifB (Nat.ble (k+1) g.n) (Option.rec (motive:=fun _=>Option D) none (fun o=>O.rec (motive:=fun _=>Option D) (fun xs=>Option.rec (motive:=fun _=>Option D) none (fun ds=>some (.tup ds)) (uy (rdD g n) xs)) (fun xs=>Option.rec (motive:=fun _=>Option D) none (fun ds=>some (.lst ds)) (uy (rdD g n) xs)) (fun _ _=>none) (fun _=>none) (fun _=>none) (fun _=>none) o) (g.get k)) none=some d:=e;rw[ble_eq]at e
     by_cases l:k+1<=g.n
     · rw[bH l]at e
       cases eo:g.get k with
       | none=>rw[eo]at e;cases e
       | some o=>
         rw[eo]at e;have gc:=Ju (h:=h) l eo
         cases o with
         | tup xs=>
           have e:Option.rec (motive:=fun _=>Option D) none (fun ds=>some (.tup ds)) (uy (rdD g n) xs)=some d:=e
           cases e2:uy (rdD g n) xs with
           | none=>rw[e2]at e;cases e
           | some ds=>
             rw[e2]at e;cases e;simp only[Rd]
             exact⟨h.n+k,_,rfl,by rw[Hf];omega,by omega,gc,Jv (Hg n) xs ds e2⟩
         | lst xs=>
           have e:Option.rec (motive:=fun _=>Option D) none (fun ds=>some (.lst ds)) (uy (rdD g n) xs)=some d:=e
           cases e2:uy (rdD g n) xs with
           | none=>rw[e2]at e;cases e
           | some ds=>
             rw[e2]at e;cases e;simp only[Rd]
             exact⟨h.n+k,_,rfl,by rw[Hf];omega,by omega,gc,Jv (Hg n) xs ds e2⟩
         | _=>cases e
     · rw[bM l]at e;cases e
def Zh(r:R A):Option D:=match r with
 | .ok (.w w) g=>rdD g 12 w
 | _=>none
def adO{K:Ks}{n:Nat}{τ:Sg}{h:Hs}{Q:W->Hs->Prop}{N f:Nat}{es:List X}{ws:List W}{d:D}(fl:v9 ws=true)(run:Zh (b7 f ws K N (.mk 0 .lf))=some d)(x:wA es K n τ h fun us h1=>us=ws/\∀ w h2,Ext h1 h2->Rd h2 (fun p=>h1.n<=p) d w->Q w h2):wX (.iso N f es) K n τ h Q:=by
 unfold Zh at run
 split at run
 · rename_i w g e;refine aeZ fl e (qW x fun a h1 z=>?_)
   cases a with
   | ws us=>exact⟨z.1,z.2 _ _ Jt (Hg 12 w d run)⟩
   | _=>exact z.elim
 · cases run
section
def ae0(o:Option W):Option W:=Option.rec none (fun w=>W.elim w (some w) (fun _=>some w) (fun _=>some w) (fun _=>some w) (fun _=>none)) o
def adP(k:Nat)(idx:List Nat):Bool:=List.rec false (fun i _ r=>ifB (Nat.beq i k) true r) idx
def xG(idx:List Nat)(τ:Sg):Nat->Sg:=List.rec (fun _=>[]) (fun o _ ih k=>ifB (adP k idx) (ae0 o) none::ih (Nat.succ k)) τ
def X.PK(N:Nat)(idx:List Nat)(e:X):X:=⟨fun K n τ h=>(e.f K N (xG idx τ 0) (.mk 0 .lf)).nox.bind fun r g=>r.toW fun w=>.ok (.w (shW h.n w)) (h.cat g)⟩
end
section
variable{Pg:List Fn}{cl:Cn}{E:XK}{d:Nat}{X:Cx}{σ:L2.St}{H:Hp}
def R8{ρ:List Addr}{idx:List Nat}:∀ {τ:Sg} {σ:L2.St} (k:Nat),RS ρ τ σ->RS [] (xG idx τ k) σ
 | [],_,k,.nil=>.nil
 | o::τ,v::σ,k,.cons r t=>by
   refine .cons ?_ (R8 (k+1) t)
   cases adP k idx with
   | false=>cases v <;> trivial
   | true=>
     cases o with
     | none=>cases v <;> trivial
     | some w=>cases v with
       | none=>exact(r:False).elim
       | some v=>
         have r:RW ρ w v:=r
         cases r with
         | non=>exact .non
         | bl _=>exact .bl _
         | int _=>exact .int _
         | str _=>exact .str _
         | ref _=>trivial
def abv{N:Nat}{idx:List Nat}{a:Ev.X}{Q:VK}(x:tE Pg cl E d (.PK N idx a) σ H Q):tE Pg cl E d a σ H Q:=by
 obtain⟨ρ,τ,h,n,s,rs,q⟩:=x.step;refine⟨[],xG idx τ 0,.mk 0 .lf,N,Sim.none s.tb,R8 0 rs,?_⟩;have q:Post cl ρ H E ((a.f (bu Pg d) N (xG idx τ 0) (.mk 0 .lf)).nox.bind fun r g=>r.toW fun w=>.ok (.w (shW h.n w)) (h.cat g)) (VP Q):=q;show Post cl [] H E (a.f (bu Pg d) N (xG idx τ 0) (.mk 0 .lf)) (VP Q);generalize a.f (bu Pg d) N (xG idx τ 0) (.mk 0 .lf)=r at q
 cases r with
 | ok a g=>
   obtain⟨w,rfl,p4⟩:=b_ (show Post cl ρ H E (a.toW fun w=>.ok (.w (shW h.n w)) (h.cat g)) (VP Q) from q);intro ρ2 H2 b2 s2;obtain⟨s3,b3⟩:=s.cat b2 s2;obtain⟨w',e',z⟩:=p4 _ _ b3 s3;cases e';refine⟨w,rfl,fun v r2=>z v ?_⟩;have:=r2.sh (ρ:=ρ);rw[s.len]at this
   exact this
 | ex C fs g=>exact q.elim
 | no=>exact q.elim
def abw{N:Nat}{idx:List Nat}{e:Expr}{y:Ev.X}(h:PE X e (tE Pg cl E d y)):PE X e (tE Pg cl E d (.PK N idx y)):=PE.of h fun _ _ _ q=>abv q
end
section
variable{K:Ks}{n:Nat}{τ:Sg}{h:Hs}{Q:W->Hs->Prop}
def adQ{N:Nat}{idx:List Nat}{e:X}{w:W}{g:Hs}(run:e.f K N (xG idx τ 0) (.mk 0 .lf)= .ok (.w w) g)(q:Q (shW h.n w) (h.cat g)):wX (.PK N idx e) K n τ h Q:=by
 show okQ ((e.f K N (xG idx τ 0) (.mk 0 .lf)).nox.bind fun r g=>r.toW fun w=>.ok (.w (shW h.n w)) (h.cat g)) (aW Q);rw[run];exact q
end
section
variable{Pg:List Fn}{cl:Cn}{d:Nat}
def adR{P:Program}{w:World}{K:ao}{mg:Str->Option Value}{base:Heap}{k i:Nat}{f:Addr}{name qual:Str}{params:Arguments}{body:List Stmt}{scope:Scope}{dV kV doc pm cdv ct oc:Value}{an od:Option Addr}{osl:Array (Option Value)}{N ps:List Str}{b:List S}
    (lk:K.lookup f=some ⟨oc,od,.func (PySem.W.fnOf name qual params body scope dV kV doc pm an cdv ct),osl⟩) (hcd:PySem.W.codeIn K cdv qual=true) (Sc:aQ N ps scope) (hp:Pg[i]? =some (.mk ps.length N.length b))
    (hbody:∀(σ0:L2.St) (A:Around) (outer:List Env) (s:aj) (H:Hp) (E:XK),bZ k (A.deeper (envOfC qual scope s.heap.objs.size f cdv))->Passes (CXE P w) (ie (CXE P w) P w K mg base N qual scope f cdv A outer s H E) E->
      QSs (ie (CXE P w) P w K mg base N qual scope f cdv A outer s H E) body (tSs Pg cl E d σ0 b)):bU P w K mg base (CXE P w) (k+1) f (PySem.W.fnOf name qual params body scope dV kV doc pm an cdv ct) ps (spF Pg cl (d+1) i):=by
 have Y6:∀ vs H Q E,spF Pg cl (d+1) i vs H Q E->vs.length=ps.length:=fun vs H Q E ⟨ρ,ws,h,n,s,r,p⟩=>by
  obtain⟨n',d',F',e1,e2,q⟩:=vV p;rw[hp]at e2;cases e2;rw[<- r.length];exact(Dy q).1
 refine Tz lk hcd Sc Y6 fun A outer s H vs Q E hr hsp=>?_;obtain⟨ρ,ws,h,n,s1,r,p⟩:=hsp;obtain⟨n',d',F',e1,e2,q⟩:=vV p;rw[hp]at e2;cases e2;cases e1;obtain⟨_,q2⟩:=Dy q;refine⟨_,(hbody (L2.start N vs) A outer s H E hr (vN ⟨rfl,rfl,rfl⟩ rfl (fun _ _ _ z=>z))).h,ρ,frame N.length ws,h,n',s1,OD r N,fun _ _=>rfl,q2.bind.mono fun a h1 ρ1 H1 b1 s2 p2=>?_⟩;obtain⟨fl,rfl,p3⟩:=GR p2;refine⟨fl,rfl,?_⟩
 cases fl with
 | nx τ=>exact fun σ' _ _=>Post.gw s2 (show Post cl ρ1 H1 E (.ok (.w .non) h1) (VP Q) from p3) .non
 | rt w=>exact fun v rv=>Post.gw s2 (show Post cl ρ1 H1 E (.ok (.w w) h1) (VP Q) from p3) rv
 | bk τ=>exact p3.elim
 | ct τ=>exact p3.elim
end
def abx{K:ao}{H:Hp}{a T:Addr}{xs:List V}(hO:Dz T H)(hS:SqL K H a xs)(hl:noL K=true):∃ o,H a=some (.frz o (.lst xs)):=by
 by_cases e:a=T
 · subst e
   rcases hS with (e | ⟨o,e⟩) | h
   · rw[hO.1]at e;cases e
   · exact⟨o,e⟩
   · exact Xi (H:=fun _=>none) (fun u z=>by cases z) (.inr h) hl |>.elim fun o z=>by cases z
 · exact Xi (fun u z=>(hO.2 a e).elim (fun z'=>by rw[z']at z;cases z) fun⟨o,ys,z'⟩=>⟨o,ys,gH (z.symm.trans z')⟩) hS hl
def yQ(T:Addr):Sp:=fun vs H Q _=>∃(a:Addr) (ns:List Int),vs= [.ref a]/\Dz T H/\(∃ o,H a=some (.frz o (.lst (ns.map V.int))))/\ns.length<=63/\∀ H',Q (.bl true) H'
def aby{Pg:List Fn}{cl:Cn}{D i n:Nat}{T:Addr}(eT:cl.P=T)(run:∀ ns:List Int,ns.length<=63->wC i [.ref 0] (bu Pg D) n (F_ ns) fun w _=>w= .bl true):∀ vs H Q E,yQ T vs H Q E->spF Pg cl D i vs H Q E:=by
 rintro vs H Q E ⟨a,ns,rfl,hO,⟨o,e⟩,l,q⟩;obtain⟨w,h',z,rfl⟩:=aeL (run ns l);refine⟨[a],[.ref 0],F_ ns,n,(Sim.none (abm hO eT)).adopt (o:=.scr ns) (by simp) ⟨o,e⟩,.cons (.ref rfl) .nil,?_⟩;show Post cl [a] H E (b7 i [.ref 0] (bu Pg D) n (F_ ns)) (VP Q);rw[z];exact fun ρ' H' _ _=>⟨_,rfl,fun v rv=>by cases rv;exact q H'⟩
def adS{l:PySem.W.OpenLaw}{q:Program}{loose:List Str}{XP:(Str->Option Value)->Heap->Prop}{YP:World->Heap->Prop}{d:DefRec}{K:Params->ao}{tbl c:Addr}{k:Nat}(hn:l.most=some 63)(hdf:d.params.defaults= [])(hr:bZ k callerA)
    (hY:∀(w:World) (h:Heap),YP w h->(K w.params).In h/\h.get? tbl=some (PySem.W.tabObj #[])) (hK:∀ P:Params,(K P).lookup tbl=none/\PySem.W.codeHdIn (K P) c tbl=true) (hL:∀ P:Params,noL (K P)=true)
    (F:∀(w:World) (mg:Str->Option Value) (fa:Addr) (h:Heap),(K w.params).In h->h.Ns mainGlobals mg->mg d.name=some (.ref fa)->
      ∃ fd:aR,(∀(s:aj) (u:Value),BindsTo s fd ⟨[u],[]⟩ [("_law_script",u)])/\∀ base:Heap,(K w.params).In base->base.Ns mainGlobals mg->base.BuiltinsAt mg tbl->bU l.prog w (K w.params) mg base (CXE l.prog w) k fa fd ["_law_script"] (yQ tbl)):
    PySem.W.WalkO q loose XP YP l.row.toRowW d [] (fun f vs=>PySem.call f vs):=
 aeG (n:=63) (k:=k) (x:="_law_script") (CX:=fun w=>CXE l.prog w) (sp:=fun _=>yQ tbl) hn (by decide) hdf hr hY hK F (fun w H a ns hl hO hS=>⟨a,ns,rfl,hO,abx hO hS (hL w.params),hl,fun _=>rfl⟩) fun _ _ _ _ _ z=>zA z
end Ev
namespace Ev
def keq_eq:∀ {a b:W},keq a b=true->a=b:=by
 intro a b h
 cases a with
 | int i=>cases b with
   | int j=>
     have h:ieq i j=true:=h;rw[kO]at h
     simp at h;rw[h]
   | _=>cases h
 | str x=>cases b with
   | str y=>
     have h:codes x y=true:=h
     rw[dh.mp h]
   | _=>cases h
 | _=>cases h
def Zi{a:W}(h:jj a=true):keq a a=true:=by
 cases a with
 | int i=>show ieq i i=true;rw[kO];simp
 | str x=>show codes x x=true;exact dh.mpr rfl
 | _=>cases h
def jC(p:W × W)(kvs:List (W × W))(k:W):bL (p::kvs) k=ifB (keq p.1 k) (some p.2) (bL kvs k):=rfl
def adT(kvs:List (W × W))(k v k':W):bL (kvs ++ [(k,v)]) k'=(bL kvs k').or (ifB (keq k k') (some v) none):=by
 induction kvs with
 | nil=>show ifB (keq k k') (some v) none=_;rfl
 | cons p kvs ih=>
   rw[List.cons_append,jC,jC,ih];cases keq p.1 k' <;> rfl
def Ew(k v:W):∀ kvs:List (W × W),isS (bL kvs k)=true->bL (lY kvs k v) k=some v
 | [],h=>by cases h
 | p::kvs,h=>by
   rw[jC]at h;show bL (ifB (keq p.1 k) (p.1,v) p::lY kvs k v) k=_
   cases e:keq p.1 k with
   | true=>show bL ((p.1,v)::lY kvs k v) k=_;rw[jC,e];rfl
   | false=>
     rw[e]at h;show bL (p::lY kvs k v) k=_;rw[jC,e];exact Ew k v kvs h
def KZ{k v k':W}(ne:k ≠ k'):∀ kvs:List (W × W),bL (lY kvs k v) k'=bL kvs k'
 | []=>rfl
 | p::kvs=>by
   show bL (ifB (keq p.1 k) (p.1,v) p::lY kvs k v) k'=_;have ih:=KZ (v:=v) ne kvs
   cases e:keq p.1 k with
   | true=>
     show bL ((p.1,v)::lY kvs k v) k'=_;have e1:=keq_eq e
     have e2:keq p.1 k'=false:=by
      cases z:keq p.1 k' with
      | false=>rfl
      | true=>exact aK (e1.symm.trans (keq_eq z)) ne
     rw[jC,jC,e2,ih];rfl
   | false=>show bL (p::lY kvs k v) k'=_;rw[jC,jC,ih]
def yR{kvs:List (W × W)}{k v k':W}(hk:jj k=true):bL (cJ kvs k v) k'=if k=k' then some v else bL kvs k':=by
 unfold cJ
 cases e:isS (bL kvs k) with
 | true=>
   show bL (lY kvs k v) k'=_
   by_cases z:k=k'
   · subst z;rw[aB rfl];exact Ew k v kvs e
   · rw[aA z];exact KZ z kvs
 | false=>
   show bL (app kvs [(k,v)]) k'=_;rw[jM,adT]
   by_cases z:k=k'
   · subst z;rw[aB rfl,Zi hk]
     cases q:bL kvs k with
     | none=>rfl
     | some w=>rw[q]at e;cases e
   · rw[aA z]
     have e2:keq k k'=false:=by
      cases q:keq k k' with
      | false=>rfl
      | true=>exact aK (keq_eq q) z
     rw[e2];cases bL kvs k' <;> rfl
def K3(k v:W):∀ kvs:List (W × W),(lY kvs k v).length=kvs.length
 | []=>rfl
 | p::kvs=>by show(_::lY kvs k v).length=_;rw[gG,K3 k v kvs,gG]
def Ck(kvs:List (W × W))(k v:W):(cJ kvs k v).length<=kvs.length+1:=by
 unfold cJ
 cases isS (bL kvs k) with
 | true=>show(lY kvs k v).length<=_;rw[K3];omega
 | false=>show(app kvs [(k,v)]).length<=_;rw[jM];simp
section
variable{K:Ks}{n:Nat}{τ:Sg}{h:Hs}{Q:W->Hs->Prop}
def zN{a b:List Nat}(oa:okC a=true)(ob:okC b=true)(z:Q (.bl (codes a b)) h):wP .eq [.str a,.str b] h Q:=by
 refine aao (d:=.str a) (d':=.str b) (A:=fun _=>True) (B:=fun _=>True) v8 v8 (by simp[j7]) (by simp[j7]) (by simp only[okD];exact oa) (by simp only[okD];exact ob) ?_;rw[show dY (.str a) (.str b)=codes a b by simp only[dY]];exact z
def ae1{a b:List Nat}(oa:okC a=true)(ob:okC b=true)(z:Q (.bl (!codes a b)) h):wP .ne [.str a,.str b] h Q:=by
 refine Nh (d:=.str a) (d':=.str b) (A:=fun _=>True) (B:=fun _=>True) v8 v8 (by simp[j7]) (by simp[j7]) (by simp only[okD];exact oa) (by simp only[okD];exact ob) ?_;rw[show dY (.str a) (.str b)=codes a b by simp only[dY]];exact z
def qK{C:Nat}{o:X}{f:List Nat}(x:wX o K n τ h fun w h1=>∃ p fs v,w= .ref p/\h1.get p=some (.ins C fs)/\fget fs f=some v/\Q v h1):wX (.fld C o f) K n τ h Q:=by
 obtain⟨w,h1,e1,p,fs,v,rfl,g,ef,q⟩:=g8 x;show okQ ((o.f K n τ h).bind fun r h=>r.toW fun w=>h.at w fun _ o=>o.onI fun C' fs=>ifB (Nat.beq C C') (Opt (fget fs f) fun w=>.ok (.w w) h) .no) (aW Q);rw[e1];show okQ (h1.at (.ref p) fun _ o=>o.onI fun C' fs=>ifB (Nat.beq C C') (Opt (fget fs f) fun w=>.ok (.w w) h1) .no) (aW Q);rw[fQ g];show okQ (ifB (Nat.beq C C) (Opt (fget fs f) fun w=>.ok (.w w) h1) .no) (aW Q);rw[jA.mpr rfl,ef];exact q
def dO{C:Nat}{m:List Nat}{f:Nat}{o:X}{as:List X}(x:wX o K n τ h fun w h1=>∃ p fs,w= .ref p/\h1.get p=some (.ins C fs)/\fget fs m=none/\wA as K n τ h1 fun ws h2=>wC f (.ref p::ws) K n h2 Q):wX (.meth C m f o as) K n τ h Q:=by
 obtain⟨w,h1,e1,p,fs,rfl,g,ef,x⟩:=g8 x;obtain⟨ws,h2,e2,q⟩:=DQ x;show okQ ((o.f K n τ h).bind fun r h=>r.toW fun w=>h.at w fun _ o=>o.onI fun C' fs=>ifB (Nat.beq C C') (Option.rec ((goA as K n τ h).bind fun a h=>a.toL fun ws=>b7 f (w::ws) K n h) (fun _=>.no) (fget fs m)) .no) (aW Q);rw[e1];show okQ (h1.at (.ref p) fun _ o=>o.onI fun C' fs=>ifB (Nat.beq C C') (Option.rec ((goA as K n τ h1).bind fun a h=>a.toL fun ws=>b7 f (.ref p::ws) K n h) (fun _=>.no) (fget fs m)) .no) (aW Q);rw[fQ g];show okQ (ifB (Nat.beq C C) (Option.rec ((goA as K n τ h1).bind fun a h=>a.toL fun ws=>b7 f (.ref p::ws) K n h) (fun _=>.no) (fget fs m)) .no) (aW Q);rw[jA.mpr rfl,ef,e2];exact q
def Xj(z:Q (.ref h.n) (h.push (.dk []))):wP .Uc [] h Q:=z
def PL{p:Nat}{kvs:List (W × W)}{k v:W}(e:h.get p=some (.dk kvs))(hk:jj k=true)(e2:bL kvs k=some v)(z:Q v h):wP .Og [.ref p,k] h Q:=by
 show okQ (h.at (.ref p) fun _ o=>o.onD fun kvs=>ifB (jj k) (Opt (bL kvs k) fun w=>.ok w h) .no) Q;rw[fQ e];show okQ (ifB (jj k) (Opt (bL kvs k) fun w=>.ok w h) .no) Q;rw[hk,e2];exact z
def ae2{p:Nat}{kvs:List (W × W)}{k:W}(e:h.get p=some (.dk kvs))(hk:jj k=true)(z:Q (.bl (isS (bL kvs k))) h):wP .din [k,.ref p] h Q:=by
 show okQ (h.at (.ref p) fun _ o=>o.onD fun kvs=>ifB (jj k) (.yes (id (isS (bL kvs k))) h) .no) Q;rw[fQ e];show okQ (ifB (jj k) (.yes (id (isS (bL kvs k))) h) .no) Q;rw[hk];exact z
def Jw{o k v:X}{Q:Fl->Hs->Prop}(x:wX v K n τ h fun w h1=>wX o K n τ h1 fun a h2=>wX k K n τ h2 fun b h3=>∃ p kvs,a= .ref p/\h3.get p=some (.dk kvs)/\jj b=true/\kvs.length<=1000000/\Q (.nx τ) (h3.set p (.dk (cJ kvs b w)))):w1 (.dput o k v) K n τ h Q:=by
 obtain⟨w,h1,e1,x⟩:=g8 x;obtain⟨a,h2,e2,x⟩:=g8 x;obtain⟨b,h3,e3,p,kvs,rfl,g,kb,l,q⟩:=g8 x;show okQ ((v.f K n τ h).bind fun r h=>r.toW fun w=>(o.f K n τ h).bind fun r h=>r.toW fun a=>(k.f K n τ h).bind fun r h=>r.toW fun b=>h.at a fun n o=>o.onD fun kvs=>ifB (jj b) (ifB (Nat.ble (len kvs) 1000000) (.ok (.fl (.nx τ)) (h.set n (.dk (cJ kvs b w)))) .no) .no) (aF Q);rw[e1];show okQ ((o.f K n τ h1).bind fun r h=>r.toW fun a=>(k.f K n τ h).bind fun r h=>r.toW fun b=>h.at a fun n o=>o.onD fun kvs=>ifB (jj b) (ifB (Nat.ble (len kvs) 1000000) (.ok (.fl (.nx τ)) (h.set n (.dk (cJ kvs b w)))) .no) .no) (aF Q);rw[e2];show okQ ((k.f K n τ h2).bind fun r h=>r.toW fun b=>h.at (.ref p) fun n o=>o.onD fun kvs=>ifB (jj b) (ifB (Nat.ble (len kvs) 1000000) (.ok (.fl (.nx τ)) (h.set n (.dk (cJ kvs b w)))) .no) .no) (aF Q);rw[e3];show okQ (h3.at (.ref p) fun n o=>o.onD fun kvs=>ifB (jj b) (ifB (Nat.ble (len kvs) 1000000) (.ok (.fl (.nx τ)) (h3.set n (.dk (cJ kvs b w)))) .no) .no) (aF Q);rw[fQ g];show okQ (ifB (jj b) (ifB (Nat.ble (len kvs) 1000000) (.ok (.fl (.nx τ)) (h3.set p (.dk (cJ kvs b w)))) .no) .no) (aF Q);rw[kb,ble_eq,len_eq,bH l];exact q
end
section
variable{K:Ks}{n:Nat}{τ:Sg}{h h':Hs}{C:Nat}{fs:Fs}
def Jx{Pg:List Fn}{d f np k:Nat}{b:List S}{ws:List W}(e:nth Pg f=some (.mk np k b))(l:Nat.beq (len ws) np=true)(z:c7 b (bu Pg d) n (frame k ws) h= .ex C fs h'):b7 f ws (bu Pg (d+1)) (n+1) h= .ex C fs h':=by
 show Opt (nth Pg f) (Ud (bu Pg d) n h ws)=_;rw[e];show ifB (Nat.beq (len ws) np) ((c7 b (bu Pg d) n (frame k ws) h).bind fun r h=>r.toF fun f=>Dw h f) .no=_;rw[l,z];rfl
def rQ{s:S}{ss:List S}(z:s.f K n τ h= .ex C fs h'):c7 (s::ss) K n τ h= .ex C fs h':=by
 show(s.f K n τ h).bind _=_;rw[z];rfl
def ae3{s:S}{Q:Fl->Hs->Prop}(x:w1 s K n τ h Q):∃ w h',s.f K n τ h= .ok (.fl w) h'/\Q w h':=by
 unfold w1 at x;generalize s.f K n τ h=r at x
 cases r with
 | ok a h'=>cases a with
   | fl w=>exact⟨w,h',rfl,x⟩
   | _=>exact x.elim
 | _=>exact x.elim
def Nm{s:S}{ss:List S}(x:w1 s K n τ h fun f h1=>∃ τ1,f= .nx τ1/\c7 ss K n τ1 h1= .ex C fs h'):c7 (s::ss) K n τ h= .ex C fs h':=by
 obtain⟨f,h1,e,τ1,rfl,z⟩:=ae3 x;show(s.f K n τ h).bind (fun r h=>r.toF fun f=>Fl.rec (motive:=fun _=>R A) (fun τ=>c7 ss K n τ h) (fun w=>.ok (.fl (.rt w)) h) (fun τ=>.ok (.fl (.bk τ)) h) (fun τ=>.ok (.fl (.ct τ)) h) f)=_;rw[e];exact z
def yS{e:X}(z:e.f K n τ h= .ex C fs h'):(S.expr e).f K n τ h= .ex C fs h':=by
 show(e.f K n τ h).bind _=_;rw[z];rfl
def Cm{c:X}{a b:List S}(x:wX c K n τ h fun w h1=>∃ k:Bool,w= .bl k/\c7 (if k then a else b) K n τ h1= .ex C fs h'):(S.ife c a b).f K n τ h= .ex C fs h':=by
 obtain⟨w,h1,e,k,rfl,z⟩:=g8 x;show(c.f K n τ h).bind (fun r h=>r.toW fun w=>w.onB (c7 b K n τ h) (c7 a K n τ h))=_;rw[e]
 cases k with
 | true=>exact z
 | false=>exact z
def R9{C0:Nat}{m:List Nat}{f:Nat}{o:X}{as:List X}(x:wX o K n τ h fun w h1=>∃ p gs,w= .ref p/\h1.get p=some (.ins C0 gs)/\fget gs m=none/\wA as K n τ h1 fun ws h2=>b7 f (.ref p::ws) K n h2= .ex C fs h'):(X.meth C0 m f o as).f K n τ h= .ex C fs h':=by
 obtain⟨w,h1,e1,p,gs,rfl,g,ef,x⟩:=g8 x;obtain⟨ws,h2,e2,q⟩:=DQ x;show((o.f K n τ h).bind (fun r h=>r.toW fun w=>h.at w fun _ o=>o.onI fun C' fs=>ifB (Nat.beq C0 C') (Option.rec (motive:=fun _=>R A) ((goA as K n τ h).bind fun a h=>a.toL fun ws=>b7 f (w::ws) K n h) (fun _=>.no) (fget fs m)) .no):R A)=_;rw[e1];show(h1.at (.ref p) (fun _ o=>o.onI fun C' fs=>ifB (Nat.beq C0 C') (Option.rec (motive:=fun _=>R A) ((goA as K n τ h1).bind fun a h=>a.toL fun ws=>b7 f (.ref p::ws) K n h) (fun _=>.no) (fget fs m)) .no):R A)=_;rw[fQ g];show(ifB (Nat.beq C0 C0) (Option.rec (motive:=fun _=>R A) ((goA as K n τ h1).bind fun a h=>a.toL fun ws=>b7 f (.ref p::ws) K n h) (fun _=>.no) (fget gs m)) .no:R A)=_;rw[jA.mpr rfl,ef,e2];exact q
end
end Ev
namespace Ev
open PySem PySem.Spec PySem.SeqAt PyProof.Rows L2
section
def adU(h:Hs)(a b:W):R W:=h.at a fun _ o=>O.rec (fun _=>.no) (fun _=>pIx h a b) (fun _ _=>.no) (fun _=>GQ h a b) (fun _=>.no) (fun _=>.no) o
def Pr.ixd:Pr:=⟨fun ws h=>jy ws (adU h)⟩
def aav(h:Hs)(i j:Int):R W:=ifB (ilt i 1000000) (ifB (ilt (-1000000) i) (ifB (ilt (-1) j) (ifB (ilt j 1000) (.ok (.int (i ^ j.toNat)) h) .no) .no) .no) .no
def Pr.Zj:Pr:=⟨fun ws h=>xX ws (aav h)⟩
end
section
variable{Pg:List Fn}{cl:Cn}{E:XK}{d:Nat}{X:Cx}{σ σ0:L2.St}{H:Hp}
def ae4{r r':R2}(a:IxR X r)(b:IxR X r'):IxR X (fun x y H Q=>r x y H Q\/r' x y H Q):=fun ea eb pins s σ H x y v u Q I rx ry q hs=>q.elim (fun z=>a ea eb pins s σ H x y v u Q I rx ry z hs) fun z=>b ea eb pins s σ H x y v u Q I rx ry z hs
def ae5{K:ao}:Op2 cl .ixd (fun x y H Q=>rIx K x y H Q\/rDG x y H Q):=fun E ρ h H w1 w2 v1 v2 Q s r1 r2 p=>by
 obtain⟨n,o,a,rfl,rfl,e1,g1,x1,q⟩:=oAt s r1 (show Post cl ρ H E (ofW (adU h w1 w2)) (VP Q) from p)
 cases o with
 | lst xs=>exact .inl (ac5 (K:=K) E ρ h H (.ref n) w2 (.ref a) v2 Q s r1 r2 q)
 | dk kvs=>exact .inr (W9 E ρ h H (.ref n) w2 (.ref a) v2 Q s r1 r2 q)
 | _=>exact q.elim
def Xk{a b:Expr}{x y:Ev.X}{pos:Pos}(hu:X.A.units+1<cLine)(ha:PE X a (tE Pg cl E d x))(hb:PE X b (tE Pg cl E d y))(hs:Dr b:=by exact fun _ _=>rfl):PE X (.Subscript a b pos) (tE Pg cl E d (.pr .ixd [x,y])):=
 PE.of (Ds (ae4 V2 (RP hu)) ha hb hs) fun _ _ _ q=>vR ae5 q
def adV:Op2 cl .Zj (rI Ti fun i j=>.int (i ^ j.toNat)):=fun E ρ h H w1 w2 v1 v2 Q s r1 r2 p=>by
 obtain⟨i,rfl,p⟩:=oI (show Post cl ρ H E (ofW (w1.onI fun i=>w2.onI fun j=>aav h i j)) (VP Q) from p);obtain⟨j,rfl,p⟩:=oI p;obtain⟨c,p⟩:=oIf p;obtain⟨c2,p⟩:=oIf p;obtain⟨c3,p⟩:=oIf p;obtain⟨c4,p⟩:=oIf p;rw[b8]at c c2 c3 c4;have c:=dw c;have c2:=dw c2;have c3:=dw c3;have c4:=dw c4;cases r1;cases r2;exact⟨i,j,rfl,rfl,⟨by omega,by omega,by omega⟩,Post.gw s p (.int _)⟩
end
section
def pairUp:List W->Option (List (W × W))
 | []=>some []
 | [_]=>none
 | k::v::r=>match jj k,pairUp r with
   | true,some l=>some ((k,v)::l)
   | _,_=>none
def jU(l:List (W × W)):List (W × W)->List (W × W):=List.rec (fun acc=>acc) (fun p _ ih acc=>ih (cJ acc p.1 p.2)) l
def xH:List (X × X)->List X
 | []=>[]
 | p::r=>p.1::p.2::xH r
def X.Np(kes:List (X × X)):X:=⟨fun K n τ h=>(goA (xH kes) K n τ (h.push (.dk []))).bind fun a h'=>a.toL fun ws=>Opt (pairUp ws) fun l=>Opt (h'.get h.n) fun o=>o.onD fun kvs=>ifB (Nat.beq (len kvs) 0) (ifB (Nat.ble (len l) 15) (.ok (.w (.ref h.n)) (h'.set h.n (.dk (jU l [])))) .no) .no⟩
end
section
variable{Pg:List Fn}{cl:Cn}{E:XK}{d:Nat}{X:Cx}{σ:L2.St}{ρ:List Addr}
def PX:List (V × V)->List V
 | []=>[]
 | p::r=>p.1::p.2::PX r
def K4:∀ {ws:List W} {l:List (W × W)} {prs:List (V × V)},RWs ρ ws (PX prs)->pairUp ws=some l->∃ gs:List (Key × V),KR ρ l gs/\prs=gs.map fun kv=>(kV kv.1,kv.2)
 | [],l,[],_,e=>by cases e;exact⟨[],.nil,rfl⟩
 | [],l,_::_,r,e=>by cases r
 | [_],l,prs,r,e=>by cases e
 | k::v::ws,l,[],r,e=>by cases r
 | k::v::ws,l,p::prs,r,e=>by
   unfold pairUp at e
   split at e
   · rename_i l' e1 e2;cases e
     cases r with
     | cons r1 r=>
       cases r with
       | cons r2 r=>
         obtain⟨gs,kr,eg⟩:=K4 r e2;obtain⟨kk,kw,ek⟩:=M_ e1 r1;exact⟨(kk,p.2)::gs,.cons ⟨kw,r2⟩ kr,by rw[eg];show p::_=(kV kk,p.2)::_;rw[<- ek]⟩
   · cases e
def P0:∀ {l acc:List (W × W)} {gs g0:List (Key × V)},KR ρ l gs->KR ρ acc g0->KR ρ (jU l acc) (vL g0 gs)
 | [],acc,_,g0,.nil,k=>k
 | p::l,acc,q::gs,g0,.cons r t,k=>P0 (acc:=cJ acc p.1 p.2) (g0:=putK g0 q.1 q.2) t (O_ r.1 r.2 k)
abbrev Zk(Pg:List Fn)(cl:Cn)(E:XK)(d:Nat)(kes:List (Ev.X × Ev.X)):List (TE × TE):=kes.map fun p=>(tE Pg cl E d p.1,tE Pg cl E d p.2)
def K5:∀ {kes:List (Ev.X × Ev.X)} {ρ:List Addr} {τ:Sg} {h:Hs} {n:Nat} {H:Hp} {P:A->Hs->List Addr->Hp->Prop} {Q:List (V × V)->Hp->Prop},Sim cl ρ h H->RS ρ τ σ->Post cl ρ H E (evs Pg n d (.a (xH kes)) τ h) P->
    (∀ ws h' ρ' H' prs,ρ <+:ρ'->Sim cl ρ' h' H'->P (.ws ws) h' ρ' H'->RWs ρ' ws (PX prs)->Q prs H')->Gy (Zk Pg cl E d kes) σ H Q
 | [],ρ,τ,h,n,H,P,Q,s,rs,p,k=>k [] h ρ H [] (List.prefix_refl _) s (Post.now s (show Post cl ρ H E (.ok (.ws []) h) P from p)) .nil
 | (ke,ve)::kes,ρ,τ,h,n,H,P,Q,s,rs,p,k=>by
   have p1:Post cl ρ H E ((evs Pg n d (.x ke) τ h).bind fun r h=>r.toW fun w=>(evs Pg n d (.a (ve::xH kes)) τ h).bind fun r h=>r.toL fun ws=>.ok (.ws (w::ws)) h) P:=p;refine⟨ρ,τ,h,n,s,rs,p1.bind.mono fun a1 h1 ρ1 H1 b1 s1 p2=>?_⟩;obtain⟨wk,rfl,p3⟩:=b_ p2;refine⟨wk,rfl,fun kv rk=>?_⟩;have p4:Post cl ρ1 H1 E ((evs Pg n d (.x ve) τ h1).bind fun r h=>r.toW fun w=>(evs Pg n d (.a (xH kes)) τ h).bind fun r h=>r.toL fun ws=>R.ok (A.ws (w::ws)) h) (fun(r:A) h2 ρ2 H2=>Post cl ρ2 H2 E (r.toL fun ws=>R.ok (A.ws (wk::ws)) h2) P):=p3.bind;refine⟨ρ1,τ,h1,n,s1,rs.mono b1.1,p4.bind.mono fun a2 h2 ρ2 H2 b2 s2 p5=>?_⟩;obtain⟨wv,rfl,p6⟩:=b_ p5;refine⟨wv,rfl,fun vv rv=>?_⟩;refine K5 s2 ((rs.mono b1.1).mono b2.1) p6.bind fun ws h' ρ' H' prs pre s' p7 rws=>?_;have p8:=Post.now s' (show Post cl ρ' H' E (.ok (.ws (wv::ws)) h') (fun(r:A) h2 ρ2 H2=>Post cl ρ2 H2 E (r.toL fun ws=>R.ok (A.ws (wk::ws)) h2) P) from p7);have p9:=Post.now s' (show Post cl ρ' H' E (.ok (.ws (wk::wv::ws)) h') P from p8);exact k (wk::wv::ws) h' ρ' H' ((kv,vv)::prs) ((b1.1.trans b2.1).trans pre) s' p9 (.cons (rk.mono (b2.1.trans pre)) (.cons (rv.mono pre) rws))
def Zm{H:Hp}{kes:List (Ev.X × Ev.X)}{Q:VK}(x:tE Pg cl E d (.Np kes) σ H Q):Z6 (Zk Pg cl E d kes) σ H Q:=by
 obtain⟨ρ,τ,h,n,s,rs,q⟩:=x.step;intro p hp;have q:Post cl ρ H E ((evs Pg n d (.a (xH kes)) τ (h.push (.dk []))).bind fun a h'=>a.toL fun ws=>Opt (pairUp ws) fun l=>Opt (h'.get h.n) fun o=>o.onD fun kvs=>ifB (Nat.beq (len kvs) 0) (ifB (Nat.ble (len l) 15) (.ok (.w (.ref h.n)) (h'.set h.n (.dk (jU l [])))) .no) .no) (VP Q):=q;have s1:Sim cl (ρ ++ [p]) (h.push (.dk [])) (upd H p (.dK [])):=s.push hp ⟨[],.nil,aJ⟩;refine K5 s1 (rs.mono (kE _ _)) (q.later (Bt.new (u:=.dK []) hp)).bind fun ws h' ρ' H' prs pre s' p1 rv=>?_;have p1:Post cl ρ' H' E (Opt (pairUp ws) fun l=>Opt (h'.get h.n) fun o=>o.onD fun kvs=>ifB (Nat.beq (len kvs) 0) (ifB (Nat.ble (len l) 15) (.ok (.w (.ref h.n)) (h'.set h.n (.dk (jU l [])))) .no) .no) (VP Q):=p1;obtain⟨l,el,p1⟩:=jo p1;obtain⟨o,ho,p2⟩:=jo p1;obtain⟨kvs,rfl,p3⟩:=W8 p2;obtain⟨c1,p4⟩:=kW p3;obtain⟨c2,p5⟩:=kW p4;have gp:ρ'[h.n]? =some p:=iu pre (by rw[<- s.len,lJ (aG _),Nat.sub_self];rfl);obtain⟨gs,kr,hH⟩:=s'.at gp ho;rw[len_eq]at c1 c2;have e0:kvs= []:=List.length_eq_zero_iff.mp (Nat.eq_of_beq_eq_true c1);subst e0;cases kr;obtain⟨gl,krl,eg⟩:=K4 rv el;have hv:gl.length<=15:=by rw[<- Paired.length krl];exact Nat.le_of_ble_eq_true c2
 refine⟨hH,gl,eg,hv,?_⟩;obtain⟨w,e,q2⟩:=p5 ρ' (upd H' p (.dK (vL [] gl))) (Bt.put gp) (s'.put gp ⟨_,P0 krl .nil,aJ⟩);cases e;exact q2 _ (.ref gp)
def Zn{pos:Pos}{keys:List (Option Expr)}{values:List Expr}{kes:List (Ev.X × Ev.X)}(h:PPs X pos keys values (Zk Pg cl E d kes))(h1:keys.all (·.isSome)=true:=by rfl)(h2:keys.length=values.length:=by rfl)(h3:keys ≠ []:=by exact fun z=>nomatch z)(h4:keys.length<=15:=by exact dw rfl):
    PE X (.Dict keys values pos) (tE Pg cl E d (.Np kes)):=PE.of (aaT h h1 h2 h3 h4) fun _ _ _ q=>Zm q
end
section
variable{K:Ks}{n:Nat}{τ:Sg}{h:Hs}{Q:W->Hs->Prop}
def abz{kes:List (X × X)}(x:wA (xH kes) K n τ (h.push (.dk [])) fun ws h'=>∃ l,pairUp ws=some l/\h'.get h.n=some (.dk [])/\l.length<=15/\Q (.ref h.n) (h'.set h.n (.dk (jU l [])))):wX (.Np kes) K n τ h Q:=by
 obtain⟨ws,h',e,l,el,g,ll,q⟩:=DQ x;show okQ ((goA (xH kes) K n τ (h.push (.dk []))).bind fun a h'=>a.toL fun ws=>Opt (pairUp ws) fun l=>Opt (h'.get h.n) fun o=>o.onD fun kvs=>ifB (Nat.beq (len kvs) 0) (ifB (Nat.ble (len l) 15) (.ok (.w (.ref h.n)) (h'.set h.n (.dk (jU l [])))) .no) .no) (aW Q);rw[e];show okQ (Opt (pairUp ws) fun l=>Opt (h'.get h.n) fun o=>o.onD fun kvs=>ifB (Nat.beq (len kvs) 0) (ifB (Nat.ble (len l) 15) (.ok (.w (.ref h.n)) (h'.set h.n (.dk (jU l [])))) .no) .no) (aW Q);rw[el];show okQ (Opt (h'.get h.n) fun o=>o.onD fun kvs=>ifB (Nat.beq (len kvs) 0) (ifB (Nat.ble (len l) 15) (.ok (.w (.ref h.n)) (h'.set h.n (.dk (jU l [])))) .no) .no) (aW Q);rw[g];show okQ (ifB (Nat.ble (len l) 15) (.ok (.w (.ref h.n)) (h'.set h.n (.dk (jU l [])))) .no) (aW Q);rw[len_eq,ble_eq,bH ll];exact q
def Xl{p:Nat}{xs:List W}{i:Int}{w:W}(e:h.get p=some (.lst xs))(l:0<=i)(e2:xs[i.toNat]? =some w)(z:Q w h):wP .ixd [.ref p,.int i] h Q:=by
 show okQ (h.at (.ref p) fun _ o=>O.rec (fun _=>.no) (fun _=>pIx h (.ref p) (.int i)) (fun _ _=>.no) (fun _=>GQ h (.ref p) (.int i)) (fun _=>.no) (fun _=>.no) o) Q;rw[fQ e];exact DN e l e2 z
def Xm{p:Nat}{kvs:List (W × W)}{k v:W}(e:h.get p=some (.dk kvs))(hk:jj k=true)(e2:bL kvs k=some v)(z:Q v h):wP .ixd [.ref p,k] h Q:=by
 show okQ (h.at (.ref p) fun _ o=>O.rec (fun _=>.no) (fun _=>pIx h (.ref p) k) (fun _ _=>.no) (fun _=>GQ h (.ref p) k) (fun _=>.no) (fun _=>.no) o) Q;rw[fQ e];exact PL e hk e2 z
def adW{a b:Int}(ha: -1000000<a/\a<1000000)(hb:0<=b/\b<1000)(z:Q (.int (a ^ b.toNat)) h):wP .Zj [.int a,.int b] h Q:=by
 show okQ (ifB (ilt a 1000000) (ifB (ilt (-1000000) a) (ifB (ilt (-1) b) (ifB (ilt b 1000) (.ok (.int (a ^ b.toNat)) h) .no) .no) .no) .no) Q;rw[b8,b8,b8,b8,bH ha.1,bH ha.2,bH (show -1<b by omega),bH hb.2];exact z
end
section
def Zo(ws:List W)(f:W->W->W->R W):R W:=List.rec .no (fun a r _=>List.rec .no (fun b r _=>List.rec .no (fun c r _=>List.rec (f a b c) (fun _ _ _=>.no) r) r) r) ws
def R_(h:Hs)(a b c:W):R W:=h.at a fun n o=>o.onL fun xs=>b.onI fun i=>ifB (ilt (-1) i) (ifB (Nat.ble i.toNat (len xs)) (ifB (Nat.ble (len xs) 1000000) (.ok .non (h.set n (.lst (app (tak xs i.toNat) (c::drp xs i.toNat))))) .no) .no) .no
def Pr.insert:Pr:=⟨fun ws h=>Zo ws (R_ h)⟩
end
def Sd:V->List V->Hp->VK->Prop:=fun x vs H Q=>∃(l:Addr) (xs:List V) (i:Int) (y:V),x= .ref l/\vs= [.int i,y]/\H l=some (.lst xs)/\0<=i/\i.toNat<=xs.length/\xs.length<=1000000/\Q .non (upd H l (.lst (xs.take i.toNat++y::xs.drop i.toNat)))
section
variable{X:Cx}
def K6:∀ {xs:List V} {us:List Value} (n:Nat),Vals xs us->Vals (xs.take n) (us.take n)
 | _,_,0,_=>.nil
 | [],[],n+1,_=>.nil
 | _::_,_::_,n+1,.cons a b=>.cons a (K6 n b)
def K7:∀ {xs:List V} {us:List Value} (n:Nat),Vals xs us->Vals (xs.drop n) (us.drop n)
 | _,_,0,r=>r
 | [],[],n+1,_=>.nil
 | _::_,_::_,n+1,.cons a b=>K7 n b
def Xn:MtM X "list.insert" Sd:=by
 intro pins s σ H x vs v us Q I rx rv h;obtain⟨l,xs,i,y,rfl,rfl,hH,h0,hi,hz,q⟩:=h;cases rx;obtain⟨u1,u2,rfl,r1,r2⟩:=rv.two;obtain⟨t,rfl⟩:=r1;obtain⟨z,its,n,r,hl,e⟩:=I.N7 hH;refine call_meets F.slot_list_insert ⟨_,e,rfl⟩ F.entry_list_insert (F.args_list_insert_3 _ _ _) (PySem.AutoListH.list_insert_list_int_val_1 l its.toArray n i t u2 (by rw[fitsIndex_both (show -(2 ^ 63)<=i by omega) (by omega)];decide) (by rw[gj];omega)) ⟨e,?_⟩;refine⟨.non,_,I.acw (its':=its.take i.toNat++u2::its.drop i.toNat) hH e ?_ ((K6 _ r).append (.cons r2 (K7 _ r))) ?_,rfl,q⟩
 · have hm:min i.toNat its.length=i.toNat:=Nat.min_eq_left (by omega);show(its.toArray.extract 0 (if i<0 then(i+((its.toArray.size:Nat):Int)).toNat else min i.toNat its.toArray.size)).push u2++its.toArray.extract (if i<0 then(i+((its.toArray.size:Nat):Int)).toNat else min i.toNat its.toArray.size)=_;rw[aA (by omega),gj,hm];simp[List.take_of_length_le]
 · rw[ji,gG,List.length_take,List.length_drop,sizeLine_eq];omega
variable{cl:Cn}
def ae6{ρ:List Addr}{ws:List W}{vs:List V}{f:W->W->W->R W}{P:A->Hs->List Addr->Hp->Prop}{H:Hp}{E:XK}(r:RWs ρ ws vs)(p:Post cl ρ H E (ofW (Zo ws f)) P):∃ a x b y c z,ws= [a,b,c]/\vs= [x,y,z]/\RW ρ a x/\RW ρ b y/\RW ρ c z/\Post cl ρ H E (ofW (f a b c)) P:=by
 cases r with
 | nil=>exact p.elim
 | cons r1 t=>cases t with
   | nil=>exact p.elim
   | cons r2 t=>cases t with
     | nil=>exact p.elim
     | cons r3 t=>cases t with
       | nil=>exact⟨_,_,_,_,_,_,rfl,rfl,r1,r2,r3,p⟩
       | cons _ _=>exact p.elim
def Zq:OpM cl .insert Sd:=fun E ρ h H w v ws vs Q s r rs p=>by
 obtain⟨w1,v1,w2,v2,w3,v3,e,e',r1,r2,r3,p1⟩:=ae6 (.cons r rs) (show Post cl ρ H E (ofW (Zo (w::ws) (R_ h))) (VP Q) from p);cases e;cases e';obtain⟨n,o,a,rfl,rfl,e1,g1,x1,p2⟩:=oAt s r1 p1;obtain⟨xs,rfl,p3⟩:=oL p2;obtain⟨i,rfl,p4⟩:=oI p3;obtain⟨c1,p5⟩:=oIf p4;obtain⟨c2,p6⟩:=oIf p5;obtain⟨c3,p7⟩:=oIf p6;obtain⟨us,ru,q⟩:=x1;have hl:=ru.length;rw[b8,decide_eq_true_eq]at c1;rw[len_eq]at c2 c3;have c2:=Nat.le_of_ble_eq_true c2;have c3:=Nat.le_of_ble_eq_true c3;cases r2;rw[jM,BW,BV]at p7;exact⟨a,us,i,v3,rfl,rfl,q,by omega,by omega,by omega,Post.putL s p7 e1 ((ru.take _).append (.cons r3 (ru.drop _))) .non⟩
end
section
variable{K:Ks}{n:Nat}{τ:Sg}{h:Hs}{Q:W->Hs->Prop}
def Zr{a b c:X}(x:wX a K n τ h fun w h1=>∃ p xs,w= .ref p/\h1.get p=some (.lst xs)/\wA [b,c] K n τ h1 fun ws h2=>∃(i:Nat) (u:W) (ys:List W),ws= [.int (i:Int),u]/\h2.get p=some (.lst ys)/\i<=ys.length/\ys.length<=1000000/\Q .non (h2.set p (.lst (ys.take i++u::ys.drop i)))):wX (.lm .insert a [b,c]) K n τ h Q:=by
 show okQ ((a.f K n τ h).bind fun r h=>r.toW fun w=>h.at w fun _ o=>o.onL fun _=>(goA [b,c] K n τ h).bind fun r h=>r.toL fun ws=>ofW (dF .insert (w::ws) h)) (aW Q);obtain⟨w,h1,ea,p,xs,rfl,g,y⟩:=g8 x;rw[ea];show okQ (h1.at (.ref p) fun _ o=>o.onL fun _=>(goA [b,c] K n τ h1).bind fun r h=>r.toL fun ws=>ofW (dF .insert (.ref p::ws) h)) (aW Q);rw[fQ g];show okQ ((goA [b,c] K n τ h1).bind fun r h=>r.toL fun ws=>ofW (dF .insert (.ref p::ws) h)) (aW Q);obtain⟨ws,h2,eb,i,u,ys,rfl,g2,l1,l2,q⟩:=DQ y;rw[eb];show okQ (ofW (h2.at (.ref p) fun n o=>o.onL fun xs=>ifB (ilt (-1) (i:Int)) (ifB (Nat.ble (i:Int).toNat (len xs)) (ifB (Nat.ble (len xs) 1000000) (.ok .non (h2.set n (.lst (app (tak xs (i:Int).toNat) (u::drp xs (i:Int).toNat))))) .no) .no) .no)) (aW Q);rw[fQ g2];show okQ (ofW (ifB (ilt (-1) (i:Int)) (ifB (Nat.ble i (len ys)) (ifB (Nat.ble (len ys) 1000000) (.ok .non (h2.set p (.lst (app (tak ys i) (u::drp ys i))))) .no) .no) .no)) (aW Q);rw[b8,dM (bH (by omega)),len_eq,dM (Nat.ble_eq_true_of_le l1),dM (Nat.ble_eq_true_of_le l2),jM,BW,BV];exact q
def P_{nx:Nat}{idx:List Nat}{e:X}{c1 c2:Nat->Nat->List W->Hs->R A}(z:wX e K n (ir 0 idx τ) h fun w h1=>Q (.ref h1.n) (h1.push (.tup [.str uT,w]))):wX (.told nx idx e) (c1::c2::K) n τ h Q:=by
 obtain⟨w,h1,e1,q⟩:=g8 z;show okQ (R.rec (motive:=fun _=>R A) (fun r h=>r.toW fun w=>ofW (.alloc h (.tup [.str uT,w]))) (fun C fs h=>ifB (Nat.ble (C+1) nx) (Opt (fget fs gm) fun w=>ofW (.alloc h (.tup [.str noT,w]))) .no) .no (e.f K n (ir 0 idx τ) h)) (aW Q);rw[e1];exact q
end
section
variable{X:Cx}{Pg:List Fn}{cl:Cn}{E:XK}{d:Nat}
def sX{a b c:Expr}{x y z:Ev.X}{pos:Pos}(hu:X.A.units<cLine)(ha:PE X a (tE Pg cl E d x))(hb:PE X b (tE Pg cl E d y))(hc:PE X c (tE Pg cl E d z))(hm:lastMarks [.LtE,.Lt] [b,c] =false:=by with_unfolding_all rfl):PT X (.Compare a [.LtE,.Lt] [b,c] pos) (tT Pg cl E d (.chain .le .lt x y z)):=
 PT.of (Yn ZZ (L2.OpR.or xg (vJ hu)) ha hb hc hm) fun σ H Q q=>Ou ac1 (Fp (K:=X.K)) (fun x y H Q Q' f ⟨i,j,e1,e2,g⟩=>⟨i,j,e1,e2,f _ g⟩) q
  (fun ρ h u v w h' e=>by
    rcases DG h u v with ⟨b,g⟩ | g
    · rw[g]at e;cases e;rfl
    · rw[g]at e;cases e)
  fun h u v C f h' e=>by
   rcases DG h u v with ⟨b,g⟩ | g
   · rw[g]at e;cases e
   · rw[g]at e;cases e
end
end Ev
namespace My
open PySem L2 PyProof.Rows
def top(i:Nat):Stmt:=PySem.Challenge.pw_byestand_k22_turned_rounds_refused.main.body.getD i (.Pass ⟨0,0,0,0⟩)
section
open Ev
abbrev zO:Stmt:=top 12
def qy:aQ ["plan","at","found","table","first","second"] ["plan","at"] (ak zO):=fsc
abbrev Cp:Stmt:=top 13
def m7:aQ ["plan","at","pair","table","side","first","second","number","other"] ["plan","at","pair"] (ak Cp):=fsc
abbrev DX:Stmt:=top 14
def Zt:aQ ["plan","pair"] ["plan","pair"] (ak DX):=fsc
abbrev uz:Stmt:=top 17
def yU:aQ ["plan","turned","at"] ["plan","turned"] (ak uz):=fsc
abbrev Jy:Stmt:=top 18
def fV:aQ ["guides","one","other","had","at","table","side","across","number","found","other_at","other_side"] ["guides","one","other"] (ak Jy):=fsc
abbrev DY:Stmt:=top 19
def Zu:aQ ["linked","turned"] ["linked","turned"] (ak DY):=fsc
abbrev Qa:Stmt:=top 20
def abA:aQ ["linked","turned"] ["linked","turned"] (ak Qa):=fsc
abbrev Ga:Stmt:=top 21
def Cq:aQ ["plan","turned","one","other","linked","like"] ["plan","turned","one","other"] (ak Ga):=fsc
abbrev qz:Stmt:=top 22
def Cr:aQ ["plan","guides"] ["plan"] (ak qz):=fsc
abbrev zQ:Stmt:=top 23
def Xo:aQ ["all_linked","turned"] ["all_linked","turned"] (ak zQ):=fsc
abbrev wg:Stmt:=top 24
def Lj:aQ ["plan","turned"] ["plan","turned"] (ak wg):=fsc
abbrev pM:Stmt:=top 25
def oJ:aQ ["many","found","at"] ["many"] (ak pM):=fsc
abbrev xJ:Stmt:=top 26
def Hh:aQ ["plan","all_linked"] ["plan"] (ak xJ):=fsc
abbrev yd:Stmt:=top 30
def Qc:aQ ["m"] ["m"] (ak yd):=fsc
abbrev wj:Stmt:=top 31
def Lk:aQ ["numbers"] ["numbers"] (ak wj):=fsc
abbrev wu:Stmt:=top 32
def K8:aQ ["m","pairs","ways"] ["m","pairs"] (ak wu):=fsc
abbrev u_:Stmt:=top 33
def qC:aQ ["numbers","found","partner","others","rest"] ["numbers"] (ak u_):=fsc
abbrev vd:Stmt:=top 34
def Q6:aQ ["m"] ["m"] (ak vd):=fsc
abbrev Hi:Stmt:=top 35
def Sh:aQ ["m","pairs","adds","places"] ["m","pairs","adds"] (ak Hi):=fsc
abbrev wB:Stmt:=top 36
def qL:aQ ["m","pairs","adds","b","longer","found"] ["m","pairs","adds"] (ak wB):=fsc
abbrev uA:Stmt:=top 37
def Jz:aQ ["m","pairs"] ["m","pairs"] (ak uA):=fsc
abbrev Cu:Stmt:=top 38
def zR:aQ ["m","pairs","adds"] ["m"] (ak Cu):=fsc
abbrev vf:Stmt:=top 41
def ye:aQ ["kind","tables","pairs","adds"] ["kind","tables"] (ak vf):=fsc
abbrev wF:Stmt:=top 44
def Aj:aQ ["_law_seed","_law_k","_law_square"] ["_law_seed","_law_k"] (ak wF):=fsc
abbrev yf:Stmt:=top 45
def jN:aQ ["_law_cell_here","_law_limits","_law_rest","_law_seed","_law_found","_law_limit"] ["_law_cell_here","_law_limits"] (ak yf):=fsc
abbrev yg:Stmt:=top 46
def Qd:aQ ["_law_script","_law_k"] ["_law_script","_law_k"] (ak yg):=fsc
abbrev yh:Stmt:=top 47
def wG:aQ ["_law_asked","e"] ["_law_asked"] (ak yh):=fsc
abbrev cj:Stmt:=top 48
def p_:aQ ["_law_number","_law_some"] ["_law_number"] (ak cj):=fsc
abbrev uB:Stmt:=top 49
def JB:aQ ["_law_number","_law_most"] ["_law_number","_law_most"] (ak uB):=fsc
abbrev qX:Stmt:=top 50
def l_:aQ ["_law_number","_law_many","_law_found","_law_at"] ["_law_number","_law_many"] (ak qX):=fsc
abbrev mq:Stmt:=top 51
def Cv:aQ ["_law_turned","_law_many"] ["_law_turned","_law_many"] (ak mq):=fsc
abbrev dZ:Stmt:=top 52
def gK:aQ ["_law_script","_law_k","_law_row","_law_kind","_law_t","_law_plan","_law_many","_law_turned","_law_turn","_law_bad","_law_one","_law_other","_law_due","_law_handed","_law_found"] ["_law_script"] (ak dZ):=fsc
abbrev qY:Stmt:=inClass (top 42) 0
def Eh:aQ ["self","kind","tables"] ["self","kind","tables"] (ak qY):=fsc
abbrev sY:Stmt:=inClass (top 42) 1
def Hj:aQ ["self"] ["self"] (ak sY):=fsc
abbrev wH:Stmt:=inClass (top 42) 2
def Ln:aQ ["self"] ["self"] (ak wH):=fsc
abbrev uC:Stmt:=inClass (top 42) 3
def JC:aQ ["self"] ["self"] (ak uC):=fsc
abbrev o5:Stmt:=inClass (top 42) 4
def Az:aQ ["self","at"] ["self","at"] (ak o5):=fsc
abbrev o6:Stmt:=inClass (top 42) 5
def A_:aQ ["self","table"] ["self","table"] (ak o6):=fsc
abbrev qd:Stmt:=inClass (top 42) 6
def Cw:aQ ["self","pair"] ["self","pair"] (ak qd):=fsc
abbrev wJ:Stmt:=inClass (top 42) 9
def Lq:aQ ["self","at","table"] ["self","at","table"] (ak wJ):=fsc
abbrev lQ:Stmt:=inClass (top 42) 10
def eE:aQ ["self","at","table","m","x","y","b"] ["self","at","table"] (ak lQ):=fsc
abbrev lR:Stmt:=inClass (top 42) 11
def eF:aQ ["self","at","table","t","half","back","ahead"] ["self","at","table"] (ak lR):=fsc
abbrev lU:Stmt:=inClass (top 2) 0
def wW:aQ ["self","word"] ["self","word"] (ak lU):=fsc
abbrev ou:Stmt:=inClass (top 3) 0
def zT:aQ ["self"] ["self"] (ak ou):=fsc
abbrev oA:Stmt:=inClass (top 5) 0
def zU:aQ ["self"] ["self"] (ak oA):=fsc
abbrev oE:Stmt:=inClass (top 6) 0
def zV:aQ ["self"] ["self"] (ak oE):=fsc
abbrev oF:Stmt:=inClass (top 7) 0
def zW:aQ ["self"] ["self"] (ak oF):=fsc
abbrev o7:Stmt:=inClass (top 8) 0
def Ba:aQ ["self"] ["self"] (ak o7):=fsc
abbrev qe:Stmt:=inClass (top 9) 0
def Cy:aQ ["self"] ["self"] (ak qe):=fsc
abbrev oG:Stmt:=inClass (top 10) 0
def zX:aQ ["self"] ["self"] (ak oG):=fsc
abbrev wK:List (List Nat × List Int):=[([115,116,114,97,105,103,104,116],[3,5,7,9]),([115,107,105,112],[4,6,8]),([115,104,97,114,101,100],[4,6,8]),([114,105,110,103],[2,3,4,5,6])]
def Hl:List S:=[(.asg (.nm 2) (.pr .Uc [])),
    (.for_ (.j6 [(.fld 50 (.var 0) [116,97,98,108,101,115])]) (.nm 3) [(.asg (.tup [(.nm 4),(.nm 5)]) (.slice (.meth 50 [115,101,97,116] 27 (.var 0) [(.var 1),(.var 3)]) none (some (.cst (.int 2))))),
    (.dput (.var 2) (.var 4) (.pr .tup [(.var 3),(.cst (.str [102,105,114,115,116]))])),
    (.dput (.var 2) (.var 5) (.pr .tup [(.var 3),(.cst (.str [115,101,99,111,110,100]))]))]),
    (.ret (.var 2))]
def K9:List S:=[(.asg (.tup [(.nm 3),(.nm 4)]) (.pr .Og [(.call 0 [(.var 0),(.var 1)]),(.var 2)])),
    (.asg (.tup [(.nm 5),(.nm 6),(.nm 7)]) (.meth 50 [115,101,97,116] 27 (.var 0) [(.var 1),(.var 3)])),
    (.asg (.nm 8) (.ite (.pr .eq [(.var 4),(.cst (.str [102,105,114,115,116]))]) (.var 6) (.var 5))),
    (.ret (.pr .tup [(.var 3),(.var 4),(.var 8),(.var 7)]))]
def Sq:List S:=[(.expr (.meth 50 [110,101,101,100,95,112,97,105,114] 26 (.var 0) [(.var 1)])),
    (.ret (.comp 1 [0,1] (.j6 [(.meth 50 [114,111,117,110,100,115] 21 (.var 0) [])]) (.nm 0) none none (.call 1 [(.var 1),(.var 0),(.var 2)])))]
def uD:List S:=[(.for_ (.seq (.var 1)) (.nm 2) [(.expr (.meth 50 [110,101,101,100,95,114,111,117,110,100] 24 (.var 0) [(.var 2)]))]),
    (.ife (.pr .ne [(.pr .yH [(.var 1)]),(.pr .len [(.var 1)])]) [(.raise 5 [116,111,108,100,32,116,119,105,99,101])] [])]
def Ss:List S:=[(.asg (.nm 3) (.pr .Uc [])),
    (.for_ (.enu [(.pr .ixd [(.var 0),(.var 2)])]) (.tup [(.nm 4),(.tup [(.nm 5),(.nm 6),(.nm 7),(.nm 8)])]) [(.dput (.var 3) (.var 8) (.pr .tup [(.var 4),(.var 6)]))]),
    (.asg (.nm 9) (.pr .lst [])),
    (.for_ (.enu [(.pr .ixd [(.var 0),(.var 1)])]) (.tup [(.nm 4),(.tup [(.nm 5),(.nm 6),(.nm 7),(.nm 8)])]) [(.ife (.and (.pr .din [(.var 8),(.var 3)]) (.pr .ne [(.var 7),(.var 2)])) [(.asg (.tup [(.nm 10),(.nm 11)]) (.pr .Og [(.var 3),(.var 8)])),
    (.expr (.lm .append (.var 9) [(.pr .tup [(.var 4),(.var 10),(.pr .eq [(.var 6),(.var 11)])])]))] [])]),
    (.ret (.var 9))]
def Su:List S:=[(.ret (.pr .len [(.comp 3 [1] (.seq (.var 0)) (.tup [(.nm 0),(.nm 1),(.nm 2)]) (some (.pr .eq [(.var 2),(.pr .eq [(.pr .in_ [(.var 0),(.var 3)]),(.pr .in_ [(.var 1),(.var 3)])])])) none (.var 2))]))]
def Xp:List S:=[(.ret (.pr .sub [(.pr .mul [(.cst (.int 2)),(.call 5 [(.var 0),(.var 1)])]),(.pr .len [(.var 0)])]))]
def Gb:List S:=[(.expr (.meth 50 [110,101,101,100,95,112,97,105,114] 26 (.var 0) [(.var 2)])),
    (.expr (.meth 50 [110,101,101,100,95,112,97,105,114] 26 (.var 0) [(.var 3)])),
    (.ife (.pr .eq [(.var 2),(.var 3)]) [(.raise 5 [116,111,108,100,32,116,119,105,99,101])] []),
    (.expr (.call 3 [(.var 0),(.var 1)])),
    (.asg (.nm 4) (.call 4 [(.Np [((.var 2),(.call 2 [(.var 0),(.var 2)])),((.var 3),(.call 2 [(.var 0),(.var 3)]))]),(.var 2),(.var 3)])),
    (.asg (.nm 5) (.call 5 [(.var 4),(.var 1)])),
    (.ret (.pr .tup [(.var 5),(.pr .sub [(.pr .len [(.var 4)]),(.var 5)])]))]
def Ex:List S:=[(.asg (.nm 1) (.comp 1 [0] (.j6 [(.meth 50 [112,97,105,114,115] 23 (.var 0) [])]) (.nm 0) none none (.call 2 [(.var 1),(.var 0)]))),
    (.ret (.comp 2 [1] (.j6 [(.meth 50 [112,97,105,114,115] 23 (.var 0) [])]) (.nm 0) none (some (.mk (.j6 [(.var 0)]) (.nm 1) none)) (.call 4 [(.var 2),(.var 1),(.var 0)])))]
def Qe:List S:=[(.ret (.pr .sum [(.comp 1 [1] (.seq (.var 0)) (.nm 0) none none (.pr .Zj [(.call 6 [(.var 0),(.var 1)]),(.cst (.int 2))]))]))]
def wL:List S:=[(.expr (.call 3 [(.var 0),(.var 1)])),
    (.ret (.call 9 [(.call 8 [(.var 0)]),(.var 1)]))]
def JD:List S:=[(.asg (.nm 1) (.pr .lst [(.pr .lst [])])),
    (.for_ (.j6 [(.var 0)]) (.nm 2) [(.asg (.nm 1) (.pr .add [(.var 1),(.comp 1 [2] (.seq (.var 1)) (.nm 0) none none (.pr .add [(.var 0),(.pr .lst [(.var 1)])]))]))]),
    (.ret (.var 1))]
def K_:List S:=[(.ife (.pr .gt [(.meth 50 [114,111,117,110,100,115] 21 (.var 0) []),(.cst (.int 7))]) [(.raise 6 [116,111,111,32,109,97,110,121])] []),
    (.asg (.nm 1) (.call 8 [(.var 0)])),
    (.ret (.pr .ix [(.pr .min [(.comp 1 [1] (.seq (.call 11 [(.meth 50 [114,111,117,110,100,115] 21 (.var 0) [])])) (.nm 0) none none (.pr .tup [(.call 9 [(.var 1),(.var 0)]),(.var 0)]))]),(.cst (.int 1))]))]
def Q7:List S:=[(.ife (.or (.pr .lt [(.var 0),(.cst (.int 3))]) (.or (.pr .gt [(.var 0),(.cst (.int 11))]) (.pr .eq [(.pr .mod [(.var 0),(.cst (.int 2))]),(.cst (.int 0))]))) [(.raise 0 [98,97,100,32,114,105,110,103])] [])]
def Qf:List S:=[(.ret (.pr .eq [(.pr .yH [(.var 0)]),(.pr .len [(.var 0)])]))]
def Zv:List S:=[(.asg (.nm 2) (.pr .add [(.comp 2 [0] (.seq (.var 1)) (.tup [(.nm 0),(.nm 1)]) none none (.pr .mod [(.pr .sub [(.var 0),(.var 1)]),(.var 2)])),(.comp 2 [0] (.seq (.var 1)) (.tup [(.nm 0),(.nm 1)]) none none (.pr .mod [(.pr .sub [(.var 1),(.var 0)]),(.var 2)]))])),
    (.ret (.call 14 [(.var 2)]))]
def adX:List S:=[(.asg (.nm 3) (.comp 3 [0] (.zip [(.var 1),(.var 2)]) (.tup [(.nm 0),(.nm 1)]) none (some (.mk (.seq (.var 0)) (.nm 2) none)) (.pr .mod [(.pr .sub [(.var 1),(.var 2)]),(.var 3)]))),
    (.ret (.and (.call 14 [(.var 2)]) (.and (.call 14 [(.var 3)]) (.pr .Ub [(.cst (.int 0)),(.var 3)]))))]
def Qg:List S:=[(.ife (.pr .eq [(.pr .len [(.var 2)]),(.pr .len [(.var 1)])]) [(.ret (.var 2))] []),
    (.for_ (.acW [(.cst (.int 1)),(.var 0)]) (.nm 3) [(.asg (.nm 4) (.pr .add [(.var 2),(.pr .lst [(.var 3)])])),
    (.ife (.pr .truth [(.call 16 [(.var 0),(.var 1),(.var 4)])]) [(.asg (.nm 5) (.call 17 [(.var 0),(.var 1),(.var 4)])),
    (.ife (.pr .zE [(.var 5)]) [(.ret (.var 5))] [])] [])]),
    (.ret (.cst .non))]
def Lr:List S:=[(.expr (.call 13 [(.var 0)])),
    (.ret (.call 17 [(.var 0),(.var 1),(.pr .lst [])]))]
def UG:List S:=[(.ife (.pr .ne [(.var 0),(.cst (.str [114,105,110,103]))]) [(.ret (.pr .lst []))] []),
    (.asg (.tup [(.nm 2),(.nm 3)]) (.pr (.plan Uv) [(.pr .sub [(.pr .mul [(.cst (.int 2)),(.var 1)]),(.cst (.int 1))])])),
    (.ret (.comp 3 [] (.zip [(.var 2),(.var 3)]) (.tup [(.tup [(.nm 1),(.nm 2)]),(.nm 0)]) none none (.pr .tup [(.var 1),(.var 2),(.var 0)])))]
def Gd:List S:=[(.ife (.pr (.tab wK) [(.var 2),(.var 1)]) [(.raise 1 [98,97,100,32,112,108,97,110])] []),
    (.Ue 50 (.var 0) [107,105,110,100] (.var 1)),
    (.Ue 50 (.var 0) [116,97,98,108,101,115] (.var 2)),
    (.Ue 50 (.var 0) [116,114,105,111,115] (.call 19 [(.var 1),(.var 2)]))]
def yV:List S:=[(.ife (.pr .eq [(.fld 50 (.var 0) [107,105,110,100]),(.cst (.str [115,107,105,112]))]) [(.ret (.pr .sub [(.fld 50 (.var 0) [116,97,98,108,101,115]),(.cst (.int 1))]))] []),
    (.ret (.meth 50 [115,101,116,115] 22 (.var 0) []))]
def Cz:List S:=[(.ife (.pr .eq [(.fld 50 (.var 0) [107,105,110,100]),(.cst (.str [114,105,110,103]))]) [(.ret (.pr .sub [(.pr .mul [(.cst (.int 2)),(.fld 50 (.var 0) [116,97,98,108,101,115])]),(.cst (.int 1))]))] []),
    (.ret (.fld 50 (.var 0) [116,97,98,108,101,115]))]
def Ak:List S:=[(.ret (.pr .mul [(.cst (.int 2)),(.fld 50 (.var 0) [116,97,98,108,101,115])]))]
def o8:List S:=[(.ife (.or (.pr .lt [(.var 1),(.cst (.int 0))]) (.pr .ge [(.var 1),(.meth 50 [114,111,117,110,100,115] 21 (.var 0) [])])) [(.raise 2 [110,111,32,114,111,117,110,100])] [])]
def ug:List S:=[(.ife (.or (.pr .lt [(.var 1),(.cst (.int 0))]) (.pr .ge [(.var 1),(.fld 50 (.var 0) [116,97,98,108,101,115])])) [(.raise 3 [110,111,32,116,97,98,108,101])] [])]
def qg:List S:=[(.ife (.or (.pr .lt [(.var 1),(.cst (.int 0))]) (.pr .ge [(.var 1),(.meth 50 [112,97,105,114,115] 23 (.var 0) [])])) [(.raise 4 [110,111,32,112,97,105,114])] [])]
def CG:List S:=[(.expr (.meth 50 [110,101,101,100,95,114,111,117,110,100] 24 (.var 0) [(.var 1)])),
    (.expr (.meth 50 [110,101,101,100,95,116,97,98,108,101] 25 (.var 0) [(.var 2)])),
    (.ife (.pr .eq [(.fld 50 (.var 0) [107,105,110,100]),(.cst (.str [114,105,110,103]))]) [(.ret (.meth 50 [111,110,101,95,102,105,101,108,100,95,115,101,97,116] 28 (.var 0) [(.var 1),(.var 2)]))] []),
    (.ret (.meth 50 [116,119,111,95,102,105,101,108,100,95,115,101,97,116] 29 (.var 0) [(.var 1),(.var 2)]))]
def qD:List S:=[(.asg (.nm 3) (.meth 50 [115,101,116,115] 22 (.var 0) [])),
    (.ife (.pr .eq [(.var 2),(.cst (.int 0))]) [(.ret (.pr .tup [(.var 3),(.var 1),(.var 1)]))] []),
    (.asg (.tup [(.nm 4),(.nm 5),(.nm 6)]) (.pr .ix [(.fld 50 (.var 0) [116,114,105,111,115]),(.pr .sub [(.var 2),(.cst (.int 1))])])),
    (.ret (.pr .tup [(.pr .mod [(.pr .add [(.var 4),(.var 1)]),(.var 3)]),(.pr .mod [(.pr .add [(.var 5),(.var 1)]),(.var 3)]),(.pr .mod [(.pr .add [(.var 6),(.var 1)]),(.var 3)])]))]
def qF:List S:=[(.asg (.nm 3) (.fld 50 (.var 0) [116,97,98,108,101,115])),
    (.asg (.nm 4) (.pr .fdiv [(.var 3),(.cst (.int 2))])),
    (.asg (.nm 5) (.ite (.and (.pr .eq [(.fld 50 (.var 0) [107,105,110,100]),(.cst (.str [115,107,105,112]))]) (.pr .ge [(.var 1),(.var 4)])) (.pr .add [(.var 1),(.cst (.int 1))]) (.var 1))),
    (.asg (.nm 6) (.ite (.and (.pr .eq [(.fld 50 (.var 0) [107,105,110,100]),(.cst (.str [115,104,97,114,101,100]))]) (.pr .ge [(.var 2),(.var 4)])) (.pr .add [(.var 1),(.cst (.int 1))]) (.var 1))),
    (.ret (.pr .tup [(.var 2),(.pr .add [(.var 3),(.pr .mod [(.pr .sub [(.var 2),(.var 5)]),(.var 3)])]),(.pr .mod [(.pr .add [(.var 2),(.var 6)]),(.var 3)])]))]
def wM:List S:=[(.asg (.nm 1) (.pr .lst [(.pr .tup [(.cst (.str [115,116,114,97,105,103,104,116])),(.cst (.int 3))]),(.pr .tup [(.cst (.str [115,107,105,112])),(.cst (.int 4))]),(.pr .tup [(.cst (.str [115,104,97,114,101,100])),(.cst (.int 4))]),(.pr .tup [(.cst (.str [115,116,114,97,105,103,104,116])),(.cst (.int 5))]),(.pr .tup [(.cst (.str [114,105,110,103])),(.cst (.int 4))]),(.pr .tup [(.cst (.str [115,107,105,112])),(.cst (.int 6))]),(.pr .tup [(.cst (.str [115,104,97,114,101,100])),(.cst (.int 6))])])),
    (.asg (.nm 1) (.pr .add [(.var 1),(.pr .lst [(.pr .tup [(.cst (.str [115,116,114,97,105,103,104,116])),(.cst (.int 7))]),(.pr .tup [(.cst (.str [114,105,110,103])),(.cst (.int 5))]),(.pr .tup [(.cst (.str [115,107,105,112])),(.cst (.int 8))]),(.pr .tup [(.cst (.str [115,104,97,114,101,100])),(.cst (.int 8))]),(.pr .tup [(.cst (.str [115,116,114,97,105,103,104,116])),(.cst (.int 9))]),(.pr .tup [(.cst (.str [114,105,110,103])),(.cst (.int 6))])])])),
    (.ret (.pr .ix [(.var 1),(.pr .mod [(.var 0),(.cst (.int 13))])]))]
def Am:List S:=[(.ret (.pr .ix [(.pr .lst [(.pr .neg [(.cst (.int 1))]),(.var 1),(.pr .add [(.var 1),(.cst (.int 1))]),(.pr .pow [(.cst (.int 10)),(.cst (.int 40))]),(.pr .neg [(.pr .pow [(.cst (.int 10)),(.cst (.int 40))])])]),(.pr .mod [(.var 0),(.cst (.int 5))])]))]
def wN:List S:=[(.asg (.nm 2) (.pr .lst [])),
    (.for_ (.j6 [(.var 1)]) (.nm 3) [(.ife (.pr .eq [(.pr .mod [(.var 0),(.cst (.int 2))]),(.cst (.int 1))]) [(.expr (.lm .append (.var 2) [(.var 3)]))] []),
    (.asg (.nm 0) (.pr .fdiv [(.var 0),(.cst (.int 2))]))]),
    (.ret (.var 2))]
def uN:List S:=[(.ife (.pr .BR [(.pr .truth [(.pr .all [(.comp 1 [1] (.seq (.var 0)) (.nm 0) none none (.chain .le .lt (.cst (.int 0)) (.var 0) (.var 1)))])])]) [(.ret (.pr .tup [(.cst (.str [110,111])),(.cst (.str [110,111,32,114,111,117,110,100]))]))] []),
    (.ret (.ite (.pr .lt [(.pr .yH [(.var 0)]),(.pr .len [(.var 0)])]) (.pr .tup [(.cst (.str [110,111])),(.cst (.str [116,111,108,100,32,116,119,105,99,101]))]) (.cst .non)))]
def Nq:List S:=[(.for_ (.j6 [(.cst (.int 3))]) (.nm 1) [(.asg (.nm 2) (.pr .draw [(.pr .cell [(.var 0),(.var 1)]),(.pr .lst [(.cst (.int 13)),(.cst (.int 2048)),(.cst (.int 3)),(.cst (.int 12)),(.cst (.int 5)),(.cst (.int 12)),(.cst (.int 5)),(.cst (.int 4)),(.cst (.int 18)),(.cst (.int 18)),(.cst (.int 5))])])),
    (.asg (.tup [(.nm 3),(.nm 4)]) (.iso 100 30 [(.pr .ix [(.var 2),(.cst (.int 0))])])),
    (.asg (.nm 5) (.PK 20000 [3,4] (.make 50 20 [(.var 3),(.var 4)]))),
    (.asg (.nm 6) (.meth 50 [114,111,117,110,100,115] 21 (.var 5) [])),
    (.asg (.nm 7) (.call 32 [(.pr .ix [(.var 2),(.cst (.int 1))]),(.var 6)])),
    (.for_ (.j6 [(.pr .ix [(.var 2),(.cst (.int 2))])]) (.nm 8) [(.asg (.nm 9) (.call 31 [(.pr .ix [(.var 2),(.pr .add [(.cst (.int 4)),(.pr .mul [(.cst (.int 2)),(.var 8)])])]),(.var 6)])),
    (.ife (.and (.pr .eq [(.pr .ix [(.var 2),(.pr .add [(.cst (.int 4)),(.pr .mul [(.cst (.int 2)),(.var 8)])])]),(.cst (.int 2))]) (.pr .ne [(.var 7),(.pr .lst [])])) [(.asg (.nm 9) (.pr .ix [(.var 7),(.pr .mod [(.pr .ix [(.var 2),(.cst (.int 3))]),(.pr .len [(.var 7)])])]))] []),
    (.expr (.lm .insert (.var 7) [(.pr .mod [(.pr .ix [(.var 2),(.pr .add [(.cst (.int 3)),(.pr .mul [(.cst (.int 2)),(.var 8)])])]),(.pr .add [(.pr .len [(.var 7)]),(.cst (.int 1))])]),(.var 9)]))]),
    (.asg (.nm 10) (.pr .ix [(.pr .lst [(.pr .mod [(.pr .ix [(.var 2),(.cst (.int 8))]),(.pr .mul [(.cst (.int 2)),(.var 4)])]),(.call 31 [(.pr .ix [(.var 2),(.cst (.int 10))]),(.pr .mul [(.cst (.int 2)),(.var 4)])]),(.pr .mod [(.pr .ix [(.var 2),(.cst (.int 8))]),(.pr .mul [(.cst (.int 2)),(.var 4)])]),(.pr .mod [(.pr .ix [(.var 2),(.cst (.int 8))]),(.pr .mul [(.cst (.int 2)),(.var 4)])])]),(.pr .ix [(.var 2),(.cst (.int 7))])])),
    (.asg (.nm 11) (.pr .ix [(.pr .lst [(.pr .mod [(.pr .ix [(.var 2),(.cst (.int 9))]),(.pr .mul [(.cst (.int 2)),(.var 4)])]),(.pr .mod [(.pr .ix [(.var 2),(.cst (.int 9))]),(.pr .mul [(.cst (.int 2)),(.var 4)])]),(.call 31 [(.pr .ix [(.var 2),(.cst (.int 10))]),(.pr .mul [(.cst (.int 2)),(.var 4)])]),(.var 10)]),(.pr .ix [(.var 2),(.cst (.int 7))])])),
    (.asg (.nm 12) (.call 33 [(.var 7),(.var 6)])),
    (.asg (.nm 13) (.pr .list [(.var 7)])),
    (.asg (.nm 14) (.told 7 [5,13] (.call 10 [(.var 0),(.var 1)]))),
    (.ife (.or (.and (.pr .isN [(.var 12)]) (.pr .ne [(.pr .ix [(.var 14),(.cst (.int 0))]),(.cst (.str [116,111,108,100]))])) (.and (.pr .zE [(.var 12)]) (.pr .ne [(.var 14),(.var 12)]))) [(.ret (.cst (.bl false)))] []),
    (.ife (.and (.pr .eq [(.var 10),(.var 11)]) (.chain .le .lt (.cst (.int 0)) (.var 10) (.pr .mul [(.cst (.int 2)),(.var 4)]))) [(.asg (.nm 12) (.pr .tup [(.cst (.str [110,111])),(.cst (.str [116,111,108,100,32,116,119,105,99,101]))]))] []),
    (.ife (.or (.pr .BR [(.chain .le .lt (.cst (.int 0)) (.var 10) (.pr .mul [(.cst (.int 2)),(.var 4)]))]) (.pr .BR [(.chain .le .lt (.cst (.int 0)) (.var 11) (.pr .mul [(.cst (.int 2)),(.var 4)]))])) [(.asg (.nm 12) (.pr .tup [(.cst (.str [110,111])),(.cst (.str [110,111,32,112,97,105,114]))]))] []),
    (.asg (.nm 14) (.told 7 [5,10,11,13] (.call 7 [(.var 0),(.var 3),(.var 1),(.var 2)]))),
    (.ife (.or (.and (.pr .isN [(.var 12)]) (.pr .ne [(.pr .ix [(.var 14),(.cst (.int 0))]),(.cst (.str [116,111,108,100]))])) (.or (.and (.pr .zE [(.var 12)]) (.pr .ne [(.var 14),(.var 12)])) (.pr .ne [(.var 13),(.var 7)]))) [(.ret (.cst (.bl false)))] []),
    (.ife (.and (.pr .gt [(.var 6),(.cst (.int 7))]) (.pr .ne [(.told 7 [5] (.call 12 [(.var 0)])),(.pr .tup [(.cst (.str [110,111])),(.cst (.str [116,111,111,32,109,97,110,121]))])])) [(.ret (.cst (.bl false)))] [])]),
    (.ret (.cst (.bl true)))]
def Pg:List Fn:=[.mk 2 6 Hl,.mk 3 9 K9,.mk 2 2 Sq,.mk 2 3 uD,.mk 3 12 Ss,.mk 2 2 Su,.mk 2 2 Xp,.mk 4 6 Gb,.mk 1 2 Ex,.mk 2 2 Qe,.mk 2 2 wL,.mk 1 3 JD,.mk 1 2 K_,.mk 1 1 Q7,.mk 1 1 Qf,.mk 2 3 Zv,.mk 3 4 adX,.mk 3 6 Qg,.mk 2 2 Lr,.mk 2 4 UG,.mk 3 3 Gd,.mk 1 1 yV,.mk 1 1 Cz,.mk 1 1 Ak,.mk 2 2 o8,.mk 2 2 ug,.mk 2 2 qg,.mk 3 3 CG,.mk 3 7 qD,.mk 3 7 qF,.mk 1 2 wM,.mk 2 2 Am,.mk 2 4 wN,.mk 2 2 uN,.mk 1 15 Nq]
set_option genInjectivity false in
set_option genSizeOf false in
structure Adr where
 pN:Addr
 vg:aR
 rA:Addr
 xK:aR
 vA:Addr
 D_:aR
 j9:Addr
 qM:aR
 vB:Addr
 Ea:aR
 vC:Addr
 Eb:aR
 f_lean:Addr
 Ho:aR
 sZ:Addr
 zY:aR
 nU:Addr
 tY:aR
 tu:Addr
 zZ:aR
 mH:Addr
 rR:aR
 jJ:Addr
 pO:aR
 rB:Addr
 xM:aR
 nW:Addr
 tZ:aR
 mJ:Addr
 rT:aR
 tD:Addr
 z6:aR
 m8:Addr
 rW:aR
 rY:Addr
 z7:aR
 yW:Addr
 Hq:aR
 mK:Addr
 rZ:aR
 j_:Addr
 qN:aR
 rC:Addr
 xN:aR
 pP:Addr
 vh:aR
 o9:Addr
 wO:aR
 qG:Addr
 yj:aR
 qH:Addr
 ym:aR
 t6:Addr
 Ey:aR
 cL:Addr
 m9:aR
 kh:Addr
 qO:aR
 iz:Addr
 m_:aR
 gO:Addr
 mz:aR
 pQ:Addr
 ae7:aR
 fW:Addr
 jO:aR
 iB:Addr
 mO:aR
 jP:Addr
 o_:aR
 jk:Addr
 nJ:aR
 dR:Addr
 iZ:aR
 dU:Addr
 i_:aR
 eO:Addr
 jq:aR
 jQ:Addr
 pq:aR
 cM:Addr
 fG:aR
 cN:Addr
 fH:aR
 cg:Addr
 iK:aR
 eU:Addr
 jV:aR
 eV:Addr
 jW:aR
 eX:Addr
 jX:aR
 eY:Addr
 jY:aR
 f9:Addr
 lF:aR
 gQ:Addr
 mC:aR
 eZ:Addr
 jZ:aR
 bh:Addr
 rD:Addr
 rE:Addr
 rF:Addr
 rG:Addr
 tH:Addr
 vD:Addr
 rH:Addr
 dW:Addr
 jE:Addr
 oM:Tok
 sr:Tok
 qP:Tok
 tbl:Addr
 code:Addr
def cn(a:Adr):Cn where
 c:=fun k=>match k with | 0=>a.rD | 1=>a.rE | 2=>a.rF | 3=>a.rG | 4=>a.tH | 5=>a.vD | 6=>a.rH | 50=>a.dW | _=>0
 P:=a.tbl
 q:="law" ++ ".<locals>." ++ "<lambda>"
 on:=true
structure Txt (w:World)(K:ao)(mg:Str->Option Value)(a:Adr):Prop where
 pR:Df K mg "seats_in" zO ["plan","at"] a.pN a.vg
 mW:Df K mg "meeting" Cp ["plan","at","pair"] a.rA a.xK
 nY:Df K mg "guide" DX ["plan","pair"] a.vA a.D_
 jl:Df K mg "need_turned" uz ["plan","turned"] a.j9 a.qM
 pU:Df K mg "links" Jy ["guides","one","other"] a.vB a.Ea
 tK:Df K mg "likes" DY ["linked","turned"] a.vC a.Eb
 uh:Df K mg "lean" Qa ["linked","turned"] a.f_lean a.Ho
 pA:Df K mg "beside" Ga ["plan","turned","one","other"] a.sZ a.zY
 lV:Df K mg "all_links" qz ["plan"] a.nU a.tY
 nA:Df K mg "uneven" zQ ["all_linked","turned"] a.tu a.zZ
 jc:Df K mg "unevenness" wg ["plan","turned"] a.mH a.rR
 jK:Df K mg "rising_lists" pM ["many"] a.jJ a.pO
 mY:Df K mg "evenest" xJ ["plan"] a.rB a.xM
 lW:Df K mg "need_ring" yd ["m"] a.nW a.tZ
 jd:Df K mg "all_unlike" wj ["numbers"] a.mJ a.rT
 tL:Df K mg "differ" wu ["m","pairs"] a.tD a.z6
 nD:Df K mg "pairings" u_ ["numbers"] a.m8 a.rW
 pW:Df K mg "starters" vd ["m"] a.rY a.z7
 yX:Df K mg "fits" Hi ["m","pairs","adds"] a.yW a.Hq
 jR:Df K mg "first_from" wB ["m","pairs","adds"] a.mK a.rZ
 kj:Df K mg "first_adder" uA ["m","pairs"] a.j_ a.qN
 mZ:Df K mg "planned" Cu ["m"] a.rC a.xN
 pX:Df K mg "trios_of" vf ["kind","tables"] a.pP a.vh
 mQ:Df K mg "_law_mixed" wF ["_law_seed","_law_k"] a.o9 a.wO
 nZ:Df K mg "_law_draw" yf ["_law_cell_here","_law_limits"] a.qG a.yj
 n6:Df K mg "_law_cell" yg ["_law_script","_law_k"] a.qH a.ym
 cB:Df K mg "_law_told" yh ["_law_asked"] a.t6 a.Ey
 iC:Df K mg "_law_some_plan" cj ["_law_number"] a.cL a.m9
 gW:Df K mg "_law_far_of" uB ["_law_number","_law_most"] a.kh a.qO
 iD:Df K mg "_law_rounds_of" qX ["_law_number","_law_many"] a.iz a.m_
 gR:Df K mg "_law_turned_bad" mq ["_law_turned","_law_many"] a.gO a.mz
 agj:Df K mg "law" dZ ["_law_script"] a.pQ a.ae7
 Ge:Fun K "__init__" "Plan.__init__" qY a.fW a.jO
 Gf:Binds K a.jO ["self","kind","tables"] []
 JF:Fun K "rounds" "Plan.rounds" sY a.iB a.mO
 mR:Binds K a.mO ["self"] []
 lH:Meth K ((cn a).c 50) "rounds" a.iB
 Qh:Fun K "sets" "Plan.sets" wH a.jP a.o_
 CJ:Binds K a.o_ ["self"] []
 An:Meth K ((cn a).c 50) "sets" a.jP
 Ls:Fun K "pairs" "Plan.pairs" uC a.jk a.nJ
 uE:Binds K a.nJ ["self"] []
 tM:Meth K ((cn a).c 50) "pairs" a.jk
 CK:Fun K "need_round" "Plan.need_round" o5 a.dR a.iZ
 um:Binds K a.iZ ["self","at"] []
 sI:Meth K ((cn a).c 50) "need_round" a.dR
 CN:Fun K "need_table" "Plan.need_table" o6 a.dU a.i_
 CP:Binds K a.i_ ["self","table"] []
 Bb:Meth K ((cn a).c 50) "need_table" a.dU
 Ei:Fun K "need_pair" "Plan.need_pair" qd a.eO a.jq
 qi:Binds K a.jq ["self","pair"] []
 pB:Meth K ((cn a).c 50) "need_pair" a.eO
 Qi:Fun K "seat" "Plan.seat" wJ a.jQ a.pq
 CQ:Binds K a.pq ["self","at","table"] []
 Ao:Meth K ((cn a).c 50) "seat" a.jQ
 yo:Fun K "one_field_seat" "Plan.one_field_seat" lQ a.cM a.fG
 yp:Binds K a.fG ["self","at","table"] []
 wY:Meth K ((cn a).c 50) "one_field_seat" a.cM
 yq:Fun K "two_field_seat" "Plan.two_field_seat" lR a.cN a.fH
 yr:Binds K a.fH ["self","at","table"] []
 wZ:Meth K ((cn a).c 50) "two_field_seat" a.cN
 yt:Fun K "__init__" "StandError.__init__" lU a.cg a.iK
 cO:Binds K a.iK ["self","word"] []
 Bc:Fun K "__init__" "BadRing.__init__" ou a.eU a.jV
 Bd:Binds K a.jV ["self"] []
 Be:Fun K "__init__" "BadPlan.__init__" oA a.eV a.jW
 Bf:Binds K a.jW ["self"] []
 Bg:Fun K "__init__" "NoRound.__init__" oE a.eX a.jX
 Bh:Binds K a.jX ["self"] []
 Bj:Fun K "__init__" "NoTable.__init__" oF a.eY a.jY
 Bk:Binds K a.jY ["self"] []
 CV:Fun K "__init__" "NoPair.__init__" o7 a.f9 a.lF
 CW:Binds K a.lF ["self"] []
 Ej:Fun K "__init__" "Twice.__init__" qe a.gQ a.mC
 uO:Binds K a.mC ["self"] []
 Bl:Fun K "__init__" "TooMany.__init__" oG a.eZ a.jZ
 Bm:Binds K a.jZ ["self"] []
 bA:Cls K ((cn a).c 50)
 je:cY K ((cn a).c 50) "kind"
 dm:cY K ((cn a).c 50) "tables"
 qQ:cY K ((cn a).c 50) "trios"
 JG:Mk K ((cn a).c 50) a.fW
 abB:mg "Plan" =some (.ref ((cn a).c 50))
 z8:XMk K ((cn a).c 0) a.eU
 UJ:uw K ((cn a).c 0) a.bh
 Hr:cY K ((cn a).c 0) "word"
 UL:mg "BadRing" =some (.ref ((cn a).c 0))
 z9:XMk K ((cn a).c 1) a.eV
 UT:uw K ((cn a).c 1) a.bh
 Ht:cY K ((cn a).c 1) "word"
 UW:mg "BadPlan" =some (.ref ((cn a).c 1))
 z_:XMk K ((cn a).c 2) a.eX
 U0:uw K ((cn a).c 2) a.bh
 Hu:cY K ((cn a).c 2) "word"
 U3:mg "NoRound" =some (.ref ((cn a).c 2))
 Aa:XMk K ((cn a).c 3) a.eY
 U4:uw K ((cn a).c 3) a.bh
 Hv:cY K ((cn a).c 3) "word"
 U5:mg "NoTable" =some (.ref ((cn a).c 3))
 CZ:XMk K ((cn a).c 4) a.f9
 Xq:uw K ((cn a).c 4) a.bh
 La:cY K ((cn a).c 4) "word"
 Xr:mg "NoPair" =some (.ref ((cn a).c 4))
 Ab:XMk K ((cn a).c 5) a.gQ
 Zw:uw K ((cn a).c 5) a.bh
 Qj:cY K ((cn a).c 5) "word"
 Qk:mg "Twice" =some (.ref ((cn a).c 5))
 Ac:XMk K ((cn a).c 6) a.eZ
 U6:uw K ((cn a).c 6) a.bh
 Hw:cY K ((cn a).c 6) "word"
 U7:mg "TooMany" =some (.ref ((cn a).c 6))
 uF:mD K a.bh
 jm:CI K a.bh a.cg
 dX:mg "StandError" =some (.ref a.bh)
 qR:Uo K w a.jE wK
 C_:mg "TABLES_OF" =some (.ref a.jE)
 Hx:mg "GREATEST_RING" =some (Value.int (11) a.oM)
 Ql:mg "LEAST_RING" =some (Value.int (3) a.sr)
 Lw:mg "MOST_ROUNDS" =some (Value.int (7) a.qP)
 wQ:mg "ValueError" =none
 U8:mg "abs" =none
 U9:mg "all" =none
 t7:mg "enumerate" =none
 jD:mg "len" =none
 Hy:mg "list" =none
 U_:mg "min" =none
 jL:mg "range" =none
 Hz:mg "set" =none
 Va:mg "sum" =none
 Nr:mg "zip" =none
def Ec{i j:Int}(h1: -(2 ^ 64)<i)(h2:i<2 ^ 64):M4 i j:=.inl (.inl ⟨h1,h2⟩)
def Qm{i j:Int}(h1: -(2 ^ 64)<j)(h2:j<2 ^ 64):M4 i j:=.inl (.inr ⟨h1,h2⟩)
section
variable{P:Program}{w:World}{K:ao}{mg:Str->Option Value}{base:Heap}
def hXs{a:Adr}(T:Txt w K mg a):∀ C,C<7->mD K ((cn a).c C)/\uw K ((cn a).c C) a.bh/\cY K ((cn a).c C) "word"
 | 0,_=>⟨T.z8.cls,T.UJ,T.Hr⟩
 | 1,_=>⟨T.z9.cls,T.UT,T.Ht⟩
 | 2,_=>⟨T.z_.cls,T.U0,T.Hu⟩
 | 3,_=>⟨T.Aa.cls,T.U4,T.Hv⟩
 | 4,_=>⟨T.CZ.cls,T.Xq,T.La⟩
 | 5,_=>⟨T.Ab.cls,T.Zw,T.Qj⟩
 | 6,_=>⟨T.Ac.cls,T.U6,T.Hw⟩
 | n+7,h=>aK h (by omega)
def jn{a:Adr}(T:Txt w K mg a):bU P w K mg base CX0 1 a.cg a.iK ["self","word"] (spS K):=by
 refine T.yt.ok wW (fun vs H Q E h=>?_) (fun cdv A outer s H vs Q E hr h=>?_)
 · obtain⟨_,_,_,rfl,_⟩:=h;rfl
 obtain⟨e,C,y,rfl,he,c,na,q⟩:=h;refine⟨_,(dz (jF (YH rfl T.wQ (aX (pv 0) (aX (pv 1) bO)))) (cA (aa2 (pv 0) (pv 1)))),?_⟩;exact⟨_,rfl,_,rfl,e,C,none,y,rfl,he,c,y,rfl,.ref e,rfl,e,C,rfl,he,c,na,q⟩
def Vb{a:Adr}(T:Txt w K mg a):bU P w K mg base CX0 2 a.eU a.jV ["self"] (spX ((cn a).c 0) [98,97,100,32,114,105,110,103]):=by
 have F:=jn (P:=P) (base:=base) T;refine T.Bc.ok zT (fun vs H Q E h=>?_) (fun cdv A outer s H vs Q E hr h=>?_)
 · obtain⟨_,rfl,_⟩:=h;rfl
 obtain⟨e,rfl,he,q⟩:=h;refine⟨_,(cA (jF (qU T.jm F (hr.mono (by omega)) rfl T.dX T.cO tQ (aX (pv 0) (aX qp bO))))),?_⟩;refine⟨_,rfl,e,((cn a).c 0),_,rfl,he,T.z8.cls,T.Hr,fun dx h1 h2=>?_⟩;have:=q dx h1 h2;rw[<- sV]at this;exact this
def Vc{a:Adr}(T:Txt w K mg a):bU P w K mg base CX0 2 a.eV a.jW ["self"] (spX ((cn a).c 1) [98,97,100,32,112,108,97,110]):=by
 have F:=jn (P:=P) (base:=base) T;refine T.Be.ok zU (fun vs H Q E h=>?_) (fun cdv A outer s H vs Q E hr h=>?_)
 · obtain⟨_,rfl,_⟩:=h;rfl
 obtain⟨e,rfl,he,q⟩:=h;refine⟨_,(cA (jF (qU T.jm F (hr.mono (by omega)) rfl T.dX T.cO tQ (aX (pv 0) (aX qp bO))))),?_⟩;refine⟨_,rfl,e,((cn a).c 1),_,rfl,he,T.z9.cls,T.Ht,fun dx h1 h2=>?_⟩;have:=q dx h1 h2;rw[<- sV]at this;exact this
def Vd{a:Adr}(T:Txt w K mg a):bU P w K mg base CX0 2 a.eX a.jX ["self"] (spX ((cn a).c 2) [110,111,32,114,111,117,110,100]):=by
 have F:=jn (P:=P) (base:=base) T;refine T.Bg.ok zV (fun vs H Q E h=>?_) (fun cdv A outer s H vs Q E hr h=>?_)
 · obtain⟨_,rfl,_⟩:=h;rfl
 obtain⟨e,rfl,he,q⟩:=h;refine⟨_,(cA (jF (qU T.jm F (hr.mono (by omega)) rfl T.dX T.cO tQ (aX (pv 0) (aX qp bO))))),?_⟩;refine⟨_,rfl,e,((cn a).c 2),_,rfl,he,T.z_.cls,T.Hu,fun dx h1 h2=>?_⟩;have:=q dx h1 h2;rw[<- sV]at this;exact this
def Ve{a:Adr}(T:Txt w K mg a):bU P w K mg base CX0 2 a.eY a.jY ["self"] (spX ((cn a).c 3) [110,111,32,116,97,98,108,101]):=by
 have F:=jn (P:=P) (base:=base) T;refine T.Bj.ok zW (fun vs H Q E h=>?_) (fun cdv A outer s H vs Q E hr h=>?_)
 · obtain⟨_,rfl,_⟩:=h;rfl
 obtain⟨e,rfl,he,q⟩:=h;refine⟨_,(cA (jF (qU T.jm F (hr.mono (by omega)) rfl T.dX T.cO tQ (aX (pv 0) (aX qp bO))))),?_⟩;refine⟨_,rfl,e,((cn a).c 3),_,rfl,he,T.Aa.cls,T.Hv,fun dx h1 h2=>?_⟩;have:=q dx h1 h2;rw[<- sV]at this;exact this
def Xu{a:Adr}(T:Txt w K mg a):bU P w K mg base CX0 2 a.f9 a.lF ["self"] (spX ((cn a).c 4) [110,111,32,112,97,105,114]):=by
 have F:=jn (P:=P) (base:=base) T;refine T.CV.ok Ba (fun vs H Q E h=>?_) (fun cdv A outer s H vs Q E hr h=>?_)
 · obtain⟨_,rfl,_⟩:=h;rfl
 obtain⟨e,rfl,he,q⟩:=h;refine⟨_,(cA (jF (qU T.jm F (hr.mono (by omega)) rfl T.dX T.cO tQ (aX (pv 0) (aX qp bO))))),?_⟩;refine⟨_,rfl,e,((cn a).c 4),_,rfl,he,T.CZ.cls,T.La,fun dx h1 h2=>?_⟩;have:=q dx h1 h2;rw[<- sV]at this;exact this
def Qo{a:Adr}(T:Txt w K mg a):bU P w K mg base CX0 2 a.gQ a.mC ["self"] (spX ((cn a).c 5) [116,111,108,100,32,116,119,105,99,101]):=by
 have F:=jn (P:=P) (base:=base) T;refine T.Ej.ok Cy (fun vs H Q E h=>?_) (fun cdv A outer s H vs Q E hr h=>?_)
 · obtain⟨_,rfl,_⟩:=h;rfl
 obtain⟨e,rfl,he,q⟩:=h;refine⟨_,(cA (jF (qU T.jm F (hr.mono (by omega)) rfl T.dX T.cO tQ (aX (pv 0) (aX qp bO))))),?_⟩;refine⟨_,rfl,e,((cn a).c 5),_,rfl,he,T.Ab.cls,T.Qj,fun dx h1 h2=>?_⟩;have:=q dx h1 h2;rw[<- sV]at this;exact this
def Vf{a:Adr}(T:Txt w K mg a):bU P w K mg base CX0 2 a.eZ a.jZ ["self"] (spX ((cn a).c 6) [116,111,111,32,109,97,110,121]):=by
 have F:=jn (P:=P) (base:=base) T;refine T.Bl.ok zX (fun vs H Q E h=>?_) (fun cdv A outer s H vs Q E hr h=>?_)
 · obtain⟨_,rfl,_⟩:=h;rfl
 obtain⟨e,rfl,he,q⟩:=h;refine⟨_,(cA (jF (qU T.jm F (hr.mono (by omega)) rfl T.dX T.cO tQ (aX (pv 0) (aX qp bO))))),?_⟩;refine⟨_,rfl,e,((cn a).c 6),_,rfl,he,T.Ac.cls,T.Hw,fun dx h1 h2=>?_⟩;have:=q dx h1 h2;rw[<- sV]at this;exact this
end
end
section
variable{P:Program}{w:World}{K:ao}{mg:Str->Option Value}{base:Heap}
def Lx{a:Adr}(T:Txt w K mg a):bU P w K mg base CX0 1 a.o9 a.wO ["_law_seed","_law_k"] Ev.adH:=by
 refine T.mQ.fn.ok Aj (fun vs H Q E h=>?_) (fun cdv A outer s H vs Q E hr h=>?_)
 · obtain⟨a,k,rfl,_⟩:=h;rfl
 obtain⟨x,k,rfl,h0,h1,q⟩:=h
 refine⟨_,(dz (rJ (i:=2) Aj.nd rfl (Or.inl rfl) (gJ cX (gJ cV (pv 0) (pv 0)) d8))
  (cA (nG (gJ cX (gJ d9 (gJ d9 (gJ cV (pv 2) (gJ d9 (gJ cX (pv 0) d8) d8)) (gJ cV (pv 1) d8)) d8) d8)))),?_⟩
 have m31:(0:Int)<2147483647:=by decide
 refine⟨_,rfl,_,rfl,_,_,rfl,rfl,Ec (by omega) (by omega),_,_,rfl,rfl,m31,?_⟩;have s0:=Int.emod_nonneg (x*x) (show(2147483647:Int) ≠ 0 by decide);have s1:=Int.emod_lt_of_pos (x*x) m31;refine⟨_,rfl,_,rfl,_,_,rfl,rfl,(by show(0:Int)<65521;decide),_,_,rfl,rfl,_,_,rfl,rfl,Ec (by omega) (by omega),_,rfl,_,_,rfl,rfl,Qm (by decide) (by decide),_,_,rfl,rfl,_,_,rfl,rfl,_,_,rfl,rfl,m31,?_⟩;exact q
def Qp{a:Adr}(T:Txt w K mg a):bU P w K mg base CX0 2 a.qG a.yj ["_law_cell_here","_law_limits"] Ev.R6:=by
 have Qq:=Lx (P:=P) (w:=w) (base:=base) T;refine T.nZ.fn.ok jN (fun vs H Q E h=>?_) (fun cdv A outer s H vs Q E hr h=>?_)
 · obtain⟨_,_,_,rfl,_⟩:=h;rfl
 obtain⟨c,l,ls,rfl,hl,h63,hz,q⟩:=h
 refine⟨_,(dz (rJ (i:=2) jN.nd rfl (Or.inl rfl) (Nz (sU Dp (pv 0) (gJ Gn d8 d8) (bD _)) (pv 0) d8))
  (dz (rJ (i:=3) jN.nd rfl (Or.inl rfl) (gJ cX (gJ d9 (gJ cV (qT Yo rfl T.U8 boot_abs (aX (pv 0) bO)) d8) d8) d8))
  (dz (rJ (i:=4) jN.nd rfl (Or.inl rfl) (yC bO))
  (dz (Bu PassesOwn.never rfl (sS (pv 1)) (sO (i:=5) jN.nd rfl (Or.inl rfl))
    (cA (Dm (sU MJ (pv 2) d8 (bD _)) (dz (jF (MP PySem.F.plainAttrs_list PySem.F.slot_list_append PySem.F.type_list_append q_ (pv 4) (aX (gJ cX (pv 2) (pv 5)) bO)))
      (cA (rJ (i:=2) jN.nd rfl (Or.inl rfl) (gJ zx (pv 2) (pv 5))))) (dz (rJ (i:=3) jN.nd rfl (Or.inl rfl) (GC T.mQ Qq (hr.mono (by omega)) rfl (aX (pv 3) (aX (qT cI rfl T.jD boot_len (aX (pv 4) bO)) bO))))
      (cA (jF (MP PySem.F.plainAttrs_list PySem.F.slot_list_append PySem.F.type_list_append q_ (pv 4) (aX (gJ cX (gJ zx (pv 3) d8) (pv 5)) bO))))))))
  (cA (nG (pv 4))))))),?_⟩
 have m31:(0:Int)<2147483647:=by decide
 have s31:Sml 61:=by unfold Sml;exact a_ (show(61:Int).natAbs<2 ^ 10 by decide) (Nat.pow_le_pow_right (by decide) (by decide))
 refine⟨_,rfl,_,_,rfl,rfl,(by show Ti 10 18;exact⟨by decide,by decide,by decide⟩),_,_,rfl,rfl,_,rfl,?_⟩;refine TX (fun cc=>?gA) (fun cc=>?gB)
 case' gA=>
  have ec:Ev.lD c ls=Ev.rP c (((if c<0 then -c else c)*2654435+40503) % 2147483647) 0 ls:=by
   have z:(10:Int) ^ (18:Int).toNat<=c:=dw cc;unfold Ev.lD;rw[aB z]
  refine⟨_,rfl,?_⟩
 case' gB=>
  have ec:Ev.lD c ls=Ev.rP 0 (((if c<0 then -c else c)*2654435+40503) % 2147483647) 0 ls:=by
   have z:¬ (10:Int) ^ (18:Int).toNat<=c:=fun z=>cc (bH z);unfold Ev.lD;rw[aA z]
 all_goals
  refine⟨_,rfl,_,rfl,_,_,rfl,rfl,Qm (by decide) (by decide),_,_,rfl,rfl,_,_,rfl,rfl,m31,?_⟩;refine⟨(by show 0<=sizeLine;decide),fun r hr'=>?_⟩;have g0:gn H (upd H r (.lst [])):=ig hr' _
  refine⟨_,rfl,l,rfl,⟨_,SqL.of (g0 _ _ hl)⟩,zg (K:=K) (a:=l) (xs:=ls.map V.int) (fun i σ H2=>∃(rest seed:Int) (ns:List Int) (v:Option V),σ= [some (.int c),some (.ref l),some (.int rest),some (.int seed),some (.ref r),v]/\
   0<=seed/\seed<2147483647/\gn H H2/\H2 r=some (.lst (ns.map V.int))/\ns.length=i/\ns++Ev.rP rest seed i (ls.drop i)=Ev.lD c ls)
   ⟨_,_,[],none,rfl,Int.emod_nonneg _ (by decide),Int.emod_lt_of_pos _ m31,g0,aJ,rfl,ec.symm⟩ (fun i σ H2 _ ⟨_,_,_,_,_,_,_,s2,_⟩=>SqL.of (s2 _ _ hl)) ?_ ?_⟩
  · rintro i y σ H2 hi ⟨rest,seed,ns,v,rfl,s0,s1,s2,hr2,hlen,hD⟩
    obtain⟨z,hzi,rfl⟩:∃ z,ls[i]? =some z/\y=V.int z:=by
     rw[eN]at hi
     cases e:ls[i]? with
     | none=>rw[e]at hi;cases hi
     | some z=>rw[e]at hi;exact⟨z,rfl,(gH hi).symm⟩
    obtain⟨z0,zS⟩:=hz z (ju hzi);have hil:i<ls.length:=(bB hzi).1;have hlt:(ns.map V.int).length<sizeLine:=by rw[bK];exact V6 (by omega)
    have nlr:r ≠ l:=fun e=>by rw[e]at hr';rw[hl]at hr';cases hr'
    have ed:ls.drop i=z::ls.drop (i+1):=by rw[List.drop_eq_getElem_cons hil];rw[(bB hzi).2]
    rw[ed]at hD;unfold Ev.rP at hD;have aaw:∀ o,gn H (upd H2 r o):=fun o b u e=>by rw[aN (cu e hr')];exact s2 _ _ e
    have em:∀ v:Int,ns.map V.int ++ [V.int v] =(ns ++ [v]).map V.int:=fun v=>by rw[List.map_append];rfl
    refine⟨_,rfl,_,_,rfl,rfl,_,rfl,?_⟩;refine TX (fun cr=>?_) (fun cr=>?_)
    · have cr':0<rest:=dw cr;refine⟨_,rfl,.inl ⟨rfl,_,SqL.of hr2⟩,_,rfl,_,rfl,_,_,rfl,rfl,z0,r,_,_,rfl,rfl,hr2,hlt,?_⟩;refine⟨_,rfl,_,rfl,_,_,rfl,rfl,⟨by omega,zS⟩,?_⟩;rw[aB cr']at hD;refine⟨_,seed,ns ++ [rest % z],_,rfl,s0,s1,aaw _,by rw[aJ,em],by rw[ji,hlen];rfl,by rw[List.append_assoc];exact hD⟩
    · refine⟨_,rfl,_,rfl,r,_,rfl,.inl (SqL.of hr2),_,_,rfl,s0,s1,?_⟩;have cr':¬ 0<rest:=fun z=>cr (bH z);rw[aA cr']at hD;have el:(((ns.map V.int).length:Nat):Int)=(i:Int):=by rw[bK,hlen]
      refine⟨_,rfl,.inl ⟨rfl,_,SqL.of hr2⟩,_,rfl,_,_,rfl,rfl,⟨by decide,s31⟩,_,rfl,_,_,rfl,rfl,z0,r,_,_,rfl,rfl,hr2,hlt,?_⟩;rw[el];refine⟨rest,Ev.Pz seed i,ns ++ [((Ev.Pz seed i).fdiv 61) % z],_,rfl,Int.emod_nonneg _ (by decide),Int.emod_lt_of_pos _ m31,aaw _,by rw[aJ,em],by rw[ji,hlen];rfl,by rw[List.append_assoc];exact hD⟩
  · rintro σ H2 ⟨rest,seed,ns,v,rfl,s0,s1,s2,hr2,hlen,hD⟩;rw[bK,List.drop_length]at hD;have hD:ns ++ [] =Ev.lD c ls:=hD;rw[List.append_nil]at hD;subst hD;exact⟨_,rfl,q r H2 hr' s2 hr2⟩
def int_at{ns:List Int}{k:Int}(h0:0<=k)(h1:k<(ns.length:Int)):atI (ns.map V.int) k=some (.int (ns.getD k.toNat 0)):=by
 have hk:k.toNat<ns.length:=by omega
 have ek:k=((k.toNat:Nat):Int):=by omega
 have q:atI (ns.map V.int) ((k.toNat:Nat):Int)=some (.int (ns.getD k.toNat 0)):=Rn (by rw[eN,gY hk,List.getD,gY hk] <;> rfl);rw[<- ek]at q;exact q
def Qs{a:Adr}(T:Txt w K mg a):bU P w K mg base CX0 1 a.qH a.ym ["_law_script","_law_k"] (Ev.R7 K):=by
 refine T.n6.fn.ok Qd (fun vs H Q E h=>?_) (fun cdv A outer s H vs Q E hr h=>?_)
 · obtain⟨_,_,_,rfl,_⟩:=h;rfl
 obtain⟨l,ns,k,rfl,hS,h63,k0,q⟩:=h
 refine⟨_,(dz (Dm (sU xg (pv 1) (qT cI rfl T.jD boot_len (aX (pv 0) bO)) (bD _)) (cA (nG (Ds Dt (pv 0) (pv 1) (fun _ _=>rfl)))) yx)
  (dz (Dm (sU aem (qT cI rfl T.jD boot_len (aX (pv 0) bO)) d8 (bD _)) (cA (nG (gJ cV d8 (pv 1)))) yx)
  (cA (nG (gJ d9 (Ds Dt (pv 0) (gJ cX (pv 1) (qT cI rfl T.jD boot_len (aX (pv 0) bO))) (fun _ _=>rfl)) (gJ cV d8 (pv 1))))))),?_⟩
 have hl:(ns.map V.int).length=ns.length:=bK _;refine⟨_,rfl,_,rfl,l,_,rfl,.inl hS,_,_,rfl,rfl,_,rfl,?_⟩;refine TX (fun c=>?_) (fun c=>?_)
 · have c':k<(((ns.map V.int).length:Nat):Int):=dw c;rw[hl]at c';unfold Ev.uZ at q;rw[aB c']at q;exact⟨_,rfl,_,rfl,l,_,_,_,rfl,rfl,hS,int_at k0 c',q⟩
 · have nc:¬ k<(ns.length:Int):=fun z=>c (bH (by rw[hl];exact z));unfold Ev.uZ at q;rw[aA nc]at q;refine⟨_,rfl,l,_,rfl,.inl hS,rfl,_,rfl,?_⟩;refine TX (fun c2=>?_) (fun c2=>?_)
   · have c3:V.int (((ns.map V.int).length:Nat):Int)=V.int 0:=dw c2
     have c4:ns.length=0:=by
      rw[hl]at c3
      cases h:ns.length with
      | zero=>rfl
      | succ n=>rw[h]at c3;cases c3
     rw[aB c4]at q;exact⟨_,rfl,_,_,rfl,rfl,Ec (by decide) (by decide),q⟩
   · have c3:¬ V.int (((ns.map V.int).length:Nat):Int)=V.int 0:=fun z=>c2 (bH z)
     have c4:0<ns.length:=by
      rw[hl]at c3
      rcases Nat.eq_zero_or_pos ns.length with z | z
      · rw[z]at c3;exact aK rfl c3
      · exact z
     have p0:(0:Int)<(((ns.map V.int).length:Nat):Int):=by rw[hl];omega
     rw[aA (show ¬ ns.length=0 by omega),<- hl]at q;have hz:=int_at (ns:=ns) (k:=k % (((ns.map V.int).length:Nat):Int)) (Int.emod_nonneg _ (by omega)) (by have:=Int.emod_lt_of_pos k p0;rw[hl]at this ⊢;exact this);exact⟨_,rfl,_,rfl,_,rfl,l,_,rfl,.inl hS,_,_,rfl,rfl,p0,l,_,_,_,rfl,rfl,hS,hz,_,rfl,_,_,rfl,rfl,Ec (by decide) (by decide),_,_,rfl,rfl,q⟩
end
section
open Ev
variable{P:Program}{w:World}{K:ao}{mg:Str->Option Value}{base:Heap}
abbrev Fq(P:Program)(w:World)(K:ao)(mg:Str->Option Value)(base:Heap)(a:Adr)(n d:Nat)(f:Addr)(fd:aR)(ps:List Str)(i:Nat):Prop:=bU P w K mg base (CXE P w) n f fd ps (spF Pg (cn a) d i)
variable{a:Adr}{d:Nat}
structure Al (P:Program)(w:World)(K:ao)(mg:Str->Option Value)(base:Heap)(a:Adr)(d:Nat):Prop where
 Ez:Fq P w K mg base a (4*d+8) d a.nW a.tZ ["m"] 13
 wR:Fq P w K mg base a (4*d+8) d a.mJ a.rT ["numbers"] 14
 Zx:Fq P w K mg base a (4*d+8) d a.tD a.z6 ["m","pairs"] 15
 adY:Fq P w K mg base a (4*d+8) d a.yW a.Hq ["m","pairs","adds"] 16
 Dc:Fq P w K mg base a (4*d+8) d a.mK a.rZ ["m","pairs","adds"] 17
 Ly:Fq P w K mg base a (4*d+8) d a.j_ a.qN ["m","pairs"] 18
def Sv{a:Adr}:Al P w K mg base a 0:=⟨bJ,bJ,bJ,bJ,bJ,bJ⟩
def Qt(T:Txt w K mg a)(A0:Al P w K mg base a d):Fq P w K mg base a (4*(d+1)+8) (d+1) a.nW a.tZ ["m"] 13:=by
 refine(cP (k:=4*d+11) T.lW.fn Qc rfl fun σ0 cdv A outer s H E hr hp=>?_).mono (by omega)
 exact(aa (fO (PW.pt (uV (bQ (Fp (K:=K)) (L2.OpR.or xg (vJ hr.rK)) (dv 0) (vQ (Ik (v:=.int 3) rfl T.Ql ⟨_,rfl⟩) (.int 3)) (bD _)) (uV (bQ YX MJ (dv 0) (vQ (Ik (v:=.int 11) rfl T.Hx ⟨_,rfl⟩) (.int 11)) (bD _)) (pw_or1 (bQ oZ (iR hr.units) (aZ jB cX (dv 0) aD) aD (bD _)))))) (aa (o4 ⟨rfl,rfl,rfl⟩ rfl rfl T.z8 (Vb T) (hr.mono (by omega)) T.Bd rfl T.UL)
  az) az)
  az)
def Lz(T:Txt w K mg a)(A0:Al P w K mg base a d):Fq P w K mg base a (4*(d+1)+8) (d+1) a.mJ a.rT ["numbers"] 14:=by
 refine(cP (k:=4*d+11) T.jd.fn Lk rfl fun σ0 cdv A outer s H E hr hp=>?_).mono (by omega)
 exact(aa (bI (yK oZ (iR hr.units) (B_ hr.hd rfl T.jD rfl T.Hz (dv 0)) (iy (tU (K:=K)) cI rfl T.jD boot_len (aq (dv 0) au)) (bD _)))
  az)
def Xv(T:Txt w K mg a)(A0:Al P w K mg base a d):Fq P w K mg base a (4*(d+1)+8) (d+1) a.tD a.z6 ["m","pairs"] 15:=by
 refine(cP (k:=4*d+11) T.tL.fn K8 rfl fun σ0 cdv A outer s H E hr hp=>?_).mono (by omega)
 exact(aa (cQ 2 K8.nd (aZ kY (L2.OpR.or d9 g_) (lM (iT (N':=["x","y","m"]) (nt:=2) (idx:=[0]) (N:=["m","pairs","ways"]) (osc:=ak wu) rfl rfl (by decide +kernel)) rfl rN (pJ rfl (dv 1)) (fun C0 s0 H0 fp0=>(iW rfl (bf (bF 0 (show List.Nodup (["x","y","m"]:List Str) by decide +kernel)) (bf (bF 1 (show List.Nodup (["x","y","m"]:List Str) by decide +kernel)) fZ)))) (fun C0 s0 H0 fp0=>jH) (fun C0 s0 H0 fp0=>(aZ jB cX (aZ tR qt (dv 0) (dv 1)) (dv 2))) (by decide)) (lM (iT (N':=["x","y","m"]) (nt:=2) (idx:=[0]) (N:=["m","pairs","ways"]) (osc:=ak wu) rfl rfl (by decide +kernel)) rfl rN (pJ rfl (dv 1)) (fun C0 s0 H0 fp0=>(iW rfl (bf (bF 0 (show List.Nodup (["x","y","m"]:List Str) by decide +kernel)) (bf (bF 1 (show List.Nodup (["x","y","m"]:List Str) by decide +kernel)) fZ)))) (fun C0 s0 H0 fp0=>jH) (fun C0 s0 H0 fp0=>(aZ jB cX (aZ tR qt (dv 1) (dv 0)) (dv 2))) (by decide))))
  (aa (bI (fP A0.wR T.jd hr hp (aq (dv 2) au)))
  az))
def abC(T:Txt w K mg a)(A0:Al P w K mg base a d):Fq P w K mg base a (4*(d+1)+8) (d+1) a.yW a.Hq ["m","pairs","adds"] 16:=by
 refine(cP (k:=4*d+11) T.yX.fn Sh rfl fun σ0 cdv A outer s H E hr hp=>?_).mono (by omega)
 exact(aa (Y5 (i:=3) Sh.nd rfl (Or.inl rfl) (iT (N':=["pair","b","number","m"]) (nt:=3) (idx:=[0]) (N:=["m","pairs","adds","places"]) (osc:=ak Hi) rfl rfl (by decide +kernel)) rfl WK (Wj rfl T.Nr (aq (dv 1) (aq (dv 2) au))) (fun C0 s0 H0 fp0=>(iW rfl (bf (bF 0 (show List.Nodup (["pair","b","number","m"]:List Str) by decide +kernel)) (bf (bF 1 (show List.Nodup (["pair","b","number","m"]:List Str) by decide +kernel)) fZ)))) (fun C0 s0 H0 fp0=>jH) rN (fun C0 s0 H0 fp0=>(pJ rfl (dv 0))) (fun C0 s0 H0 fp0=>(bF 2 (show List.Nodup (["pair","b","number","m"]:List Str) by decide +kernel))) (fun C0 s0 H0 fp0=>jH) (fun C0 s0 H0 fp0=>(aZ jB cX (aZ tR qt (dv 1) (dv 2)) (dv 3))) (by decide) (by decide))
  (aa (bI (Wx (fP A0.wR T.jd hr hp (aq (dv 2) au)) (Wx (fP A0.wR T.jd hr hp (aq (dv 3) au)) (ab2 (yK (aa8 (K:=K)) BJ aD (dv 3) rfl)))))
  az))
def LK(T:Txt w K mg a)(A0:Al P w K mg base a d):Fq P w K mg base a (4*(d+1)+8) (d+1) a.mK a.rZ ["m","pairs","adds"] 17:=by
 refine(cP (k:=4*d+11) T.jR.fn qL rfl fun σ0 cdv A outer s H E hr hp=>?_).mono (by omega)
 exact(aa (fO (bQ oZ (iR hr.units) (iy (tU (K:=K)) cI rfl T.jD boot_len (aq (dv 2) au)) (iy (tU (K:=K)) cI rfl T.jD boot_len (aq (dv 1) au)) (bD _)) (aa (bI (dv 2))
  az) az)
  (aa (rO PassesOwn.leaving rfl abg (VL rfl T.jL (bz aD (aq (dv 0) au))) (bF 3 qL.nd)
  (aa (cQ 4 qL.nd (aZ kY (L2.OpR.or d9 g_) (dv 2) (k_ (aq (dv 3) au))))
  (aa (fO (Ot (fP A0.adY T.yX hr hp (aq (dv 0) (aq (dv 1) (aq (dv 4) au)))) (fun _=>rfl)) (aa (cQ 5 qL.nd (fP A0.Dc T.jR hr hp (aq (dv 0) (aq (dv 1) (aq (dv 4) au)))))
  (aa (fO (Je (dv 5)) (aa (bI (dv 5))
  az) az)
  az)) az)
  az)))
  (aa (bI Wq)
  az)))
def JH(T:Txt w K mg a)(A0:Al P w K mg base a d):Fq P w K mg base a (4*(d+1)+8) (d+1) a.j_ a.qN ["m","pairs"] 18:=by
 refine(cP (k:=4*d+11) T.kj.fn Jz rfl fun σ0 cdv A outer s H E hr hp=>?_).mono (by omega)
 exact(aa (j8 (fP A0.Ez T.lW hr hp (aq (dv 0) au)))
  (aa (bI (fP A0.Dc T.jR hr hp (aq (dv 0) (aq (dv 1) (Jj (k_ au) au)))))
  az))
def Sw{a:Adr}{d:Nat}(T:Txt w K mg a)(A0:Al P w K mg base a d):Al P w K mg base a (d+1):=⟨Qt T A0,Lz T A0,Xv T A0,abC T A0,LK T A0,JH T A0⟩
def aax{a:Adr}(T:Txt w K mg a):∀ d,Al P w K mg base a d
 | 0=>Sv
 | d+1=>Sw T (aax T d)
def Xw{a:Adr}(T:Txt w K mg a){n k:Nat}(Ad:bU P w K mg base CX0 k a.m8 a.rW ["numbers"] (G7 n)):bU P w K mg base CX0 (k+2) a.m8 a.rW ["numbers"] (G7 (n+1)):=by
 refine(T.nD.fn.ok (k:=k+1) qC (fun vs H Q E h=>?_) (fun cdv A outer s H vs Q E hr h=>?_)).mono (by omega)
 · obtain⟨_,_,rfl,_⟩:=h;rfl
 obtain⟨l,ns,rfl,hl,hn,h20,hb,q⟩:=h
 refine⟨_,(dz (Dm (VG (NQ (pv 0) (fun _=>rfl))) (cA (nG (yC (aX (yC bO) bO)))) yx)
  (dz (rJ (i:=1) qC.nd rfl (Or.inl rfl) (yC bO))
  (dz (Bu PassesOwn.never rfl (sS (Fd Iw (pv 0) (Ir d8) Ip)) (sO (i:=2) qC.nd rfl (Or.inr rfl))
    (dz (Rr (i:=3) qC.nd rfl (Or.inl rfl) (iT (N':=["number","partner"]) (nt:=1) (idx:=[2]) (N:=["numbers","found","partner","others","rest"]) (osc:=ak u_) rfl rfl (by decide +kernel)) rfl (sS (Fd Iw (pv 0) (Ir d8) Ip)) (TY (fun _ _ _ _=>sO (i:=0) (show List.Nodup (["number","partner"]:List Str) by decide +kernel) rfl (Or.inl rfl)) (fun _ _ _ _=>IV (sU aen (pv 0) (pv 1) (bD _))) (fun _ _ _ _=>(pv 0))))
    (cA (Bu PassesOwn.never rfl (sS (GC T.nD Ad (hr.mono (by omega)) rfl (aX (pv 3) bO))) (sO (i:=4) qC.nd rfl (Or.inl rfl))
      (cA (jF (MP PySem.F.plainAttrs_list PySem.F.slot_list_append PySem.F.type_list_append q_ (pv 1) (aX (gJ g_ (yC (aX (yz (aX (Ds Dt (pv 0) d8 (fun _ _=>rfl)) (aX (pv 2) bO))) bO)) (pv 4)) bO))))))))
  (cA (nG (pv 1)))))),?_⟩
 have hnz:(20:Nat)<sizeLine:=by decide
 cases ns with
 | nil=>
   refine⟨_,rfl,false,.inl ⟨_,SqL.of hl,rfl⟩,zm ?_⟩;refine⟨by show 0<=sizeLine;decide,fun e he=>⟨by show 1<=sizeLine;decide,fun r hr'=>?_⟩⟩;have ner:e ≠ r:=fun z=>by rw[z,aJ]at hr';cases hr'
   have hr0:H r=none:=by rw[aN (Ne.symm ner)]at hr';exact hr'
   refine q r [e] _ hr0 ((ig he _).trans (ig hr' _)) aJ (.cons ⟨[],⟨by rw[aN ner,aJ];rfl,.nil⟩,by simp⟩ .nil) fun x hx=>?_;have:x=e:=by simpa using hx
   subst this
   exact⟨he,ner⟩
 | cons x t=>
   refine⟨_,rfl,true,.inl ⟨_,SqL.of hl,rfl⟩,zj ?_⟩;refine⟨by show 0<=sizeLine;decide,fun F hF=>?_⟩;have g0:gn H (upd H F (.lst [])):=ig hF _;refine⟨_,rfl,1,rfl,l,_,rfl,SqL.of (g0 _ _ hl),fun S hS=>?_⟩
   have eS:By ((x::t).map V.int) (some 1) none=t.map V.int:=by
    simp[By,HT.sIx];exact List.take_of_length_le (by simp)
   rw[eS];have g1:gn H (upd (upd H F (.lst [])) S (.lst (t.map V.int))):=g0.trans (ig hS _);have nFS:F ≠ S:=fun z=>by rw[<- z,aJ]at hS;cases hS
   refine⟨S,rfl,⟨_,SqL.of aJ⟩,?_⟩
   refine zg (K:=K) (a:=S) (xs:=t.map V.int) (fun i σ H2=>∃(as:List Addr) (v2 v3 v4:Option V),σ= [some (.ref l),some (.ref F),v2,v3,v4]/\gn H H2/\H2 S=some (.lst (t.map V.int))/\H2 F=some (.lst (as.map V.ref))/\
    LAs H H2 as ((t.take i).flatMap fun p=>(aU n (t.filter fun y=> !decide (y=p))).map fun rest=>(x,p)::rest)/\∀ z ∈ as,H z=none/\z ≠ F) ?_ ?_ ?_ ?_
   · exact⟨[],none,none,none,rfl,g1,aJ,by rw[aN nFS,aJ];rfl,.nil,by simp⟩
   · rintro i σ H2 _ ⟨as,v2,v3,v4,rfl,s2,hS2,hF2,la,fr⟩;exact SqL.of hS2
   · rintro i y σ H2 hi ⟨as,v2,v3,v4,rfl,s2,hS2,hF2,la,fr⟩
     obtain⟨p,hp,rfl⟩:∃ p,t[i]? =some p/\y=V.int p:=by
      rw[eN]at hi
      cases e:t[i]? with
      | none=>rw[e]at hi;cases hi
      | some z=>rw[e]at hi;exact⟨z,rfl,(gH hi).symm⟩
     have hpt:p ∈ t:=ju hp;have hl2:H2 l=some (.lst ((x::t).map V.int)):=s2 _ _ hl;have nlF:l ≠ F:=cu hl hF;refine⟨_,rfl,1,rfl,l,_,rfl,SqL.of hl2,fun S2 hS2'=>⟨S2,rfl,⟨_,SqL.of aJ⟩,fun D hD=>?_⟩⟩;rw[eS]at hD ⊢;have afV:S2 ≠ D:=fun z=>by rw[<- z,aJ]at hD;cases hD
     refine Rt (K:=K) (a:=S2) (xs:=t.map V.int) (fun j H3=>H3=upd (upd H2 S2 (.lst (t.map V.int))) D (.lst (((t.take j).filter fun y=> !decide (y=p)).map V.int))) rfl ?_ ?_ ?_
     · rintro j H3 _ rfl;exact SqL.of (by rw[aN afV,aJ])
     · rintro j y H3 hj rfl
       obtain⟨z,hz,rfl⟩:∃ z,t[j]? =some z/\y=V.int z:=by
        rw[eN]at hj
        cases e:t[j]? with
        | none=>rw[e]at hj;cases hj
        | some z=>rw[e]at hj;exact⟨z,rfl,(gH hj).symm⟩
       have etk:t.take (j+1)=t.take j ++ [z]:=by rw[List.take_add_one,hz];rfl
       refine⟨⟨rfl,trivial⟩,_,rfl,_,rfl,rfl,_,rfl,?_⟩
       have ez:decide (V.int z=V.int p)=decide (z=p):=by
        by_cases c:z=p
        · rw[c];simp
        · rw[bM c,bM (fun q=>c (by injection q))]
       rw[ez]
       by_cases c:z=p
       · rw[bH c];refine zj ?_;rw[etk,List.filter_append];simp[c]
       · rw[bM c];refine zm ?_;refine⟨_,rfl,_,aJ,?_,?_⟩
         · rw[bK];have h1:=List.length_filter_le (fun y=> !decide (y=p)) (t.take j);have h2:(t.take j).length<=t.length:=by rw[List.length_take];omega
           have h3:t.length+1<=20:=by simpa using h20
           omega
         · rw[aaI,etk,List.filter_append];simp[c]
     · rintro H3 rfl;rw[bK,List.take_length];generalize hsub:(t.filter fun y=> !decide (y=p))=sub;have hsl:sub.length<=t.length:=by rw[<- hsub];exact List.length_filter_le _ _
       have h3:t.length+1<=20:=by simpa using h20
       have hn':t.length+1<n+1:=by simpa using hn
       have nF:∀ {b:Addr} {o:HO} {o':HO},H2 b=some o->upd (upd H2 S2 (.lst (t.map V.int))) D o' b=some o:=fun {b o o'} e=>by
        have n1:b ≠ S2:=cu e hS2'
        have n2:b ≠ D:=fun z=>by
         rw[z]at e;have:upd H2 S2 (.lst (t.map V.int)) D=none:=hD;rw[aN (fun q=>by rw[q,hS2']at e;cases e),e]at this;cases this
        rw[aN n2,aN n1];exact e
       have s3:gn H2 (upd (upd H2 S2 (.lst (t.map V.int))) D (.lst (sub.map V.int))):=fun b o e=>nF e;generalize hH3:upd (upd H2 S2 (.lst (t.map V.int))) D (.lst (sub.map V.int))=H3 at s3;have hD3:H3 D=some (.lst (sub.map V.int)):=by rw[<- hH3];exact aJ
       refine⟨_,rfl,D,sub,rfl,hD3,by omega,by omega,?_,fun r2 as2 H4 hr2 s4 hr4 la2 fr2=>?_⟩
       · rw[<- hsub];exact Nat.le_trans (adq hpt) hb
       refine⟨r2,rfl,⟨_,SqL.of hr4⟩,?_⟩;have s24:gn H2 H4:=s3.trans s4;have la2:LAs H H4 as2 (aU n sub):=la2.old (gn.free (s2.trans s3));have hF3:H3 F=some (.lst (as.map V.ref)):=s3 _ _ hF2
       have tot:((t.take i).flatMap fun p=>(aU n (t.filter fun y=> !decide (y=p))).map fun rest=>(x,p)::rest).length+(aU n sub).length<=100000:=by
        have e1:(t.take (i+1)).flatMap (fun p=>(aU n (t.filter fun y=> !decide (y=p))).map fun rest=>(x,p)::rest)=(t.take i).flatMap (fun p=>(aU n (t.filter fun y=> !decide (y=p))).map fun rest=>(x,p)::rest)++(aU n sub).map fun rest=>(x,p)::rest:=by
         rw[List.take_add_one,hp,List.flatMap_append,<- hsub];simp
        have e2:((t.take (i+1)).flatMap fun p=>(aU n (t.filter fun y=> !decide (y=p))).map fun rest=>(x,p)::rest).length<=(aU (n+1) (x::t)).length:=by
         exact W_ (fun p=>(aU n (t.filter fun y=> !decide (y=p))).map fun rest=>(x,p)::rest) t (i+1)
        rw[e1,ji,bK]at e2;exact Nat.le_trans e2 hb
       have laL:=la.length
       have etk:(t.take (i+1)).flatMap (fun p=>(aU n (t.filter fun y=> !decide (y=p))).map fun rest=>(x,p)::rest)=(t.take i).flatMap (fun p=>(aU n (t.filter fun y=> !decide (y=p))).map fun rest=>(x,p)::rest)++(aU n sub).map fun rest=>(x,p)::rest:=by
        rw[List.take_add_one,hp,List.flatMap_append,<- hsub];simp
       generalize hdone:((t.take i).flatMap fun p=>(aU n (t.filter fun y=> !decide (y=p))).map fun rest=>(x,p)::rest)=done at la tot etk laL
       have fr4:∀ z ∈ as2,z ≠ F:=fun z hz e=>by
        have:=(fr2 z hz).1;rw[e,hF3]at this;cases this
       have hSF:S ≠ F:=Ne.symm nFS;have afW:r2 ≠ F:=fun e=>by rw[e,hF3]at hr2;cases hr2
       refine zg (K:=K) (a:=r2) (xs:=as2.map V.ref) (fun j σ H5=>∃(as':List Addr) (v4:Option V),σ= [some (.ref l),some (.ref F),some (.int p),some (.ref D),v4]/\gn H H5/\H5 S=some (.lst (t.map V.int))/\H5 F=some (.lst (as'.map V.ref))/\
        LAs H H5 as' (done++((aU n sub).take j).map fun rest=>(x,p)::rest)/\(∀ z ∈ as',H z=none/\z ≠ F)/\H5 r2=some (.lst (as2.map V.ref))/\LAs H H5 as2 (aU n sub)) ?_ ?_ ?_ ?_
       · exact⟨as,_,rfl,s2.trans s24,s24 _ _ hS2,s24 _ _ hF2,by simpa using la.same s24,fr,hr4,la2⟩
       · rintro j σ H5 _ ⟨as',v4',rfl,s5,hS5,hF5,la5,fr5,hr5,lb5⟩;exact SqL.of hr5
       · rintro j y σ H5 hj ⟨as',v4',rfl,s5,hS5,hF5,la5,fr5,hr5,lb5⟩
         obtain⟨a2,ha2,rfl⟩:∃ z,as2[j]? =some z/\y=V.ref z:=by
          rw[eN]at hj
          cases e:as2[j]? with
          | none=>rw[e]at hj;cases hj
          | some z=>rw[e]at hj;exact⟨z,rfl,(gH hj).symm⟩
         obtain⟨ps,hps,pa⟩:=Paired.FN lb5 ha2;obtain⟨bs,⟨hbs,rbs⟩,nbs⟩:=pa;have agn:a2 ≠ F:=fr4 a2 (ju ha2);have hl5:H5 l=some (.lst ((x::t).map V.int)):=s5 _ _ hl;have afX:=la5.length;have hjl:j<(aU n sub).length:=(bB hps).1;have sz:sizeLine=16777216:=sizeLine_eq;refine⟨_,rfl,.inl ⟨rfl,_,SqL.of hF5⟩,_,rfl,l,_,_,_,rfl,rfl,SqL.of hl5,Rn (j:=0) rfl,_,rfl,by show 2<=sizeLine;decide,fun T1 hT=>⟨by show 1<=sizeLine;decide,fun L1 hL1=>?_⟩⟩;have q1:gn H5 (upd H5 T1 (.tup [.int x,.int p])):=ig hT _;have q2:gn H5 (upd (upd H5 T1 (.tup [.int x,.int p])) L1 (.lst [.ref T1])):=q1.trans (ig hL1 _);have bl:bs.length=ps.length:=rbs.length;refine⟨_,rfl,L1,a2,_,_,rfl,rfl,aJ,q2 _ _ hbs,?_,fun L2 hL2=>?_⟩
         · show 1+(bs.map V.ref).length<=sizeLine;rw[bK,bl,sz];have:=pairs_len (ju hps);omega
         have q3:gn H5 (upd (upd (upd H5 T1 (.tup [.int x,.int p])) L1 (.lst [.ref T1])) L2 (.lst ([V.ref T1]++bs.map V.ref))):=q2.trans (ig hL2 _);refine⟨F,_,_,rfl,rfl,q3 _ _ hF5,?_,?_⟩
         · rw[bK,sz];rw[ji,bK,List.length_take]at afX;omega
         have adZ:L2 ≠ F:=fun e=>by rw[e,q2 _ _ hF5]at hL2;cases hL2
         have afY:H L2=none:=by
          cases z:H L2 with
          | none=>rfl
          | some u=>rw[q2 _ _ (s5 _ _ z)]at hL2;cases hL2
         have nT1:T1 ≠ L1:=fun e=>by rw[<- e,aJ]at hL1;cases hL1
         have nT2:T1 ≠ L2:=fun e=>by rw[<- e,aN nT1,aJ]at hL2;cases hL2
         have hT3:upd (upd (upd H5 T1 (.tup [.int x,.int p])) L1 (.lst [.ref T1])) L2 (.lst ([V.ref T1]++bs.map V.ref)) T1=some (.tup [.int x,.int p]):=by rw[aN nT2,aN nT1,aJ]
         have hT0:H T1=none:=gn.free s5 _ hT
         have paN:Lp H (upd (upd (upd H5 T1 (.tup [.int x,.int p])) L1 (.lst [.ref T1])) L2 (.lst ([V.ref T1]++bs.map V.ref))) L2 ((x,p)::ps):=⟨T1::bs,⟨aJ,.cons hT3 (Paired.pZ rbs fun _ _ e=>q3 _ _ e)⟩,fun b hb=>by
          rcases List.mem_cons.mp hb with rfl | hb
          · exact hT0
          · exact nbs b hb⟩
         generalize hH6:upd (upd (upd H5 T1 (.tup [.int x,.int p])) L1 (.lst [.ref T1])) L2 (.lst ([V.ref T1]++bs.map V.ref))=H6 at q3 paN;have hF6:=q3 _ _ hF5;have GK:∀ {b:Addr} {o:HO},b ≠ F->H6 b=some o->upd H6 F (.lst (as'.map V.ref ++ [V.ref L2])) b=some o:=fun nb e=>by rw[aN nb];exact e
         refine⟨as' ++ [L2],_,rfl,fun b o e=>GK (cu e hF) (q3 _ _ (s5 _ _ e)),GK hSF (q3 _ _ hS5),by rw[aJ,List.map_append];rfl,?_,?_,GK afW (q3 _ _ hr5),(lb5.same q3).put hF6 fr4⟩
         · have etk:(aU n sub).take (j+1)=(aU n sub).take j ++ [ps]:=by rw[List.take_add_one,hps];rfl
           rw[etk,List.map_append,<- List.append_assoc];exact Paired.Uu (paN.put adZ hF6) ((la5.same q3).put hF6 fun z hz=>(fr5 z hz).2)
         · intro z hz
           rcases List.mem_append.mp hz with hz | hz
           · exact fr5 z hz
           · have:z=L2:=by simpa using hz
             subst this;exact⟨afY,adZ⟩
       · rintro σ H5 ⟨as',v4',rfl,s5,hS5,hF5,la5,fr5,hr5,lb5⟩;rw[bK,lb5.length,List.take_length]at la5;exact⟨as',_,_,_,rfl,s5,hS5,hF5,by rw[etk];exact la5,fr5⟩
   · rintro σ H2 ⟨as,v2,v3,v4,rfl,s2,hS2,hF2,la,fr⟩;rw[bK,List.take_length]at la;exact⟨_,rfl,q F as H2 hF s2 hF2 la fr⟩
def Sx{a:Adr}(T:Txt w K mg a):∀ n,bU P w K mg base CX0 (2*n+2) a.m8 a.rW ["numbers"] (G7 n)
 | 0=>by
   have no:∀ vs H Q E,¬ G7 0 vs H Q E:=fun vs H Q E ⟨_,_,_,_,h,_⟩=>aK h (Nat.not_lt_zero _)
   exact⟨fun vs H Q E h=>aK h (no vs H Q E),fun A outer s H args us vs Q E _ _ _ _ h=>aK h (no vs H Q E)⟩
 | n+1=>Xw T (Sx T n)
def Vg{X:Cx}{x:Str}{st:Stmt}{ps:List Str}{f:Addr}{fd:aR}{k:Nat}{sp:Sp}{e:Expr}{es:List Expr}{t:TA}{p pos:Pos}(D:Df X.K X.mg x st ps f fd)(F:bU X.prog X.w X.K X.mg X.base (CXE X.prog X.w) k f fd ps sp)(hr:bZ k X.A)(hg:Gl X x)(ha:L2.PA X (e::es) t)(hdb:(x==("__debug__":Str))=false:=by decide)
    (he:starEach (e::es) X.env=(false,eval e X.env)::starEach es X.env:=by rfl) (hpl:(backTo pos (starEach es X.env)).any (·.1)=false:=by rfl):
    PE X (.Call (.Name x p) (e::es) [] pos) (Dq sp [] E0 t):=yD F hr hg D.mg D.fn.kp D.bd .nil (fun _ _ _ _ _ _ _ h=>(zA h).elim) ha hdb he hpl
def upTo(m:Nat):List Int:=(List.range (m - 1)).map fun(k:Nat)=>1+(k:Int)
structure HB (cl:Cn)(d m:Nat)(good:List (Int × Int)->Bool):Prop where
 lt:m<12
 ge:1<=m
 few:(aU 11 (upTo m)).length<=100000
 need:∃ n h',evs Pg n d (.call 13 [.int m]) [] (heapOf [])= .ok (.w .non) h'/\h'.n=0
 dif:∀ ps ∈ aU 11 (upTo m),ps.Nodup/\∃ n h',evs Pg n d (.call 15 [.int m,.ref 0]) [] (heapOf (psO ps))= .ok (.w (.bl (good ps))) h'/\uW (psO ps) h'=true
def afZ(cl:Cn)(m:Nat)(good:List (Int × Int)->Bool):Sp:=fun vs H Q _=>vs= [.int m]/\Tb cl H/\
 ∀(r:Addr) (as:List Addr) (H':Hp),H r=none->dG cl H H'->H' r=some (.lst (as.map V.ref))->LAs H H' as ((aU 11 (upTo m)).filter good)->(∀ x ∈ as,H x=none/\x ≠ r)->Q (.ref r) H'
def af0{cl:Cn}{d f:Nat}{m:Int}{H:Hp}{Q:VK}{E:XK}{n:Nat}{r:W}{h':Hs}(t:Tb cl H)(e:evs Pg n d (.call f [.int m]) [] (heapOf [])= .ok (.w r) h')(z:h'.n=0)(q:∀ H' v,dG cl H H'->RW [] r v->Q v H'):spF Pg cl d f [.int m] H Q E:=by
 refine⟨[],[.int m],heapOf [],n,RX t rfl List.nodup_nil (fun k a o h=>by simp at h),.cons (.int m) .nil,?_⟩;rw[e];intro ρ' H' b s';have:ρ'= []:=List.length_eq_zero_iff.mp (s'.len.trans z);subst this;refine⟨r,rfl,fun v hv=>q H' v ⟨fun c u e=>?_,fun _=>s'.tb⟩ hv⟩;exact(b.2 c u e (by simp)).2
def Vh{a:Adr}{d m:Nat}{good:List (Int × Int)->Bool}(T:Txt w K mg a)(A0:Al P w K mg base a d)(R:HB (cn a) d m good):bU P w K mg base CX0 (4*d+34) a.rY a.z7 ["m"] (afZ (cn a) m good):=by
 have Ad:=Sx (P:=P) (w:=w) (K:=K) (mg:=mg) (base:=base) T 11;refine(T.pW.fn.ok (k:=4*d+33) Q6 (fun vs H Q E h=>?_) (fun cdv A outer s H vs Q E hr h=>?_)).mono (by omega)
 · obtain⟨rfl,_⟩:=h;rfl
 obtain⟨rfl,tb,q⟩:=h
 refine⟨_,(dz (jF (Vg T.lW A0.Ez (hr.mono (by omega)) rfl (aX (pv 0) bO)))
  (cA (nG (IW (iT (N':=["pairs","m"]) (nt:=1) (idx:=[0]) (N:=["m"]) (osc:=ak vd) rfl rfl (by decide +kernel)) rfl (sS (GC T.nD Ad (hr.mono (by omega)) rfl (aX (xj (Ut hr.hd) rfl T.Hy rfl (aX (xj Us rfl T.jL boot_range (aX d8 (aX (pv 0) bO))) bO)) bO))) (TY (fun _ _ _ _=>sO (i:=0) (show List.Nodup (["pairs","m"]:List Str) by decide +kernel) rfl (Or.inl rfl)) (fun _ _ _ _=>IV (ab0 (Vg T.tL A0.Zx (hr.mono (by omega)) rfl (aX (pv 1) (aX (pv 0) bO))))) (fun _ _ _ _=>(pv 0))))))),?_⟩
 obtain⟨n0,h0,e0,z0⟩:=R.need;refine⟨_,rfl,af0 tb e0 z0 fun H1 v1 s1 rv=>?_⟩;have hm1:=R.lt;have hm2:=R.ge;refine⟨_,rfl,1,m,rfl,fun l hl=>⟨l,1,m,rfl,aJ,by omega,by omega,by omega,by omega,fun L hL=>?_⟩⟩
 have eL:Cd ((m:Int) - 1).toNat 1=(upTo m).map V.int:=by
  rw[show((m:Int) - 1).toNat=m - 1 by omega];simp[Cd,upTo]
 rw[eL];have lu:(upTo m).length=m - 1:=by simp[upTo]
 have s3:dG (cn a) H (upd (upd H1 l (.ext (G6 l 1 m))) L (.lst ((upTo m).map V.int))):=s1.trans (dG.of ((ig hl _).trans (ig hL _)));refine⟨L,upTo m,rfl,aJ,by omega,by omega,R.few,fun r2 as2 H4 hr2 s4 hr4 la2 fr2=>?_⟩;generalize hH3:upd (upd H1 l (.ext (G6 l 1 m))) L (.lst ((upTo m).map V.int))=H3 at s3 hr2 s4 la2 fr2;have s04:dG (cn a) H H4:=s3.trans (dG.of s4);have la2:LAs H H4 as2 (aU 11 (upTo m)):=la2.old fun b e=>s3.free e;have tb4:=s04.2 tb;refine⟨r2,rfl,⟨_,SqL.of hr4⟩,fun D hD=>?_⟩;have nr2:r2 ≠ D:=cu hr4 hD
 have nas:∀ z ∈ as2,z ≠ D:=fun z hz e=>by
  obtain⟨i,hi⟩:=List.getElem?_of_mem hz;obtain⟨ps,_,bs,⟨h1,_⟩,_⟩:=Paired.FN la2 hi;rw[e,hD]at h1;cases h1
 refine Rt (K:=K) (a:=r2) (xs:=as2.map V.ref) (fun i H5=>∃ as:List Addr,dG (cn a) H4 H5/\H5 D=some (.lst (as.map V.ref))/\LAs H H5 as (((aU 11 (upTo m)).take i).filter good)/\(∀ z ∈ as,z ∈ as2)/\LAs H H5 as2 (aU 11 (upTo m))/\H5 r2=some (.lst (as2.map V.ref))) ?_ ?_ ?_ ?_
 · exact⟨[],dG.of (ig hD _),by rw[aJ];rfl,.nil,by simp,la2.same (ig hD _),by rw[aN nr2];exact hr4⟩
 · rintro i H5 _ ⟨as,s5,hD5,la5,fr5,lb5,hr5⟩;exact SqL.of hr5
 · rintro i y H5 hi ⟨as,s5,hD5,la5,fr5,lb5,hr5⟩
   obtain⟨a2,ha2,rfl⟩:∃ z,as2[i]? =some z/\y=V.ref z:=by
    rw[eN]at hi
    cases e:as2[i]? with
    | none=>rw[e]at hi;cases hi
    | some z=>rw[e]at hi;exact⟨z,rfl,(gH hi).symm⟩
   obtain⟨ps,hps,bs,pa,nbs⟩:=Paired.FN lb5 ha2;obtain⟨nd,n1,h1,e1,k1⟩:=R.dif ps (ju hps);have tb5:=s5.2 tb4;have etk:(aU 11 (upTo m)).take (i+1)=(aU 11 (upTo m)).take i ++ [ps]:=by rw[List.take_add_one,hps];rfl
   have hil:i<(aU 11 (upTo m)).length:=(bB hps).1;refine⟨⟨rfl,trivial⟩,_,rfl,_,rfl,pa.call nd tb5 e1 k1 fun ρ' H6 v hp hn s' s6 rv=>?_⟩;have s46:=s5.trans s6;have tb6:=s6.2 tb5;cases rv;refine⟨_,rfl,?_⟩;have hD6:=s6.at tb5 (fun _ z=>by cases z) hD5;have hr6:=s6.at tb5 (fun _ z=>by cases z) hr5;have la6:=la5.G8 s6 tb5;have lb6:=lb5.G8 s6 tb5
   cases hg:good ps with
   | false=>
     refine zj ⟨as,s46,hD6,?_,fr5,lb6,hr6⟩;rw[etk,List.filter_append]
     simpa [hg] using la6
   | true=>
     refine zm ?_
     have pa6:Lp H H6 a2 ps:=by
      obtain⟨p',hp',x⟩:=Paired.FN lb6 ha2;rw[hps]at hp';cases hp';exact x
     have na2:=nas a2 (ju ha2);refine⟨_,rfl,_,hD6,?_,as ++ [a2],s46.put tb6 hD hD6,by rw[aJ,List.map_append];rfl,?_,?_,lb6.put hD6 nas,by rw[aN nr2];exact hr6⟩
     · have:=la5.length;have h2:=List.length_filter_le good ((aU 11 (upTo m)).take i);have h3:=R.few;rw[List.length_take]at h2;rw[bK,sizeLine_eq];omega
     · rw[etk,List.filter_append];have:([ps].filter good)= [ps]:=by simp[hg]
       rw[this];exact Paired.Uu (pa6.put na2 hD6) (la6.put hD6 fun z hz=>nas z (fr5 z hz))
     · intro z hz
       rcases List.mem_append.mp hz with hz | hz
       · exact fr5 z hz
       · have:z=a2:=by simpa using hz
         rw[this];exact ju ha2
 · rintro H5 ⟨as,s5,hD5,la5,fr5,lb5,hr5⟩;rw[bK,lb5.length,List.take_length]at la5;refine q D as H5 (s04.free hD) (s04.trans s5) hD5 la5 fun z hz=>⟨s3.free (fr2 z (fr5 z hz)).1,nas z (fr5 z hz)⟩
def ad0{X:Cx}{ss:List Stmt}:PSs X ss (fun _ _ _=>False):=fun _ _ _ _ _ _ h=>h.elim
structure Qu (cl:Cn)(d m:Nat)(ps:List (Int × Int))(adds:List Int):Prop where
 st:∃ good pre post,HB cl d m good/\(aU 11 (upTo m)).filter good=pre++ps::post/\
  ∀ x ∈ pre,x.Nodup/\∃ n h',evs Pg n d (.call 18 [.int m,.ref 0]) [] (heapOf (psO x))= .ok (.w .non) h'/\uW (psO x) h'=true
 nd:ps.Nodup
 yes:∃ n k h',evs Pg n d (.call 18 [.int m,.ref 0]) [] (heapOf (psO ps))= .ok (.w (.ref k)) h'/\uW (psO ps) h'=true/\ps.length<k/\h'.get k=some (.lst (adds.map W.int))
def Sy{ρ:List Addr}:∀ {xs:List Int} {vs:List V},RWs ρ (xs.map W.int) vs->vs=xs.map V.int
 | [],_,.nil=>rfl
 | x::xs,_,.cons (.int _) t=>by rw[Sy t];rfl
def Xx{a:Adr}{d:Nat}{tbl:Nat->Option (List (Int × Int) × List Int)}(T:Txt w K mg a)(A0:Al P w K mg base a d)(R:∀ m ps adds,tbl m=some (ps,adds)->Qu (cn a) d m ps adds):bU P w K mg base CX0 (4*d+36) a.rC a.xN ["m"] (Jo (cn a) tbl):=by
 refine(T.mZ.fn.ok (k:=4*d+35) zR (fun vs H Q E h=>?_) (fun cdv A outer s H vs Q E hr h=>?_)).mono (by omega)
 · obtain⟨_,_,_,rfl,_⟩:=h;rfl
 obtain⟨m,ps,adds,rfl,hR,tb,q⟩:=h;obtain⟨⟨good,pre,post,RS,ef,no⟩,nd,n9,k9,h9,e9,kq9,lk9,g9⟩:=R m ps adds hR;have Vi:=Vh (P:=P) (w:=w) (K:=K) (mg:=mg) (base:=base) T A0 RS
 refine⟨_,(dz (Bu PassesOwn.never rfl (sS (GC T.pW Vi (hr.mono (by omega)) rfl (aX (pv 0) bO))) (sO (i:=1) zR.nd rfl (Or.inl rfl))
  (dz (rJ (i:=2) zR.nd rfl (Or.inl rfl) (Vg T.kj A0.Ly (hr.mono (by omega)) rfl (aX (pv 0) (aX (pv 1) bO))))
  (cA (Dm (Ny (Rc (pv 2))) (cA (nG (yz (aX (pv 1) (aX (pv 2) bO))))) yx))))
  ad0),?_⟩
 refine⟨_,rfl,rfl,tb,fun r as H1 hr0 s1 hr1 la1 fr1=>?_⟩;rw[ef]at la1;have tb1:=s1.2 tb;refine⟨r,rfl,⟨_,SqL.of hr1⟩,?_⟩;refine zg (K:=K) (a:=r) (xs:=as.map V.ref) (fun i σ H5=>i<=pre.length/\∃ v1 v2:Option V,σ= [some (.int (m:Nat)),v1,v2]/\dG (cn a) H1 H5) ?_ ?_ ?_ ?_
 · exact⟨Nat.zero_le _,none,none,rfl,dG.of (fun _ _ e=>e)⟩
 · rintro i σ H5 _ ⟨_,v1,v2,rfl,s5⟩;exact SqL.of (s5.at tb1 (fun _ z=>by cases z) hr1)
 · rintro i y σ H5 hi ⟨hip,v1,v2,rfl,s5⟩
   obtain⟨a2,ha2,rfl⟩:∃ z,as[i]? =some z/\y=V.ref z:=by
    rw[eN]at hi
    cases e:as[i]? with
    | none=>rw[e]at hi;cases hi
    | some z=>rw[e]at hi;exact⟨z,rfl,(gH hi).symm⟩
   have tb5:=s5.2 tb1;obtain⟨x,hx,bs,pa,nbs⟩:=Paired.FN (la1.G8 s5 tb1) ha2
   rcases Nat.lt_or_eq_of_le hip with hlt | rfl
   · rw[pG hlt]at hx;obtain⟨ndx,n1,h1,e1,k1⟩:=no x (ju hx);refine⟨_,rfl,_,rfl,pa.call ndx tb5 e1 k1 fun ρ' H6 v hp hn s' s6 rv=>?_⟩;cases rv;refine⟨_,rfl,_,rfl,?_⟩;exact⟨hlt,_,_,rfl,s5.trans s6⟩
   · have hx':x=ps:=by
      rw[lJ (aG _)]at hx;simpa using hx.symm
     subst hx';refine⟨_,rfl,_,rfl,pa.call nd tb5 e9 kq9 fun ρ' H6 v hp hn s' s6 rv=>?_⟩
     cases rv with
     | @ref _ b hb=>
     have bl:bs.length=x.length:=pa.2.length
     have hbn:b ∉ a2::bs:=fun z=>by
      obtain⟨j,hj⟩:=List.getElem?_of_mem z;have hjl:j<(a2::bs).length:=(bB hj).1;have h2:=iu hp hj;have:=(List.getElem?_inj (bB hb).1 s'.nd).mp (hb.trans h2.symm);rw[gG,bl]at hjl;omega
     have s15:=s1.trans s5;have s16:=s15.trans s6;have tb6:=s6.2 tb5;have hb0:H b=none:=s15.free (hn b (ju hb) hbn);obtain⟨vs,rw6,hb6⟩:=s'.at hb g9;rw[Sy rw6]at hb6;have pa6:PsA H6 a2 bs x:=⟨s6.at tb5 (fun _ z=>by cases z) pa.1,Paired.pZ pa.2 fun _ _ e=>s6.at tb5 (fun _ z=>by cases z) e⟩;refine⟨_,rfl,_,rfl,?_⟩;refine⟨_,rfl,_,rfl,by show 2<=sizeLine;decide,fun R' hR'=>?_⟩;have sN:=ig hR' (.tup [.ref a2,.ref b]);refine q R' a2 b bs _ ?_ ?_ (s16.trans (dG.of sN)) aJ ⟨sN _ _ pa6.1,Paired.pZ pa6.2 fun _ _ e=>sN _ _ e⟩ (sN _ _ hb6)
     · have h1:=pa6.nd nd;refine List.nodup_append.mpr ⟨h1,?_,fun c hc e he z=>?_⟩
       · rw[List.nodup_cons];refine⟨fun z=>?_,by simp⟩;have:b=R':=by simpa using z
         rw[<- this,hb6]at hR';cases hR'
       · subst z
         rcases List.mem_cons.mp he with rfl | he
         · exact hbn hc
         · have:c=R':=by simpa using he
           subst this
           rcases List.mem_cons.mp hc with rfl | hc
           · rw[pa6.1]at hR';cases hR'
           · obtain⟨j,hj⟩:=List.getElem?_of_mem hc;obtain⟨_,_,e⟩:=Paired.FN pa6.2 hj;rw[e]at hR';cases hR'
     · intro c hc
       rcases List.mem_append.mp hc with hc | hc
       · rcases List.mem_cons.mp hc with rfl | hc
         · exact(fr1 _ (ju ha2)).1
         · exact nbs c hc
       · rcases List.mem_cons.mp hc with rfl | hc
         · exact hb0
         · have:c=R':=by simpa using hc
           rw[this];exact s16.free hR'
 · rintro σ H5 ⟨hle,_⟩;rw[bK,la1.length,ji,gG]at hle;omega
def pY(m:Nat)(ps:List (Int × Int)):Bool:=decide ((ps.map (fun p=>(p.1 - p.2) % (m:Int))++ps.map fun p=>(p.2 - p.1) % (m:Int)).Nodup)
def ad1(m:Nat)(ps:List (Int × Int)):Ev.R A->Bool
 | .ok (.w (.bl b)) h=>(b==pY m ps)&&uW (psO ps) h
 | _=>false
def Qv(m:Nat)(ps:List (Int × Int)):Bool:=decide ps.Nodup&&ad1 m ps (evs Pg 60 10 (.call 15 [.int m,.ref 0]) [] (heapOf (psO ps)))
def noR(ps:List (Int × Int)):Ev.R A->Bool
 | .ok (.w .non) h=>uW (psO ps) h
 | _=>false
def noQ(m:Nat)(ps:List (Int × Int)):Bool:=decide ps.Nodup&&noR ps (evs Pg 200 10 (.call 18 [.int m,.ref 0]) [] (heapOf (psO ps)))
def ad2(ps:List (Int × Int))(adds:List Int):Ev.R A->Bool
 | .ok (.w (.ref k)) h=>uW (psO ps) h&&(decide (ps.length<k)&&decide (h.get k=some (.lst (adds.map W.int))))
 | _=>false
def Qw(m:Nat)(ps:List (Int × Int))(adds:List Int):Bool:=decide ps.Nodup&&ad2 ps adds (evs Pg 200 10 (.call 18 [.int m,.ref 0]) [] (heapOf (psO ps)))
def HD:Ev.R A->Bool
 | .ok (.w .non) h=>decide (h.n=0)
 | _=>false
def g7:(aU 11 (upTo 7)).all (Qv 7)=true:=by decide +kernel
def g9:(aU 11 (upTo 9)).all (Qv 9)=true:=by decide +kernel
def g11:(aU 11 (upTo 11)).all (Qv 11)=true:=by decide +kernel
def y7:Qw 7 [(1,3),(2,6),(4,5)] [2,4,1] =true:=by decide +kernel
def y9:Qw 9 [(1,2),(3,7),(4,6),(5,8)] [5,4,2,7] =true:=by decide +kernel
def y11:Qw 11 [(1,2),(3,6),(4,8),(5,10),(7,9)] [3,9,1,4,5] =true:=by decide +kernel
def p7:((aU 11 (upTo 7)).filter (pY 7)).take 1= [] ++ [[(1,3),(2,6),(4,5)]]:=by decide +kernel
def p9:((aU 11 (upTo 9)).filter (pY 9)).take 2=((aU 11 (upTo 9)).filter (pY 9)).take 1 ++ [[(1,2),(3,7),(4,6),(5,8)]]:=by decide +kernel
def q9:(((aU 11 (upTo 9)).filter (pY 9)).take 1).all (noQ 9)=true:=by decide +kernel
def p11:((aU 11 (upTo 11)).filter (pY 11)).take 1= [] ++ [[(1,2),(3,6),(4,8),(5,10),(7,9)]]:=by decide +kernel
def n7:HD (evs Pg 60 10 (.call 13 [.int (7:Nat)]) [] (heapOf []))=true:=by decide +kernel
def n9:HD (evs Pg 60 10 (.call 13 [.int (9:Nat)]) [] (heapOf []))=true:=by decide +kernel
def n11:HD (evs Pg 60 10 (.call 13 [.int (11:Nat)]) [] (heapOf []))=true:=by decide +kernel
def af1:(aU 11 (upTo 7)).length<=100000:=by decide +kernel
def af2:(aU 11 (upTo 9)).length<=100000:=by decide +kernel
def ae8:(aU 11 (upTo 11)).length<=100000:=by decide +kernel
def Vj{cl:Cn}{m:Nat}(h1:m<12)(h2:1<=m)(few:(aU 11 (upTo m)).length<=100000)(nr:HD (evs Pg 60 10 (.call 13 [.int m]) [] (heapOf []))=true)(g:(aU 11 (upTo m)).all (Qv m)=true):HB cl 10 m (pY m) where
 lt:=h1
 ge:=h2
 few:=few
 need:=by
  generalize e:evs Pg 60 10 (.call 13 [.int m]) [] (heapOf [])=r at nr;unfold HD at nr
  split at nr
  · exact⟨60,_,e,dw nr⟩
  · cases nr
 dif:=fun ps hps=>by
  have q:=List.all_eq_true.mp g ps hps;unfold Qv at q;rw[Bool.and_eq_true]at q;obtain⟨q1,q2⟩:=q;refine⟨dw q1,60,?_⟩;generalize evs Pg 60 10 (.call 15 [.int m,.ref 0]) [] (heapOf (psO ps))=r at q2;unfold ad1 at q2
  split at q2
  · rename_i b h;rw[Bool.and_eq_true]at q2;have:b=pY m ps:=by simpa using q2.1
    exact⟨h,by rw[this],q2.2⟩
  · cases q2
def Vk{cl:Cn}{m j:Nat}{ps:List (Int × Int)}{adds:List Int}{pre:List (List (Int × Int))}(S:HB cl 10 m (pY m))(e:((aU 11 (upTo m)).filter (pY m)).take j=pre ++ [ps])(n:pre.all (noQ m)=true)(y:Qw m ps adds=true):Qu cl 10 m ps adds:=by
 unfold Qw at y;rw[Bool.and_eq_true]at y;obtain⟨y1,y2⟩:=y;refine⟨⟨_,pre,((aU 11 (upTo m)).filter (pY m)).drop j,S,?_,fun x hx=>?_⟩,dw y1,?_⟩
 · rw[show pre++ps::((aU 11 (upTo m)).filter (pY m)).drop j=(pre ++ [ps])++((aU 11 (upTo m)).filter (pY m)).drop j by simp,<- e,List.take_append_drop]
 · have q:=List.all_eq_true.mp n x hx;unfold noQ at q;rw[Bool.and_eq_true]at q;obtain⟨q1,q2⟩:=q;refine⟨dw q1,200,?_⟩;generalize evs Pg 200 10 (.call 18 [.int m,.ref 0]) [] (heapOf (psO x))=r at q2;unfold noR at q2
   split at q2
   · exact⟨_,rfl,q2⟩
   · cases q2
 · refine⟨200,?_⟩;generalize evs Pg 200 10 (.call 18 [.int m,.ref 0]) [] (heapOf (psO ps))=r at y2;unfold ad2 at y2
   split at y2
   · rename_i k h;rw[Bool.and_eq_true,Bool.and_eq_true]at y2;exact⟨k,h,rfl,y2.1,dw y2.2.1,dw y2.2.2⟩
   · cases y2
def plr{cl:Cn}(m:Nat)(ps:List (Int × Int))(adds:List Int)(h:Uv m=some (ps,adds)):Qu cl 10 m ps adds:=by
 unfold Uv at h
 split at h
 · cases h;exact Vk (Vj (by decide) (by decide) af1 n7 g7) p7 rfl y7
 · cases h;exact Vk (Vj (by decide) (by decide) af2 n9 g9) p9 q9 y9
 · cases h;exact Vk (Vj (by decide) (by decide) ae8 n11 g11) p11 rfl y11
 · cases h
def Xy{a:Adr}(T:Txt w K mg a):bU P w K mg base CX0 76 a.rC a.xN ["m"] (Jo (cn a) Uv):=Xx T (aax T 10) fun m ps adds h=>plr m ps adds h
structure All (P:Program)(w:World)(K:ao)(mg:Str->Option Value)(base:Heap)(a:Adr)(d:Nat):Prop extends Al P w K mg base a d where
 Vl:Fq P w K mg base a (4*d+108) d a.pN a.vg ["plan","at"] 0
 Xz:Fq P w K mg base a (4*d+108) d a.rA a.xK ["plan","at","pair"] 1
 JK:Fq P w K mg base a (4*d+108) d a.vA a.D_ ["plan","pair"] 2
 Aq:Fq P w K mg base a (4*d+108) d a.j9 a.qM ["plan","turned"] 3
 SJ:Fq P w K mg base a (4*d+108) d a.vB a.Ea ["guides","one","other"] 4
 SM:Fq P w K mg base a (4*d+108) d a.vC a.Eb ["linked","turned"] 5
 ad3:Fq P w K mg base a (4*d+108) d a.f_lean a.Ho ["linked","turned"] 6
 Zy:Fq P w K mg base a (4*d+108) d a.sZ a.zY ["plan","turned","one","other"] 7
 EY:Fq P w K mg base a (4*d+108) d a.nU a.tY ["plan"] 8
 Qx:Fq P w K mg base a (4*d+108) d a.tu a.zZ ["all_linked","turned"] 9
 Qy:Fq P w K mg base a (4*d+108) d a.mH a.rR ["plan","turned"] 10
 JL:Fq P w K mg base a (4*d+108) d a.jJ a.pO ["many"] 11
 XC:Fq P w K mg base a (4*d+108) d a.rB a.xM ["plan"] 12
 Vm:Fq P w K mg base a (4*d+108) d a.pP a.vh ["kind","tables"] 19
 Gg:Fq P w K mg base a (4*d+108) d a.fW a.jO ["self","kind","tables"] 20
 mU:Fq P w K mg base a (4*d+108) d a.iB a.mO ["self"] 21
 Dd:Fq P w K mg base a (4*d+108) d a.jP a.o_ ["self"] 22
 uG:Fq P w K mg base a (4*d+108) d a.jk a.nJ ["self"] 23
 uo:Fq P w K mg base a (4*d+108) d a.dR a.iZ ["self","at"] 24
 De:Fq P w K mg base a (4*d+108) d a.dU a.i_ ["self","table"] 25
 qj:Fq P w K mg base a (4*d+108) d a.eO a.jq ["self","pair"] 26
 Dg:Fq P w K mg base a (4*d+108) d a.jQ a.pq ["self","at","table"] 27
 yu:Fq P w K mg base a (4*d+108) d a.cM a.fG ["self","at","table"] 28
 yw:Fq P w K mg base a (4*d+108) d a.cN a.fH ["self","at","table"] 29
 Gh:Fq P w K mg base a (4*d+108) d a.cL a.m9 ["_law_number"] 30
 uH:Fq P w K mg base a (4*d+108) d a.kh a.qO ["_law_number","_law_most"] 31
 Gi:Fq P w K mg base a (4*d+108) d a.iz a.m_ ["_law_number","_law_many"] 32
 Ek:Fq P w K mg base a (4*d+108) d a.gO a.mz ["_law_turned","_law_many"] 33
def all_zero{a:Adr}:All P w K mg base a 0:=⟨Sv,bJ,bJ,bJ,bJ,bJ,bJ,bJ,bJ,bJ,bJ,bJ,bJ,bJ,bJ,bJ,bJ,bJ,bJ,bJ,bJ,bJ,bJ,bJ,bJ,bJ,bJ,bJ,bJ⟩
def Q8(T:Txt w K mg a)(A0:All P w K mg base a d):Fq P w K mg base a (4*(d+1)+108) (d+1) a.pN a.vg ["plan","at"] 0:=by
 refine(cP (k:=4*d+111) T.pR.fn qy rfl fun σ0 cdv A outer s H E hr hp=>?_).mono (by omega)
 exact(aa (cQ 2 qy.nd RT)
  (aa (rO PassesOwn.leaving rfl pH (kJ rfl T.jL (O7 (mG T.bA T.dm (dv 0)) au)) (bF 3 qy.nd)
  (aa (vU (Y0 (nQ T.bA T.Ao A0.Dg (hr.mono (by omega)) T.CQ hp (dv 0) (aq (dv 1) (aq (dv 3) au))) abb (abd aD)) (iW rfl (bf (bF 4 qy.nd) (bf (bF 5 qy.nd) fZ))))
  (aa (Jk hr.u1 (dv 2) (dv 4) (iV (aq (dv 3) (bz (d_ [102,105,114,115,116]) au))))
  (aa (Jk hr.u1 (dv 2) (dv 5) (iV (aq (dv 3) (bz (d_ [115,101,99,111,110,100]) au))))
  az))))
  (aa (bI (dv 2))
  az)))
def Vn(T:Txt w K mg a)(A0:All P w K mg base a d):Fq P w K mg base a (4*(d+1)+108) (d+1) a.rA a.xK ["plan","at","pair"] 1:=by
 refine(cP (k:=4*d+111) T.mW.fn m7 rfl fun σ0 cdv A outer s H E hr hp=>?_).mono (by omega)
 exact(aa (vU (RQ hr.u1 (fP A0.Vl T.pR hr hp (aq (dv 0) (aq (dv 1) au))) (dv 2)) (iW rfl (bf (bF 3 m7.nd) (bf (bF 4 m7.nd) fZ))))
  (aa (vU (nQ T.bA T.Ao A0.Dg (hr.mono (by omega)) T.CQ hp (dv 0) (aq (dv 1) (aq (dv 3) au))) (iW rfl (bf (bF 5 m7.nd) (bf (bF 6 m7.nd) (bf (bF 7 m7.nd) fZ)))))
  (aa (cQ 8 m7.nd (zG (bQ oZ (iR hr.units) (dv 4) (d_ [102,105,114,115,116]) (bD _)) (dv 6) (dv 5)))
  (aa (bI (iV (aq (dv 3) (aq (dv 4) (aq (dv 8) (aq (dv 7) au))))))
  az))))
def Zz(T:Txt w K mg a)(A0:All P w K mg base a d):Fq P w K mg base a (4*(d+1)+108) (d+1) a.vA a.D_ ["plan","pair"] 2:=by
 refine(cP (k:=4*d+111) T.nY.fn Zt rfl fun σ0 cdv A outer s H E hr hp=>?_).mono (by omega)
 exact(aa (j8 (nQ T.bA T.pB A0.qj (hr.mono (by omega)) T.qi hp (dv 0) (aq (dv 1) au)))
  (aa (bI (lM (iT (N':=["at","plan","pair"]) (nt:=1) (idx:=[0,1]) (N:=["plan","pair"]) (osc:=ak DX) rfl rfl (by decide +kernel)) rfl pH (kJ rfl T.jL (pK (lN T.bA T.lH A0.mU (hr.mono (by omega)) T.mR hp (dv 0)) au)) (fun C0 s0 H0 fp0=>(bF 0 (show List.Nodup (["at","plan","pair"]:List Str) by decide +kernel))) (fun C0 s0 H0 fp0=>jH) (fun C0 s0 H0 fp0=>(pI (A0.Xz) (hr.mono (by omega)) rfl T.mW.mg T.mW.fn.kp T.mW.bd vW (aq (dv 1) (aq (dv 0) (aq (dv 2) au))))) (by decide)))
  az))
def JM(T:Txt w K mg a)(A0:All P w K mg base a d):Fq P w K mg base a (4*(d+1)+108) (d+1) a.j9 a.qM ["plan","turned"] 3:=by
 refine(cP (k:=4*d+111) T.jl.fn yU rfl fun σ0 cdv A outer s H E hr hp=>?_).mono (by omega)
 exact(aa (rO PassesOwn.leaving rfl rN (pJ rfl (dv 1)) (bF 2 yU.nd)
  (aa (j8 (nQ T.bA T.sI A0.uo (hr.mono (by omega)) T.um hp (dv 0) (aq (dv 2) au)))
  az))
  (aa (fO (bQ xZ (qu hr.units) (B_ hr.hd rfl T.jD rfl T.Hz (dv 1)) (iy (tU (K:=K)) cI rfl T.jD boot_len (aq (dv 1) au)) (bD _)) (aa (o4 ⟨rfl,rfl,rfl⟩ rfl rfl T.Ab (Qo T) (hr.mono (by omega)) T.uO rfl T.Qk)
  az) az)
  az))
def ZC(T:Txt w K mg a)(A0:All P w K mg base a d):Fq P w K mg base a (4*(d+1)+108) (d+1) a.vB a.Ea ["guides","one","other"] 4:=by
 refine(cP (k:=4*d+111) T.pU.fn fV rfl fun σ0 cdv A outer s H E hr hp=>?_).mono (by omega)
 exact(aa (cQ 3 fV.nd RT)
  (aa (rO PassesOwn.leaving rfl WL (Rv rfl T.t7 (iY (Xk hr.u1 (dv 0) (dv 2)) au)) (iW rfl (bf (bF 4 fV.nd) (bf (iW rfl (bf (bF 5 fV.nd) (bf (bF 6 fV.nd) (bf (bF 7 fV.nd) (bf (bF 8 fV.nd) fZ))))) fZ)))
  (aa (Jk hr.u1 (dv 3) (dv 8) (iV (aq (dv 4) (aq (dv 6) au))))
  az))
  (aa (cQ 9 fV.nd (k_ au))
  (aa (rO PassesOwn.leaving rfl WL (Rv rfl T.t7 (iY (Xk hr.u1 (dv 0) (dv 1)) au)) (iW rfl (bf (bF 4 fV.nd) (bf (iW rfl (bf (bF 5 fV.nd) (bf (bF 6 fV.nd) (bf (bF 7 fV.nd) (bf (bF 8 fV.nd) fZ))))) fZ)))
  (aa (fO (PW.pt (qx (bQ aeJ (ado hr.u1) (dv 8) (dv 3) rfl) (pw_and1 (bQ xZ (qu hr.units) (dv 7) (dv 2) (bD _))))) (aa (vU (RQ hr.u1 (dv 3) (dv 8)) (iW rfl (bf (bF 10 fV.nd) (bf (bF 11 fV.nd) fZ))))
  (aa (j8 (Ui Oo PySem.F.slot_list_append PySem.F.type_list_append q_ (dv 9) (O6 (iV (aq (dv 4) (aq (dv 10) (Uq (yK oZ (iR hr.units) (dv 6) (dv 11) (bD _)) au)))) au)))
  az)) az)
  az))
  (aa (bI (dv 9))
  az)))))
def ZD(T:Txt w K mg a)(A0:All P w K mg base a d):Fq P w K mg base a (4*(d+1)+108) (d+1) a.vC a.Eb ["linked","turned"] 5:=by
 refine(cP (k:=4*d+111) T.tK.fn Zu rfl fun σ0 cdv A outer s H E hr hp=>?_).mono (by omega)
 exact(aa (bI (iy (tU (K:=K)) cI rfl T.jD boot_len (iw (lM (iT (N':=["at","other_at","same","turned"]) (nt:=3) (idx:=[1]) (N:=["linked","turned"]) (osc:=ak DY) rfl rfl (by decide +kernel)) rfl rN (pJ rfl (dv 0)) (fun C0 s0 H0 fp0=>(iW rfl (bf (bF 0 (show List.Nodup (["at","other_at","same","turned"]:List Str) by decide +kernel)) (bf (bF 1 (show List.Nodup (["at","other_at","same","turned"]:List Str) by decide +kernel)) (bf (bF 2 (show List.Nodup (["at","other_at","same","turned"]:List Str) by decide +kernel)) fZ))))) (fun C0 s0 H0 fp0=>(abh (bQ oZ (iR hr.units) (dv 2) (yK oZ (iR hr.units) (yK (ac7 (K:=K)) Kr (dv 0) (dv 3) rfl) (yK (ac7 (K:=K)) Kr (dv 1) (dv 3) rfl) (bD _)) (bD _)))) (fun C0 s0 H0 fp0=>(dv 2)) (by decide)) au)))
  az)
def abD(T:Txt w K mg a)(A0:All P w K mg base a d):Fq P w K mg base a (4*(d+1)+108) (d+1) a.f_lean a.Ho ["linked","turned"] 6:=by
 refine(cP (k:=4*d+111) T.uh.fn abA rfl fun σ0 cdv A outer s H E hr hp=>?_).mono (by omega)
 exact(aa (bI (aZ tR qt (aZ kZ (L2.OpR.or cV iM) aD (fP A0.SM T.tK hr hp (aq (dv 0) (aq (dv 1) au)))) (iy (tU (K:=K)) cI rfl T.jD boot_len (aq (dv 0) au))))
  az)
def XD(T:Txt w K mg a)(A0:All P w K mg base a d):Fq P w K mg base a (4*(d+1)+108) (d+1) a.sZ a.zY ["plan","turned","one","other"] 7:=by
 refine(cP (k:=4*d+111) T.pA.fn Cq rfl fun σ0 cdv A outer s H E hr hp=>?_).mono (by omega)
 exact(aa (j8 (nQ T.bA T.pB A0.qj (hr.mono (by omega)) T.qi hp (dv 0) (aq (dv 2) au)))
  (aa (j8 (nQ T.bA T.pB A0.qj (hr.mono (by omega)) T.qi hp (dv 0) (aq (dv 3) au)))
  (aa (fO (bQ oZ (iR hr.units) (dv 2) (dv 3) (bD _)) (aa (o4 ⟨rfl,rfl,rfl⟩ rfl rfl T.Ab (Qo T) (hr.mono (by omega)) T.uO rfl T.Qk)
  az) az)
  (aa (j8 (fP A0.Aq T.jl hr hp (aq (dv 0) (aq (dv 1) au))))
  (aa (cQ 4 Cq.nd (fP A0.SJ T.pU hr hp (iw (Zn (Oa (dv 2) (fP A0.JK T.nY hr hp (aq (dv 0) (aq (dv 2) au))) (Oa (dv 3) (fP A0.JK T.nY hr hp (aq (dv 0) (aq (dv 3) au))) aaS))) (aq (dv 2) (aq (dv 3) au)))))
  (aa (cQ 5 Cq.nd (fP A0.SM T.tK hr hp (aq (dv 4) (aq (dv 1) au))))
  (aa (bI (iV (aq (dv 5) (dN (aZ tR qt (iy (tU (K:=K)) cI rfl T.jD boot_len (aq (dv 4) au)) (dv 5)) au))))
  az)))))))
def Qz(T:Txt w K mg a)(A0:All P w K mg base a d):Fq P w K mg base a (4*(d+1)+108) (d+1) a.nU a.tY ["plan"] 8:=by
 refine(cP (k:=4*d+111) T.lV.fn Cr rfl fun σ0 cdv A outer s H E hr hp=>?_).mono (by omega)
 exact(aa (cQ 1 Cr.nd (lM (iT (N':=["pair","plan"]) (nt:=1) (idx:=[0]) (N:=["plan","guides"]) (osc:=ak qz) rfl rfl (by decide +kernel)) rfl pH (kJ rfl T.jL (pK (lN T.bA T.tM A0.uG (hr.mono (by omega)) T.uE hp (dv 0)) au)) (fun C0 s0 H0 fp0=>(bF 0 (show List.Nodup (["pair","plan"]:List Str) by decide +kernel))) (fun C0 s0 H0 fp0=>jH) (fun C0 s0 H0 fp0=>(pI (A0.JK) (hr.mono (by omega)) rfl T.nY.mg T.nY.fn.kp T.nY.bd vW (aq (dv 1) (aq (dv 0) au)))) (by decide)))
  (aa (bI (Y4 (iT (N':=["other","one","guides"]) (nt:=2) (idx:=[1]) (N:=["plan","guides"]) (osc:=ak qz) rfl rfl (by decide +kernel)) rfl pH (kJ rfl T.jL (pK (lN T.bA T.tM A0.uG (hr.mono (by omega)) T.uE hp (dv 0)) au)) (fun C0 s0 H0 fp0=>(bF 0 (show List.Nodup (["other","one","guides"]:List Str) by decide +kernel))) (fun C0 s0 H0 fp0=>jH) pH (fun C0 s0 H0 fp0=>(kJ rfl T.jL (aq (dv 0) au))) (fun C0 s0 H0 fp0=>(bF 1 (show List.Nodup (["other","one","guides"]:List Str) by decide +kernel))) (fun C0 s0 H0 fp0=>jH) (fun C0 s0 H0 fp0=>(pI (A0.SJ) (hr.mono (by omega)) rfl T.pU.mg T.pU.fn.kp T.pU.bd vW (aq (dv 2) (aq (dv 1) (aq (dv 0) au))))) (by decide) (by decide)))
  az))
def XF(T:Txt w K mg a)(A0:All P w K mg base a d):Fq P w K mg base a (4*(d+1)+108) (d+1) a.tu a.zZ ["all_linked","turned"] 9:=by
 refine(cP (k:=4*d+111) T.nA.fn Xo rfl fun σ0 cdv A outer s H E hr hp=>?_).mono (by omega)
 exact(aa (bI (iy (aeM (K:=K)) (Xc rfl) rfl T.Va boot_sum (iw (lM (iT (N':=["linked","turned"]) (nt:=1) (idx:=[1]) (N:=["all_linked","turned"]) (osc:=ak zQ) rfl rfl (by decide +kernel)) rfl rN (pJ rfl (dv 0)) (fun C0 s0 H0 fp0=>(bF 0 (show List.Nodup (["linked","turned"]:List Str) by decide +kernel))) (fun C0 s0 H0 fp0=>jH) (fun C0 s0 H0 fp0=>(aZ adV Gn (pI (A0.ad3) (hr.mono (by omega)) rfl T.uh.mg T.uh.fn.kp T.uh.bd vW (aq (dv 0) (aq (dv 1) au))) aD)) (by decide)) au)))
  az)
def LQ(T:Txt w K mg a)(A0:All P w K mg base a d):Fq P w K mg base a (4*(d+1)+108) (d+1) a.mH a.rR ["plan","turned"] 10:=by
 refine(cP (k:=4*d+111) T.jc.fn Lj rfl fun σ0 cdv A outer s H E hr hp=>?_).mono (by omega)
 exact(aa (j8 (fP A0.Aq T.jl hr hp (aq (dv 0) (aq (dv 1) au))))
  (aa (bI (fP A0.Qx T.nA hr hp (pK (fP A0.EY T.lV hr hp (aq (dv 0) au)) (aq (dv 1) au))))
  az))
def HF(T:Txt w K mg a)(A0:All P w K mg base a d):Fq P w K mg base a (4*(d+1)+108) (d+1) a.jJ a.pO ["many"] 11:=by
 refine(cP (k:=4*d+111) T.jK.fn oJ rfl fun σ0 cdv A outer s H E hr hp=>?_).mono (by omega)
 exact(aa (cQ 1 oJ.nd (k_ (Jj (k_ au) au)))
  (aa (rO PassesOwn.leaving rfl pH (kJ rfl T.jL (aq (dv 0) au)) (bF 2 oJ.nd)
  (aa (cQ 1 oJ.nd (aZ kY (L2.OpR.or d9 g_) (dv 1) (lM (iT (N':=["turned","at"]) (nt:=1) (idx:=[2]) (N:=["many","found","at"]) (osc:=ak pM) rfl rfl (by decide +kernel)) rfl rN (pJ rfl (dv 1)) (fun C0 s0 H0 fp0=>(bF 0 (show List.Nodup (["turned","at"]:List Str) by decide +kernel))) (fun C0 s0 H0 fp0=>jH) (fun C0 s0 H0 fp0=>(aZ kY (L2.OpR.or d9 g_) (dv 0) (k_ (aq (dv 1) au)))) (by decide))))
  az))
  (aa (bI (dv 1))
  az)))
def Vo(T:Txt w K mg a)(A0:All P w K mg base a d):Fq P w K mg base a (4*(d+1)+108) (d+1) a.rB a.xM ["plan"] 12:=by
 refine(cP (k:=4*d+111) T.mY.fn Hh rfl fun σ0 cdv A outer s H E hr hp=>?_).mono (by omega)
 exact(aa (fO (bQ YX MJ (lN T.bA T.lH A0.mU (hr.mono (by omega)) T.mR hp (dv 0)) (vQ (Ik (v:=.int 7) rfl T.Lw ⟨_,rfl⟩) (.int 7)) (bD _)) (aa (o4 ⟨rfl,rfl,rfl⟩ rfl rfl T.Ac (Vf T) (hr.mono (by omega)) T.Bm rfl T.U7)
  az) az)
  (aa (cQ 1 Hh.nd (fP A0.EY T.lV hr hp (aq (dv 0) au)))
  (aa (bI (fM (iy aeC (V0 rfl) rfl T.U_ boot_min (iw (lM (iT (N':=["turned","all_linked"]) (nt:=1) (idx:=[1]) (N:=["plan","all_linked"]) (osc:=ak xJ) rfl rfl (by decide +kernel)) rfl rN (pJ rfl (fP A0.JL T.jK hr hp (pK (lN T.bA T.lH A0.mU (hr.mono (by omega)) T.mR hp (dv 0)) au))) (fun C0 s0 H0 fp0=>(bF 0 (show List.Nodup (["turned","all_linked"]:List Str) by decide +kernel))) (fun C0 s0 H0 fp0=>jH) (fun C0 s0 H0 fp0=>(iV (pK (pI (A0.Qx) (hr.mono (by omega)) rfl T.nA.mg T.nA.fn.kp T.nA.bd vW (aq (dv 1) (aq (dv 0) au))) (aq (dv 0) au)))) (by decide)) au)) aD))
  az)))
def Q9(T:Txt w K mg a)(A0:All P w K mg base a d):Fq P w K mg base a (4*(d+1)+108) (d+1) a.pP a.vh ["kind","tables"] 19:=by
 refine(cP (k:=4*d+111) T.pX.fn ye rfl fun σ0 cdv A outer s H E hr hp=>?_).mono (by omega)
 exact(aa (fO (bQ xZ (qu hr.units) (dv 0) (d_ [114,105,110,103]) (bD _)) (aa (bI (k_ au))
  az) az)
  (aa (vU (abo (Xy T) (hr.mono (by omega)) rfl T.mZ.mg T.mZ.fn.kp T.mZ.bd (dN (aZ tR qt (aZ kZ (L2.OpR.or cV iM) aD (dv 1)) aD) au)) (iW rfl (bf (bF 2 ye.nd) (bf (bF 3 ye.nd) fZ))))
  (aa (bI (lM (iT (N':=["b","x","y"]) (nt:=3) (idx:=[]) (N:=["kind","tables","pairs","adds"]) (osc:=ak vf) rfl rfl (by decide +kernel)) rfl WK (Wj rfl T.Nr (aq (dv 2) (aq (dv 3) au))) (fun C0 s0 H0 fp0=>(iW rfl (bf (iW rfl (bf (bF 1 (show List.Nodup (["b","x","y"]:List Str) by decide +kernel)) (bf (bF 2 (show List.Nodup (["b","x","y"]:List Str) by decide +kernel)) fZ))) (bf (bF 0 (show List.Nodup (["b","x","y"]:List Str) by decide +kernel)) fZ)))) (fun C0 s0 H0 fp0=>jH) (fun C0 s0 H0 fp0=>(iV (aq (dv 1) (aq (dv 2) (aq (dv 0) au))))) (by decide)))
  az)))
def El(T:Txt w K mg a)(A0:All P w K mg base a d):Fq P w K mg base a (4*(d+1)+108) (d+1) a.fW a.jO ["self","kind","tables"] 20:=by
 refine(cP (k:=4*d+111) T.Ge Eh rfl fun σ0 cdv A outer s H E hr hp=>?_).mono (by omega)
 exact(aa (fO (adm T.qR rfl T.C_ (dv 2) (abk T.qR rfl T.C_ (dv 1)) rfl) (aa (o4 ⟨rfl,rfl,rfl⟩ rfl rfl T.z9 (Vc T) (hr.mono (by omega)) T.Bf rfl T.UW)
  az) az)
  (aa (OJ T.bA T.je (dv 0) (dv 1))
  (aa (OJ T.bA T.dm (dv 0) (dv 2))
  (aa (OJ T.bA T.qQ (dv 0) (fP A0.Vm T.pX hr hp (aq (dv 1) (aq (dv 2) au))))
  az))))
def HH(T:Txt w K mg a)(A0:All P w K mg base a d):Fq P w K mg base a (4*(d+1)+108) (d+1) a.iB a.mO ["self"] 21:=by
 refine(cP (k:=4*d+111) T.JF Hj rfl fun σ0 cdv A outer s H E hr hp=>?_).mono (by omega)
 exact(aa (fO (bQ oZ (iR hr.units) (mG T.bA T.je (dv 0)) (d_ [115,107,105,112]) (bD _)) (aa (bI (aZ tR qt (mG T.bA T.dm (dv 0)) aD))
  az) az)
  (aa (bI (lN T.bA T.An A0.Dd (hr.mono (by omega)) T.CJ hp (dv 0)))
  az))
def L_(T:Txt w K mg a)(A0:All P w K mg base a d):Fq P w K mg base a (4*(d+1)+108) (d+1) a.jP a.o_ ["self"] 22:=by
 refine(cP (k:=4*d+111) T.Qh Ln rfl fun σ0 cdv A outer s H E hr hp=>?_).mono (by omega)
 exact(aa (fO (bQ oZ (iR hr.units) (mG T.bA T.je (dv 0)) (d_ [114,105,110,103]) (bD _)) (aa (bI (aZ tR qt (aZ kZ (L2.OpR.or cV iM) aD (mG T.bA T.dm (dv 0))) aD))
  az) az)
  (aa (bI (mG T.bA T.dm (dv 0)))
  az))
def JN(T:Txt w K mg a)(A0:All P w K mg base a d):Fq P w K mg base a (4*(d+1)+108) (d+1) a.jk a.nJ ["self"] 23:=by
 refine(cP (k:=4*d+111) T.Ls JC rfl fun σ0 cdv A outer s H E hr hp=>?_).mono (by omega)
 exact(aa (bI (aZ kZ (L2.OpR.or cV iM) aD (mG T.bA T.dm (dv 0))))
  az)
def Bo(T:Txt w K mg a)(A0:All P w K mg base a d):Fq P w K mg base a (4*(d+1)+108) (d+1) a.dR a.iZ ["self","at"] 24:=by
 refine(cP (k:=4*d+111) T.CK Az rfl fun σ0 cdv A outer s H E hr hp=>?_).mono (by omega)
 exact(aa (fO (PW.pt (uV (bQ (Fp (K:=K)) (L2.OpR.or xg (vJ hr.rK)) (dv 1) aD (bD _)) (pw_or1 (bQ Ol Dp (dv 1) (lN T.bA T.lH A0.mU (hr.mono (by omega)) T.mR hp (dv 0)) (bD _))))) (aa (o4 ⟨rfl,rfl,rfl⟩ rfl rfl T.z_ (Vd T) (hr.mono (by omega)) T.Bh rfl T.U3)
  az) az)
  az)
def Bp(T:Txt w K mg a)(A0:All P w K mg base a d):Fq P w K mg base a (4*(d+1)+108) (d+1) a.dU a.i_ ["self","table"] 25:=by
 refine(cP (k:=4*d+111) T.CN A_ rfl fun σ0 cdv A outer s H E hr hp=>?_).mono (by omega)
 exact(aa (fO (PW.pt (uV (bQ (Fp (K:=K)) (L2.OpR.or xg (vJ hr.rK)) (dv 1) aD (bD _)) (pw_or1 (bQ Ol Dp (dv 1) (mG T.bA T.dm (dv 0)) (bD _))))) (aa (o4 ⟨rfl,rfl,rfl⟩ rfl rfl T.Aa (Ve T) (hr.mono (by omega)) T.Bk rfl T.U5)
  az) az)
  az)
def Dh(T:Txt w K mg a)(A0:All P w K mg base a d):Fq P w K mg base a (4*(d+1)+108) (d+1) a.eO a.jq ["self","pair"] 26:=by
 refine(cP (k:=4*d+111) T.Ei Cw rfl fun σ0 cdv A outer s H E hr hp=>?_).mono (by omega)
 exact(aa (fO (PW.pt (uV (bQ (Fp (K:=K)) (L2.OpR.or xg (vJ hr.rK)) (dv 1) aD (bD _)) (pw_or1 (bQ Ol Dp (dv 1) (lN T.bA T.tM A0.uG (hr.mono (by omega)) T.uE hp (dv 0)) (bD _))))) (aa (o4 ⟨rfl,rfl,rfl⟩ rfl rfl T.CZ (Xu T) (hr.mono (by omega)) T.CW rfl T.Xr)
  az) az)
  az)
def Ma(T:Txt w K mg a)(A0:All P w K mg base a d):Fq P w K mg base a (4*(d+1)+108) (d+1) a.jQ a.pq ["self","at","table"] 27:=by
 refine(cP (k:=4*d+111) T.Qi Lq rfl fun σ0 cdv A outer s H E hr hp=>?_).mono (by omega)
 exact(aa (j8 (nQ T.bA T.sI A0.uo (hr.mono (by omega)) T.um hp (dv 0) (aq (dv 1) au)))
  (aa (j8 (nQ T.bA T.Bb A0.De (hr.mono (by omega)) T.CP hp (dv 0) (aq (dv 2) au)))
  (aa (fO (bQ oZ (iR hr.units) (mG T.bA T.je (dv 0)) (d_ [114,105,110,103]) (bD _)) (aa (bI (nQ T.bA T.wY A0.yu (hr.mono (by omega)) T.yp hp (dv 0) (aq (dv 1) (aq (dv 2) au))))
  az) az)
  (aa (bI (nQ T.bA T.wZ A0.yw (hr.mono (by omega)) T.yr hp (dv 0) (aq (dv 1) (aq (dv 2) au))))
  az))))
def w5(T:Txt w K mg a)(A0:All P w K mg base a d):Fq P w K mg base a (4*(d+1)+108) (d+1) a.cM a.fG ["self","at","table"] 28:=by
 refine(cP (k:=4*d+111) T.yo eE rfl fun σ0 cdv A outer s H E hr hp=>?_).mono (by omega)
 exact(aa (cQ 3 eE.nd (lN T.bA T.An A0.Dd (hr.mono (by omega)) T.CJ hp (dv 0)))
  (aa (fO (bQ oZ (iR hr.units) (dv 2) aD (bD _)) (aa (bI (iV (aq (dv 3) (aq (dv 1) (aq (dv 1) au)))))
  az) az)
  (aa (vU (fM (mG T.bA T.qQ (dv 0)) (aZ tR qt (dv 2) aD)) (iW rfl (bf (bF 4 eE.nd) (bf (bF 5 eE.nd) (bf (bF 6 eE.nd) fZ)))))
  (aa (bI (iV (dN (aZ jB cX (aZ kY (L2.OpR.or d9 g_) (dv 4) (dv 1)) (dv 3)) (dN (aZ jB cX (aZ kY (L2.OpR.or d9 g_) (dv 5) (dv 1)) (dv 3)) (dN (aZ jB cX (aZ kY (L2.OpR.or d9 g_) (dv 6) (dv 1)) (dv 3)) au)))))
  az))))
def w6(T:Txt w K mg a)(A0:All P w K mg base a d):Fq P w K mg base a (4*(d+1)+108) (d+1) a.cN a.fH ["self","at","table"] 29:=by
 refine(cP (k:=4*d+111) T.yq eF rfl fun σ0 cdv A outer s H E hr hp=>?_).mono (by omega)
 exact(aa (cQ 3 eF.nd (mG T.bA T.dm (dv 0)))
  (aa (cQ 4 eF.nd (aZ Wr zx (dv 3) aD))
  (aa (cQ 5 eF.nd (zG (PW.pt (qx (bQ oZ (iR hr.units) (mG T.bA T.je (dv 0)) (d_ [115,107,105,112]) (bD _)) (pw_and1 (bQ Ol Dp (dv 1) (dv 4) (bD _))))) (aZ kY (L2.OpR.or d9 g_) (dv 1) aD) (dv 1)))
  (aa (cQ 6 eF.nd (zG (PW.pt (qx (bQ oZ (iR hr.units) (mG T.bA T.je (dv 0)) (d_ [115,104,97,114,101,100]) (bD _)) (pw_and1 (bQ Ol Dp (dv 2) (dv 4) (bD _))))) (aZ kY (L2.OpR.or d9 g_) (dv 1) aD) (dv 1)))
  (aa (bI (iV (aq (dv 2) (dN (aZ kY (L2.OpR.or d9 g_) (dv 3) (aZ jB cX (aZ tR qt (dv 2) (dv 5)) (dv 3))) (dN (aZ jB cX (aZ kY (L2.OpR.or d9 g_) (dv 2) (dv 6)) (dv 3)) au)))))
  az)))))
def Em(T:Txt w K mg a)(A0:All P w K mg base a d):Fq P w K mg base a (4*(d+1)+108) (d+1) a.cL a.m9 ["_law_number"] 30:=by
 refine(adp (k:=4*d+111) T.iC.fn p_ rfl fun σ0 cdv A outer s H E hr hp=>?_).mono (by omega);have q0:QS (ie (CXE P w) P w K mg base ["_law_number","_law_some"] "_law_some_plan" (ak cj) a.cL cdv A outer s H E) ((cG cj).getD 0 (.Pass ⟨0,0,0,0⟩)) (tS Pg (cn a) E d σ0 (.asg (.nm 1) (.pr .lst [(.pr .tup [(.cst (.str [115,116,114,97,105,103,104,116])),(.cst (.int 3))]),(.pr .tup [(.cst (.str [115,107,105,112])),(.cst (.int 4))]),(.pr .tup [(.cst (.str [115,104,97,114,101,100])),(.cst (.int 4))]),(.pr .tup [(.cst (.str [115,116,114,97,105,103,104,116])),(.cst (.int 5))]),(.pr .tup [(.cst (.str [114,105,110,103])),(.cst (.int 4))]),(.pr .tup [(.cst (.str [115,107,105,112])),(.cst (.int 6))]),(.pr .tup [(.cst (.str [115,104,97,114,101,100])),(.cst (.int 6))])]))):=(W0 (i:=1) p_.nd rfl (Or.inl rfl) (WX (pL [115,116,114,97,105,103,104,116] (pL [115,107,105,112] (pL [115,104,97,114,101,100] (pL [115,116,114,97,105,103,104,116] (pL [114,105,110,103] (pL [115,107,105,112] (pL [115,104,97,114,101,100] WY)))))))));have q1:QS (ie (CXE P w) P w K mg base ["_law_number","_law_some"] "_law_some_plan" (ak cj) a.cL cdv A outer s H E) ((cG cj).getD 1 (.Pass ⟨0,0,0,0⟩)) (tS Pg (cn a) E d σ0 (.asg (.nm 1) (.pr .add [(.var 1),(.pr .lst [(.pr .tup [(.cst (.str [115,116,114,97,105,103,104,116])),(.cst (.int 7))]),(.pr .tup [(.cst (.str [114,105,110,103])),(.cst (.int 5))]),(.pr .tup [(.cst (.str [115,107,105,112])),(.cst (.int 8))]),(.pr .tup [(.cst (.str [115,104,97,114,101,100])),(.cst (.int 8))]),(.pr .tup [(.cst (.str [115,116,114,97,105,103,104,116])),(.cst (.int 9))]),(.pr .tup [(.cst (.str [114,105,110,103])),(.cst (.int 6))])])]))):=(W0 (i:=1) p_.nd rfl (Or.inl rfl) (aeI kY (L2.OpR.or d9 g_) ⟨(dv 1)⟩ (WX (pL [115,116,114,97,105,103,104,116] (pL [114,105,110,103] (pL [115,107,105,112] (pL [115,104,97,114,101,100] (pL [115,116,114,97,105,103,104,116] (pL [114,105,110,103] WY)))))))));have q2:QS (ie (CXE P w) P w K mg base ["_law_number","_law_some"] "_law_some_plan" (ak cj) a.cL cdv A outer s H E) ((cG cj).getD 2 (.Pass ⟨0,0,0,0⟩)) (tS Pg (cn a) E d σ0 (.ret (.pr .ix [(.var 1),(.pr .mod [(.var 0),(.cst (.int 13))])]))):=⟨(bI (fM (dv 1) (aZ jB cX (dv 0) aD)))⟩;have z:QSs (ie (CXE P w) P w K mg base ["_law_number","_law_some"] "_law_some_plan" (ak cj) a.cL cdv A outer s H E) (cG cj) (tSs Pg (cn a) E d σ0 wM):=(vX q0 (vX q1 (vX q2 RV)));exact z
def JP(T:Txt w K mg a)(A0:All P w K mg base a d):Fq P w K mg base a (4*(d+1)+108) (d+1) a.kh a.qO ["_law_number","_law_most"] 31:=by
 refine(cP (k:=4*d+111) T.gW.fn JB rfl fun σ0 cdv A outer s H E hr hp=>?_).mono (by omega)
 exact(aa (bI (fM (k_ (G5 (aaj aaf VN aD) (aq (dv 1) (dN (aZ kY (L2.OpR.or d9 g_) (dv 1) aD) (dN (aZ aae Gn aD aD) (G5 (aaj aaf VN (aZ aae Gn aD aD)) au)))))) (aZ jB cX (dv 0) aD)))
  az)
def En(T:Txt w K mg a)(A0:All P w K mg base a d):Fq P w K mg base a (4*(d+1)+108) (d+1) a.iz a.m_ ["_law_number","_law_many"] 32:=by
 refine(cP (k:=4*d+111) T.iD.fn l_ rfl fun σ0 cdv A outer s H E hr hp=>?_).mono (by omega)
 exact(aa (cQ 2 l_.nd (k_ au))
  (aa (rO PassesOwn.leaving rfl pH (kJ rfl T.jL (aq (dv 1) au)) (bF 3 l_.nd)
  (aa (fO (bQ oZ (iR hr.units) (aZ jB cX (dv 0) aD) aD (bD _)) (aa (j8 (Ui Oo PySem.F.slot_list_append PySem.F.type_list_append q_ (dv 2) (aq (dv 3) au)))
  az) az)
  (aa (cQ 0 l_.nd (aZ Wr zx (dv 0) aD))
  az)))
  (aa (bI (dv 2))
  az)))
def Di(T:Txt w K mg a)(A0:All P w K mg base a d):Fq P w K mg base a (4*(d+1)+108) (d+1) a.gO a.mz ["_law_turned","_law_many"] 33:=by
 refine(cP (k:=4*d+111) T.gR.fn Cv rfl fun σ0 cdv A outer s H E hr hp=>?_).mono (by omega)
 exact(aa (fO (Oq (Ot (iy aeB (Wa rfl) rfl T.U9 boot_all (iw (lM (iT (N':=["_law_at","_law_many"]) (nt:=1) (idx:=[1]) (N:=["_law_turned","_law_many"]) (osc:=ak mq) rfl rfl (by decide +kernel)) rfl rN (pJ rfl (dv 0)) (fun C0 s0 H0 fp0=>(bF 0 (show List.Nodup (["_law_at","_law_many"]:List Str) by decide +kernel))) (fun C0 s0 H0 fp0=>jH) (fun C0 s0 H0 fp0=>(Jp hr.rK aD (dv 0) (dv 1))) (by decide)) au)) (fun _=>rfl))) (aa (bI (iV (bz (d_ [110,111]) (bz (d_ [110,111,32,114,111,117,110,100]) au))))
  az) az)
  (aa (bI (zG (bQ (Fp (K:=K)) (L2.OpR.or xg (vJ hr.rK)) (B_ hr.hd rfl T.jD rfl T.Hz (dv 0)) (iy (tU (K:=K)) cI rfl T.jD boot_len (aq (dv 0) au)) (bD _)) (iV (bz (d_ [110,111]) (bz (d_ [116,111,108,100,32,116,119,105,99,101]) au))) Wq))
  az))
def ZF{a:Adr}{d:Nat}(T:Txt w K mg a)(A0:All P w K mg base a d):All P w K mg base a (d+1):=⟨Sw T A0.toAl,Q8 T A0,Vn T A0,Zz T A0,JM T A0,ZC T A0,ZD T A0,abD T A0,XD T A0,Qz T A0,XF T A0,LQ T A0,HF T A0,Vo T A0,Q9 T A0,El T A0,HH T A0,L_ T A0,JN T A0,Bo T A0,Bp T A0,Dh T A0,Ma T A0,w5 T A0,w6 T A0,Em T A0,JP T A0,En T A0,Di T A0⟩
def QB{a:Adr}(T:Txt w K mg a):∀ d,All P w K mg base a d
 | 0=>all_zero
 | d+1=>ZF T (QB T d)
end
end My
namespace My
open PySem L2 PyProof.Rows
open Ev
local macro_rules | `(tactic| walk_at "s")=>`(tactic| repeat walk_at "sy")
local macro_rules | `(tactic| walk_at "sy")=>`(tactic| first
 | with_reducible refine aC.mpr ?_
 | with_reducible refine dH.mpr ?_
 | with_reducible refine lA.mpr ?_
 | with_reducible refine jh.mpr ?_
 | with_reducible refine h_.mpr ?_
 | with_reducible refine agi.mpr ?_
 | with_reducible refine cz.mpr ?_
 | with_reducible refine nR.mpr ?_
 | with_reducible refine aH.mpr ?_
 | with_reducible refine bR.mpr ?_
 | with_reducible refine ue.mpr ?_
 | ((with_reducible refine aM (w:=?w) ?e ?_);(case e=>exact rfl))
 | with_reducible refine G9.mpr ?_
 | with_reducible refine vZ.mpr ?_
 | with_reducible refine tX.mpr ?_
 | with_reducible refine aP ?_
 | with_reducible refine abr ?_
 | with_reducible refine adB ?_
 | with_reducible refine adC ?_
 | with_reducible refine cW.mpr ?_
 | with_reducible refine uY ?_
 | with_reducible refine v5 ?_
 | with_reducible refine lO ?_
 | with_reducible refine Ni ?_
 | with_reducible refine Nj ?_
 | with_reducible refine p_add ?_
 | with_reducible refine aeN ?_
 | with_reducible refine aeO ?_
 | with_reducible refine agk ?_
 | with_reducible refine age ?_
 | with_reducible refine agf ?_
 | with_reducible refine afS ?_
 | with_reducible refine afT ?_
 | with_reducible refine ago ?_
 | with_reducible refine adx ?_
 | with_reducible refine aeQ ?_
 | with_reducible refine aeR ?_
 | with_reducible refine aar ?_
 | with_reducible refine Xg ?_
 | with_reducible refine agl ?_
 | with_reducible refine agm ?_
 | with_reducible refine adA ?_
 | with_reducible refine Zg ?_
 | ((with_reducible refine aeP ?e ?_);(case e=>first | decide | omega))
 | ((with_reducible refine aap ?e ?_);(case e=>exact Nat.le_of_ble_eq_true rfl))
 | ((with_reducible refine aeT ?e ?_);(case e=>exact Nat.le_of_ble_eq_true rfl))
 | ((with_reducible refine aan ?e ?f ?_);(case e=>first | decide | omega);(case f=>first | decide | omega)))
def QC{h:Hs}{A:Nat->Prop}{ds:List D}{k:Nat}{xs:List W}(l:k<h.n)(a:A k)(g:h.get k=some (.tup xs))(r:Rds h A ds xs):Ev.Rd h A (.tup ds) (.ref k):=by
 simp only[Ev.Rd];exact⟨k,xs,rfl,l,a,g,r⟩
def JQ{h:Hs}{A:Nat->Prop}{d:D}{w:W}(r:Ev.Rd h A d w):Rds h A [d] [w]:=by
 unfold Rds;refine⟨_,_,rfl,r,?_⟩;unfold Rds;rfl
def SN{h:Hs}{A:Nat->Prop}:Rds h A [] []:=by unfold Rds;rfl
abbrev iG:=Int × Int × Int
def kiT:List Nat:=[107,105,110,100]
def taT:List Nat:=[116,97,98,108,101,115]
def trT:List Nat:=[116,114,105,111,115]
def rgT:List Nat:=[114,105,110,103]
def skT:List Nat:=[115,107,105,112]
def shT:List Nat:=[115,104,97,114,101,100]
def fiT:List Nat:=[102,105,114,115,116]
def seT:List Nat:=[115,101,99,111,110,100]
structure cR (h:Hs)(p:Nat)(kd:List Nat)(t:Nat)(tr:List iG):Prop where
 lp:p<h.n
 g:∃ pt ws,h.get p=some (.ins 50 [(kiT,.str kd),(taT,.int (t:Int)),(trT,.ref pt)])/\pt<h.n/\h.get pt=some (.lst ws)/\Rds h (fun _=>True) (tr.map D3) ws
 ok:okC kd=true
 t0:0<t
 t9:t<=9
 len:codes kd rgT=true->tr.length+1=t
def cR.ext{h h':Hs}{p:Nat}{kd:List Nat}{t:Nat}{tr:List iG}(x:cR h p kd t tr)(e:Ext h h'):cR h' p kd t tr:=
 ⟨a_ x.lp e.1,let ⟨pt,ws,a,b,c,d⟩:=x.g;⟨pt,ws,e.get x.lp a,a_ b e.1,e.get b c,d.ext e⟩,x.ok,x.t0,x.t9,x.len⟩
def vm(kd:List Nat)(t:Nat):Int:=if codes kd rgT then 2*(t:Int) - 1 else t
def cH(kd:List Nat)(t:Nat):Int:=if codes kd skT then(t:Int) - 1 else vm kd t
def bY(kd:List Nat)(t:Nat)(tr:List iG)(at' tb:Nat):iG:=
 if codes kd rgT then(if tb=0 then(vm kd t,at',at') else(((tr.getD (tb - 1) (0,0,0)).1+at') % vm kd t,((tr.getD (tb - 1) (0,0,0)).2.1+at') % vm kd t,((tr.getD (tb - 1) (0,0,0)).2.2+at') % vm kd t))
 else(tb,t+((tb:Int) - (if codes kd skT&&decide ((t:Int).fdiv 2<=(at':Int)) then(at':Int)+1 else at')) % t,((tb:Int)+(if codes kd shT&&decide ((t:Int).fdiv 2<=(tb:Int)) then(at':Int)+1 else at')) % t)
def ZG{kd:List Nat}{t:Nat}(t0:0<t):0<vm kd t:=by unfold vm;split <;> omega
section
variable{d n p t:Nat}{h:Hs}{Q:W->Hs->Prop}{kd:List Nat}{tr:List iG}
def XH(P:cR h p kd t tr)(q:Q (.int (vm kd t)) h):wC 22 [.ref p] (bu Pg (d+1)) (n+1) h Q:=by
 refine(dI rfl rfl).mpr ?_;unfold Cz;obtain⟨pt,ws,g,_⟩:=P.g;have t9:=P.t9;refine aC.mpr (h_.mpr (cz.mpr (aH.mpr (qK (aM (w:=.ref p) rfl ⟨p,_,_,rfl,g,rfl,?_⟩)))));walk_at "s";refine zN P.ok rfl ?_;unfold vm at q
 cases e:codes kd rgT with
 | true=>
   rw[show codes kd [114,105,110,103] =true from e];rw[e]at q;refine v5 (aC.mpr (lA.mpr (cz.mpr (aH.mpr (cz.mpr (aH.mpr (ue.mpr (aH.mpr (qK (aM (w:=.ref p) rfl ⟨p,_,_,rfl,g,rfl,?_⟩))))))))));walk_at "s"
   exact q
 | false=>
   rw[show codes kd [114,105,110,103] =false from e];rw[e]at q;refine lO (cW.mpr (aP (aC.mpr (lA.mpr (qK (aM (w:=.ref p) rfl ⟨p,_,_,rfl,g,rfl,?_⟩))))));walk_at "s";exact q
def wU(P:cR h p kd t tr)(q:Q (.int (cH kd t)) h):wC 21 [.ref p] (bu Pg (d+2)) (n+2) h Q:=by
 refine(dI rfl rfl).mpr ?_;unfold yV;obtain⟨pt,ws,g,_⟩:=P.g;have t9:=P.t9;refine aC.mpr (h_.mpr (cz.mpr (aH.mpr (qK (aM (w:=.ref p) rfl ⟨p,_,_,rfl,g,rfl,?_⟩)))));walk_at "s";refine zN P.ok rfl ?_;unfold cH at q
 cases e:codes kd skT with
 | true=>
   rw[show codes kd [115,107,105,112] =true from e];rw[e]at q;refine v5 (aC.mpr (lA.mpr (cz.mpr (aH.mpr (qK (aM (w:=.ref p) rfl ⟨p,_,_,rfl,g,rfl,?_⟩))))));walk_at "s"
   exact q
 | false=>
   rw[show codes kd [115,107,105,112] =false from e];rw[e]at q;refine lO (cW.mpr (aP (aC.mpr (lA.mpr (dO (aM (w:=.ref p) rfl ⟨p,_,rfl,g,rfl,bR.mpr (XH P ?_)⟩))))));walk_at "s";exact q
def Ed(P:cR h p kd t tr)(q:Q (.int (2*(t:Int))) h):wC 23 [.ref p] (bu Pg (d+1)) (n+1) h Q:=by
 refine(dI rfl rfl).mpr ?_;unfold Ak;obtain⟨pt,ws,g,_⟩:=P.g;have t9:=P.t9;refine aC.mpr (lA.mpr (cz.mpr (aH.mpr (ue.mpr (aH.mpr (qK (aM (w:=.ref p) rfl ⟨p,_,_,rfl,g,rfl,?_⟩)))))));walk_at "s";exact q
def wV{i:Int}(P:cR h p kd t tr)(i0:0<=i)(i1:i<cH kd t)(q:Q .non h):wC 24 [.ref p,.int i] (bu Pg (d+3)) (n+3) h Q:=by
 refine(dI rfl rfl).mpr ?_;unfold o8;obtain⟨pt,ws,g,_⟩:=P.g;refine aC.mpr (h_.mpr (tX.mpr ?_));walk_at "s";refine zL (bM (by omega)) ?_;refine cz.mpr (aH.mpr (aM (w:=.int i) rfl (aH.mpr (dO (aM (w:=.ref p) rfl ⟨p,_,rfl,g,rfl,bR.mpr (wU P ?_)⟩)))));walk_at "s";refine zL (bM (by omega)) ?_;walk_at "s";exact q
def QD{i:Int}(P:cR h p kd t tr)(i0:0<=i)(i1:i<t)(q:Q .non h):wC 25 [.ref p,.int i] (bu Pg (d+1)) (n+1) h Q:=by
 refine(dI rfl rfl).mpr ?_;unfold ug;obtain⟨pt,ws,g,_⟩:=P.g;refine aC.mpr (h_.mpr (tX.mpr ?_));walk_at "s";refine zL (bM (by omega)) ?_;refine cz.mpr (aH.mpr (aM (w:=.int i) rfl (aH.mpr (qK (aM (w:=.ref p) rfl ⟨p,_,_,rfl,g,rfl,?_⟩)))));walk_at "s";refine zL (bM (by omega)) ?_;walk_at "s";exact q
def t8{i:Int}(P:cR h p kd t tr)(i0:0<=i)(i1:i<2*(t:Int))(q:Q .non h):wC 26 [.ref p,.int i] (bu Pg (d+2)) (n+2) h Q:=by
 refine(dI rfl rfl).mpr ?_;unfold qg;obtain⟨pt,ws,g,_⟩:=P.g;refine aC.mpr (h_.mpr (tX.mpr ?_));walk_at "s";refine zL (bM (by omega)) ?_;refine cz.mpr (aH.mpr (aM (w:=.int i) rfl (aH.mpr (dO (aM (w:=.ref p) rfl ⟨p,_,rfl,g,rfl,bR.mpr (Ed P ?_)⟩)))));walk_at "s";refine zL (bM (by omega)) ?_;walk_at "s";exact q
def O3(s:iG):O:=.tup [.int s.1,.int s.2.1,.int s.2.2]
def ae9{i j:Nat}(P:cR h p kd t tr)(kr:codes kd rgT=true)(lj:j<t)(q:Q (.ref h.n) (h.push (O3 (bY kd t tr i j)))):wC 28 [.ref p,.int (i:Int),.int (j:Int)] (bu Pg (d+2)) (n+2) h Q:=by
 refine(dI rfl rfl).mpr ?_;unfold qD;obtain⟨pt,ws,g,lpt,gpt,rt⟩:=P.g;have sp:=ZG (kd:=kd) P.t0;refine aC.mpr (dH.mpr (dO (aM (w:=.ref p) rfl ⟨p,_,rfl,g,rfl,bR.mpr (XH P ?_)⟩)));walk_at "s";unfold bY at q;rw[aB kr]at q;refine Cg (fun e=>?_) fun e=>?_
 · have ej:j=0:=by omega
   rw[aB ej]at q;walk_at "s";exact q
 · have nj:¬ j=0:=fun z=>e (by omega);rw[aA nj]at q;have lt:=P.len kr;obtain⟨x,ex⟩:∃ x,tr[j - 1]? =some x:=⟨_,gY (by omega)⟩;have egx:tr.getD (j - 1) (0,0,0)=x:=by rw[List.getD,ex];rfl
   rw[egx]at q;obtain⟨wx,ewx,rdx⟩:=Rds.get rt (show(tr.map D3)[j - 1]? =some (D3 x) by rw[eN,ex];rfl);obtain⟨c,rfl,lc,_,gc⟩:=afU.mp rdx;refine cW.mpr (aP (aC.mpr (Py (cz.mpr (aH.mpr (qK (aM (w:=.ref p) rfl ⟨p,_,_,rfl,g,rfl,?_⟩)))))));walk_at "s";refine DN gpt (by omega) (by rw[show((j:Int) - 1).toNat=j - 1 by omega];exact ewx) ?_;refine⟨c,_,_,_,rfl,gc,?_⟩;refine aP (aC.mpr (lA.mpr ?_));walk_at "s";exact q
def ae_{i j:Nat}(P:cR h p kd t tr)(kr:codes kd rgT=false)(q:Q (.ref h.n) (h.push (O3 (bY kd t tr i j)))):wC 29 [.ref p,.int (i:Int),.int (j:Int)] (bu Pg (d+1)) (n+1) h Q:=by
 refine(dI rfl rfl).mpr ?_;unfold qF;obtain⟨pt,ws,g,lpt,gpt,rt⟩:=P.g;have t0:(0:Int)<t:=by have:=P.t0;omega
 unfold bY at q;rw[aA (by rw[kr];decide)]at q;refine aC.mpr (dH.mpr (qK (aM (w:=.ref p) rfl ⟨p,_,_,rfl,g,rfl,?_⟩)));refine aP (aC.mpr (dH.mpr ?_));walk_at "s";refine Xd (by decide) (by decide) ?_;generalize (t:Int).fdiv 2=hf at q ⊢
 have back:∀ {τ:Sg} {c:List Nat} {k:Nat} {z:Nat} {Q':W->Hs->Prop},okC c=true->cU τ 0=some (.ref p)->cU τ 1=some (.int (i:Int))->cU τ k=some (.int (z:Int))->cU τ 4=some (.int hf)->Q' (.int (if codes kd c&&decide (hf<=(z:Int)) then(i:Int)+1 else i)) h->wX (.ite (.and (.pr .eq [(.fld 50 (.var 0) [107,105,110,100]),(.cst (.str c))]) (.pr .ge [(.var k),(.var 4)])) (.pr .add [(.var 1),(.cst (.int 1))]) (.var 1)) (bu Pg d) n τ h Q':=by
  intro τ c k z Q' oc e0 e1 ek e4 q';refine G9.mpr (vZ.mpr (cz.mpr (aH.mpr (qK (aM e0 ⟨p,_,_,rfl,g,rfl,?_⟩)))));walk_at "s";refine zN P.ok oc ?_
  cases e:codes kd c with
  | false=>
    rw[e]at q'
    exact lO (lO (aM e1 q'))
  | true=>
    rw[e,Bool.true_and]at q';refine v5 (cz.mpr (aH.mpr (aM ek (aH.mpr (aM e4 (bR.mpr (adx ?_)))))));refine Cg (fun y=>?_) fun y=>?_
    · rw[aB (bH y)]at q';refine cz.mpr (aH.mpr (aM e1 ?_));walk_at "s";exact q'
    · rw[aA (by rw[bM y];decide)]at q';exact aM e1 q'
 refine aP (aC.mpr (dH.mpr (back (z:=i) rfl rfl rfl rfl rfl ?_)));refine aP (aC.mpr (dH.mpr (back (z:=j) rfl rfl rfl rfl rfl ?_)));refine aP (aC.mpr (lA.mpr (cz.mpr (aH.mpr ?_))));walk_at "s";exact q
def XJ{i j:Nat}(P:cR h p kd t tr)(li:(i:Int)<cH kd t)(lj:j<t)(q:Q (.ref h.n) (h.push (O3 (bY kd t tr i j)))):wC 27 [.ref p,.int (i:Int),.int (j:Int)] (bu Pg (d+4)) (n+4) h Q:=by
 refine(dI rfl rfl).mpr ?_;unfold CG;obtain⟨pt,ws,g,lpt,gpt,rt⟩:=P.g;refine aC.mpr (jh.mpr (dO (aM (w:=.ref p) rfl ⟨p,_,rfl,g,rfl,aH.mpr (aM (w:=.int (i:Int)) rfl (bR.mpr (wV (d:=d) (n:=n) P (by omega) li ?_)))⟩)));refine aP (aC.mpr (jh.mpr (dO (aM (w:=.ref p) rfl ⟨p,_,rfl,g,rfl,aH.mpr (aM (w:=.int (j:Int)) rfl (bR.mpr (QD (d:=d+2) (n:=n+2) P (by omega) (by omega) ?_)))⟩))));refine aP (aC.mpr (h_.mpr (cz.mpr (aH.mpr (qK (aM (w:=.ref p) rfl ⟨p,_,_,rfl,g,rfl,?_⟩))))));walk_at "s";refine zN P.ok rfl ?_
 cases e:codes kd rgT with
 | true=>
   rw[show codes kd [114,105,110,103] =true from e];refine v5 (aC.mpr (lA.mpr (dO (aM (w:=.ref p) rfl ⟨p,_,rfl,g,rfl,aH.mpr (aM (w:=.int (i:Int)) rfl (aH.mpr (aM (w:=.int (j:Int)) rfl (bR.mpr (ae9 (d:=d+1) (n:=n+1) P e lj ?_)))))⟩))));walk_at "s"
   exact q
 | false=>
   rw[show codes kd [114,105,110,103] =false from e];refine lO (cW.mpr (aP (aC.mpr (lA.mpr (dO (aM (w:=.ref p) rfl ⟨p,_,rfl,g,rfl,aH.mpr (aM (w:=.int (i:Int)) rfl (aH.mpr (aM (w:=.int (j:Int)) rfl (bR.mpr (ae_ (d:=d+2) (n:=n+2) P e ?_)))))⟩))))));walk_at "s";exact q
end
def eG(s:Nat->iG):Nat->Int->Option (Nat × Bool)
 | 0,_=>none
 | j+1,x=>if(s j).2.1=x then some (j,false) else if(s j).1=x then some (j,true) else eG s j x
def t_(b:Bool):List Nat:=if b then fiT else seT
def ql(h:Hs)(f:Nat)(kvs:List (W × W))(F:Int->Option (Nat × Bool)):Prop:=∀ x,match F x with
 | none=>bL kvs (.int x)=none
 | some (j,b)=>∃ q,bL kvs (.int x)=some (.ref q)/\q<h.n/\q ≠ f/\h.get q=some (.tup [.int (j:Int),.str (t_ b)])
def ql.to{h h':Hs}{f:Nat}{kvs:List (W × W)}{F:Int->Option (Nat × Bool)}(x:ql h f kvs F)(n:h.n<=h'.n)(e:∀ k,k<h.n->k ≠ f->h'.get k=h.get k):ql h' f kvs F:=fun y=>by
 have z:=x y
 cases hF:F y with
 | none=>rw[hF]at z;exact z
 | some jb=>
   rw[hF]at z;obtain⟨q,a,b,c,g⟩:=z;exact⟨q,a,by omega,c,(e q b c).trans g⟩
def ql.put{h:Hs}{f:Nat}{kvs:List (W × W)}{F:Int->Option (Nat × Bool)}(x:ql h f kvs F){q j:Nat}{b:Bool}{k:Int}(lq:q<h.n)(nq:q ≠ f)(g:h.get q=some (.tup [.int (j:Int),.str (t_ b)])):ql h f (cJ kvs (.int k) (.ref q)) fun y=>if k=y then some (j,b) else F y:=fun y=>by
 show match (if k=y then some (j,b) else F y) with | none=>_ | some (j,b)=>_
 by_cases e:k=y
 · rw[aB e];exact⟨q,by rw[yR rfl,aB (by rw[e])],lq,nq,g⟩
 · rw[aA e];have ne:W.int k ≠ .int y:=fun z=>e (by cases z;rfl);have z:=x y
   cases hF:F y with
   | none=>rw[hF]at z;show bL _ _=none;rw[yR rfl,aA ne];exact z
   | some jb=>
     rw[hF]at z;obtain⟨q',a,b,c,g⟩:=z;exact⟨q',by rw[yR rfl,aA ne];exact a,b,c,g⟩
section
variable{d n p t:Nat}{h:Hs}{Q:W->Hs->Prop}{kd:List Nat}{tr:List iG}
def Vp{i:Nat}(P:cR h p kd t tr)(li:(i:Int)<cH kd t)(q:∀ f kvs h',Ext h h'->f<h'.n->h'.get f=some (.dk kvs)->ql h' f kvs (eG (bY kd t tr i) t)->Q (.ref f) h'):wC 0 [.ref p,.int (i:Int)] (bu Pg (d+5)) (n+30) h Q:=by
 refine(dI rfl rfl).mpr ?_;unfold Hl;have t9:=P.t9;refine aC.mpr (dH.mpr (cz.mpr (bR.mpr (Xj ?_))));have P1:=P.ext (Ext.push (o:=.dk []));obtain⟨pt,ws,g,_⟩:=P1.g;refine aP (aC.mpr (yM (uf (qK (aM (w:=.ref p) rfl ⟨p,_,_,rfl,g,rfl,?_⟩)))));refine⟨t,rfl,by omega,by omega,sW 0 t,fun j τ h2=>∃ u3 u4 u5 kvs,τ= [some (.ref p),some (.int (i:Int)),some (.ref h.n),u3,u4,u5]/\Ext h h2/\h.n<h2.n/\h2.get h.n=some (.dk kvs)/\ql h2 h.n kvs (eG (bY kd t tr i) j)/\kvs.length<=2*j,fun _ _ _ _=>rz,by rw[bC];omega,⟨none,none,none,[],rfl,.push,bV,aY,fun x=>rfl,by simp⟩,?_,?_⟩
 · rintro j w τ h2 m ej lm ⟨u3,u4,u5,kvs,rfl,x2,l2,g2,hs,lk⟩;have lj:j<t:=by have:=(bB ej).1;rw[bC]at this;exact this
   rw[m6 lj]at ej;cases ej;rw[show(0:Int)+Int.ofNat j=(j:Int) by show 0+(j:Int)=(j:Int);omega];rw[bC]at lm;obtain⟨m,rfl⟩:∃ m',m=m'+4:=⟨m - 4,by omega⟩;have P2:=P.ext x2;obtain⟨pt2,ws2,gg2,_⟩:=P2.g;refine⟨[some (.ref p),some (.int (i:Int)),some (.ref h.n),some (.int (j:Int)),u4,u5],rfl,?_⟩;refine aC.mpr (DW (Xh (dO (aM (w:=.ref p) rfl ⟨p,_,rfl,gg2,rfl,aH.mpr (aM (w:=.int (i:Int)) rfl (aH.mpr (aM (w:=.int (j:Int)) rfl (bR.mpr (XJ (d:=d) (n:=m) P2 li lj ?_)))))⟩))));generalize hs':bY kd t tr i j=s;refine ue.mpr ⟨h2.n,[.int s.1,.int s.2.1,.int s.2.2],2,rfl,rfl,Nat.lt_succ_self 2,aY,?_⟩;refine⟨_,.int s.1,.int s.2.1,rfl,aY,?_⟩;have x3:Ext h2 ((h2.push (O3 s)).push (.tup (List.take 2 [W.int s.1,.int s.2.1,.int s.2.2]))):=Ext.push.trans .push;have g3:=x3.get l2 g2;have l3:=a_ l2 x3.1;have hs3:=hs.to x3.1 fun k l _=>x3.2 k l;generalize (h2.push (O3 s)).push (.tup (List.take 2 [W.int s.1,.int s.2.1,.int s.2.2]))=h3 at *;refine aP (aC.mpr (Jw ?_));walk_at "s";refine⟨h.n,kvs,rfl,Ext.push.get l3 g3,rfl,by omega,?_⟩
   have hs4:ql ((h3.push (.tup [.int (j:Int),.str [102,105,114,115,116]])).set h.n (.dk (cJ kvs (.int s.1) (.ref h3.n)))) h.n (cJ kvs (.int s.1) (.ref h3.n)) fun y=>if s.1=y then some (j,true) else eG (bY kd t tr i) j y:=
    ql.to (h:=h3.push (.tup [.int (j:Int),.str [102,105,114,115,116]])) ((hs3.to Ext.push.1 fun k l _=>Ext.push.2 k l).put bV (by omega) aY) (by rw[Hs.gZ];exact aG _) fun k l n=>by rw[Hs.get_set,aA n]
   have x4:Ext h ((h3.push (.tup [.int (j:Int),.str [102,105,114,115,116]])).set h.n (.dk (cJ kvs (.int s.1) (.ref h3.n)))):=((x2.trans x3).trans .push).set (aG _);have l4:h.n<((h3.push (.tup [.int (j:Int),.str [102,105,114,115,116]])).set h.n (.dk (cJ kvs (.int s.1) (.ref h3.n)))).n:=by rw[Hs.gZ,Hs.mF];omega
   have g4:((h3.push (.tup [.int (j:Int),.str [102,105,114,115,116]])).set h.n (.dk (cJ kvs (.int s.1) (.ref h3.n)))).get h.n=some (.dk (cJ kvs (.int s.1) (.ref h3.n))):=by rw[Hs.get_set,aB rfl]
   have lk4:=Ck kvs (.int s.1) (.ref h3.n);generalize (h3.push (.tup [.int (j:Int),.str [102,105,114,115,116]])).set h.n (.dk (cJ kvs (.int s.1) (.ref h3.n)))=h4 at *;generalize cJ kvs (.int s.1) (.ref h3.n)=kv4 at *;refine aP (aC.mpr (Jw ?_));walk_at "s";refine⟨h.n,kv4,rfl,Ext.push.get l4 g4,rfl,by omega,?_⟩
   have hs5:ql ((h4.push (.tup [.int (j:Int),.str [115,101,99,111,110,100]])).set h.n (.dk (cJ kv4 (.int s.2.1) (.ref h4.n)))) h.n (cJ kv4 (.int s.2.1) (.ref h4.n)) fun y=>if s.2.1=y then some (j,false) else if s.1=y then some (j,true) else eG (bY kd t tr i) j y:=
    ql.to (h:=h4.push (.tup [.int (j:Int),.str [115,101,99,111,110,100]])) ((hs4.to Ext.push.1 fun k l _=>Ext.push.2 k l).put bV (by omega) aY) (by rw[Hs.gZ];exact aG _) fun k l n=>by rw[Hs.get_set,aA n]
   refine aP (cW.mpr (uY ⟨_,_,_,_,rfl,(x4.trans .push).set (aG _),by rw[Hs.gZ,Hs.mF];omega,by rw[Hs.get_set,aB rfl],?_,by have:=Ck kv4 (.int s.2.1) (.ref h4.n);omega⟩));have e:eG (bY kd t tr i) (j+1)=fun y=>if s.2.1=y then some (j,false) else if s.1=y then some (j,true) else eG (bY kd t tr i) j y:=by funext y;rw[eG,hs']
   rw[e];exact hs5
 · rintro τ h2 ⟨u3,u4,u5,kvs,rfl,x2,l2,g2,hs,lk⟩;walk_at "s";rw[bC]at hs;exact q h.n kvs h2 x2 l2 g2 hs
abbrev Meet:=Nat × Bool × Int × Int
def Nt(s:Nat->iG)(jb:Nat × Bool):Meet:=(jb.1,jb.2,if jb.2 then(s jb.1).2.1 else(s jb.1).1,(s jb.1).2.2)
abbrev D4(m:Meet):D:=.tup [.int (m.1:Int),.str (t_ m.2.1),.int m.2.2.1,.int m.2.2.2]
def QF{s:Nat->iG}{x:Int}{jb:Nat × Bool}:∀ {t:Nat},eG s t x=some jb->jb.1<t
 | 0,e=>by cases e
 | t+1,e=>by
   unfold eG at e
   split at e
   · cases e;exact Nat.lt_succ_self _
   · split at e
     · cases e;exact Nat.lt_succ_self _
     · have:=QF e;omega
def XM{i:Nat}{x:Int}{jb:Nat × Bool}(P:cR h p kd t tr)(li:(i:Int)<cH kd t)(hw:eG (bY kd t tr i) t x=some jb)(q:∀ f h',Ext h h'->h.n<=f->f<h'.n->h'.get f=some (.tup [.int (jb.1:Int),.str (t_ jb.2),.int (Nt (bY kd t tr i) jb).2.2.1,.int (Nt (bY kd t tr i) jb).2.2.2])->Q (.ref f) h'):wC 1 [.ref p,.int (i:Int),.int x] (bu Pg (d+6)) (n+40) h Q:=by
 refine(dI rfl rfl).mpr ?_;unfold K9;refine aC.mpr (DW (cz.mpr (aH.mpr (nR.mpr ?_))));walk_at "s";refine Vp (d:=d) (n:=n+9) P li fun f kvs h1 x1 l1 g1 hs=>?_;walk_at "s";have z:=hs x;rw[hw]at z;obtain⟨qq,e1,lq,nq,gq⟩:=z;refine PL g1 rfl e1 ⟨qq,_,_,rfl,gq,?_⟩;have P1:=P.ext x1;obtain⟨pt,ws,g,_⟩:=P1.g;refine aP (aC.mpr (Py (dO (aM (w:=.ref p) rfl ⟨p,_,rfl,g,rfl,aH.mpr (aM (w:=.int (i:Int)) rfl (aH.mpr (aM (w:=.int (jb.1:Int)) rfl (bR.mpr (XJ (d:=d+1) (n:=n+35) P1 li (QF hw) ?_)))))⟩))));refine⟨h1.n,_,_,_,rfl,aY,?_⟩;unfold Nt at q;generalize bY kd t tr i jb.1=s at q;obtain⟨j,b⟩:=jb;refine aP (aC.mpr (dH.mpr (G9.mpr ?_)));walk_at "s"
 cases b with
 | true=>
   refine zN rfl rfl (v5 ?_);walk_at "s"
   exact q _ _ (x1.trans (Ext.push.trans .push)) (Nat.le_trans x1.1 Ext.push.1) bV aY
 | false=>
   refine zN rfl rfl (lO ?_);walk_at "s";exact q _ _ (x1.trans (Ext.push.trans .push)) (Nat.le_trans x1.1 Ext.push.1) bV aY
def jr(S:Nat->Nat->iG)(t:Nat)(x:Int)(m:Nat):List Meet:=(List.range m).map fun i=>match eG (S i) t x with
 | some jb=>Nt (S i) jb
 | none=>(0,true,0,0)
def JR{x:Int}{m:Nat}(P:cR h p kd t tr)(em:cH kd t=m)(lm:m<=20)(x0:0<=x)(x1:x<2*(t:Int))(hw:∀ i,i<m->(eG (bY kd t tr i) t x).isSome=true)(q:∀ f us h',Ext h h'->h.n<=f->f<h'.n->h'.get f=some (.lst us)->Rds h' (fun k=>h.n<=k) ((jr (bY kd t tr) t x m).map D4) us->Q (.ref f) h'):wC 2 [.ref p,.int x] (bu Pg (d+7)) (n+80) h Q:=by
 refine(dI rfl rfl).mpr ?_;unfold Sq;obtain⟨pt,ws,g,_⟩:=P.g;refine aC.mpr (jh.mpr (dO (aM (w:=.ref p) rfl ⟨p,_,rfl,g,rfl,aH.mpr (aM (w:=.int x) rfl (bR.mpr (t8 (d:=d+4) (n:=n+77) P x0 x1 ?_)))⟩)));refine aP (aC.mpr (lA.mpr (comp_map (uf (dO (aM (w:=.ref p) rfl ⟨p,_,rfl,g,rfl,bR.mpr (wU (d:=d+4) (n:=n+77) P ?_)⟩))))));rw[em];refine⟨m,rfl,by omega,by omega,.refl,sW 0 m,(jr (bY kd t tr) t x m).map D4,fun _=>False,fun _ _=>rz,fun _ z=>z.elim,by rw[bC];simp[jr],by rw[bC];omega,by rw[bC];omega,?_,?_⟩
 · intro i w d' h2 k ei ed lk x2 l2;have li:i<m:=by have:=(bB ei).1;rw[bC]at this;exact this
   rw[m6 li]at ei;cases ei;rw[show(0:Int)+Int.ofNat i=(i:Int) by show 0+(i:Int)=(i:Int);omega];rw[bC]at lk;obtain⟨k,rfl⟩:∃ k',k=k'+40:=⟨k - 40,by omega⟩;unfold jr at ed;rw[eN,eN,List.getElem?_range li]at ed;simp only[Option.map_some,Option.some.injEq]at ed
   cases hF:eG (bY kd t tr i) t x with
   | none=>have:=hw i li;rw[hF]at this;cases this
   | some jb=>
     rw[hF]at ed;subst ed;refine⟨[some (.int (i:Int)),some (.ref p),some (.int x)],rfl,?_⟩;walk_at "s";refine XM (d:=d) (n:=k) (P.ext x2) (by rw[em];omega) hF fun f h3 x3 lo3 l3 g3=>⟨x3,?_⟩
     exact QC l3 (.inr lo3) g3 (by
      unfold Rds;refine⟨_,_,rfl,yN,?_⟩;unfold Rds;refine⟨_,_,rfl,v8,?_⟩;unfold Rds;refine⟨_,_,rfl,yN,?_⟩
      exact JQ yN)
 · intro h3 x3 r3;obtain⟨f,us,e,lf,_,gf,rf⟩:=FQ.mp r3;cases e;walk_at "s";exact q h.n us h3 x3 (aG _) lf gf (rf.imp fun k _ a=>a.elim (fun z=>z.elim) id)
end
abbrev DR(r:List iG):D:=.lst (r.map D3)
def afa{h:Hs}{τ:Sg}{i j l k:Nat}{a b c:W}(e:h.get k=some (.tup [a,b,c])):bw h 9 (.tup [.nm i,.nm j,.nm l]) (.ref k) τ=some (setAt (setAt (setAt τ (some a) i) (some b) j) (some c) l):=by
 show Option.rec (motive:=fun _=>Option Sg) none (fun o=>O.rec (motive:=fun _=>Option Sg) (fun xs=>bindL (bw h 8) [.nm i,.nm j,.nm l] xs τ) (fun _=>none) (fun _ _=>none) (fun _=>none) (fun _=>none) (fun _=>none) o) (h.get k)=_;rw[e];rfl
section
variable{d n:Nat}{h:Hs}{Q:W->Hs->Prop}
def Q_{z:Int}{m:Nat}(lm:m<=12)(q:∀(f:Nat) (ts:List Nat) (h':Hs),Ext h h'->h.n<=f->f<h'.n->h'.get f=some (.lst ((ts.map Int.ofNat).map W.int))->(∀ x ∈ ts,x<m)->ts.Pairwise (· < ·)->Q (.ref f) h'):wC 32 [.int z,.int (m:Int)] (bu Pg (d+1)) (n+60) h Q:=by
 refine(dI rfl rfl).mpr ?_;unfold wN;walk_at "s";refine yM (uf ?_);walk_at "s";refine⟨m,rfl,by omega,by omega,sW 0 m,fun i τ h2=>∃(z':Int) (u:Option W) (ts:List Nat),τ= [some (.int z'),some (.int (m:Int)),some (.ref h.n),u]/\Ext h h2/\h.n<h2.n/\h2.get h.n=some (.lst ((ts.map Int.ofNat).map W.int))/\ts.length<=i/\(∀ x ∈ ts,x<i)/\ts.Pairwise (· < ·),fun _ _ _ _=>rz,by rw[bC];omega,⟨z,none,[],rfl,.push,bV,aY,by simp,by simp,.nil⟩,?_,?_⟩
 · rintro i w τ h2 k ei lk ⟨z',u,ts,rfl,x2,l2,g2,lts,hts,pw⟩;have li:i<m:=by have:=(bB ei).1;rw[bC]at this;exact this
   rw[m6 li]at ei;cases ei;rw[show(0:Int)+Int.ofNat i=Int.ofNat i by show 0+(i:Int)=(i:Int);omega];refine⟨[some (.int z'),some (.int (m:Int)),some (.ref h.n),some (.int (Int.ofNat i))],rfl,?_⟩;refine aC.mpr (h_.mpr ?_);walk_at "s"
   have tail:∀(ts:List Nat) (h3:Hs),Ext h h3->h.n<h3.n->h3.get h.n=some (.lst ((ts.map Int.ofNat).map W.int))->ts.length<=i+1->(∀ x ∈ ts,x<i+1)->ts.Pairwise (· < ·)->wS [.asg (.nm 0) (.pr .fdiv [(.var 0),(.cst (.int 2))])] (bu Pg d) k [some (.int z'),some (.int (m:Int)),some (.ref h.n),some (.int (Int.ofNat i))] h3 (lpQ (fun τ h2=>∃(z':Int) (u:Option W) (ts:List Nat),τ= [some (.int z'),some (.int (m:Int)),some (.ref h.n),u]/\Ext h h2/\h.n<h2.n/\h2.get h.n=some (.lst ((ts.map Int.ofNat).map W.int))/\ts.length<=i+1/\(∀ x ∈ ts,x<i+1)/\ts.Pairwise (· < ·)) fun f h=>Nb [.ret (.var 2)] (bu Pg d) (n+59) h (Uw Q) f):=fun ts h3 x3 l3 g3 lt3 a b=>by
    walk_at "s";refine Xd (by decide) (by decide) ?_;walk_at "s";exact⟨_,_,ts,rfl,x3,l3,g3,lt3,a,b⟩
   refine Cg (fun _=>?_) fun _=>?_
   · refine aC.mpr (jh.mpr (Pk (aM (w:=.ref h.n) rfl ⟨h.n,_,rfl,g2,?_⟩)));walk_at "s";refine⟨_,g2,by rw[bK,bK];omega,aP (cW.mpr (aP (tail (ts ++ [i]) _ (x2.set (aG _)) (by rw[Hs.gZ];exact l2) (by rw[Hs.get_set,aB rfl,List.map_append,List.map_append];rfl) (by simp;omega) (fun x hx=>?_) ?_)))⟩
     · rcases List.mem_append.mp hx with y | y
       · have:=hts x y;omega
       · rw[List.mem_singleton.mp y];omega
     · exact List.pairwise_append.mpr ⟨pw,by simp,fun a ha b hb=>by rw[List.mem_singleton.mp hb];exact hts a ha⟩
   · exact cW.mpr (aP (tail ts h2 x2 l2 g2 (by omega) (fun x hx=>by have:=hts x hx;omega) pw))
 · rintro τ h2 ⟨z',u,ts,rfl,x2,l2,g2,_,hts,pw⟩;walk_at "s";rw[bC]at hts;exact q h.n ts h2 x2 (aG _) l2 g2 hts pw
end
abbrev Lnk:=Nat × Nat × Bool
abbrev DL(l:Lnk):D:=.tup [.int (l.1:Int),.int (l.2.1:Int),.bl l.2.2]
def uI(G:List Meet):Nat->Int->Option (Nat × Bool)
 | 0,_=>none
 | j+1,nb=>match G[j]? with
   | some m=>if m.2.2.2=nb then some (j,m.2.1) else uI G j nb
   | none=>uI G j nb
def uc(F:Int->Option (Nat × Bool))(y:Int)(j:Nat)(m:Meet):List Lnk:=match F m.2.2.2 with
 | some (a,b)=>if m.2.2.1=y then [] else [(j,a,m.2.1==b)]
 | none=>[]
def su(G:List Meet)(F:Int->Option (Nat × Bool))(y:Int):Nat->List Lnk
 | 0=>[]
 | j+1=>su G F y j++match G[j]? with
   | some m=>uc F y j m
   | none=>[]
def XN(F:Int->Option (Nat × Bool))(y:Int)(j:Nat)(m:Meet):(uc F y j m).length<=1:=by
 unfold uc
 split
 · split <;> simp
 · simp
def xO(G:List Meet)(F:Int->Option (Nat × Bool))(y:Int):∀ j,(su G F y j).length<=j
 | 0=>aG _
 | j+1=>by
   unfold su;have:=xO G F y j;rw[ji]
   split
   · rename_i m _;have:=XN F y j m;omega
   · simp;omega
def aay{h:Hs}{τ:Sg}{k:Nat}{x a b c e:W}(lk:k<h.n)(z:h.get k=some (.tup [a,b,c,e])):bw (h.push (.tup [x,.ref k])) 9 (.tup [.nm 4,.tup [.nm 5,.nm 6,.nm 7,.nm 8]]) (.ref h.n) τ=some (setAt (setAt (setAt (setAt (setAt τ (some x) 4) (some a) 5) (some b) 6) (some c) 7) (some e) 8):=by
 have z2:=(Ext.push (o:=.tup [x,.ref k])).get lk z;have z1:(h.push (.tup [x,.ref k])).get h.n=some (.tup [x,.ref k]):=aY;generalize h.push (.tup [x,.ref k])=g at *;show Option.rec (motive:=fun _=>Option Sg) none (fun o'=>O.rec (motive:=fun _=>Option Sg) (fun xs=>bindL (bw g 8) [.nm 4,.tup [.nm 5,.nm 6,.nm 7,.nm 8]] xs τ) (fun _=>none) (fun _ _=>none) (fun _=>none) (fun _=>none) (fun _=>none) o') (g.get h.n)=_;rw[z1];show Option.rec (motive:=fun _=>Option Sg) none (fun τ'=>bindL (bw g 8) [] [] τ') (Option.rec (motive:=fun _=>Option Sg) none (fun o'=>O.rec (motive:=fun _=>Option Sg) (fun xs=>bindL (bw g 7) [.nm 5,.nm 6,.nm 7,.nm 8] xs (setAt τ (some x) 4)) (fun _=>none) (fun _ _=>none) (fun _=>none) (fun _=>none) (fun _=>none) o') (g.get k))=_;rw[z2];rfl
def ad4{h:Hs}{A:Nat->Prop}{m:Meet}{w:W}(r:Ev.Rd h A (D4 m) w):∃ p,w= .ref p/\p<h.n/\A p/\h.get p=some (.tup [.int (m.1:Int),.str (t_ m.2.1),.int m.2.2.1,.int m.2.2.2]):=by
 simp only[D4,Ev.Rd,Rds]at r;obtain⟨p,ws,rfl,l,a,g,_,_,rfl,rfl,_,_,rfl,rfl,_,_,rfl,rfl,_,_,rfl,rfl,rfl⟩:=r;exact⟨p,rfl,l,a,g⟩
def abE(a b:Bool):codes (t_ a) (t_ b)=(a==b):=by cases a <;> cases b <;> rfl
def SQ(a:Bool):okC (t_ a)=true:=by cases a <;> rfl
section
variable{d n pg:Nat}{h:Hs}{Q:W->Hs->Prop}{A B:Nat->Prop}
def SX{x y:Int}{p1 p2:Nat}{G1 G2:List Meet}{ws1 ws2:List W}(hx:∀(h':Hs) (Q':W->Hs->Prop),Ext h h'->Q' (.ref p1) h'->wP .ixd [.ref pg,.int x] h' Q')(hy:∀(h':Hs) (Q':W->Hs->Prop),Ext h h'->Q' (.ref p2) h'->wP .ixd [.ref pg,.int y] h' Q')
    (l1:p1<h.n) (g1:h.get p1=some (.lst ws1)) (r1:Rds h A (G1.map D4) ws1) (l2:p2<h.n) (g2:h.get p2=some (.lst ws2)) (r2:Rds h B (G2.map D4) ws2) (m1:G1.length<=20) (m2:G2.length<=20)
    (q:∀(f:Nat) (us:List W) (h':Hs),Ext h h'->f<h'.n->h'.get f=some (.lst us)->Rds h' (fun k=>h.n<=k/\k ≠ f) ((su G1 (uI G2 G2.length) y G1.length).map DL) us->h.n<=f->Q (.ref f) h'):wC 4 [.ref pg,.int x,.int y] (bu Pg (d+1)) (n+60) h Q:=by
 refine(dI rfl rfl).mpr ?_;unfold Ss;have w1:ws1.length=G1.length:=by rw[r1.length,bK]
 have w2:ws2.length=G2.length:=by rw[r2.length,bK]
 refine aC.mpr (dH.mpr (cz.mpr (bR.mpr (Xj ?_))));refine aP (aC.mpr (R5 (cz.mpr (aH.mpr (aM (w:=.ref pg) rfl (aH.mpr (aM (w:=.int y) rfl (bR.mpr (hy _ _ .push ?_)))))))));refine⟨p2,ws2,fun j τ h2=>∃ u4 u5 u6 u7 u8 kvs,τ= [some (.ref pg),some (.int x),some (.int y),some (.ref h.n),u4,u5,u6,u7,u8,none,none,none]/\Ext h h2/\h.n<h2.n/\h2.get h.n=some (.dk kvs)/\ql h2 h.n kvs (uI G2 j)/\kvs.length<=j,rfl,Ext.push.get l2 g2,fun _ _ _ ⟨_,_,_,_,_,_,_,e,_⟩=>e.get l2 g2,by omega,⟨none,none,none,none,none,[],rfl,.push,bV,aY,fun x=>rfl,aG _⟩,?_,?_⟩
 · rintro j w τ h2 m ej lm ⟨u4,u5,u6,u7,u8,kvs,rfl,x2,n2,gk,hs,lk⟩;obtain⟨dd,ed,rd⟩:=Rds.at r2 ej;rw[eN]at ed;obtain⟨mt,em,rfl⟩:=Option.map_eq_some_iff.mp ed;have lj2:j<G2.length:=(bB em).1;obtain⟨c,rfl,lc,_,gc⟩:=ad4 rd;refine⟨_,aay (a_ lc x2.1) (x2.get lc gc),?_⟩;have x3:Ext h2 (h2.push (.tup [.int (Int.ofNat j),.ref c])):=.push;have gk3:=x3.get n2 gk;have n3:=a_ n2 x3.1;have hs3:=hs.to x3.1 fun k l _=>x3.2 k l;generalize h2.push (.tup [.int (Int.ofNat j),.ref c])=h3 at *;refine aC.mpr (Jw ?_);walk_at "s";refine⟨h.n,kvs,rfl,Ext.push.get n3 gk3,rfl,by omega,?_⟩
   have hs4:ql ((h3.push (.tup [.int (Int.ofNat j),.str (t_ mt.2.1)])).set h.n (.dk (cJ kvs (.int mt.2.2.2) (.ref h3.n)))) h.n (cJ kvs (.int mt.2.2.2) (.ref h3.n)) fun z=>if mt.2.2.2=z then some (j,mt.2.1) else uI G2 j z:=
    ql.to (h:=h3.push (.tup [.int (Int.ofNat j),.str (t_ mt.2.1)])) ((hs3.to Ext.push.1 fun k l _=>Ext.push.2 k l).put bV (by omega) aY) (by rw[Hs.gZ];exact aG _) fun k l n=>by rw[Hs.get_set,aA n]
   refine aP (cW.mpr (uY ⟨_,_,_,_,_,_,rfl,((x2.trans x3).trans .push).set (aG _),by rw[Hs.gZ,Hs.mF];omega,by rw[Hs.get_set,aB rfl],?_,by have:=Ck kvs (.int mt.2.2.2) (.ref h3.n);omega⟩));have e:uI G2 (j+1)=fun z=>if mt.2.2.2=z then some (j,mt.2.1) else uI G2 j z:=by funext z;rw[uI,em]
   rw[e];exact hs4
 · rintro τ h2 ⟨u4,u5,u6,u7,u8,kvs,rfl,x2,n2,gk,hs,lk⟩;rw[w2]at hs;generalize uI G2 G2.length=F at hs q;refine aP (aC.mpr (dH.mpr (cz.mpr (bR.mpr (aap (by simp) ?_)))));have x3:Ext h2 (h2.push (.lst [])):=.push;have gk3:=x3.get n2 gk;have n3:=a_ n2 x3.1;have hs3:=hs.to x3.1 fun k l _=>x3.2 k l;have gf3:(h2.push (.lst [])).get h2.n=some (.lst []):=aY;have lf3:h2.n<(h2.push (.lst [])).n:=bV;have x03:=x2.trans x3;have lo:h.n<h2.n:=n2;generalize h2.n=f at *;generalize h2.push (.lst [])=h3 at *;refine aP (aC.mpr (R5 (cz.mpr (aH.mpr (aM (w:=.ref pg) rfl (aH.mpr (aM (w:=.int x) rfl (bR.mpr (hx _ _ x03 ?_)))))))));refine⟨p1,ws1,fun j τ h4=>∃ u4 u5 u6 u7 u8 u10 u11 us,τ= [some (.ref pg),some (.int x),some (.int y),some (.ref h.n),u4,u5,u6,u7,u8,some (.ref f),u10,u11]/\Ext h h4/\h.n<h4.n/\h4.get h.n=some (.dk kvs)/\ql h4 h.n kvs F/\v7 f h3 h4/\f<h4.n/\h4.get f=some (.lst us)/\Rds h4 (fun k=>h.n<=k/\k ≠ f) ((su G1 F y j).map DL) us,rfl,x03.get l1 g1,fun _ _ _ ⟨_,_,_,_,_,_,_,_,_,e,_⟩=>e.get l1 g1,by omega,⟨_,_,_,_,_,_,_,[],rfl,x03,n3,gk3,hs3,.refl,lf3,gf3,SN⟩,?_,?_⟩
   · rintro j w τ h4 m ej lm ⟨u4,u5,u6,u7,u8,u10,u11,us,rfl,x4,n4,gk4,hs4,y4,lf4,gf4,r4⟩;obtain⟨dd,ed,rd⟩:=Rds.at r1 ej;rw[eN]at ed;obtain⟨mt,em,rfl⟩:=Option.map_eq_some_iff.mp ed;obtain⟨c,rfl,lc,_,gc⟩:=ad4 rd;refine⟨_,aay (a_ lc x4.1) (x4.get lc gc),?_⟩;have x5:Ext h4 (h4.push (.tup [.int (Int.ofNat j),.ref c])):=.push;have gk5:=x5.get n4 gk4;have n5:=a_ n4 x5.1;have hs5:=hs4.to x5.1 fun k l _=>x5.2 k l;have gf5:=x5.get lf4 gf4;have lf5:=a_ lf4 x5.1;have r5:=r4.ext x5;have y5:=y4.trans x5.D;have x05:=x4.trans x5;generalize h4.push (.tup [.int (Int.ofNat j),.ref c])=h5 at *;have esn:su G1 F y (j+1)=su G1 F y j++uc F y j mt:=by rw[su,em]
     have lu:=r5.length;have ll:=xO G1 F y j;have lj:j<G1.length:=(bB em).1;rw[bK]at lu;refine aC.mpr (h_.mpr (vZ.mpr ?_));walk_at "s";refine ae2 gk5 rfl ?_;have z:=hs5 mt.2.2.2
     cases hF:F mt.2.2.2 with
     | none=>
       rw[hF]at z;have el:uc F y j mt= []:=by unfold uc;rw[hF]
       rw[show bL kvs (.int mt.2.2.2)=none from z];refine lO (lO (cW.mpr (aP (cW.mpr (uY ⟨_,_,_,_,_,_,_,us,rfl,x05,n5,gk5,hs5,y5,lf5,gf5,?_⟩)))))
       rw[esn,el,List.append_nil];exact r5
     | some ab=>
       obtain⟨a,b⟩:=ab;rw[hF]at z;obtain⟨qq,e1,lq,nq,gq⟩:=z;rw[e1];refine v5 ?_;walk_at "s"
       by_cases ey:mt.2.2.1=y
       · have el:uc F y j mt= []:=by unfold uc;rw[hF];exact aB ey
         rw[bH ey];refine Ni (cW.mpr (aP (cW.mpr (uY ⟨_,_,_,_,_,_,_,us,rfl,x05,n5,gk5,hs5,y5,lf5,gf5,?_⟩))));rw[esn,el,List.append_nil];exact r5
       · have el:uc F y j mt= [(j,a,mt.2.1==b)]:=by unfold uc;rw[hF];exact aA ey
         rw[bM ey];refine Nj (aC.mpr (DW ?_));walk_at "s";refine PL gk5 rfl e1 ⟨qq,_,_,rfl,gq,?_⟩;refine aP (aC.mpr (jh.mpr (Pk (aM (w:=.ref f) rfl ⟨f,us,rfl,gf5,?_⟩))));walk_at "s";refine zN (SQ _) (SQ _) ?_;rw[abE];walk_at "s";refine⟨us,Ext.push.get lf5 gf5,by omega,aP (cW.mpr (aP (cW.mpr (uY ?_))))⟩;have nf:f ≠ h.n:=by omega
         refine⟨_,_,_,_,_,_,_,_,rfl,(x05.trans .push).set (by omega),by rw[Hs.gZ,Hs.mF];omega,by rw[Hs.get_set,aA (fun z=>nf z.symm)];exact Ext.push.get n5 gk5,?_,(y5.trans Ext.push.D).set,by rw[Hs.gZ,Hs.mF];omega,by rw[Hs.get_set,aB rfl],?_⟩
         · intro z;have zz:=hs5 z
           cases hz:F z with
           | none=>rw[hz]at zz;exact zz
           | some jb=>
             rw[hz]at zz;obtain⟨q',e2,lq',nq',gq'⟩:=zz;have q'f:q' ≠ f:=fun w=>by rw[w,gf5]at gq';cases gq'
             exact⟨q',e2,by rw[Hs.gZ,Hs.mF];omega,nq',by rw[Hs.get_set,aA q'f];exact Ext.push.get lq' gq'⟩
         · rw[esn,el,List.map_append]
           have z1:Rds (h5.push (.tup [.int (Int.ofNat j),.int (a:Int),.bl (mt.2.1==b)])) (fun k=>h.n<=k/\k ≠ f) ((su G1 F y j).map DL ++ [DL (j,a,mt.2.1==b)]) (us ++ [.ref h5.n]):=(r5.ext .push).snoc (QC bV ⟨by omega,by omega⟩ aY (by
            unfold Rds;refine⟨_,_,rfl,yN,?_⟩;unfold Rds;refine⟨_,_,rfl,yN,?_⟩
            exact JQ (by simp only[Ev.Rd])))
           exact Rds.to (by rw[Hs.gZ];exact aG _) (fun k _ a=>⟨by rw[Hs.get_set,aA a.2],a⟩) _ _ z1
   · rintro τ h4 ⟨u4,u5,u6,u7,u8,u10,u11,us,rfl,x4,n4,gk4,hs4,y4,lf4,gf4,r4⟩;walk_at "s";rw[w1]at r4;exact q f us h4 x4 lf4 gf4 r4 (Nat.le_of_lt lo)
end
def yZ(L:List Lnk)(T:List Int):Nat:=(L.filter fun l=>l.2.2==(decide ((l.1:Int) ∈ T)==decide ((l.2.1:Int) ∈ T))).length
def af3{h:Hs}{A:Nat->Prop}{m:Lnk}{w:W}(r:Ev.Rd h A (DL m) w):∃ p,w= .ref p/\p<h.n/\A p/\h.get p=some (.tup [.int (m.1:Int),.int (m.2.1:Int),.bl m.2.2]):=by
 simp only[DL,Ev.Rd,Rds]at r;obtain⟨p,ws,rfl,l,a,g,_,_,rfl,rfl,_,_,rfl,rfl,_,_,rfl,rfl,rfl⟩:=r;exact⟨p,rfl,l,a,g⟩
def aaz{h:Hs}{Q:W->Hs->Prop}{a b:Bool}(z:Q (.bl (a==b)) h):wP .eq [.bl a,.bl b] h Q:=by
 refine aao (d:=.bl a) (d':=.bl b) (A:=fun _=>True) (B:=fun _=>True) (by simp only[Ev.Rd]) (by simp only[Ev.Rd]) (by simp[j7]) (by simp[j7]) rfl rfl ?_;rw[show dY (.bl a) (.bl b)=(a==b) by simp only[dY]];exact z
section
variable{d n:Nat}{h:Hs}{Q:W->Hs->Prop}{A:Nat->Prop}
def S5{pl pt:Nat}{L:List Lnk}{us:List W}{T:List Int}(ll:pl<h.n)(gl:h.get pl=some (.lst us))(r:Rds h A (L.map DL) us)(lt:pt<h.n)(gt:h.get pt=some (.lst (T.map W.int)))(lL:L.length<=20)
    (q:∀ h',Ext h h'->Q (.int (yZ L T:Nat)) h'):wC 5 [.ref pl,.ref pt] (bu Pg (d+1)) (n+60) h Q:=by
 refine(dI rfl rfl).mpr ?_;unfold Su;have ul:us.length=L.length:=by rw[r.length,bK]
 refine aC.mpr (lA.mpr (cz.mpr (aH.mpr (abt (DP (aM (w:=.ref pl) rfl ?_))))));refine⟨pl,us,rfl,.inl ⟨gl,.refl,us,L.map fun l=>(l.2.2==(decide ((l.1:Int) ∈ T)==decide ((l.2.1:Int) ∈ T)),D.bl l.2.2),fun h2 x2=>Js gl ll x2,by rw[bK,ul],by omega,by omega,?_,?_⟩⟩
 · intro i w b dd h2 k ei ed lk x2 l2;obtain⟨d1,e1,rd1⟩:=Rds.at r ei;rw[eN]at e1 ed;obtain⟨l,el,rfl⟩:=Option.map_eq_some_iff.mp e1;rw[el]at ed;simp only[Option.map_some,Option.some.injEq,Prod.mk.injEq]at ed;obtain⟨rfl,rfl⟩:=ed;obtain⟨c,rfl,lc,_,gc⟩:=af3 rd1;refine⟨_,afa (x2.get lc gc),?_⟩;walk_at "s";refine adF (x2.get lt gt) ?_;walk_at "s";refine adF (x2.get lt gt) ?_;walk_at "s";refine aaz ?_;walk_at "s";refine aaz ⟨rfl,.refl,fun _=>?_⟩;walk_at "s";exact⟨.refl,by simp only[Ev.Rd]⟩
 · intro vs h3 x3 l3 g3 r3;walk_at "s";refine xu g3 ?_;walk_at "s"
   have lv:vs.length=yZ L T:=by
    rw[r3.length,bK,List.filter_map,bK];rfl
   rw[lv];exact q _ x3
def Vq:∀(l acc:List Int),len (dd l acc)<=l.length+acc.length
 | [],acc=>by show len acc<=_;rw[len_eq];omega
 | x::l,acc=>by
   show len (dd l (ifB (xY x acc) acc (app acc [x])))<=_
   cases xY x acc with
   | true=>have:=Vq l acc;show len (dd l acc)<=_;rw[gG];omega
   | false=>have:=Vq l (app acc [x]);rw[jM]at this;show len (dd l (app acc [x]))<=_;rw[jM,gG];simp at this;omega
variable{p t:Nat}{kd:List Nat}{tr:List iG}
def Ar{pt m:Nat}{T:List Int}(P:cR h p kd t tr)(em:cH kd t=m)(lt:pt<h.n)(gt:h.get pt=some (.lst (T.map W.int)))(hT:∀ x ∈ T,0<=x/\x<(m:Int))(nd:len (dd T [])=T.length)(lT:T.length<=20)
    (q:Q .non h):wC 3 [.ref p,.ref pt] (bu Pg (d+4)) (n+40) h Q:=by
 refine(dI rfl rfl).mpr ?_;unfold uD;obtain⟨ptr,ws,g,_⟩:=P.g;refine aC.mpr (yM (DP (aM (w:=.ref pt) rfl ?_)));refine⟨pt,_,rfl,.inl ⟨gt,T.map W.int,fun i τ h2=>∃ u,τ= [some (.ref p),some (.ref pt),u]/\h2=h,fun i τ h2 ⟨_,_,e⟩=>.inl ⟨pt,rfl,by rw[e];exact gt⟩,by rw[bK];omega,⟨_,rfl,rfl⟩,?_,?_⟩⟩
 · rintro i w τ h2 k ei lk ⟨u,rfl,rfl⟩;rw[eN]at ei;obtain⟨x,ex,rfl⟩:=Option.map_eq_some_iff.mp ei;have hx:=hT x (ju ex);rw[bK]at lk;obtain⟨k,rfl⟩:∃ k',k=k'+3:=⟨k - 3,by omega⟩;refine⟨[some (.ref p),some (.ref pt),some (.int x)],rfl,?_⟩;refine aC.mpr (jh.mpr (dO (aM (w:=.ref p) rfl ⟨p,_,rfl,g,rfl,aH.mpr (aM (w:=.int x) rfl (bR.mpr (wV (d:=d) (n:=k) P hx.1 (by rw[em];exact hx.2) ?_)))⟩)));exact aP (cW.mpr (uY ⟨_,rfl,rfl⟩))
 · rintro τ h2 ⟨u,rfl,rfl⟩;refine aP (aC.mpr (h_.mpr ?_));walk_at "s";refine FT gt (by omega) ?_;walk_at "s";refine xu gt ?_;rw[nd,bK];walk_at "s";rw[bH rfl];walk_at "s";exact q
def Dj(S:Nat->Nat->iG)(t m:Nat)(x y:Int):List Lnk:=su (jr S t x m) (uI (jr S t y m) m) y m
def ZJ{pt m x y:Nat}{T:List Int}(P:cR h p kd t tr)(em:cH kd t=m)(lm:m<=20)(lx:x<2*t)(ly:y<2*t)(ne:x ≠ y)(hx:∀ i,i<m->(eG (bY kd t tr i) t (x:Int)).isSome=true)(hy:∀ i,i<m->(eG (bY kd t tr i) t (y:Int)).isSome=true)(lt:pt<h.n)(gt:h.get pt=some (.lst (T.map W.int)))(hT:∀ x ∈ T,0<=x/\x<(m:Int))(nd:len (dd T [])=T.length)(lT:T.length<=20)
    (q:∀ f h',Ext h h'->f<h'.n->h'.get f=some (.tup [.int (yZ (Dj (bY kd t tr) t m x y) T:Nat),.int (((Dj (bY kd t tr) t m x y).length:Int) - (yZ (Dj (bY kd t tr) t m x y) T:Nat))])->Q (.ref f) h'):wC 7 [.ref p,.ref pt,.int (x:Int),.int (y:Int)] (bu Pg (d+8)) (n+120) h Q:=by
 refine(dI rfl rfl).mpr ?_;unfold Gb;obtain⟨ptr,ws,g,_⟩:=P.g;refine aC.mpr (jh.mpr (dO (aM (w:=.ref p) rfl ⟨p,_,rfl,g,rfl,aH.mpr (aM (w:=.int (x:Int)) rfl (bR.mpr (t8 (d:=d+5) (n:=n+117) P (by omega) (by omega) ?_)))⟩)));refine aP (aC.mpr (jh.mpr (dO (aM (w:=.ref p) rfl ⟨p,_,rfl,g,rfl,aH.mpr (aM (w:=.int (y:Int)) rfl (bR.mpr (t8 (d:=d+5) (n:=n+117) P (by omega) (by omega) ?_)))⟩))));refine aP (aC.mpr (h_.mpr ?_));walk_at "s";refine zL (bM (by omega)) (cW.mpr (aP (aC.mpr (jh.mpr (nR.mpr ?_)))));walk_at "s";refine Ar (d:=d+3) (n:=n+79) P em lt gt hT nd lT ?_;refine aP (aC.mpr (dH.mpr (nR.mpr (aH.mpr (abz ?_)))));show wA [.var 2,.call 2 [.var 0,.var 2],.var 3,.call 2 [.var 0,.var 3]] _ _ _ _ _;have x1:Ext h (h.push (.dk [])):=.push;have g1:(h.push (.dk [])).get h.n=some (.dk []):=aY;have l1:h.n<(h.push (.dk [])).n:=bV;generalize h.push (.dk [])=h1 at *;walk_at "s";refine JR (d:=d) (n:=n+39) (P.ext x1) em lm (by omega) (by omega) hx fun f1 us1 h2 x2 lo2 lf2 gf2 r2=>?_;walk_at "s";refine JR (d:=d) (n:=n+39) (P.ext (x1.trans x2)) em lm (by omega) (by omega) hy fun f2 us2 h3 x3 lo3 lf3 gf3 r3=>?_;walk_at "s";refine⟨[(.int (x:Int),.ref f1),(.int (y:Int),.ref f2)],rfl,(x2.trans x3).get l1 g1,by simp,?_⟩;unfold Dj at q;have lG:∀ z,(jr (bY kd t tr) t z m).length=m:=fun z=>by simp[jr]
 have lG1:=lG (x:Int);have lG2:=lG (y:Int);generalize jr (bY kd t tr) t (x:Int) m=G1 at r2 q lG1;generalize jr (bY kd t tr) t (y:Int) m=G2 at r3 q lG2;have gk:(h3.set h.n (.dk (jU [(.int (x:Int),.ref f1),(.int (y:Int),.ref f2)] []))).get h.n=some (.dk (cJ (cJ [] (.int (x:Int)) (.ref f1)) (.int (y:Int)) (.ref f2))):=by rw[Hs.get_set,aB rfl];rfl
 have ge:∀ k,k ≠ h.n->(h3.set h.n (.dk (jU [(.int (x:Int),.ref f1),(.int (y:Int),.ref f2)] []))).get k=h3.get k:=fun k n=>by rw[Hs.get_set,aA n]
 have x4:Ext h (h3.set h.n (.dk (jU [(.int (x:Int),.ref f1),(.int (y:Int),.ref f2)] []))):=(x1.trans (x2.trans x3)).set (aG _);have n4:(h3.set h.n (.dk (jU [(.int (x:Int),.ref f1),(.int (y:Int),.ref f2)] []))).n=h3.n:=Hs.gZ ..;have l13:=a_ l1 (x2.trans x3).1;have gf1:=x3.get lf2 gf2;have lf1:=a_ lf2 x3.1;have agp:h.n<f1:=by omega
 have agq:h.n<f2:=by have:=x2.1;omega
 have r2':Rds (h3.set h.n (.dk (jU [(.int (x:Int),.ref f1),(.int (y:Int),.ref f2)] []))) (fun k=>h1.n<=k) (G1.map D4) us1:=Rds.to (by omega) (fun k _ a=>⟨ge k (by omega),a⟩) _ _ (r2.ext x3);have r3':Rds (h3.set h.n (.dk (jU [(.int (x:Int),.ref f1),(.int (y:Int),.ref f2)] []))) (fun k=>h2.n<=k) (G2.map D4) us2:=Rds.to (by omega) (fun k _ a=>⟨ge k (by have:=x2.1;omega),a⟩) _ _ r3;have af4:(h3.set h.n (.dk (jU [(.int (x:Int),.ref f1),(.int (y:Int),.ref f2)] []))).get f1=some (.lst us1):=(ge f1 (by omega)).trans gf1;have af5:(h3.set h.n (.dk (jU [(.int (x:Int),.ref f1),(.int (y:Int),.ref f2)] []))).get f2=some (.lst us2):=(ge f2 (by omega)).trans gf3;generalize h3.set h.n (.dk (jU [(.int (x:Int),.ref f1),(.int (y:Int),.ref f2)] []))=h4 at *
 have kx:bL (cJ (cJ [] (.int (x:Int)) (.ref f1)) (.int (y:Int)) (.ref f2)) (.int (x:Int))=some (.ref f1):=by
  rw[yR rfl,aA (fun z=>ne (by injection z with z;omega)),yR rfl,aB rfl]
 have ky:bL (cJ (cJ [] (.int (x:Int)) (.ref f1)) (.int (y:Int)) (.ref f2)) (.int (y:Int))=some (.ref f2):=by
  rw[yR rfl,aB rfl]
 walk_at "s";refine SX (d:=d+6) (n:=n+59) (x:=(x:Int)) (y:=(y:Int)) (G1:=G1) (G2:=G2) (fun h' Q' e z=>Xm (e.get (by omega) gk) rfl kx z) (fun h' Q' e z=>Xm (e.get (by omega) gk) rfl ky z) (by omega) af4 r2' (by omega) af5 r3' (by omega) (by omega) fun fl ul h5 x5 lfl gfl rl _=>?_;rw[lG1,lG2]at rl;have lL:=xO G1 (uI G2 m) (y:Int) m;generalize su G1 (uI G2 m) (y:Int) m=L at rl q lL;refine aP (aC.mpr (dH.mpr (nR.mpr ?_)));walk_at "s";refine S5 (d:=d+6) (n:=n+59) lfl gfl rl (a_ lt (x4.trans x5).1) ((x4.trans x5).get lt gt) (by omega) fun h6 x6=>?_;walk_at "s";refine xu (x6.get lfl gfl) ?_;rw[rl.length,bK];walk_at "s";exact q _ _ (x4.trans (x5.trans (x6.trans .push))) bV aY
end
def prX{α:Type}(G:Nat->Nat->α)(y:Nat)(acc:List α):Nat->List α
 | 0=>acc
 | x+1=>prX G y acc x ++ [G x y]
def prY{α:Type}(G:Nat->Nat->α):Nat->List α
 | 0=>[]
 | y+1=>prX G y (prY G y) y
def JS{α:Type}(G:Nat->Nat->α)(y:Nat)(acc:List α):∀ x,(prX G y acc x).length=acc.length+x
 | 0=>rfl
 | x+1=>by unfold prX;rw[ji,JS G y acc x];rfl
def JT{α:Type}(G:Nat->Nat->α):∀ y,(prY G y).length<=y*y
 | 0=>aG _
 | y+1=>by unfold prY;rw[JS,Nat.succ_mul,Nat.mul_succ];have:=JT G y;omega
def S6{α:Type}{G:Nat->Nat->α}{p:α->Prop}{y:Nat}{acc:List α}(za:∀ a ∈ acc,p a):∀ x,(∀ i,i<x->p (G i y))->∀ a ∈ prX G y acc x,p a
 | 0,_=>za
 | x+1,z=>fun a m=>by
   unfold prX at m
   rcases List.mem_append.mp m with m | m
   · exact S6 za x (fun i l=>z i (by omega)) a m
   · rw[List.mem_singleton.mp m];exact z x (by omega)
def S7{α:Type}{G:Nat->Nat->α}{p:α->Prop}:∀ y,(∀ i j,i<j->j<y->p (G i j))->∀ a ∈ prY G y,p a
 | 0,_=>fun a m=>by cases m
 | y+1,z=>S6 (S7 y fun i j l m=>z i j l (by omega)) y fun i l=>z i y l (by omega)
def S8{α β:Type}(f:α->β)(G:Nat->Nat->α)(y:Nat)(acc:List α):∀ x,(prX G y acc x).map f=prX (fun x y=>f (G x y)) y (acc.map f) x
 | 0=>rfl
 | x+1=>by unfold prX;rw[List.map_append,S8 f G y acc x];rfl
def JV{α β:Type}(f:α->β)(G:Nat->Nat->α):∀ y,(prY G y).map f=prY (fun x y=>f (G x y)) y
 | 0=>rfl
 | y+1=>by unfold prY;rw[S8,JV f G y]
def XQ{K:Ks}{n:Nat}{τ:Sg}{h:Hs}{nt:Nat}{idx:List Nat}{a e:X}{Q:W->Hs->Prop}(G:Nat->Nat->D)(P:Nat)(lP:P<=100)(ln:2*P+2<=n)
    (x:wX a K n τ h fun w h1=>w= .int (P:Int)/\Ext h h1/\(∀ i j h2 m,i<j->j<P->n<=m+2*P->Ext h1 h2->h1.n<h2.n->wX e K m (setAt (setAt (ir nt idx τ) (some (.int (j:Int))) 0) (some (.int (i:Int))) 1) h2 fun w h3=>Ext h2 h3/\Ev.Rd h3 (fun p=>h2.n<=p) (G i j) w)/\
      ∀ h3 us,Ext h1 h3->h1.n<h3.n->h3.get h1.n=some (.lst us)->Rds h3 (fun p=>h1.n<=p) (prY G P) us->Q (.ref h1.n) h3) (g0:∀ w,cU (setAt (ir nt idx τ) (some w) 0) 0=some w):wX (.comp nt idx (.j6 [a]) (.nm 0) none (some (.mk (.j6 [.var 0]) (.nm 1) none)) e) K n τ h Q:=by
 show okQ (((I.j6 [a]).f K n τ h).bind fun r h=>r.toV fun v=>(fU v (.nm 0) none (some (.mk (.j6 [.var 0]) (.nm 1) none)) e h.n K n 0 (ir nt idx τ) (h.push (.lst []))).nox.bind fun _ h'=>.ok (.w (.ref h.n)) h') (aW Q)
 have y:wI (.j6 [a]) K n τ h fun v h1=>v= .rng 0 P/\Ext h h1/\(∀ i j h2 m,i<j->j<P->n<=m+2*P->Ext h1 h2->h1.n<h2.n->wX e K m (setAt (setAt (ir nt idx τ) (some (.int (j:Int))) 0) (some (.int (i:Int))) 1) h2 fun w h3=>Ext h2 h3/\Ev.Rd h3 (fun p=>h2.n<=p) (G i j) w)/\
  ∀ h3 us,Ext h1 h3->h1.n<h3.n->h3.get h1.n=some (.lst us)->Rds h3 (fun p=>h1.n<=p) (prY G P) us->Q (.ref h1.n) h3:=uf (vz x fun w h1 ⟨e,z⟩=>⟨P,e,by omega,by omega,rfl,z⟩)
 unfold wI at y;generalize (I.j6 [a]).f K n τ h=r at y
 cases r with
 | ok a h1=>cases a with
   | iv v=>
     obtain⟨rfl,x1,turn,fin⟩:=y
     have z:=Xf (K:=K) (τ:=ir nt idx τ) (n:=n) (v:=.rng 0 P) (t:=.nm 0) (g:=.j6 [.var 0]) (t2:=.nm 1) (e:=e) (D:=h1.n) (it:=(sW 0 P).map fun w h=>(w,h)) (Q:=fun a h=>a= .u/\Q (.ref h1.n) h) (fun i h2=>Ext h1 h2/\h1.n<h2.n/\∃ us,h2.get h1.n=some (.lst us)/\Rds h2 (fun p=>p ≠ h1.n/\h1.n<=p) (prY G i) us) (fun i h2 j=>rz.two)
      (fun j f h2 m ei lm ⟨j1,j2,us,j3,j4⟩=>by
        rw[bK,bC]at lm;have lj:j<P:=by have:=(bB ei).1;rw[bK,bC]at this;exact this
        rw[eN,m6 lj]at ei;cases ei;refine⟨setAt (ir nt idx τ) (some (.int (j:Int))) 0,by rw[show((0:Int)+Int.ofNat j)=(j:Int) by show 0+(j:Int)=j;omega];rfl,uf (aM (g0 _) ⟨j,rfl,by omega,by omega,?_⟩)⟩;rw[show((j:Nat):Int).toNat=j from rfl];have lu:=j4.length;have ly:=JT G j;have lyy:j*j<=100*100:=Nat.mul_le_mul (by omega) (by omega);refine Nf (n:=m) (ws:=sW 0 j) us.length (fun k acc h4=>Ext h1 h4/\h1.n<h4.n/\h4.get h1.n=some (.lst acc)/\Rds h4 (fun p=>p ≠ h1.n/\h1.n<=p) (prX G j (prY G j) k) acc) ?_ (by rw[bC];omega) ?_ ?_ j 0 m us h2 (by rw[bC];omega) (by omega) (by omega) ⟨j1,j2,j3,j4⟩
        · rintro k acc h4 ⟨q1,q2,q3,q4⟩;exact⟨rz,q3,by rw[q4.length,JS];omega⟩
        · rintro k w acc h4 m2 ek lm2 ⟨q1,q2,q3,q4⟩;have lk:k<j:=by have:=(bB ek).1;rw[bC]at this;exact this
          rw[m6 lk,show((0:Int)+Int.ofNat k)=(k:Int) by show 0+(k:Int)=k;omega]at ek;cases ek;rw[bC]at lm2;refine⟨_,rfl,vz (turn k j h4 m2 lk lj (by omega) q1 q2) fun w' h5 ⟨x5,r5⟩=>?_⟩;refine⟨x5.get q2 q3,(q1.trans x5).set (aG _),by rw[Hs.gZ];exact a_ q2 x5.1,by rw[Hs.get_set,aB rfl],?_⟩;exact Rds.to (by rw[Hs.gZ];exact aG _) (fun k _ a=>⟨by rw[Hs.get_set,aA a.1],a⟩) _ _ ((q4.ext x5).snoc (r5.imp fun p _ l=>⟨by omega,by omega⟩))
        · rintro acc h4 ⟨q1,q2,q3,q4⟩;rw[bC]at q4
          exact⟨q1,q2,acc,q3,q4⟩)
      (fun h2 j=>⟨rfl,by obtain⟨a,b,us,c,d⟩:=j;rw[bK,bC]at d;exact fin h2 us a b c (d.imp fun _ _ z=>z.2)⟩) P 0 n (h1.push (.lst [])) (by rw[bK,bC];omega) (by omega) (by omega) ⟨.push,bV,[],aY,SN⟩
     show okQ ((fU (.rng 0 P) (.nm 0) none (some (.mk (.j6 [.var 0]) (.nm 1) none)) e h1.n K n 0 (ir nt idx τ) (h1.push (.lst []))).nox.bind fun _ h'=>.ok (.w (.ref h1.n)) h') (aW Q);generalize fU (.rng 0 P) (.nm 0) none (some (.mk (.j6 [.var 0]) (.nm 1) none)) e h1.n K n 0 (ir nt idx τ) (h1.push (.lst []))=r at z
     cases r with
     | ok a h'=>exact z.2
     | _=>exact z.elim
   | _=>exact y.elim
 | _=>exact y.elim
abbrev DLs(L:List Lnk):D:=.lst (L.map DL)
def HJ(T:List Int)(L:List Lnk):Int:=2*(yZ L T:Nat) - (L.length:Int)
def QG(L:List Lnk)(T:List Int):yZ L T<=L.length:=List.length_filter_le _ _
section
variable{d n:Nat}{h:Hs}{Q:W->Hs->Prop}{A:Nat->Prop}
def ad5{pl pt:Nat}{L:List Lnk}{us:List W}{T:List Int}(ll:pl<h.n)(gl:h.get pl=some (.lst us))(r:Rds h A (L.map DL) us)(lt:pt<h.n)(gt:h.get pt=some (.lst (T.map W.int)))(lL:L.length<=20)
    (q:∀ h',Ext h h'->Q (.int (HJ T L)) h'):wC 6 [.ref pl,.ref pt] (bu Pg (d+2)) (n+61) h Q:=by
 refine(dI rfl rfl).mpr ?_;unfold Xp;walk_at "s";refine S5 (d:=d) (n:=n) ll gl r lt gt lL fun h1 x1=>?_;have:=QG L T;walk_at "s";refine xu (x1.get ll gl) ?_;rw[r.length,bK];walk_at "s";exact q _ x1
def ZK{pl pt:Nat}{LL:List (List Lnk)}{us:List W}{T:List Int}(ll:pl<h.n)(gl:h.get pl=some (.lst us))(r:Rds h A (LL.map DLs) us)(lt:pt<h.n)(gt:h.get pt=some (.lst (T.map W.int)))(lL:∀ L ∈ LL,L.length<=20)(l2:LL.length<=400)
    (q:∀ h',Ext h h'->Q (.int (LL.map fun L=>HJ T L ^ 2).sum) h'):wC 9 [.ref pl,.ref pt] (bu Pg (d+3)) (n+500) h Q:=by
 refine(dI rfl rfl).mpr ?_;unfold Qe;have ul:us.length=LL.length:=by rw[r.length,bK]
 walk_at "s";refine comp_map (DP ?_);walk_at "s";refine⟨pl,us,rfl,.inl ⟨gl,.refl,us,(LL.map fun L=>HJ T L ^ 2).map D.int,fun _=>False,fun h2 x2=>Js gl ll x2,fun _ z=>z.elim,by simp[ul],by omega,by omega,?_,?_⟩⟩
 · intro i w d' h2 m ei ed lm x2 l2;obtain⟨d1,e1,rd1⟩:=Rds.at r ei;rw[eN]at e1;obtain⟨L,eL,rfl⟩:=Option.map_eq_some_iff.mp e1;rw[eN,eN,eL]at ed;cases ed;obtain⟨c,cs,rfl,lc,_,gc,rc⟩:=FQ.mp rd1;have l20:=lL L (ju eL);refine⟨_,rfl,?_⟩;walk_at "s";obtain⟨m,rfl⟩:∃ k,m=k+61:=⟨m - 61,by omega⟩;refine ad5 (a_ lc x2.1) (x2.get lc gc) (rc.ext x2) (a_ lt x2.1) (x2.get lt gt) l20 fun h3 x3=>?_;have:=QG L T;walk_at "s";refine adW (by unfold HJ;omega) (by decide) ⟨x3,yN⟩
 · intro h3 x3 r3;obtain⟨p3,e3,l3,_,g3⟩:=yL.mp r3;cases e3;refine aeU g3 ?_;walk_at "s";exact q h3 x3
variable{p t:Nat}{kd:List Nat}{tr:List iG}
def Ra{m:Nat}(P:cR h p kd t tr)(em:cH kd t=m)(lm:m<=20)(hw:∀ x,x<2*t->∀ i,i<m->(eG (bY kd t tr i) t (x:Int)).isSome=true)
    (q:∀ f us h',Ext h h'->f<h'.n->h'.get f=some (.lst us)->Rds h' (fun k=>h.n<=k) ((prY (fun x y=>Dj (bY kd t tr) t m x y) (2*t)).map DLs) us->Q (.ref f) h'):wC 8 [.ref p] (bu Pg (d+8)) (n+200) h Q:=by
 refine(dI rfl rfl).mpr ?_;unfold Ex;obtain⟨pt,ws,g,_⟩:=P.g;have t9:=P.t9;refine aC.mpr (dH.mpr (comp_map (uf (dO (aM (w:=.ref p) rfl ⟨p,_,rfl,g,rfl,bR.mpr (Ed (d:=d+6) (n:=n+198) P ?_)⟩)))));refine⟨2*(t:Int),rfl,by omega,by omega,.refl,sW 0 (2*t),(List.range (2*t)).map fun(x:Nat)=>D.lst ((jr (bY kd t tr) t (x:Int) m).map D4),fun _=>False,fun _ _=>by rw[show(2*(t:Int)).toNat=2*t by omega];exact rz,fun _ z=>z.elim,by rw[bC];simp,by rw[bC];omega,by rw[bC];omega,?_,?_⟩
 · intro i w d' h2 k ei ed lk x2 l2;have li:i<2*t:=by have:=(bB ei).1;rw[bC]at this;exact this
   rw[m6 li]at ei;cases ei;rw[show(0:Int)+Int.ofNat i=(i:Int) by show 0+(i:Int)=(i:Int);omega];rw[bC]at lk;obtain⟨k,rfl⟩:∃ k',k=k'+80:=⟨k - 80,by omega⟩;rw[eN,List.getElem?_range li]at ed;cases ed;refine⟨[some (.int (i:Int)),some (.ref p)],rfl,?_⟩;walk_at "s";exact JR (d:=d) (n:=k) (P.ext x2) em lm (by omega) (by omega) (hw i li) fun f us h3 x3 lo3 l3 g3 r3=>⟨x3,FQ.mpr ⟨f,us,rfl,l3,.inr lo3,g3,r3.imp fun _ _ z=>.inr z⟩⟩
 · intro h1 x1 r1;obtain⟨pg,gs,e,lg,_,gg,rg⟩:=FQ.mp r1;cases e;have P1:=P.ext x1;obtain⟨pt1,ws1,g1,_⟩:=P1.g;have lx:h.n<h1.n:=lg;refine aP (aC.mpr (lA.mpr (XQ (fun x y=>DLs (Dj (bY kd t tr) t m x y)) (2*t) (by omega) (by omega) (dO (aM (w:=.ref p) rfl ⟨p,_,rfl,g1,rfl,bR.mpr (Ed (d:=d+6) (n:=n+198) P1 ?_)⟩)) fun w=>rfl)));refine⟨by rw[show((2*t:Nat):Int)=2*(t:Int) by omega],.refl,?_,?_⟩
   · intro i j h2 k lij lj lk x2 l2;obtain⟨k,rfl⟩:∃ k',k=k'+60:=⟨k - 60,by omega⟩
     have gd:∀ {z:Nat},z<2*t->∃ pz wz,gs[z]? =some (.ref pz)/\pz<h1.n/\h1.get pz=some (.lst wz)/\Rds h1 (fun p=>False\/h.n<=p) ((jr (bY kd t tr) t (z:Int) m).map D4) wz:=fun {z} lz=>by
      obtain⟨w,ew,rw'⟩:=Rds.get rg (show((List.range (2*t)).map fun(x:Nat)=>D.lst ((jr (bY kd t tr) t (x:Int) m).map D4))[z]? =some (.lst ((jr (bY kd t tr) t (z:Int) m).map D4)) by rw[eN,List.getElem?_range lz];rfl);obtain⟨pz,wz,rfl,l,_,g,r⟩:=FQ.mp rw';exact⟨pz,wz,ew,l,g,r⟩
     obtain⟨p1,w1,e1,l1,k1,r1⟩:=gd (show i<2*t by omega);obtain⟨p2,w2,e2,l2',k2,r2⟩:=gd lj;have lG:∀ z,(jr (bY kd t tr) t z m).length=m:=fun z=>by simp[jr]
     show wX _ _ _ [some (.int (j:Int)),some (.int (i:Int)),some (.ref h.n)] _ _;walk_at "s";refine SX (d:=d+6) (n:=k) (fun h' Q' e z=>Xl ((x2.trans e).get lx gg) (by omega) (by exact e1) z) (fun h' Q' e z=>Xl ((x2.trans e).get lx gg) (by omega) (by exact e2) z) (a_ l1 x2.1) (x2.get l1 k1) (r1.ext x2) (a_ l2' x2.1) (x2.get l2' k2) (r2.ext x2) (by rw[lG];exact lm) (by rw[lG];exact lm) fun f us h3 x3 lf gf rf lo=>⟨x3,?_⟩;rw[lG,lG]at rf;exact FQ.mpr ⟨f,us,rfl,lf,lo,gf,rf.imp fun _ _ z=>z.1⟩
   · intro h3 us x3 l3 g3 r3;walk_at "s";refine q h1.n us h3 (x1.trans x3) l3 g3 ?_;rw[JV];exact r3.imp fun _ _ z=>Nat.le_trans x1.1 z
def QH{pt m:Nat}{T:List Int}(P:cR h p kd t tr)(em:cH kd t=m)(lm:m<=20)(hw:∀ x,x<2*t->∀ i,i<m->(eG (bY kd t tr i) t (x:Int)).isSome=true)(lt:pt<h.n)(gt:h.get pt=some (.lst (T.map W.int)))(hT:∀ x ∈ T,0<=x/\x<(m:Int))(nd:len (dd T [])=T.length)(lT:T.length<=20)
    (q:∀ h',Ext h h'->Q (.int (prY (fun x y=>HJ T (Dj (bY kd t tr) t m x y) ^ 2) (2*t)).sum) h'):wC 10 [.ref p,.ref pt] (bu Pg (d+9)) (n+600) h Q:=by
 refine(dI rfl rfl).mpr ?_;unfold wL;have t9:=P.t9;walk_at "s";refine Ar (d:=d+4) (n:=n+559) P em lt gt hT nd lT ?_;walk_at "s";refine Ra (d:=d) (n:=n+399) P em lm hw fun f us h1 x1 lf gf rf=>?_;walk_at "s";refine ZK (d:=d+5) (n:=n+99) lf gf rf (a_ lt x1.1) (x1.get lt gt) (fun L mL=>?_) ?_ fun h2 x2=>?_
 · exact S7 (G:=fun x y=>Dj (bY kd t tr) t m x y) (p:=fun L=>L.length<=20) _ (fun i j _ _=>Nat.le_trans (xO ..) lm) L mL
 · exact Nat.le_trans (JT ..) (Nat.le_trans (Nat.mul_le_mul (show 2*t<=18 by omega) (show 2*t<=18 by omega)) (by decide))
 · walk_at "s";rw[JV];exact q h2 (x1.trans x2)
end
section
variable{d n:Nat}{h:Hs}{Q:W->Hs->Prop}
def Vr{k mo:Int}(k0:0<=k)(m0:0<=mo)(m1:mo<=1000)(q:∀ z h',Ext h h'->(z<0\/mo<=z)->Q (.int z) h'):wC 31 [.int k,.int mo] (bu Pg (d+1)) (n+1) h Q:=by
 refine(dI rfl rfl).mpr ?_;unfold Am;walk_at "s";refine aaq (by decide) (by decide) ?_;walk_at "s";refine aaq (by decide) (by decide) ?_;walk_at "s";have e5:(k % 5).toNat<5:=by omega
 refine DN aY (by omega) (yO (l:=[-1,mo,mo+1,10 ^ (40:Int).toNat,-(10 ^ (40:Int).toNat)]) e5) ?_;walk_at "s";refine q _ _ .push ?_;have big:(1000:Int)<=10 ^ (40:Int).toNat:=by decide
 generalize (10:Int) ^ (40:Int).toNat=B at big;generalize (k % 5).toNat=j at e5
 match j,e5 with
 | 0,_=>exact .inl (by show(-1:Int)<0;decide)
 | 1,_=>exact .inr (by show mo<=mo;omega)
 | 2,_=>exact .inr (by show mo<=mo+1;omega)
 | 3,_=>exact .inr (by show mo<=B;omega)
 | 4,_=>exact .inl (by show -B<0;omega)
end
def npT:List Nat:=[110,111,32,112,97,105,114]
def nrT:List Nat:=[110,111,32,114,111,117,110,100]
def ttT:List Nat:=[116,111,108,100,32,116,119,105,99,101]
def tmT:List Nat:=[116,111,111,32,109,97,110,121]
abbrev Rf:=Option (Nat × List Nat)
def inM(m:Nat)(x:Int):Bool:=decide (0<=x)&&decide (x<(m:Int))
def sE(m:Nat)(T:List Int):Rf:=if T.all (inM m) then(if len (dd T [])<T.length then some (5,ttT) else none) else some (2,nrT)
def Ae(t m:Nat)(T:List Int)(x y:Int):Rf:=if inM (2*t) x&&inM (2*t) y then(if x=y then some (5,ttT) else sE m T) else some (4,npT)
def in_of{m:Nat}{x:Int}:inM m x=true ↔ 0<=x/\x<(m:Int):=by unfold inM;simp
def aaA{m:Nat}{x:Int}(e:inM m x=false):x<0\/(m:Int)<=x:=by
 by_cases z:0<=x/\x<(m:Int)
 · rw[in_of.mpr z]at e;cases e
 · omega
def Lb{p:Int->Bool}:∀ {T:List Int},T.all p=false->∃ k x,T[k]? =some x/\p x=false/\∀(j:Nat) y,j<k->T[j]? =some y->p y=true
 | [],e=>by cases e
 | x::T,e=>by
   cases ex:p x with
   | false=>exact⟨0,x,rfl,ex,fun j y l=>aK l (by omega)⟩
   | true=>
     rw[List.all_cons,ex,Bool.true_and]at e;obtain⟨k,z,a,b,c⟩:=Lb e
     exact⟨k+1,z,a,b,fun j y l ej=>by
      cases j with
      | zero=>cases ej;exact ex
      | succ j=>exact c j y (by omega) ej⟩
def aaB{K:Ks}{n:Nat}{v:Iv}{t:Tg}{b:List S}{ws:List W}{C:Nat}{fs:Fs}{h':Hs}{k:Nat}(lk:k<ws.length)(J:Nat->Sg->Hs->Prop)(its:∀ i τ h,J i τ h->Its v ws h)
    (turn:∀ i w τ h m,i<k->ws[i]? =some w->n<=m+ws.length->J i τ h->∃ τ1,bw h 9 t w τ=some τ1/\wS b K m τ1 h fun f h=>∃ τ',f= .nx τ'/\J (i+1) τ' h)
    (bad:∀ w τ h m,ws[k]? =some w->n<=m+ws.length->J k τ h->∃ τ1,bw h 9 t w τ=some τ1/\c7 b K m τ1 h= .ex C fs h'):
    ∀(j i m:Nat) (τ:Sg) (h:Hs),i+j=k->ws.length<m+i->n<=m+i->J i τ h->iU v t b K m i τ h= .ex C fs h'
 | j,i,0,τ,h,e,l,_,x=>aK l (by omega)
 | j,i,m+1,τ,h,e,l,l2,x=>by
   have u:iU v t b K (m+1) i τ h=v.next i h (.ok (.fl (.nx τ)) h) fun w h=>Opt (bw h 9 t w τ) fun τ=>(c7 b K m τ h).bind fun r h=>r.toF fun f=>lZ h f fun τ=>iU v t b K m (i+1) τ h:=rfl;have li:i<ws.length:=by omega
   rw[u,(its i τ h x).next,gY li]
   cases j with
   | zero=>
     rw[Nat.add_zero]at e;subst e;obtain⟨τ1,e1,z⟩:=bad ws[i] τ h m (gY li) (by omega) x;show(Opt (bw h 9 t ws[i] τ) fun τ=>(c7 b K m τ h).bind fun r h=>r.toF fun f=>lZ h f fun τ=>iU v t b K m (i+1) τ h)=_;rw[e1];show((c7 b K m τ1 h).bind fun r h=>r.toF fun f=>lZ h f fun τ=>iU v t b K m (i+1) τ h)=_
     rw[z];rfl
   | succ j=>
     obtain⟨τ1,e1,y⟩:=turn i ws[i] τ h m (by omega) (gY li) (by omega) x;show(Opt (bw h 9 t ws[i] τ) fun τ=>(c7 b K m τ h).bind fun r h=>r.toF fun f=>lZ h f fun τ=>iU v t b K m (i+1) τ h)=_;rw[e1];show((c7 b K m τ1 h).bind fun r h=>r.toF fun f=>lZ h f fun τ=>iU v t b K m (i+1) τ h)=_;obtain⟨f,h1,z,τ2,rfl,q⟩:=Ux y;rw[z];exact aaB lk J its turn bad j (i+1) m τ2 h1 (by omega) (by omega) (by omega) q
def ad6{K:Ks}{n:Nat}{τ:Sg}{h h':Hs}{i:I}{t:Tg}{b:List S}{C:Nat}{fs:Fs}(x:wI i K n τ h fun v h1=>iU v t b K n 0 τ h1= .ex C fs h'):(S.for_ i t b).f K n τ h= .ex C fs h':=by
 show((i.f K n τ h).bind fun r h=>r.toV fun v=>iU v t b K n 0 τ h)=_;unfold wI at x;generalize i.f K n τ h=r at x
 cases r with
 | ok a h1=>cases a with
   | iv v=>exact x
   | _=>exact x.elim
 | _=>exact x.elim
section
variable{d n p t:Nat}{h:Hs}{Q:W->Hs->Prop}{kd:List Nat}{tr:List iG}
def abF{i:Int}(P:cR h p kd t tr)(b:i<0\/2*(t:Int)<=i):b7 26 [.ref p,.int i] (bu Pg (d+2)) (n+2) h= .ex 4 [(gm,.str npT)] h:=by
 refine Jx rfl rfl ?_;unfold qg;obtain⟨pt,ws,g,_⟩:=P.g;refine rQ (Cm (tX.mpr ?_));walk_at "s";refine Cg (fun _=>⟨true,rfl,rfl⟩) fun e=>?_;refine cz.mpr (aH.mpr (aM (w:=.int i) rfl (aH.mpr (dO (aM (w:=.ref p) rfl ⟨p,_,rfl,g,rfl,bR.mpr (Ed P ?_)⟩)))));walk_at "s";exact⟨true,by rw[bH (show 2*(t:Int)<=i by omega)],rfl⟩
def ZL{i:Int}(P:cR h p kd t tr)(b:i<0\/cH kd t<=i):b7 24 [.ref p,.int i] (bu Pg (d+3)) (n+3) h= .ex 2 [(gm,.str nrT)] h:=by
 refine Jx rfl rfl ?_;unfold o8;obtain⟨pt,ws,g,_⟩:=P.g;refine rQ (Cm (tX.mpr ?_));walk_at "s";refine Cg (fun _=>⟨true,rfl,rfl⟩) fun e=>?_;refine cz.mpr (aH.mpr (aM (w:=.int i) rfl (aH.mpr (dO (aM (w:=.ref p) rfl ⟨p,_,rfl,g,rfl,bR.mpr (wU P ?_)⟩)))));walk_at "s";exact⟨true,by rw[bH (show cH kd t<=i by omega)],rfl⟩
variable{pt m C:Nat}{T:List Int}{w:List Nat}
def Ld(e:sE m T=none):(∀ x ∈ T,0<=x/\x<(m:Int))/\len (dd T [])=T.length:=by
 unfold sE at e
 split at e
 · rename_i a
   split at e
   · cases e
   · rename_i c;exact⟨fun x mx=>in_of.mp (List.all_eq_true.mp a x mx),by have:=Vq T [];simp at this;omega⟩
 · cases e
def Le(P:cR h p kd t tr)(em:cH kd t=m)(gt:h.get pt=some (.lst (T.map W.int)))(lT:T.length<=20)(e:sE m T=some (C,w)):b7 3 [.ref p,.ref pt] (bu Pg (d+4)) (n+40) h= .ex C [(gm,.str w)] h:=by
 refine Jx rfl rfl ?_;unfold uD;obtain⟨ptr,ws,g,_⟩:=P.g
 have turn:∀(i:Nat) (x:Int) (k:Nat) (u:Option W),3<=k->inM m x=true->wS [.expr (.meth 50 [110,101,101,100,95,114,111,117,110,100] 24 (.var 0) [(.var 2)])] (bu Pg (d+3)) k [some (.ref p),some (.ref pt),some (.int x)] h fun f h2=>f= .nx [some (.ref p),some (.ref pt),some (.int x)]/\h2=h:=fun i x k u lk hx=>by
  have hx:=in_of.mp hx;obtain⟨k,rfl⟩:∃ k',k=k'+3:=⟨k - 3,by omega⟩;refine aC.mpr (jh.mpr (dO (aM (w:=.ref p) rfl ⟨p,_,rfl,g,rfl,aH.mpr (aM (w:=.int x) rfl (bR.mpr (wV (d:=d) (n:=k) P hx.1 (by rw[em];exact hx.2) ?_)))⟩)));exact aP (cW.mpr ⟨rfl,rfl⟩)
 have its:∀(i:Nat) (τ:Sg) (h2:Hs),(∃ u,τ= [some (.ref p),some (.ref pt),u]/\h2=h)->Its (.lst pt) (T.map W.int) h2:=fun i τ h2 ⟨_,_,e⟩=>.inl ⟨pt,rfl,by rw[e];exact gt⟩;unfold sE at e
 split at e
 · rename_i al
   split at e
   · rename_i c;cases e;refine Nm (yM (DP (aM (w:=.ref pt) rfl ⟨pt,_,rfl,.inl ⟨gt,T.map W.int,fun i τ h2=>∃ u,τ= [some (.ref p),some (.ref pt),u]/\h2=h,its,by rw[bK];omega,⟨_,rfl,rfl⟩,?_,?_⟩⟩)))
     · rintro i w τ h2 k ei lk ⟨u,rfl,rfl⟩;rw[eN]at ei;obtain⟨x,ex,rfl⟩:=Option.map_eq_some_iff.mp ei;rw[bK]at lk;exact⟨[some (.ref p),some (.ref pt),some (.int x)],rfl,R0 (turn i x k u (by omega) (List.all_eq_true.mp al x (ju ex))) fun f h3 ⟨a,b⟩=>by rw[a];exact uY ⟨_,rfl,b⟩⟩
     · rintro τ h2 ⟨u,rfl,rfl⟩;refine⟨_,rfl,rQ (Cm ?_)⟩;walk_at "s";refine FT gt (by omega) ?_;walk_at "s";refine xu gt ?_;rw[bK];walk_at "s";exact⟨true,by rw[bM (by omega)];rfl,rfl⟩
   · cases e
 · rename_i al;cases e;obtain⟨k,x,ek,bx,gd⟩:=Lb (Bool.not_eq_true _ ▸ al);have lk:k<(T.map W.int).length:=by rw[bK];exact(bB ek).1
   have lm:=bK (f:=W.int) (as:=T);refine rQ (ad6 (DP (aM (w:=.ref pt) rfl ⟨pt,_,rfl,.inl ⟨gt,aaB (n:=n+39) lk (fun _ τ h2=>∃ u,τ= [some (.ref p),some (.ref pt),u]/\h2=h) its ?_ ?_ k 0 (n+39) _ h (by omega) (by omega) (by omega) ⟨_,rfl,rfl⟩⟩⟩)))
   · rintro i w τ h2 mm li ei lmm ⟨u,rfl,rfl⟩;rw[eN]at ei;obtain⟨x,ex,rfl⟩:=Option.map_eq_some_iff.mp ei;exact⟨[some (.ref p),some (.ref pt),some (.int x)],rfl,R0 (turn i x mm u (by omega) (gd i x li ex)) fun f h3 ⟨a,b⟩=>⟨_,a,_,rfl,b⟩⟩
   · rintro w τ h2 mm ei lmm ⟨u,rfl,rfl⟩;rw[eN,ek]at ei;cases ei;obtain⟨mm,rfl⟩:∃ k',mm=k'+3:=⟨mm - 3,by omega⟩;refine⟨[some (.ref p),some (.ref pt),some (.int x)],rfl,rQ (yS (R9 (aM (w:=.ref p) rfl ⟨p,_,rfl,g,rfl,aH.mpr (aM (w:=.int x) rfl (bR.mpr (ZL (d:=d) (n:=mm) P (by rw[em];exact aaA bx))))⟩)))⟩
def abG(P:cR h p kd t tr)(em:cH kd t=m)(gt:h.get pt=some (.lst (T.map W.int)))(lT:T.length<=20)(e:sE m T=some (C,w)):b7 10 [.ref p,.ref pt] (bu Pg (d+5)) (n+41) h= .ex C [(gm,.str w)] h:=by
 refine Jx rfl rfl ?_;unfold wL;exact rQ (yS (yP (ws:=[.ref p,.ref pt]) (h1:=h) rfl (Le P em gt lT e)))
def abH(P:cR h p kd t tr)(b:7<cH kd t):b7 12 [.ref p] (bu Pg (d+3)) (n+3) h= .ex 6 [(gm,.str tmT)] h:=by
 refine Jx rfl rfl ?_;unfold K_;obtain⟨pt,ws,g,_⟩:=P.g;refine rQ (Cm (cz.mpr (aH.mpr (dO (aM (w:=.ref p) rfl ⟨p,_,rfl,g,rfl,bR.mpr (wU P ?_)⟩)))));walk_at "s";exact⟨true,by rw[bH b],rfl⟩
def XR{x y:Int}(P:cR h p kd t tr)(em:cH kd t=m)(gt:h.get pt=some (.lst (T.map W.int)))(lT:T.length<=20)(e:Ae t m T x y=some (C,w)):b7 7 [.ref p,.ref pt,.int x,.int y] (bu Pg (d+5)) (n+41) h= .ex C [(gm,.str w)] h:=by
 refine Jx rfl rfl ?_;unfold Gb;obtain⟨ptr,ws,g,_⟩:=P.g
 have ok:∀ {z:Int} {k:Nat} {Q:W->Hs->Prop},cU [some (.ref p),some (.ref pt),some (.int x),some (.int y),none,none] k=some (.int z)->inM (2*t) z=true->Q .non h->wX (.meth 50 [110,101,101,100,95,112,97,105,114] 26 (.var 0) [(.var k)]) (bu Pg (d+4)) (n+40) [some (.ref p),some (.ref pt),some (.int x),some (.int y),none,none] h Q:=fun ek hz q=>by
  have hz:=in_of.mp hz;exact dO (aM (w:=.ref p) rfl ⟨p,_,rfl,g,rfl,aH.mpr (aM ek (bR.mpr (t8 (d:=d+2) (n:=n+38) P hz.1 (by omega) q)))⟩)
 have no:∀ {z:Int} {k:Nat},cU [some (.ref p),some (.ref pt),some (.int x),some (.int y),none,none] k=some (.int z)->inM (2*t) z=false->(X.meth 50 [110,101,101,100,95,112,97,105,114] 26 (.var 0) [(.var k)]).f (bu Pg (d+4)) (n+40) [some (.ref p),some (.ref pt),some (.int x),some (.int y),none,none] h= .ex 4 [(gm,.str npT)] h:=fun ek hz=>by
  have hz:=aaA hz;exact R9 (aM (w:=.ref p) rfl ⟨p,_,rfl,g,rfl,aH.mpr (aM ek (bR.mpr (abF (d:=d+2) (n:=n+38) P (by omega))))⟩)
 unfold Ae at e
 cases ex:inM (2*t) x with
 | false=>rw[ex]at e;cases e;exact rQ (yS (no rfl ex))
 | true=>
 refine Nm (jh.mpr (ok rfl ex ⟨_,rfl,?_⟩))
 cases ey:inM (2*t) y with
 | false=>rw[ex,ey]at e;cases e;exact rQ (yS (no rfl ey))
 | true=>
 refine Nm (jh.mpr (ok rfl ey ⟨_,rfl,?_⟩));rw[ex,ey]at e;have e:(if x=y then some (5,ttT) else sE m T)=some (C,w):=e
 by_cases c:x=y
 · rw[aB c]at e;cases e;refine rQ (Cm ?_);walk_at "s";exact⟨true,by rw[bH c],rfl⟩
 · rw[aA c]at e;refine Nm (h_.mpr ?_);walk_at "s";rw[bM c];refine lO (cW.mpr ⟨_,rfl,?_⟩);exact rQ (yS (yP (ws:=[.ref p,.ref pt]) (h1:=h) rfl (Le P em gt lT e)))
end
def vo(h:Hs)(o:Rf)(w:W):Prop:=match o with
 | none=>w= .non
 | some (_,c)=>∃ q,w= .ref q/\q<h.n/\h.get q=some (.tup [.str noT,.str c])
def Nu(h:Hs)(o:Rf)(w:W):Prop:=match o with
 | none=>∃ q v,w= .ref q/\q<h.n/\h.get q=some (.tup [.str uT,v])
 | some (_,c)=>∃ q,w= .ref q/\q<h.n/\h.get q=some (.tup [.str noT,.str c])
def okR(o:Rf):Prop:=∀ C c,o=some (C,c)->C<7/\okC c=true
def vo.ext{h h':Hs}{o:Rf}{w:W}(x:vo h o w)(e:Ext h h'):vo h' o w:=by
 unfold vo at *
 split
 · exact x
 · obtain⟨q,a,b,c⟩:=x;exact⟨q,a,a_ b e.1,e.get b c⟩
def Vs(m:Nat)(T:List Int):okR (sE m T):=fun C c e=>by
 unfold sE at e
 split at e
 · split at e
   · cases e;exact⟨by decide,rfl⟩
   · cases e
 · cases e;exact⟨by decide,rfl⟩
def aaC(t m:Nat)(T:List Int)(x y:Int):okR (Ae t m T x y):=fun C c e=>by
 unfold Ae at e
 split at e
 · split at e
   · cases e;exact⟨by decide,rfl⟩
   · exact Vs m T C c e
 · cases e;exact⟨by decide,rfl⟩
def aaD{h:Hs}{q:Nat}{c:List Nat}(l:q<h.n)(g:h.get q=some (.tup [.str noT,.str c])):Ev.Rd h (fun _=>True) (.tup [.str noT,.str c]) (.ref q):=QC l trivial g (by
 unfold Rds;refine⟨_,_,rfl,v8,?_⟩
 exact JQ v8)
section
variable{K:Ks}{n:Nat}{τ:Sg}{h:Hs}{Q:W->Hs->Prop}{o:Rf}{w v:W}
def aaE{a b:Nat}{c:List Nat}(oc:okC c=true)(la:a<h.n)(lb:b<h.n)(ga:h.get a=some (.tup [.str noT,.str c]))(gb:h.get b=some (.tup [.str noT,.str c]))(q:Q (.bl false) h):wP .ne [.ref a,.ref b] h Q:=by
 refine Nh (aaD la ga) (aaD lb gb) (by simp[j7,uX]) (by simp[j7,uX]) (by simp only[okD,zK];rw[oc];rfl) (by simp only[okD,zK];rw[oc];rfl) ?_;rw[xr];exact q
def XS(e12:cU τ 12=some w)(e14:cU τ 14=some v)(a:vo h o w)(b:Nu h o v)(q:Q (.bl false) h):wX (.and (.pr .isN [(.var 12)]) (.pr .ne [(.pr .ix [(.var 14),(.cst (.int 0))]),(.cst (.str [116,111,108,100]))])) K n τ h Q:=by
 refine vZ.mpr (cz.mpr (aH.mpr (aM e12 (bR.mpr (aar ?_)))))
 cases o with
 | none=>
   have a:w= .non:=a;subst a;obtain⟨qq,u,rfl,l,g⟩:=b;refine v5 (cz.mpr (aH.mpr (cz.mpr (aH.mpr (aM e14 (aH.mpr (ue.mpr (bR.mpr (aeS (q:=0) g rfl ?_)))))))));walk_at "s"
   exact ae1 rfl rfl q
 | some c=>
   obtain⟨C,c⟩:=c;obtain⟨qq,rfl,_⟩:=a;exact lO q
def XX(ok:okR o)(e12:cU τ 12=some w)(e14:cU τ 14=some v)(a:vo h o w)(b:Nu h o v)(q:Q (.bl false) h):wX (.and (.pr .zE [(.var 12)]) (.pr .ne [(.var 14),(.var 12)])) K n τ h Q:=by
 refine vZ.mpr (cz.mpr (aH.mpr (aM e12 (bR.mpr (Xg ?_)))))
 cases o with
 | none=>
   have a:w= .non:=a;subst a
   exact lO q
 | some c=>
   obtain⟨C,c⟩:=c;obtain⟨qa,rfl,la,ga⟩:=a;obtain⟨qb,rfl,lb,gb⟩:=b;exact v5 (cz.mpr (aH.mpr (aM e14 (aH.mpr (aM e12 (bR.mpr (aaE (ok C c rfl).2 lb la gb ga q)))))))
end
section
variable{d n m pt:Nat}{h:Hs}{Q:W->Hs->Prop}{T:List Int}
def ad7(lp:pt<h.n)(gt:h.get pt=some (.lst (T.map W.int)))(lT:T.length<=20)(q:∀ w h',Ext h h'->vo h' (sE m T) w->Q w h'):wC 33 [.ref pt,.int (m:Int)] (bu Pg (d+1)) (n+60) h Q:=by
 refine(dI rfl rfl).mpr ?_;unfold uN;refine aC.mpr (h_.mpr (cz.mpr (aH.mpr (cz.mpr (aH.mpr (cz.mpr (aH.mpr (comp_map (DP (aM (w:=.ref pt) rfl ?_))))))))));refine⟨pt,_,rfl,.inl ⟨gt,.refl,T.map W.int,(T.map (inM m)).map D.bl,fun _=>False,fun h2 x2=>Js gt lp x2,fun _ z=>z.elim,by simp,by rw[bK];omega,by rw[bK];omega,?_,?_⟩⟩
 · intro i w d' h2 mm ei ed lm x2 l2;rw[eN]at ei;obtain⟨x,ex,rfl⟩:=Option.map_eq_some_iff.mp ei;rw[eN,eN,ex]at ed;cases ed;refine⟨[some (.int x),some (.int (m:Int))],rfl,R4 (ue.mpr (aM (w:=.int x) rfl (aM (w:=.int (m:Int)) rfl ⟨0,x,m,rfl,rfl,rfl,rfl,.refl,?_⟩)))⟩;simp only[Ev.Rd];rfl
 · intro h1 x1 r1;obtain⟨p1,e1,l1,_,g1⟩:=adD.mp r1;cases e1;walk_at "s";refine aeV g1 ?_;rw[show((T.map (inM m)).all id)=T.all (inM m) by rw[List.all_map];rfl];walk_at "s";unfold sE at q
   cases ea:T.all (inM m) with
   | false=>
     rw[ea]at q;refine Nj ?_;walk_at "s"
     exact q _ _ (x1.trans .push) ⟨_,rfl,bV,aY⟩
   | true=>
     rw[ea,aB rfl]at q;refine Ni (cW.mpr (aP (aC.mpr (lA.mpr (G9.mpr ?_)))));walk_at "s";refine FT (x1.get lp gt) (by omega) ?_;walk_at "s";refine xu (x1.get lp gt) ?_;rw[bK];walk_at "s"
     by_cases c:len (dd T [])<T.length
     · rw[aB c]at q;rw[bH (by omega)];refine v5 ?_;walk_at "s";exact q _ _ (x1.trans .push) ⟨_,rfl,bV,aY⟩
     · rw[aA c]at q;rw[bM (by omega)];refine lO ?_;walk_at "s";exact q _ _ x1 rfl
end
section
variable{n m t p pt:Nat}{τ:Sg}{h:Hs}{Q:W->Hs->Prop}{T:List Int}{kd:List Nat}{tr:List iG}{x y:Int}
def afb(P:cR h p kd t tr)(em:cH kd t=m)(lm:m<=12)(hw:∀ x,x<2*t->∀ i,i<m->(eG (bY kd t tr i) t (x:Int)).isSome=true)(lp:pt<h.n)(gt:h.get pt=some (.lst (T.map W.int)))(lT:T.length<=20)(eb:ir 0 [5,13] τ= [some (.ref p),some (.ref pt)])(q:∀ w h',Ext h h'->Nu h' (sE m T) w->Q w h'):wX (.told 7 [5,13] (.call 10 [(.var 0),(.var 1)])) (bu Pg 13) (n+1000) τ h Q:=by
 cases e:sE m T with
 | none=>
   rw[e]at q;have z:=Ld e;refine P_ ?_;rw[eb];refine nR.mpr ?_;walk_at "s";refine QH (d:=2) (n:=n+400) P em (by omega) hw lp gt z.1 z.2 lT fun h1 x1=>?_
   exact q _ _ (x1.trans .push) ⟨_,_,rfl,bV,aY⟩
 | some c=>
   obtain⟨C,c⟩:=c;rw[e]at q;refine Pu (w:=.str c) (h1:=h) (C:=C) (fs:=[(gm,.str c)]) ?_ (Vs m T C c e).1 rfl (q _ _ .push ⟨_,rfl,bV,aY⟩);rw[eb];exact yP (ws:=[.ref p,.ref pt]) (h1:=h) rfl (abG (d:=6) (n:=n+959) P em gt lT e)
def afc(P:cR h p kd t tr)(em:cH kd t=m)(lm:m<=12)(hw:∀ x,x<2*t->∀ i,i<m->(eG (bY kd t tr i) t (x:Int)).isSome=true)(lp:pt<h.n)(gt:h.get pt=some (.lst (T.map W.int)))(lT:T.length<=20)(eb:ir 0 [5,10,11,13] τ= [some (.ref p),some (.int x),some (.int y),some (.ref pt)])(q:∀ w h',Ext h h'->Nu h' (Ae t m T x y) w->Q w h'):wX (.told 7 [5,10,11,13] (.call 7 [(.var 0),(.var 3),(.var 1),(.var 2)])) (bu Pg 13) (n+1000) τ h Q:=by
 cases e:Ae t m T x y with
 | none=>
   rw[e]at q;unfold Ae at e
   split at e
   · rename_i c;rw[Bool.and_eq_true]at c;obtain⟨x0,x1⟩:=in_of.mp c.1;obtain⟨y0,y1⟩:=in_of.mp c.2
     split at e
     · cases e
     · rename_i ne;obtain⟨x,rfl⟩:=Int.eq_ofNat_of_zero_le x0;obtain⟨y,rfl⟩:=Int.eq_ofNat_of_zero_le y0;have z:=Ld e;have lx:x<2*t:=by omega
       have ly:y<2*t:=by omega
       refine P_ ?_;rw[eb];refine nR.mpr ?_;walk_at "s";refine ZJ (d:=3) (n:=n+880) P em (by omega) lx ly (fun z=>ne (by rw[z])) (hw x lx) (hw y ly) lp gt z.1 z.2 lT fun f h1 x1 _ _=>?_;exact q _ _ (x1.trans .push) ⟨_,_,rfl,bV,aY⟩
   · cases e
 | some c=>
   obtain⟨C,c⟩:=c;rw[e]at q;refine Pu (w:=.str c) (h1:=h) (C:=C) (fs:=[(gm,.str c)]) ?_ (aaC t m T x y C c e).1 rfl (q _ _ .push ⟨_,rfl,bV,aY⟩);rw[eb];exact yP (ws:=[.ref p,.ref pt,.int x,.int y]) (h1:=h) rfl (XR (d:=6) (n:=n+959) P em gt lT e)
end
def Vt:D->Option iG
 | .tup [.int a,.int b,.int c]=>some (a,b,c)
 | _=>none
def Vu{α β:Type}(f:α->Option β):List α->Option (List β)
 | []=>some []
 | x::xs=>match f x,Vu f xs with
   | some y,some ys=>some (y::ys)
   | _,_=>none
def ZM:D->Option (List iG)
 | .lst ds=>Vu Vt ds
 | _=>none
def S9{α β:Type}{f:α->Option β}{g:β->α}(hf:∀ x y,f x=some y->x=g y):∀ {xs:List α} {ys:List β},Vu f xs=some ys->xs=ys.map g
 | [],ys,e=>by cases e;rfl
 | x::xs,ys,e=>by
   unfold Vu at e
   split at e
   · rename_i y ys' e1 e2;cases e;rw[hf x y e1,S9 hf e2];rfl
   · cases e
def ZP:∀(d:D) (t:iG),Vt d=some t->d=D3 t:=by
 intro d t e;unfold Vt at e
 split at e
 · cases e;rfl
 · cases e
def abI:∀(d:D) (r:List iG),ZM d=some r->d=DR r:=by
 intro d r e;unfold ZM at e
 split at e
 · rw[S9 ZP e]
 · cases e
def bG:List (List Nat × Int):=[([115,116,114,97,105,103,104,116],3),([115,107,105,112],4),([115,104,97,114,101,100],4),([115,116,114,97,105,103,104,116],5),([114,105,110,103],4),([115,107,105,112],6),([115,104,97,114,101,100],6),([115,116,114,97,105,103,104,116],7),([114,105,110,103],5),([115,107,105,112],8),([115,104,97,114,101,100],8),([115,116,114,97,105,103,104,116],9),([114,105,110,103],6)]
def Vv(w:W)(g:Hs):Option (List Nat × Int × List iG):=match w with
 | .ref p=>match g.get p with
   | some (.ins 50 [(a,.str kd),(b,.int t),(c,.ref q)])=>if codes a kiT&&(codes b taT&&(codes c trT&&Nat.ble (p+1) g.n)) then match rdD g 12 (.ref q) with
      | some d=>match ZM d with
        | some tr=>some (kd,t,tr)
        | none=>none
      | none=>none
     else none
   | _=>none
 | _=>none
def ZQ{w:W}{g h:Hs}{kd:List Nat}{t:Nat}{tr:List iG}(e:Vv w g=some (kd,(t:Int),tr))(ok:okC kd=true)(t0:0<t)(t9:t<=9)(len:codes kd rgT=true->tr.length+1=t):∃ p,shW h.n w= .ref p/\cR (h.cat g) p kd t tr:=by
 unfold Vv at e
 split at e
 · rename_i p
   split at e
   · rename_i a kd' b t' c q eg
     split at e
     · rename_i cc;simp only[Bool.and_eq_true]at cc;obtain⟨c1,c2,c3,c4⟩:=cc;have c1:=dh.mp c1;have c2:=dh.mp c2;have c3:=dh.mp c3;subst c1 c2 c3
       split at e
       · rename_i dd ed
         split at e
         · rename_i tr' et;cases e;have lp:p<g.n:=Nat.le_of_ble_eq_true c4;have r:=Hg (h:=h) 12 _ _ ed;rw[abI _ _ et]at r;obtain⟨pt,ws,ep,lpt,_,gpt,rt⟩:=FQ.mp r;have ep:h.n+q=pt:=by cases ep;rfl
           subst ep;exact⟨h.n+p,rfl,by rw[Hf];omega,⟨h.n+q,ws,Ju lp eg,lpt,gpt,rt.imp fun _ _ _=>trivial⟩,ok,t0,t9,len⟩
         · cases e
       · cases e
     · cases e
   · cases e
 · cases e
def Vw(r:R A):Option (List Nat × Int × List iG):=match r with
 | .ok (.w w) g=>Vv w g
 | _=>none
def ad8(k:List Nat × Int):Option (List Nat × Int × List iG):=Vw ((X.make 50 20 [(.var 3),(.var 4)]).f (bu Pg 13) 20000 [none,none,none,some (.str k.1),some (.int k.2),none,none,none,none,none,none,none,none,none,none] (.mk 0 .lf))
def okP(k:List Nat × Int)(tr:List iG)(t m:Nat):Bool:=(List.range (2*t)).all fun x=>(List.range m).all fun i=>(eG (bY k.1 t tr i) t (x:Int)).isSome
def qm(k:List Nat × Int):Bool:=match ad8 k with
 | some (kd,t,tr)=>codes kd k.1&&(ieq t k.2&&(ieq t (t.toNat:Int)&&(decide (0<t.toNat/\t.toNat<=9)&&((!codes k.1 rgT||Nat.beq (tr.length+1) t.toNat)&&(ieq (cH k.1 t.toNat) ((cH k.1 t.toNat).toNat:Int)&&(decide ((cH k.1 t.toNat).toNat<=12)&&okP k tr t.toNat (cH k.1 t.toNat).toNat))))))
 | none=>false
def rr0:qm (bG.getD 0 ([],0))=true:=by decide +kernel
def rr1:qm (bG.getD 1 ([],0))=true:=by decide +kernel
def rr2:qm (bG.getD 2 ([],0))=true:=by decide +kernel
def rr3:qm (bG.getD 3 ([],0))=true:=by decide +kernel
def rr4:qm (bG.getD 4 ([],0))=true:=by decide +kernel
def rr5:qm (bG.getD 5 ([],0))=true:=by decide +kernel
def rr6:qm (bG.getD 6 ([],0))=true:=by decide +kernel
def rr7:qm (bG.getD 7 ([],0))=true:=by decide +kernel
def rr8:qm (bG.getD 8 ([],0))=true:=by decide +kernel
def rr9:qm (bG.getD 9 ([],0))=true:=by decide +kernel
def af6:qm (bG.getD 10 ([],0))=true:=by decide +kernel
def af7:qm (bG.getD 11 ([],0))=true:=by decide +kernel
def af8:qm (bG.getD 12 ([],0))=true:=by decide +kernel
def ad9:∀ k,k<13->qm (bG.getD k ([],0))=true
 | 0,_=>rr0
 | 1,_=>rr1
 | 2,_=>rr2
 | 3,_=>rr3
 | 4,_=>rr4
 | 5,_=>rr5
 | 6,_=>rr6
 | 7,_=>rr7
 | 8,_=>rr8
 | 9,_=>rr9
 | 10,_=>af6
 | 11,_=>af7
 | 12,_=>af8
 | k+13,l=>aK l (by omega)
def okK:∀ k,k<13->okC (bG.getD k ([],0)).1=true:=by decide +kernel
def sG(k:Nat):Option D:=Zh (b7 30 [.int (Int.ofNat k)] (bu Pg 13) 100 (.mk 0 .lf))
def rp0:sG 0=some (.tup [.str (bG.getD 0 ([],0)).1,.int (bG.getD 0 ([],0)).2]):=by kernel_rfl
def rp1:sG 1=some (.tup [.str (bG.getD 1 ([],0)).1,.int (bG.getD 1 ([],0)).2]):=by kernel_rfl
def rp2:sG 2=some (.tup [.str (bG.getD 2 ([],0)).1,.int (bG.getD 2 ([],0)).2]):=by kernel_rfl
def rp3:sG 3=some (.tup [.str (bG.getD 3 ([],0)).1,.int (bG.getD 3 ([],0)).2]):=by kernel_rfl
def rp4:sG 4=some (.tup [.str (bG.getD 4 ([],0)).1,.int (bG.getD 4 ([],0)).2]):=by kernel_rfl
def rp5:sG 5=some (.tup [.str (bG.getD 5 ([],0)).1,.int (bG.getD 5 ([],0)).2]):=by kernel_rfl
def rp6:sG 6=some (.tup [.str (bG.getD 6 ([],0)).1,.int (bG.getD 6 ([],0)).2]):=by kernel_rfl
def rp7:sG 7=some (.tup [.str (bG.getD 7 ([],0)).1,.int (bG.getD 7 ([],0)).2]):=by kernel_rfl
def rp8:sG 8=some (.tup [.str (bG.getD 8 ([],0)).1,.int (bG.getD 8 ([],0)).2]):=by kernel_rfl
def rp9:sG 9=some (.tup [.str (bG.getD 9 ([],0)).1,.int (bG.getD 9 ([],0)).2]):=by kernel_rfl
def af9:sG 10=some (.tup [.str (bG.getD 10 ([],0)).1,.int (bG.getD 10 ([],0)).2]):=by kernel_rfl
def af_:sG 11=some (.tup [.str (bG.getD 11 ([],0)).1,.int (bG.getD 11 ([],0)).2]):=by kernel_rfl
def aga:sG 12=some (.tup [.str (bG.getD 12 ([],0)).1,.int (bG.getD 12 ([],0)).2]):=by kernel_rfl
def ad_:∀ k,k<13->sG k=some (.tup [.str (bG.getD k ([],0)).1,.int (bG.getD k ([],0)).2])
 | 0,_=>rp0
 | 1,_=>rp1
 | 2,_=>rp2
 | 3,_=>rp3
 | 4,_=>rp4
 | 5,_=>rp5
 | 6,_=>rp6
 | 7,_=>rp7
 | 8,_=>rp8
 | 9,_=>rp9
 | 10,_=>af9
 | 11,_=>af_
 | 12,_=>aga
 | k+13,l=>aK l (by omega)
def abJ{k:List Nat × Int}(e:qm k=true):∃(t m:Nat) (tr:List iG),k.2=(t:Int)/\ad8 k=some (k.1,(t:Int),tr)/\0<t/\t<=9/\(codes k.1 rgT=true->tr.length+1=t)/\cH k.1 t=(m:Int)/\m<=12/\∀ x,x<2*t->∀ i,i<m->(eG (bY k.1 t tr i) t (x:Int)).isSome=true:=by
 unfold qm at e
 split at e
 · rename_i kd t tr e1;simp only[Bool.and_eq_true,decide_eq_true_eq]at e;obtain⟨a1,a2,a3,a4,a5,a6,a7,a8⟩:=e;have a1:=dh.mp a1;rw[kO]at a2 a3 a6;simp only[decide_eq_true_eq]at a2 a3 a6;refine⟨t.toNat,(cH k.1 t.toNat).toNat,tr,by rw[<- a3];exact a2.symm,by rw[e1,a1,<- a3],a4.1,a4.2,fun z=>?_,a6,a7,fun x lx i li=>List.all_eq_true.mp (List.all_eq_true.mp a8 x (List.mem_range.mpr lx)) i (List.mem_range.mpr li)⟩;rw[z]at a5;simpa using Nat.eq_of_beq_eq_true (by simpa using a5)
 · cases e
abbrev sL(i:Int)(r:Nat)(k:List Nat)(t b m f:Nat)(q:Sg):Sg:=some (.ref 0)::some (.int i)::some (.ref r)::some (.str k)::some (.int (t:Int))::some (.ref b)::some (.int (m:Int))::some (.ref f)::q
def JW{K:Ks}{n:Nat}{τ:Sg}{h:Hs}{s:S}{Q Q':Fl->Hs->Prop}(x:w1 s K n τ h Q)(f:∀ w h,Q w h->Q' w h):w1 s K n τ h Q':=qW x (RZ f)
def QJ{m:Nat}:∀(ts:List Nat) (lo:Nat),ts.Pairwise (· < ·)->(∀ x ∈ ts,lo<=x/\x<m)->ts.length<=m - lo
 | [],_,_,_=>Nat.zero_le _
 | t::ts,lo,z,b=>by
   have b0:=b t (.head _);have:=QJ ts (t+1) (List.pairwise_cons.mp z).2 fun x mx=>⟨(List.pairwise_cons.mp z).1 x mx,(b x (.tail _ mx)).2⟩;rw[gG];omega
abbrev Vx:List Int:=[13,2048,3,12,5,12,5,4,18,18,5]
def runs(ns:List Int)(l63:ns.length<=63):wC 34 [.ref 0] (bu Pg 14) 5000 (F_ ns) fun w _=>w= .bl true:=by
 refine(dI (n:=4999) (d:=13) rfl rfl).mpr ?_;unfold Nq;have gs:(F_ ns).get 0=some (.scr ns):=aY (h:=.mk 0 .lf);have ls:0<(F_ ns).n:=bV (h:=.mk 0 .lf);generalize F_ ns=h0 at gs ls;refine aC.mpr (yM (uf ?_));walk_at "s";refine⟨3,rfl,by decide,by decide,sW 0 3,fun i τ h=>∃ u1 u2 u3 u4 u5 u6 u7 u8 u9 u10 u11 u12 u13 u14,τ= [some (.ref 0),u1,u2,u3,u4,u5,u6,u7,u8,u9,u10,u11,u12,u13,u14]/\Ext h0 h,fun _ _ _ _=>rz,by decide,⟨_,_,_,_,_,_,_,_,_,_,_,_,_,_,rfl,.refl⟩,?_,?_⟩
 · rintro i w τ h mi ei lmi ⟨u1,u2,u3,u4,u5,u6,u7,u8,u9,u10,u11,u12,u13,u14,rfl,xh⟩;have li:i<3:=by have:=(bB ei).1;rw[bC]at this;exact this
   rw[m6 li]at ei;cases ei;rw[show(0:Int)+Int.ofNat i=(i:Int) by show 0+(i:Int)=(i:Int);omega];rw[bC]at lmi;obtain⟨mi,rfl⟩:∃ m',mi=m'+2000:=⟨mi - 2000,by omega⟩;refine⟨[some (.ref 0),some (.int (i:Int)),u2,u3,u4,u5,u6,u7,u8,u9,u10,u11,u12,u13,u14],rfl,?_⟩;refine aC.mpr (dH.mpr ?_);walk_at "s";refine adK (xh.get ls gs) l63 (by omega) ?_;walk_at "s";have x1:Ext h0 (h.push (.lst [.int 13,.int 2048,.int 3,.int 12,.int 5,.int 12,.int 5,.int 4,.int 18,.int 18,.int 5])):=xh.trans .push;have g1:(h.push (.lst [.int 13,.int 2048,.int 3,.int 12,.int 5,.int 12,.int 5,.int 4,.int 18,.int 18,.int 5])).get h.n=some (.lst (Vx.map W.int)):=aY;generalize h.push (.lst [.int 13,.int 2048,.int 3,.int 12,.int 5,.int 12,.int 5,.int 4,.int 18,.int 18,.int 5])=h1 at *;refine adL (ls:=Vx) g1 (by decide) (by decide) fun hD=>?_;generalize lD _ _=row at hD;have gr:(h1.push (.lst (row.map W.int))).get h1.n=some (.lst (row.map W.int)):=aY;have lr:h1.n<(h1.push (.lst (row.map W.int))).n:=bV;have x1:=x1.trans (Ext.push (o:=.lst (row.map W.int)));clear g1 xh;generalize h1.n=pr at *;generalize h1.push (.lst (row.map W.int))=h1 at *;have rl:row.length=11:=KJ hD;have dr:∀ k:Nat,k<11->0<=row.getD k 0/\row.getD k 0<Vx.getD k 0:=fun k l=>Pq (k:=k) hD l;have d0:=dr 0 (by decide);have d2:=dr 2 (by decide);have d7:=dr 7 (by decide);have ix:∀ {h':Hs} {Q':W->Hs->Prop} (k:Int),Ext h1 h'->0<=k->k<11->Q' (.int (row.getD k.toNat 0)) h'->wP .ix [.ref pr,.int k] h' Q':=fun k x a b q=>DN (x.get lr gr) a (yO (by omega)) q;obtain⟨k,hk,ek⟩:∃ k:Nat,k<13/\row.getD 0 0=Int.ofNat k:=⟨(row.getD 0 0).toNat,by have:row.getD 0 0<13:=d0.2;omega,by show row.getD 0 0=(((row.getD 0 0).toNat:Nat):Int);omega⟩;refine aP (aC.mpr (DW (adO (ws:=[.int (Int.ofNat k)]) rfl (ad_ k hk) ?_)));walk_at "s";refine ady (q:=0) gr (yO (by omega)) ?_;refine bR.mpr ⟨by rw[ek],fun w2 h2 x2 r2=>?_⟩;have ok:=ad9 k hk;have oK:=okK k hk;generalize hkk:bG.getD k ([],0)=kk at r2 ok oK;obtain⟨t,m,tr,et,eL,t0,t9,len',em,lm,oW⟩:=abJ ok;simp only[Ev.Rd]at r2;obtain⟨pk,wk,rfl,lpk,_,gpk,rk⟩:=r2;simp only[Rds,Ev.Rd]at rk;obtain⟨_,_,rfl,rfl,_,_,rfl,rfl,rfl⟩:=rk;refine⟨pk,_,_,rfl,gpk,?_⟩;have eL2:Vw ((X.make 50 20 [(.var 3),(.var 4)]).f (bu Pg 13) 20000 [none,none,none,some (.str kk.1),some (.int kk.2),none,none,none,none,none,none,none,none,none,none] (.mk 0 .lf))=some (kk.1,(t:Int),tr):=eL;unfold Vw at eL2
   split at eL2
   case h_2=>cases eL2
   rename_i w3 g3 e3;refine aP (aC.mpr (dH.mpr (adQ (w:=w3) (g:=g3) e3 ?_)));obtain⟨p,ep,P⟩:=ZQ (h:=h2) eL2 oK t0 t9 len';rw[ep];have x3:Ext h2 (h2.cat g3):=Jt;generalize h2.cat g3=h3 at *;have x13:=x2.trans x3;rw[et];clear eL eL2 e3 ok gpk x2 x3 ep hkk;obtain⟨ptr,wsr,gP,_⟩:=P.g;refine aP (aC.mpr (dH.mpr (dO (aM (w:=.ref p) rfl ⟨p,_,rfl,gP,rfl,bR.mpr (wU (d:=11) (n:=mi+1998) P ?_)⟩))));rw[em];refine aP (aC.mpr (dH.mpr (nR.mpr ?_)));walk_at "s";refine ix 1 x13 (by decide) (by decide) ?_;walk_at "s";refine Q_ (d:=12) (n:=mi+1940) lm fun f ts h4 x4 lo4 l4 g4 bd4 s4=>?_
   have lT:(ts.map Int.ofNat).length<=12:=by
    have:=QJ ts 0 s4 fun x mx=>⟨Nat.zero_le _,bd4 x mx⟩;rw[bK];omega
   generalize ts.map Int.ofNat=T0 at g4 lT;clear bd4 s4;refine aP (aC.mpr (yM (uf ?_)));walk_at "s";refine ix 2 (x13.trans x4) (by decide) (by decide) ?_;have d2':row.getD (2:Int).toNat 0<3:=d2.2;have agr:0<=row.getD (2:Int).toNat 0:=d2.1;refine⟨_,rfl,by omega,by omega,sW 0 (row.getD (2:Int).toNat 0).toNat,fun j τ h=>∃ u8 u9 T,τ=sL i pr kk.1 t p m f [u8,u9,u10,u11,u12,u13,u14]/\Ext h3 h/\f<h.n/\h.get f=some (.lst (T.map W.int))/\T.length<=12+j,fun _ _ _ _=>rz,by rw[bC];omega,⟨_,_,T0,rfl,x4,l4,g4,lT⟩,?_,?_⟩
   · rintro j w τ h5 mj ej lmj ⟨u8,u9,T,rfl,x5,l5,g5,lT⟩;have lj:j<(row.getD (2:Int).toNat 0).toNat:=by have:=(bB ej).1;rw[bC]at this;exact this
     rw[m6 lj,show(0:Int)+Int.ofNat j=(j:Int) by show 0+(j:Int)=(j:Int);omega]at ej;cases ej;rw[bC]at lmj;obtain⟨mj,rfl⟩:∃ m',mj=m'+1:=⟨mj - 1,by omega⟩;refine⟨sL i pr kk.1 t p m f [some (.int (j:Int)),u9,u10,u11,u12,u13,u14],rfl,?_⟩;refine aC.mpr (dH.mpr (nR.mpr ?_));walk_at "s";refine ix _ (x13.trans x5) (by omega) (by omega) ?_;walk_at "s";refine Vr (d:=12) (n:=mj) ((dr (4+2*(j:Int)).toNat (by omega)).1) (by omega) (by omega) fun z h6 x6 _=>?_;have x36:=x5.trans x6;have l6:=a_ l5 x6.1;have g6:=x6.get l5 g5;clear x5 x6 l5 g5;refine aP (aC.mpr (JW (Q:=fun fl h=>∃ z:Int,fl= .nx (sL i pr kk.1 t p m f [some (.int (j:Int)),some (.int z),u10,u11,u12,u13,u14])/\Ext h6 h) ?_ ?_))
     · refine h_.mpr (vZ.mpr ?_);walk_at "s";refine ix _ (x13.trans x36) (by omega) (by omega) ?_;walk_at "s";refine Cg (fun _=>?_) fun _=>lO (cW.mpr ⟨z,rfl,.refl⟩);walk_at "s";have xe:Ext h6 (h6.push (.lst [])):=.push;refine Nh (d:=Dis T) (d':=Dis []) (A:=fun _=>True) (B:=fun _=>True) (yL.mpr ⟨_,rfl,a_ l6 xe.1,trivial,xe.get l6 g6⟩) (yL.mpr ⟨_,rfl,bV,trivial,aY⟩) (G_ _) (G_ _) (Nk _) (Nk _) ?_
       cases T with
       | nil=>
         rw[xr]
         exact Ni (cW.mpr ⟨z,rfl,xe⟩)
       | cons y T=>
         rw[show dY (Dis (y::T)) (Dis [])=false by simp[Dis,dY,vO]];refine Nj ?_;walk_at "s";refine ix 3 (x13.trans (x36.trans xe)) (by decide) (by decide) ?_;walk_at "s";refine xu (xe.get l6 g6) ?_;rw[bK];have ly:0<(y::T).length:=Nat.succ_pos _;generalize (y::T)=T at *;walk_at "s";have z0:=Int.emod_nonneg (row.getD (3:Int).toNat 0) (show(T.length:Int) ≠ 0 by omega);have z1:=Int.emod_lt_of_pos (row.getD (3:Int).toNat 0) (show(0:Int)<(T.length:Int) by omega);refine DN (xe.get l6 g6) z0 (yO (by omega)) (aP (cW.mpr ⟨_,rfl,xe⟩))
     rintro fl h7 ⟨z,rfl,x7⟩;have x37:=x36.trans x7;have l7:=a_ l6 x7.1;have g7:=x7.get l6 g6;clear x36 x7 l6 g6;refine aP (aC.mpr (jh.mpr (Zr (aM (w:=.ref f) rfl ⟨f,_,rfl,g7,?_⟩))));walk_at "s";refine ix _ (x13.trans x37) (by omega) (by omega) ?_;walk_at "s";refine xu g7 ?_;rw[bK];walk_at "s";have z0:=Int.emod_nonneg (row.getD (3+2*(j:Int)).toNat 0) (show(T.length:Int)+1 ≠ 0 by omega);have z1:=Int.emod_lt_of_pos (row.getD (3+2*(j:Int)).toNat 0) (show(0:Int)<(T.length:Int)+1 by omega);generalize row.getD (3+2*(j:Int)).toNat 0 % ((T.length:Int)+1)=q at z0 z1;obtain⟨q,rfl⟩:=Int.eq_ofNat_of_zero_le z0;refine⟨q,_,_,rfl,g7,by rw[bK];omega,by rw[bK];omega,aP (cW.mpr (uY ⟨_,_,T.take q++z::T.drop q,rfl,x37.set lo4,by rw[Hs.gZ];exact l7,?_,?_⟩))⟩
     · rw[Hs.get_set,aB rfl,List.map_append,List.map_cons,List.map_take,List.map_drop]
     · rw[ji,gG,List.length_take,List.length_drop];omega
   rintro τ h5 ⟨u8,u9,T,rfl,x5,l5,g5,lT⟩;rw[bC]at lT;have lT:T.length<=20:=by omega
   clear g4 l4 x4;have P5:=P.ext x5;have x15:=x13.trans x5;have d7':row.getD (7:Int).toNat 0<4:=d7.2;have pick:∀ {h':Hs} {Q':W->Hs->Prop} {q:Nat} {a b c e k:Int},h'.get q=some (.lst [.int a,.int b,.int c,.int e])->0<=k->k<4->(∀ z:Int,Q' (.int z) h')->wP .ix [.ref q,.int k] h' Q':=fun {_ _ _ a b c e _} g k0 k1 z=>DN (xs:=([a,b,c,e]:List Int).map W.int) g k0 (yO (by show _<4;omega)) (z _);refine aP (aC.mpr (dH.mpr ?_));walk_at "s";refine ix 8 x15 (by decide) (by decide) ?_;walk_at "s";refine ix 10 x15 (by decide) (by decide) ?_;walk_at "s";refine Vr (d:=12) (n:=mi+1999) ((dr 10 (by decide)).1) (by omega) (by omega) fun z1 h6 x6 _=>?_;have x16:=x15.trans x6;walk_at "s";refine ix 8 x16 (by decide) (by decide) ?_;walk_at "s";refine ix 8 x16 (by decide) (by decide) ?_;walk_at "s";refine ix 7 (x16.trans .push) (by decide) (by decide) ?_;walk_at "s";refine pick aY d7.1 d7' fun x=>?_;generalize eh:Hs.push h6 _=h7;have x57:Ext h5 h7:=by rw[<- eh];exact x6.trans .push
   have x17:=x15.trans x57;clear x6 x16 eh;refine aP (aC.mpr (dH.mpr ?_));walk_at "s";refine ix 9 x17 (by decide) (by decide) ?_;walk_at "s";refine ix 9 x17 (by decide) (by decide) ?_;walk_at "s";refine ix 10 x17 (by decide) (by decide) ?_;walk_at "s";refine Vr (d:=12) (n:=mi+1999) ((dr 10 (by decide)).1) (by omega) (by omega) fun z2 h8 x8 _=>?_;walk_at "s";refine ix 7 (x17.trans (x8.trans .push)) (by decide) (by decide) ?_;walk_at "s";refine pick aY d7.1 d7' fun y=>?_;generalize eh:Hs.push h8 _=h9;have x59:Ext h5 h9:=by rw[<- eh];exact x57.trans (x8.trans .push)
   clear x8 x57 x17 eh;have l9:=a_ l5 x59.1;have g9:=x59.get l5 g5;refine aP (aC.mpr (dH.mpr (nR.mpr ?_)));walk_at "s";refine ad7 (d:=12) (n:=mi+1940) l9 g9 lT fun w12 hA xA dA=>?_;refine aP (aC.mpr (dH.mpr ?_));walk_at "s";refine adz (xA.get l9 g9) ?_;have xB:Ext hA (hA.push (.lst (T.map W.int))):=.push;have lB:hA.n<(hA.push (.lst (T.map W.int))).n:=bV;have gB:(hA.push (.lst (T.map W.int))).get hA.n=some (.lst (T.map W.int)):=aY;have dB:=dA.ext xB;generalize hA.n=f13 at *;generalize hA.push (.lst (T.map W.int))=hB at *;have x5B:=x59.trans (xA.trans xB);have lfB:=a_ l5 x5B.1;have gfB:=x5B.get l5 g5;clear xA xB dA x59 l9 g9;refine aP (aC.mpr (dH.mpr (afb (n:=mi+1000) (P5.ext x5B) em lm oW lB gB lT rfl fun w14 hC xC fC=>?_)));refine aP (aC.mpr (h_.mpr (tX.mpr (XS rfl rfl (dB.ext xC) fC (lO (XX (Vs m T) rfl rfl (dB.ext xC) fC (lO (cW.mpr ?_))))))));have dC:=dB.ext xC;have e2:2*(t:Int)=((2*t:Nat):Int):=by omega
   have x5C:=x5B.trans xC;have lC:=a_ lB xC.1;have gC:=xC.get lB gB;have lfC:=a_ lfB xC.1;have gfC:=xC.get lfB gfB;clear dB fC xC x5B lB gB lfB gfB
   have chain:∀ {h:Hs} {Q:W->Hs->Prop} {τ:Sg} {k:Nat} {z:Int},cU τ k=some (.int z)->cU τ 4=some (.int (t:Int))->Q (.bl (inM (2*t) z)) h->wX (.chain .le .lt (.cst (.int 0)) (.var k) (.pr .mul [(.cst (.int 2)),(.var 4)])) (bu Pg 13) (mi+2000) τ h Q:=fun {h Q τ k z} ek e4 q=>by
    refine R4 (ue.mpr (aM ek (cz.mpr (aH.mpr (ue.mpr (aH.mpr (aM e4 (bR.mpr (aan (by decide) (by omega) ⟨0,z,2*(t:Int),rfl,rfl,rfl,rfl,?_⟩)))))))));rw[e2];exact q
   refine aP (aC.mpr (JW (Q:=fun fl h=>∃ w,fl= .nx (sL i pr kk.1 t p m f [u8,u9,some (.int x),some (.int y),some w,some (.ref f13),some w14])/\Ext hC h/\vo h (if x=y/\inM (2*t) x=true then some (5,ttT) else sE m T) w) ?_ ?_))
   · refine h_.mpr (vZ.mpr ?_);walk_at "s";refine Cg (fun e=>chain rfl rfl ?_) fun e=>lO (cW.mpr ⟨w12,rfl,.refl,by rw[aA fun z=>e z.1];exact dC⟩)
     cases ei:inM (2*t) x with
     | false=>exact lO (cW.mpr ⟨w12,rfl,.refl,by rw[aA fun z=>by cases z.2];exact dC⟩)
     | true=>
       refine v5 ?_;walk_at "s";exact⟨_,rfl,.push,by rw[aB ⟨e,rfl⟩];exact⟨_,rfl,bV,aY⟩⟩
   rintro fl hD ⟨wd,rfl,xD,dD⟩;refine aP (aC.mpr (JW (Q:=fun fl h=>∃ w,fl= .nx (sL i pr kk.1 t p m f [u8,u9,some (.int x),some (.int y),some w,some (.ref f13),some w14])/\Ext hC h/\vo h (Ae t m T x y) w) ?_ ?_))
   · refine h_.mpr (tX.mpr (cz.mpr (aH.mpr (chain rfl rfl ?_))));unfold Ae
     cases ei:inM (2*t) x with
     | false=>
       walk_at "s"
       exact⟨_,rfl,xD.trans .push,_,rfl,bV,aY⟩
     | true=>
       rw[ei]at dD;walk_at "s";refine chain rfl rfl ?_
       cases ej:inM (2*t) y with
       | false=>
         walk_at "s"
         exact⟨_,rfl,xD.trans .push,_,rfl,bV,aY⟩
       | true=>
         walk_at "s";refine⟨wd,rfl,xD,?_⟩;simpa using dD
   rintro fl hE ⟨we,rfl,xE,dE⟩;clear dD xD dC;have x5E:=x5C.trans xE;have lE:=a_ lC xE.1;have gE:=xE.get lC gC;have lfE:=a_ lfC xE.1;have gfE:=xE.get lfC gfC;refine aP (aC.mpr (dH.mpr (afc (n:=mi+1000) (P5.ext x5E) em lm oW lE gE lT rfl fun wf hF xF fF=>?_)));refine aP (aC.mpr (h_.mpr (tX.mpr (XS rfl rfl (dE.ext xF) fF (lO (tX.mpr (XX (aaC t m T x y) rfl rfl (dE.ext xF) fF (lO ?_))))))));walk_at "s";have P6:=P5.ext (x5E.trans xF);refine Nh (d:=Dis T) (d':=Dis T) (A:=fun _=>True) (B:=fun _=>True) (yL.mpr ⟨_,rfl,a_ lE xF.1,trivial,xF.get lE gE⟩) (yL.mpr ⟨_,rfl,a_ lfE xF.1,trivial,xF.get lfE gfE⟩) (G_ _) (G_ _) (Nk _) (Nk _) ?_;rw[xr];have x0F:=x1.trans (x15.trans (x5E.trans xF));walk_at "s";refine Cg (fun e7=>?_) fun _=>lO ?_
   · refine cz.mpr (aH.mpr (Pu (w:=.str tmT) (h1:=hF) (C:=6) (fs:=[(gm,.str tmT)]) (yP (ws:=[.ref p]) (h1:=hF) rfl (abH (d:=8) (n:=mi+1997) P6 (by rw[em];exact e7))) (by decide) rfl ?_));walk_at "s";refine aaE (c:=tmT) rfl (a_ bV Ext.push.1) bV (Ext.push.get bV aY) aY ?_;walk_at "s";exact⟨_,_,_,_,_,_,_,_,_,_,_,_,_,_,rfl,x0F.trans (Ext.push.trans .push)⟩
   · walk_at "s";exact⟨_,_,_,_,_,_,_,_,_,_,_,_,_,_,rfl,x0F⟩
 · rintro τ h ⟨u1,u2,u3,u4,u5,u6,u7,u8,u9,u10,u11,u12,u13,u14,rfl,xh⟩;walk_at "s";rfl
end My
namespace My
open PySem L2 PyProof.Rows
open Ev
section
variable{P:Program}{w:World}{K:ao}{mg:Str->Option Value}{base:Heap}{a:Adr}
structure LC (P:Program)(w:World)(K:ao)(mg:Str->Option Value)(base:Heap)(a:Adr)(X:Cx)(E:XK):Prop where
 T:Txt w K mg a
 A2:All P w K mg base a 13
 hr:bZ 191 X.A
 hp:Passes (CXE P w) X E
 AL:All P w K mg base a 11
 LH:Uk (cn a) X a.code
 hrT:bZ (182+1) X.A
 hrL:∀ e1 e2,bZ 182 ((X.A.deeper e1).deeper e2)
def agb{σ0:L2.St}{A:Around}{outer:List Env}{s:aj}{H:Hp}{E:XK}(C:LC P w K mg base a (ie (CXE P w) P w K mg base ["_law_script","_law_k","_law_row","_law_kind","_law_t","_law_plan","_law_many","_law_turned","_law_turn","_law_bad","_law_one","_law_other","_law_due","_law_handed","_law_found"] "law" (ak dZ) a.pQ (.ref a.code) A outer s H E) E):QS (ie (CXE P w) P w K mg base ["_law_script","_law_k","_law_row","_law_kind","_law_t","_law_plan","_law_many","_law_turned","_law_turn","_law_bad","_law_one","_law_other","_law_due","_law_handed","_law_found"] "law" (ak dZ) a.pQ (.ref a.code) A outer s H E) ((cG dZ).getD 0 (.Pass ⟨0,0,0,0⟩)) (tS Pg (cn a) E 13 σ0 (.for_ (.j6 [(.cst (.int 3))]) (.nm 1) [(.asg (.nm 2) (.pr .draw [(.pr .cell [(.var 0),(.var 1)]),(.pr .lst [(.cst (.int 13)),(.cst (.int 2048)),(.cst (.int 3)),(.cst (.int 12)),(.cst (.int 5)),(.cst (.int 12)),(.cst (.int 5)),(.cst (.int 4)),(.cst (.int 18)),(.cst (.int 18)),(.cst (.int 5))])])),
    (.asg (.tup [(.nm 3),(.nm 4)]) (.iso 100 30 [(.pr .ix [(.var 2),(.cst (.int 0))])])),
    (.asg (.nm 5) (.PK 20000 [3,4] (.make 50 20 [(.var 3),(.var 4)]))),
    (.asg (.nm 6) (.meth 50 [114,111,117,110,100,115] 21 (.var 5) [])),
    (.asg (.nm 7) (.call 32 [(.pr .ix [(.var 2),(.cst (.int 1))]),(.var 6)])),
    (.for_ (.j6 [(.pr .ix [(.var 2),(.cst (.int 2))])]) (.nm 8) [(.asg (.nm 9) (.call 31 [(.pr .ix [(.var 2),(.pr .add [(.cst (.int 4)),(.pr .mul [(.cst (.int 2)),(.var 8)])])]),(.var 6)])),
    (.ife (.and (.pr .eq [(.pr .ix [(.var 2),(.pr .add [(.cst (.int 4)),(.pr .mul [(.cst (.int 2)),(.var 8)])])]),(.cst (.int 2))]) (.pr .ne [(.var 7),(.pr .lst [])])) [(.asg (.nm 9) (.pr .ix [(.var 7),(.pr .mod [(.pr .ix [(.var 2),(.cst (.int 3))]),(.pr .len [(.var 7)])])]))] []),
    (.expr (.lm .insert (.var 7) [(.pr .mod [(.pr .ix [(.var 2),(.pr .add [(.cst (.int 3)),(.pr .mul [(.cst (.int 2)),(.var 8)])])]),(.pr .add [(.pr .len [(.var 7)]),(.cst (.int 1))])]),(.var 9)]))]),
    (.asg (.nm 10) (.pr .ix [(.pr .lst [(.pr .mod [(.pr .ix [(.var 2),(.cst (.int 8))]),(.pr .mul [(.cst (.int 2)),(.var 4)])]),(.call 31 [(.pr .ix [(.var 2),(.cst (.int 10))]),(.pr .mul [(.cst (.int 2)),(.var 4)])]),(.pr .mod [(.pr .ix [(.var 2),(.cst (.int 8))]),(.pr .mul [(.cst (.int 2)),(.var 4)])]),(.pr .mod [(.pr .ix [(.var 2),(.cst (.int 8))]),(.pr .mul [(.cst (.int 2)),(.var 4)])])]),(.pr .ix [(.var 2),(.cst (.int 7))])])),
    (.asg (.nm 11) (.pr .ix [(.pr .lst [(.pr .mod [(.pr .ix [(.var 2),(.cst (.int 9))]),(.pr .mul [(.cst (.int 2)),(.var 4)])]),(.pr .mod [(.pr .ix [(.var 2),(.cst (.int 9))]),(.pr .mul [(.cst (.int 2)),(.var 4)])]),(.call 31 [(.pr .ix [(.var 2),(.cst (.int 10))]),(.pr .mul [(.cst (.int 2)),(.var 4)])]),(.var 10)]),(.pr .ix [(.var 2),(.cst (.int 7))])])),
    (.asg (.nm 12) (.call 33 [(.var 7),(.var 6)])),
    (.asg (.nm 13) (.pr .list [(.var 7)])),
    (.asg (.nm 14) (.told 7 [5,13] (.call 10 [(.var 0),(.var 1)]))),
    (.ife (.or (.and (.pr .isN [(.var 12)]) (.pr .ne [(.pr .ix [(.var 14),(.cst (.int 0))]),(.cst (.str [116,111,108,100]))])) (.and (.pr .zE [(.var 12)]) (.pr .ne [(.var 14),(.var 12)]))) [(.ret (.cst (.bl false)))] []),
    (.ife (.and (.pr .eq [(.var 10),(.var 11)]) (.chain .le .lt (.cst (.int 0)) (.var 10) (.pr .mul [(.cst (.int 2)),(.var 4)]))) [(.asg (.nm 12) (.pr .tup [(.cst (.str [110,111])),(.cst (.str [116,111,108,100,32,116,119,105,99,101]))]))] []),
    (.ife (.or (.pr .BR [(.chain .le .lt (.cst (.int 0)) (.var 10) (.pr .mul [(.cst (.int 2)),(.var 4)]))]) (.pr .BR [(.chain .le .lt (.cst (.int 0)) (.var 11) (.pr .mul [(.cst (.int 2)),(.var 4)]))])) [(.asg (.nm 12) (.pr .tup [(.cst (.str [110,111])),(.cst (.str [110,111,32,112,97,105,114]))]))] []),
    (.asg (.nm 14) (.told 7 [5,10,11,13] (.call 7 [(.var 0),(.var 3),(.var 1),(.var 2)]))),
    (.ife (.or (.and (.pr .isN [(.var 12)]) (.pr .ne [(.pr .ix [(.var 14),(.cst (.int 0))]),(.cst (.str [116,111,108,100]))])) (.or (.and (.pr .zE [(.var 12)]) (.pr .ne [(.var 14),(.var 12)])) (.pr .ne [(.var 13),(.var 7)]))) [(.ret (.cst (.bl false)))] []),
    (.ife (.and (.pr .gt [(.var 6),(.cst (.int 7))]) (.pr .ne [(.told 7 [5] (.call 12 [(.var 0)])),(.pr .tup [(.cst (.str [110,111])),(.cst (.str [116,111,111,32,109,97,110,121]))])])) [(.ret (.cst (.bl false)))] [])])):=by
 have T:=C.T;have A2:=C.A2;have hr:=C.hr;have hp:=C.hp;have AL:=C.AL;have LH:=C.LH;have hrT:=C.hrT;have hrL:=C.hrL;have SD:=Qp (P:=P) (w:=w) (base:=base) T;have SC:=Qs (P:=P) (w:=w) (base:=base) T
 exact⟨(rO PassesOwn.leaving rfl pH (kJ rfl T.jL (bz aD au)) (bF 1 gK.nd)
  (aa (cQ 2 gK.nd (aau (k:=2) adJ T.nZ SD (hr.mono (by omega)) rfl (pK (aau (k:=1) (adI (K:=K)) T.n6 SC (hr.mono (by omega)) rfl (aq (dv 0) (aq (dv 1) au))) (Jj (k_ (bz aD (bz aD (bz aD (bz aD (bz aD (bz aD (bz aD (bz aD (bz aD (bz aD (bz aD au)))))))))))) au))))
  (aa (vU (adN A2.Gh T.iC hr hp (iY (fM (dv 2) aD) au)) (iW rfl (bf (bF 3 gK.nd) (bf (bF 4 gK.nd) fZ))))
  (aa (cQ 5 gK.nd (abw (abj T.JG A2.Gg (hr.mono (by omega)) rfl T.abB T.Gf hp (aq (dv 3) (aq (dv 4) au)))))
  (aa (cQ 6 gK.nd (lN T.bA T.lH A2.mU (hr.mono (by omega)) T.mR hp (dv 5)))
  (aa (cQ 7 gK.nd (fP A2.Gi T.iD hr hp (iY (fM (dv 2) aD) (aq (dv 6) au))))
  (aa (rO PassesOwn.leaving rfl pH (kJ rfl T.jL (iY (fM (dv 2) aD) au)) (bF 8 gK.nd)
  (aa (cQ 9 gK.nd (fP A2.uH T.gW hr hp (iY (fM (dv 2) (aZ kY (L2.OpR.or d9 g_) aD (aZ kZ (L2.OpR.or cV iM) aD (dv 8)))) (aq (dv 6) au))))
  (aa (fO (PW.pt (qx (bQ oZ (iR hr.units) (fM (dv 2) (aZ kY (L2.OpR.or d9 g_) aD (aZ kZ (L2.OpR.or cV iM) aD (dv 8)))) aD (bD _)) (pw_and1 (bQ xZ (qu hr.units) (dv 7) (k_ au) (bD _))))) (aa (cQ 9 gK.nd (fM (dv 7) (aZ jB cX (fM (dv 2) aD) (iy (tU (K:=K)) cI rfl T.jD boot_len (aq (dv 7) au)))))
  az) az)
  (aa (j8 (Ui Zq PySem.F.slot_list_insert PySem.F.type_list_insert Xn (dv 7) (dN (aZ jB cX (fM (dv 2) (aZ kY (L2.OpR.or d9 g_) aD (aZ kZ (L2.OpR.or cV iM) aD (dv 8)))) (aZ kY (L2.OpR.or d9 g_) (iy (tU (K:=K)) cI rfl T.jD boot_len (aq (dv 7) au)) aD)) (aq (dv 9) au))))
  az))))
  (aa (cQ 10 gK.nd (fM (k_ (dN (aZ jB cX (fM (dv 2) aD) (aZ kZ (L2.OpR.or cV iM) aD (dv 4))) (pK (fP A2.uH T.gW hr hp (iY (fM (dv 2) aD) (dN (aZ kZ (L2.OpR.or cV iM) aD (dv 4)) au))) (dN (aZ jB cX (fM (dv 2) aD) (aZ kZ (L2.OpR.or cV iM) aD (dv 4))) (dN (aZ jB cX (fM (dv 2) aD) (aZ kZ (L2.OpR.or cV iM) aD (dv 4))) au))))) (fM (dv 2) aD)))
  (aa (cQ 11 gK.nd (fM (k_ (dN (aZ jB cX (fM (dv 2) aD) (aZ kZ (L2.OpR.or cV iM) aD (dv 4))) (dN (aZ jB cX (fM (dv 2) aD) (aZ kZ (L2.OpR.or cV iM) aD (dv 4))) (pK (fP A2.uH T.gW hr hp (iY (fM (dv 2) aD) (dN (aZ kZ (L2.OpR.or cV iM) aD (dv 4)) au))) (aq (dv 10) au))))) (fM (dv 2) aD)))
  (aa (cQ 12 gK.nd (fP A2.Ek T.gR hr hp (aq (dv 7) (aq (dv 6) au))))
  (aa (cQ 13 gK.nd (Wy (ac6 (K:=K)) N6 rfl T.Hy boot_list (aq (dv 7) au)))
  (aa (cQ 14 gK.nd (Jh (w2:="") (NT:=[]) (nx:=7) LH (fun _=>rfl) hrT T.cB.fn wG T.cB.bd rfl T.cB.mg T.cB.fn.kp rfl (by decide +kernel) (by decide +kernel) (by decide +kernel) rfl (Or.inl rfl) rfl T.dX T.uF (by decide) (by decide) (by decide) (by decide) (by decide) (hXs T)
  (iT (N':=["_law_plan","_law_handed"]) (nt:=0) (idx:=[5,13]) (N:=["_law_script","_law_k","_law_row","_law_kind","_law_t","_law_plan","_law_many","_law_turned","_law_turn","_law_bad","_law_one","_law_other","_law_due","_law_handed","_law_found"]) (osc:=ak dZ) rfl rfl (by decide +kernel)) rfl rfl rfl (fun _ _ _ _ _=>rfl)
  (fun cdv s1 H1 E2 E' pn f c' clos s H E3=>by
    exact(pI (AL.Qy) ((hrL _ _).mono (by omega)) rfl T.jc.mg T.jc.fn.kp T.jc.bd (vN (E:=E3) Own.lam rfl (fun _ _ _ z=>z)) (aq (dv 0) (aq (dv 1) au))))))
  (aa (fO (PW.pt (uV (PW.pt (qx (Wv (dv 12)) (pw_and1 (bQ xZ (qu hr.units) (fM (dv 14) aD) (d_ [116,111,108,100]) (bD _))))) (pw_or1 (PW.pt (qx (Je (dv 12)) (pw_and1 (bQ xZ (qu hr.units) (dv 14) (dv 12) (bD _)))))))) (aa (bI M6)
  az) az)
  (aa (fO (PW.pt (qx (bQ oZ (iR hr.units) (dv 10) (dv 11) (bD _)) (pw_and1 (sX hr.rK aD (dv 10) (aZ kZ (L2.OpR.or cV iM) aD (dv 4)))))) (aa (cQ 12 gK.nd (iV (bz (d_ [110,111]) (bz (d_ [116,111,108,100,32,116,119,105,99,101]) au))))
  az) az)
  (aa (fO (PW.pt (uV (Oq (sX hr.rK aD (dv 10) (aZ kZ (L2.OpR.or cV iM) aD (dv 4)))) (pw_or1 (Oq (sX hr.rK aD (dv 11) (aZ kZ (L2.OpR.or cV iM) aD (dv 4))))))) (aa (cQ 12 gK.nd (iV (bz (d_ [110,111]) (bz (d_ [110,111,32,112,97,105,114]) au))))
  az) az)
  (aa (cQ 14 gK.nd (Jh (w2:="") (NT:=[]) (nx:=7) LH (fun _=>rfl) hrT T.cB.fn wG T.cB.bd rfl T.cB.mg T.cB.fn.kp rfl (by decide +kernel) (by decide +kernel) (by decide +kernel) rfl (Or.inl rfl) rfl T.dX T.uF (by decide) (by decide) (by decide) (by decide) (by decide) (hXs T)
  (iT (N':=["_law_plan","_law_one","_law_other","_law_handed"]) (nt:=0) (idx:=[5,10,11,13]) (N:=["_law_script","_law_k","_law_row","_law_kind","_law_t","_law_plan","_law_many","_law_turned","_law_turn","_law_bad","_law_one","_law_other","_law_due","_law_handed","_law_found"]) (osc:=ak dZ) rfl rfl (by decide +kernel)) rfl rfl rfl (fun _ _ _ _ _=>rfl)
  (fun cdv s1 H1 E2 E' pn f c' clos s H E3=>by
    exact(pI (AL.Zy) ((hrL _ _).mono (by omega)) rfl T.pA.mg T.pA.fn.kp T.pA.bd (vN (E:=E3) Own.lam rfl (fun _ _ _ z=>z)) (aq (dv 0) (aq (dv 3) (aq (dv 1) (aq (dv 2) au))))))))
  (aa (fO (PW.pt (uV (PW.pt (qx (Wv (dv 12)) (pw_and1 (bQ xZ (qu hr.units) (fM (dv 14) aD) (d_ [116,111,108,100]) (bD _))))) (uV (PW.pt (qx (Je (dv 12)) (pw_and1 (bQ xZ (qu hr.units) (dv 14) (dv 12) (bD _))))) (pw_or1 (bQ xZ (qu hr.units) (dv 13) (dv 7) (bD _)))))) (aa (bI M6)
  az) az)
  (aa (fO (PW.pt (qx (bQ YX MJ (dv 6) aD (bD _)) (pw_and1 (bQ xZ (qu hr.units) (Jh (w2:="") (NT:=[]) (nx:=7) LH (fun _=>rfl) hrT T.cB.fn wG T.cB.bd rfl T.cB.mg T.cB.fn.kp rfl (by decide +kernel) (by decide +kernel) (by decide +kernel) rfl (Or.inl rfl) rfl T.dX T.uF (by decide) (by decide) (by decide) (by decide) (by decide) (hXs T)
  (iT (N':=["_law_plan"]) (nt:=0) (idx:=[5]) (N:=["_law_script","_law_k","_law_row","_law_kind","_law_t","_law_plan","_law_many","_law_turned","_law_turn","_law_bad","_law_one","_law_other","_law_due","_law_handed","_law_found"]) (osc:=ak dZ) rfl rfl (by decide +kernel)) rfl rfl rfl (fun _ _ _ _ _=>rfl)
  (fun cdv s1 H1 E2 E' pn f c' clos s H E3=>by
    exact(pI (AL.XC) ((hrL _ _).mono (by omega)) rfl T.mY.mg T.mY.fn.kp T.mY.bd (vN (E:=E3) Own.lam rfl (fun _ _ _ z=>z)) (aq (dv 0) au)))) (iV (bz (d_ [110,111]) (bz (d_ [116,111,111,32,109,97,110,121]) au))) (bD _))))) (aa (bI M6)
  az) az)
  az))))))))))))))))))⟩
def agc{σ0:L2.St}{A:Around}{outer:List Env}{s:aj}{H:Hp}{E:XK}(C:LC P w K mg base a (ie (CXE P w) P w K mg base ["_law_script","_law_k","_law_row","_law_kind","_law_t","_law_plan","_law_many","_law_turned","_law_turn","_law_bad","_law_one","_law_other","_law_due","_law_handed","_law_found"] "law" (ak dZ) a.pQ (.ref a.code) A outer s H E) E):QS (ie (CXE P w) P w K mg base ["_law_script","_law_k","_law_row","_law_kind","_law_t","_law_plan","_law_many","_law_turned","_law_turn","_law_bad","_law_one","_law_other","_law_due","_law_handed","_law_found"] "law" (ak dZ) a.pQ (.ref a.code) A outer s H E) ((cG dZ).getD 1 (.Pass ⟨0,0,0,0⟩)) (tS Pg (cn a) E 13 σ0 (.ret (.cst (.bl true)))):=by
 have T:=C.T;have A2:=C.A2;have hr:=C.hr;have hp:=C.hp;have AL:=C.AL;have LH:=C.LH;have hrT:=C.hrT;have hrL:=C.hrL;exact⟨(bI M6)⟩
def aea(T:Txt w K mg a){oc kV doc pm ct:Value}{od an:Option Addr}{osl:Array (Option Value)}
    (lk:K.lookup a.pQ=some ⟨oc,od,.func (PySem.W.fnOf "law" "law" (jG dZ) (cG dZ) (ak dZ) .none kV doc pm an (.ref a.code) ct),osl⟩) (hcd:PySem.W.codeIn K (.ref a.code) "law" =true)
    (hch:PySem.W.codeHdIn K a.code a.tbl=true) (KX:K.In base) (bm:base.BuiltinsAt mg a.tbl):
    bU P w K mg base (CXE P w) 192 a.pQ (PySem.W.fnOf "law" "law" (jG dZ) (cG dZ) (ak dZ) .none kV doc pm an (.ref a.code) ct) ["_law_script"] (yQ a.tbl):=by
 refine(adR (Pg:=Pg) (cl:=cn a) (k:=191) (d:=13) (i:=34) (b:=Nq) lk hcd gK rfl fun σ0 A outer s H E hr hp=>?_).imp (aby rfl runs);have C:LC P w K mg base a (ie (CXE P w) P w K mg base ["_law_script","_law_k","_law_row","_law_kind","_law_t","_law_plan","_law_many","_law_turned","_law_turn","_law_bad","_law_one","_law_other","_law_due","_law_handed","_law_found"] "law" (ak dZ) a.pQ (.ref a.code) A outer s H E) E:=⟨T,QB T 13,hr,hp,QB T 11,⟨rfl,rfl,PySem.W.codeHd_of_K KX hch,bm,rfl⟩,hr.mono (by omega),fun e1 e2=>((hr.mono (show 184<=191 by omega)).deeper e1).deeper e2⟩;have z:QSs (ie (CXE P w) P w K mg base ["_law_script","_law_k","_law_row","_law_kind","_law_t","_law_plan","_law_many","_law_turned","_law_turn","_law_bad","_law_one","_law_other","_law_due","_law_handed","_law_found"] "law" (ak dZ) a.pQ (.ref a.code) A outer s H E) (cG dZ) (tSs Pg (cn a) E 13 σ0 Nq):=(vX (agb C) (vX (agc C) RV));exact z
end
end My
namespace My
open PySem L2 PyProof.Rows Ev PySem.W
def all_mk{l:OpenLaw}{w:World}{K:Frag}{h:Heap}{mg:Str->Option Value}{fa tbl:Addr}{pN rA vA j9 vB vC f_lean sZ nU tu mH jJ rB nW mJ tD m8 rY yW mK j_ rC pP o9 qG qH t6 cL kh iz gO pQ code bh rD rE rF rG tH vD rH dW fW iB jP jk dR dU eO jQ cM cN cg eU eV eX eY f9 gQ eZ jE uJ uK uL uM:Addr}(X:K.In h)(G:h.Ns mainGlobals mg)(hfa:mg "law" =some (.ref fa))
    {aeb X3 JX JZ J0 J6:Option Addr} {aec J7 J8 J9 J_:Array (Option Value)} {aed X4 X5 X6 X7:Value} {Av Aw Ax Ay:Int} {Mf Mg Mh Mi:Tok} {Dk:Nat} {HN HQ HR HS:Tok} {Mj:Nat} {HW HX HY:Tok} {Ml:Nat} {H9 H_ Ia:Tok} {Mm:Nat} {Ib Ie Ig Ih Ii:Tok} {Mp:Nat} {oM:Tok} {sr:Tok} {qP:Tok}
    (pR:∃ fd,DK K "seats_in" zO pN fd)
    (mW:∃ fd,DK K "meeting" Cp rA fd)
    (nY:∃ fd,DK K "guide" DX vA fd)
    (jl:∃ fd,DK K "need_turned" uz j9 fd)
    (pU:∃ fd,DK K "links" Jy vB fd)
    (tK:∃ fd,DK K "likes" DY vC fd)
    (uh:∃ fd,DK K "lean" Qa f_lean fd)
    (pA:∃ fd,DK K "beside" Ga sZ fd)
    (lV:∃ fd,DK K "all_links" qz nU fd)
    (nA:∃ fd,DK K "uneven" zQ tu fd)
    (jc:∃ fd,DK K "unevenness" wg mH fd)
    (jK:∃ fd,DK K "rising_lists" pM jJ fd)
    (mY:∃ fd,DK K "evenest" xJ rB fd)
    (lW:∃ fd,DK K "need_ring" yd nW fd)
    (jd:∃ fd,DK K "all_unlike" wj mJ fd)
    (tL:∃ fd,DK K "differ" wu tD fd)
    (nD:∃ fd,DK K "pairings" u_ m8 fd)
    (pW:∃ fd,DK K "starters" vd rY fd)
    (yX:∃ fd,DK K "fits" Hi yW fd)
    (jR:∃ fd,DK K "first_from" wB mK fd)
    (kj:∃ fd,DK K "first_adder" uA j_ fd)
    (mZ:∃ fd,DK K "planned" Cu rC fd)
    (pX:∃ fd,DK K "trios_of" vf pP fd)
    (mQ:∃ fd,DK K "_law_mixed" wF o9 fd)
    (nZ:∃ fd,DK K "_law_draw" yf qG fd)
    (n6:∃ fd,DK K "_law_cell" yg qH fd)
    (cB:∃ fd,DK K "_law_told" yh t6 fd)
    (iC:∃ fd,DK K "_law_some_plan" cj cL fd)
    (gW:∃ fd,DK K "_law_far_of" uB kh fd)
    (iD:∃ fd,DK K "_law_rounds_of" qX iz fd)
    (gR:∃ fd,DK K "_law_turned_bad" mq gO fd)
    (aaF:nsIn K mainGlobals "law" =some (some (.ref pQ)))
    (aaG:K.lookup pQ=some ⟨aed,aeb,.func (fnOf "law" "law" (jG dZ) (cG dZ) (ak dZ) .none X4 X5 X6 X3 (.ref code) X7),aec⟩)
    (X8:codeIn K (.ref code) "law" =true)
    (aee:keepIn K (.ref pQ)=true)
    (QK:nsIn K mainGlobals "StandError" =some (some (.ref bh)))
    (X_:nsIn K mainGlobals "BadRing" =some (some (.ref rD)))
    (Yb:nsIn K mainGlobals "BadPlan" =some (some (.ref rE)))
    (Yc:nsIn K mainGlobals "NoRound" =some (some (.ref rF)))
    (Yd:nsIn K mainGlobals "NoTable" =some (some (.ref rG)))
    (ZR:nsIn K mainGlobals "NoPair" =some (some (.ref tH)))
    (abK:nsIn K mainGlobals "Twice" =some (some (.ref vD)))
    (Ye:nsIn K mainGlobals "TooMany" =some (some (.ref rH)))
    (aef:nsIn K mainGlobals "Plan" =some (some (.ref dW)))
    (iH:∃ fd,MK K dW "__init__" "Plan.__init__" qY fW fd)
    (mV:∃ fd,MK K dW "rounds" "Plan.rounds" sY iB fd)
    (pD:∃ fd,MK K dW "sets" "Plan.sets" wH jP fd)
    (nM:∃ fd,MK K dW "pairs" "Plan.pairs" uC jk fd)
    (jf:∃ fd,MK K dW "need_round" "Plan.need_round" o5 dR fd)
    (jg:∃ fd,MK K dW "need_table" "Plan.need_table" o6 dU fd)
    (jt:∃ fd,MK K dW "need_pair" "Plan.need_pair" qd eO fd)
    (pF:∃ fd,MK K dW "seat" "Plan.seat" wJ jQ fd)
    (fJ:∃ fd,MK K dW "one_field_seat" "Plan.one_field_seat" lQ cM fd)
    (fK:∃ fd,MK K dW "two_field_seat" "Plan.two_field_seat" lR cN fd)
    (fL:∃ fd,IK K bh "__init__" "StandError.__init__" lU cg fd)
    (e_:∃ fd,IK K rD "__init__" "BadRing.__init__" ou eU fd)
    (fj:∃ fd,IK K rE "__init__" "BadPlan.__init__" oA eV fd)
    (fu:∃ fd,IK K rF "__init__" "NoRound.__init__" oE eX fd)
    (fB:∃ fd,IK K rG "__init__" "NoTable.__init__" oF eY fd)
    (gh:∃ fd,IK K tH "__init__" "NoPair.__init__" o7 f9 fd)
    (gU:∃ fd,IK K vD "__init__" "Twice.__init__" qe gQ fd)
    (fD:∃ fd,IK K rH "__init__" "TooMany.__init__" oG eZ fd)
    (abL:plainGet K dW Str.empty=true)
    (abM:hasDictIn K dW=true)
    (abN:plainOver K dW=true)
    (abO:findIn K (.ref dW) "__setattr__" =some (some (.builtin "object.__setattr__")))
    (je:findIn K (.ref dW) "kind" =some none)
    (dm:findIn K (.ref dW) "tables" =some none)
    (qQ:findIn K (.ref dW) "trios" =some none)
    (JG:makesIn K dW=true)
    (abP:keepIn K (.ref dW)=true)
    (QL:mD K bh)
    (xP:XK1 K rD bh)
    (xQ:XK1 K rE bh)
    (xR:XK1 K rF bh)
    (xT:XK1 K rG bh)
    (Af:XK1 K tH bh)
    (Ef:XK1 K vD bh)
    (xU:XK1 K rH bh)
    (ci1:specialIn K (.ref bh) "__getattribute__" =some (some (.builtin "type.__getattribute__")))
    (ci2:readsIn K bh (.type "type")=true)
    (ci3:findCls K (.ref bh) (.type "type") "__init__" =some (.val (.ref cg)))
    (ci4:handedIn (.ref cg)=true)
    (Rb:nsIn K mainGlobals "TABLES_OF" =some (some (.ref jE)))
    (QM:K.lookup jE=some ⟨.type "dict",none,.dict (List.toArray [⟨Av,.str (nm [115,116,114,97,105,103,104,116]) Mf,.ref uJ⟩,⟨Aw,.str (nm [115,107,105,112]) Mg,.ref uK⟩,⟨Ax,.str (nm [115,104,97,114,101,100]) Mh,.ref uL⟩,⟨Ay,.str (nm [114,105,110,103]) Mi,.ref uM⟩]) Dk,#[]⟩)
    (Mq:Av=PyData.keyHash w.params (nm [115,116,114,97,105,103,104,116]))
    (Mr:K.lookup uJ=some ⟨.type "tuple",JX,.seq (List.toArray [.int 3 HN,.int 5 HQ,.int 7 HR,.int 9 HS]) Mj,J7⟩)
    (Ms:Aw=PyData.keyHash w.params (nm [115,107,105,112]))
    (Mt:K.lookup uK=some ⟨.type "tuple",JZ,.seq (List.toArray [.int 4 HW,.int 6 HX,.int 8 HY]) Ml,J8⟩)
    (Mu:Ax=PyData.keyHash w.params (nm [115,104,97,114,101,100]))
    (Mv:K.lookup uL=some ⟨.type "tuple",J0,.seq (List.toArray [.int 4 H9,.int 6 H_,.int 8 Ia]) Mm,J9⟩)
    (Mw:Ay=PyData.keyHash w.params (nm [114,105,110,103]))
    (Mx:K.lookup uM=some ⟨.type "tuple",J6,.seq (List.toArray [.int 2 Ib,.int 3 Ie,.int 4 Ig,.int 5 Ih,.int 6 Ii]) Mp,J_⟩)
    (QT:(jE==sysModules)=false)
    (Gj:nsIn K mainGlobals "GREATEST_RING" =some (some (.int (11) oM)))
    (Mz:nsIn K mainGlobals "LEAST_RING" =some (some (.int (3) sr)))
    (Ka:nsIn K mainGlobals "MOST_ROUNDS" =some (some (.int (7) qP)))
    (wQ:nsIn K mainGlobals "ValueError" =some none)
    (U8:nsIn K mainGlobals "abs" =some none)
    (U9:nsIn K mainGlobals "all" =some none)
    (t7:nsIn K mainGlobals "enumerate" =some none)
    (jD:nsIn K mainGlobals "len" =some none)
    (Hy:nsIn K mainGlobals "list" =some none)
    (U_:nsIn K mainGlobals "min" =some none)
    (jL:nsIn K mainGlobals "range" =some none)
    (Hz:nsIn K mainGlobals "set" =some none)
    (Va:nsIn K mainGlobals "sum" =some none)
    (Nr:nsIn K mainGlobals "zip" =some none)
    (hch:codeHdIn K code tbl=true):
    ∃ fd:aR,(∀(s:aj) (v:Value),BindsTo s fd ⟨[v],[]⟩ [("_law_script",v)])/\∀ base:Heap,K.In base->base.Ns mainGlobals mg->base.BuiltinsAt mg tbl->bU l.prog w K mg base (CXE l.prog w) 192 fa fd ["_law_script"] (yQ tbl):=by
 have e:=hfa.symm.trans (mg_of X G aaF);cases e;obtain⟨vg,pR⟩:=pR;obtain⟨xK,mW⟩:=mW;obtain⟨D_,nY⟩:=nY;obtain⟨qM,jl⟩:=jl;obtain⟨Ea,pU⟩:=pU;obtain⟨Eb,tK⟩:=tK;obtain⟨Ho,uh⟩:=uh;obtain⟨zY,pA⟩:=pA;obtain⟨tY,lV⟩:=lV;obtain⟨zZ,nA⟩:=nA;obtain⟨rR,jc⟩:=jc;obtain⟨pO,jK⟩:=jK;obtain⟨xM,mY⟩:=mY;obtain⟨tZ,lW⟩:=lW;obtain⟨rT,jd⟩:=jd;obtain⟨z6,tL⟩:=tL;obtain⟨rW,nD⟩:=nD;obtain⟨z7,pW⟩:=pW;obtain⟨Hq,yX⟩:=yX;obtain⟨rZ,jR⟩:=jR;obtain⟨qN,kj⟩:=kj;obtain⟨xN,mZ⟩:=mZ;obtain⟨vh,pX⟩:=pX;obtain⟨wO,mQ⟩:=mQ;obtain⟨yj,nZ⟩:=nZ;obtain⟨ym,n6⟩:=n6;obtain⟨Ey,cB⟩:=cB;obtain⟨m9,iC⟩:=iC;obtain⟨qO,gW⟩:=gW;obtain⟨m_,iD⟩:=iD;obtain⟨mz,gR⟩:=gR;obtain⟨jO,iH⟩:=iH;obtain⟨mO,mV⟩:=mV;obtain⟨o_,pD⟩:=pD;obtain⟨nJ,nM⟩:=nM;obtain⟨iZ,jf⟩:=jf;obtain⟨i_,jg⟩:=jg;obtain⟨jq,jt⟩:=jt;obtain⟨pq,pF⟩:=pF;obtain⟨fG,fJ⟩:=fJ;obtain⟨fH,fK⟩:=fK;obtain⟨iK,fL⟩:=fL;obtain⟨jV,e_⟩:=e_;obtain⟨jW,fj⟩:=fj;obtain⟨jX,fu⟩:=fu;obtain⟨jY,fB⟩:=fB;obtain⟨lF,gh⟩:=gh;obtain⟨mC,gU⟩:=gU;obtain⟨jZ,fD⟩:=fD;have aaH:=Gv (st:=dZ) aaG X8 aee;have Kc:KTup K uJ [3,5,7,9]:=fun H=>.inr ⟨_,_,_,Mr,rfl,rfl,(show 4<=sizeLine by decide),.cons ⟨_,rfl⟩ (.cons ⟨_,rfl⟩ (.cons ⟨_,rfl⟩ (.cons ⟨_,rfl⟩ (.nil))))⟩;have Kd:KTup K uK [4,6,8]:=fun H=>.inr ⟨_,_,_,Mt,rfl,rfl,(show 3<=sizeLine by decide),.cons ⟨_,rfl⟩ (.cons ⟨_,rfl⟩ (.cons ⟨_,rfl⟩ (.nil)))⟩;have Ke:KTup K uL [4,6,8]:=fun H=>.inr ⟨_,_,_,Mv,rfl,rfl,(show 3<=sizeLine by decide),.cons ⟨_,rfl⟩ (.cons ⟨_,rfl⟩ (.cons ⟨_,rfl⟩ (.nil)))⟩;have Kf:KTup K uM [2,3,4,5,6]:=fun H=>.inr ⟨_,_,_,Mx,rfl,rfl,(show 5<=sizeLine by decide),.cons ⟨_,rfl⟩ (.cons ⟨_,rfl⟩ (.cons ⟨_,rfl⟩ (.cons ⟨_,rfl⟩ (.cons ⟨_,rfl⟩ (.nil)))))⟩;have qR:Uo K w jE wK:=⟨⟨_,Dk,QM,⟨⟨_,_,rfl,Mq⟩,⟨⟨_,_,rfl,Ms⟩,⟨⟨_,_,rfl,Mu⟩,⟨⟨_,_,rfl,Mw⟩,trivial⟩⟩⟩⟩,.cons Kc (.cons Kd (.cons Ke (.cons Kf (.nil))))⟩,QT⟩;have T:Txt w K mg ⟨pN,_,rA,_,vA,_,j9,_,vB,_,vC,_,f_lean,_,sZ,_,nU,_,tu,_,mH,_,jJ,_,rB,_,nW,_,mJ,_,tD,_,m8,_,rY,_,yW,_,mK,_,j_,_,rC,_,pP,_,o9,_,qG,_,qH,_,t6,_,cL,_,kh,_,iz,_,gO,_,fa,_,fW,_,iB,_,jP,_,jk,_,dR,_,dU,_,eO,_,jQ,_,cM,_,cN,_,cg,_,eU,_,eV,_,eX,_,eY,_,f9,_,gQ,_,eZ,_,bh,rD,rE,rF,rG,tH,vD,rH,dW,jE,oM,sr,qP,tbl,code⟩:=⟨pR.df X G,mW.df X G,nY.df X G,jl.df X G,pU.df X G,tK.df X G,uh.df X G,pA.df X G,lV.df X G,nA.df X G,jc.df X G,jK.df X G,mY.df X G,lW.df X G,jd.df X G,tL.df X G,nD.df X G,pW.df X G,yX.df X G,jR.df X G,kj.df X G,mZ.df X G,pX.df X G,mQ.df X G,nZ.df X G,n6.df X G,cB.df X G,iC.df X G,gW.df X G,iD.df X G,gR.df X G,⟨aaH,fbn aaH,mg_of X G aaF⟩,iH.F,fbn iH.F,mV.F,fbn mV.F,mV.mt,pD.F,fbn pD.F,pD.mt,nM.F,fbn nM.F,nM.mt,jf.F,fbn jf.F,jf.mt,jg.F,fbn jg.F,jg.mt,jt.F,fbn jt.F,jt.mt,pF.F,fbn pF.F,pF.mt,fJ.F,fbn fJ.F,fJ.mt,fK.F,fbn fK.F,fK.mt,fL.F,fbn fL.F,e_.F,fbn e_.F,fj.F,fbn fj.F,fu.F,fbn fu.F,fB.F,fbn fB.F,gh.F,fbn gh.F,gU.F,fbn gU.F,fD.F,fbn fD.F,⟨abL,abM,abN,abO⟩,je,dm,qQ,⟨JG,iH.a,iH.n,abP⟩,mg_of X G aef,⟨xP.X,e_.a,e_.n,xP.k⟩,xP.s,xP.w,mg_of X G X_,⟨xQ.X,fj.a,fj.n,xQ.k⟩,xQ.s,xQ.w,mg_of X G Yb,⟨xR.X,fu.a,fu.n,xR.k⟩,xR.s,xR.w,mg_of X G Yc,⟨xT.X,fB.a,fB.n,xT.k⟩,xT.s,xT.w,mg_of X G Yd,⟨Af.X,gh.a,gh.n,Af.k⟩,Af.s,Af.w,mg_of X G ZR,⟨Ef.X,gU.a,gU.n,Ef.k⟩,Ef.s,Ef.w,mg_of X G abK,⟨xU.X,fD.a,fD.n,xU.k⟩,xU.s,xU.w,mg_of X G Ye,QL,⟨ci1,ci2,ci3,ci4,fL.F.kp⟩,mg_of X G QK,qR,mg_of X G Rb,mg_of X G Gj,mg_of X G Mz,mg_of X G Ka,mg_none_of X G wQ,mg_none_of X G U8,mg_none_of X G U9,mg_none_of X G t7,mg_none_of X G jD,mg_none_of X G Hy,mg_none_of X G U_,mg_none_of X G jL,mg_none_of X G Hz,mg_none_of X G Va,mg_none_of X G Nr⟩;exact⟨fnOf "law" "law" (jG dZ) (cG dZ) (ak dZ) .none X4 X5 X6 X3 (.ref code) X7,fun s v=>.of_eq rfl,fun base KB _ bm=>aea T aaG X8 hch KB bm⟩
end My
end
namespace PySem.W.Fast
def tw11643898686511711631:=Nat
def tw9044649434084555855:=Nat
def tw8376243149797016655:=Nat
def tw14483539841878744175:=Nat
def tw13096926226823330351:=Nat
def tw6680825459279845583:=Nat
def tw18256389844984661231:=Nat
def tw4412095155053015535:=Nat
def tw18312012903170356111:=Nat
def tw8597860639412043695:=Nat
def tw7706011822371819087:=Nat
def tw8060563306921797199:=Nat
def tw7875988060433349647:=Nat
def tw15134557745315729455:=Nat
def tw17360852213018452687:=Nat
def tw6599947416561668847:=Nat
def tw16703261501860160110:=Nat
def tw9062387821513201262:=Nat
def tw14787785023770418478:=Nat
def tw6775439046933836078:=Nat
def tw4337252033611241166:=Nat
def tw17417611348501638670:=Nat
def tw8403762738049770158:=Nat
def tw12930364183832931406:=Nat
def tw16773057315094147182:=Nat
def tw13043954412128627822:=Nat
def tw7035507749906537262:=Nat
def tw13078617259163725614:=Nat
def tw18339980814130471854:=Nat
def tw11028139629549686094:=Nat
def tw6723886400369811790:=Nat
def tw16822132662924476782:=Nat
def tw11580577407588125742:=Nat
def tw9339430371408502222:=Nat
def tw15932895433417224366:=Nat
def tw11256370865039896589:=Nat
def tw9409046620302635149:=Nat
def tw8543649208208971725:=Nat
def tw11763885208369400909:=Nat
def tw963838448775063629:=Nat
def tw8979685561935513837:=Nat
def tw16159246682804865357:=Nat
def tw17172154563080345965:=Nat
def tw18333912261812965837:=Nat
def tw14762016269541891661:=Nat
def tw674979923499136364:=Nat
def tw12809645258145805676:=Nat
def tw13581156401654895660:=Nat
def tw5019221102741295148:=Nat
def tw12702807418949915084:=Nat
def tw4509826410335727052:=Nat
def tw13620749378638830060:=Nat
def tw903439256912226604:=Nat
def tw96238454055867692:=Nat
def tw7915906078207335116:=Nat
def tw15081682633688781196:=Nat
def tw17522589629792011660:=Nat
def tw7206995927459233164:=Nat
def tw12804161859399147916:=Nat
def tw12619251814344862124:=Nat
def tw5835317803318043148:=Nat
def tw12442404538202841772:=Nat
def tw15753722416070905611:=Nat
def tw1963215318809817899:=Nat
def tw12442813361414676971:=Nat
def tw12934762638646969963:=Nat
def tw7179618866824897227:=Nat
def tw17540978515032702123:=Nat
def tw346987386534281483:=Nat
def tw13832193063180232075:=Nat
def tw7682922176605530539:=Nat
def tw3120309832216989803:=Nat
def tw7671908927059431882:=Nat
def tw4740174705847626314:=Nat
def tw11740632801585689962:=Nat
def tw10462481101232878058:=Nat
def tw5501387142182165226:=Nat
def tw2165238841027381130:=Nat
def tw6899446804581444906:=Nat
def tw7750758553551302634:=Nat
def tw12194340817266813930:=Nat
def tw9790333698725042186:=Nat
def tw6603685936289436682:=Nat
def tw8850273258335312298:=Nat
def tw11087729170893007274:=Nat
def tw8571469516811239881:=Nat
def tw5977264583639566217:=Nat
def tw10353477860317750825:=Nat
def tw8140215156822084169:=Nat
def tw7636916086387400809:=Nat
def tw10733839394334969993:=Nat
def tw6550993227753992009:=Nat
def tw387829884225708873:=Nat
def tw5756770077898933513:=Nat
def tw2409970562433548553:=Nat
def tw8084161264059445193:=Nat
def tw12079829362302045577:=Nat
def tw1754569662613967337:=Nat
def tw15428450451980132841:=Nat
def tw13029995218452478473:=Nat
def tw17668839071898411625:=Nat
def tw3136036995523938601:=Nat
def tw7692139559928196393:=Nat
def tw11734145142127531208:=Nat
def tw7022201828746605416:=Nat
def tw7498032427305308040:=Nat
def tw11730593508806038824:=Nat
def tw11852932938664114504:=Nat
def tw1462988759837500392:=Nat
def tw17016612654883280296:=Nat
def tw455084252787800648:=Nat
def tw2593928983295205960:=Nat
def tw8348443270571905384:=Nat
def tw14226530363853975944:=Nat
def tw15425041987848463752:=Nat
def tw14048380085614945096:=Nat
def tw7239141797872448328:=Nat
def tw3525814594936472040:=Nat
def tw15392707211856954280:=Nat
def tw4163127665236980680:=Nat
def tw631046336306118280:=Nat
def tw5937675074124970056:=Nat
def tw8746569011664246856:=Nat
def tw2626178797756151880:=Nat
def tw14046193222923715304:=Nat
def tw2579761601350674152:=Nat
def tw9408155272610034983:=Nat
def tw15100222810635296519:=Nat
def tw1789657810005855687:=Nat
def tw7852603184451875271:=Nat
def tw12412747643358657415:=Nat
def tw15866586324341804583:=Nat
def tw12985910334126216871:=Nat
def tw5838193486281814727:=Nat
def tw12428875756715261031:=Nat
def tw17821407921970572551:=Nat
def tw10928857339900345255:=Nat
def tw11894083318978725255:=Nat
def tw6459759666737958375:=Nat
def tw18151977920823805095:=Nat
def tw16519704950562977542:=Nat
def tw11358914234326051590:=Nat
def tw15164695187736702118:=Nat
def tw4595791096743640358:=Nat
def tw14828103882176634310:=Nat
def tw18237749770025765414:=Nat
def tw3033821832525480198:=Nat
def tw6977556805030881798:=Nat
def tw16195858761932822438:=Nat
def tw15829223657629283621:=Nat
def tw13137936267535291685:=Nat
def tw17708851654254377285:=Nat
def tw86369856241261413:=Nat
def tw7199135104428742629:=Nat
def tw10184772444871671781:=Nat
def tw5710514541520813765:=Nat
def tw15437114337477446757:=Nat
def tw11796041353025396645:=Nat
def tw15605841331564007333:=Nat
def tw17944213591970646533:=Nat
def tw18120764072651798693:=Nat
def tw13164715130855143621:=Nat
def tw938631599439945444:=Nat
def tw8751766502672393380:=Nat
def tw3702731769965233348:=Nat
def tw1414440293927961476:=Nat
def tw7085110349880032132:=Nat
def tw11811903574075802596:=Nat
def tw13401638586405616036:=Nat
def tw6396484896990403012:=Nat
def tw1402321112723724516:=Nat
def tw11977191867120929444:=Nat
def tw2851223268041354724:=Nat
def tw3788692067496252324:=Nat
def tw2187814199743859332:=Nat
def tw8980308907012105251:=Nat
def tw5275582901289005539:=Nat
def tw3927340025983783075:=Nat
def tw16195898655937968323:=Nat
def tw7524189609468301955:=Nat
def tw10405927414055998755:=Nat
def tw5285411957830126915:=Nat
def tw17568353675807547715:=Nat
def tw4410282141804041955:=Nat
def tw3113922150819981027:=Nat
def tw7266205735079488259:=Nat
def tw10373658741473492739:=Nat
def tw8516668502883406691:=Nat
def tw14031286476159137667:=Nat
def tw10932822278361843235:=Nat
def tw8845546614264836675:=Nat
def tw1955072129229960323:=Nat
def tw202330249241129219:=Nat
def tw12573949726570254691:=Nat
def tw17601777727382662946:=Nat
def tw13161741479292083138:=Nat
def tw143648627973676642:=Nat
def tw4515163983686480514:=Nat
def tw11115659382415282946:=Nat
def tw13228751791944279202:=Nat
def tw15985293956888642850:=Nat
def tw2723303861854824866:=Nat
def tw18115101937966619074:=Nat
def tw14823861710834863554:=Nat
def tw13484969519248452034:=Nat
def tw3441264615405792354:=Nat
def tw14959408405093640418:=Nat
def tw4370854425755824386:=Nat
def tw11822206061978577570:=Nat
def tw16127136461133512386:=Nat
def tw16865298822104951138:=Nat
def tw4316048135656005441:=Nat
def tw18135897618466148161:=Nat
def tw4030246597056434081:=Nat
def tw12098073754590370177:=Nat
def tw251030822828687425:=Nat
def tw7525462227759645153:=Nat
def tw535254005669800673:=Nat
def tw15022470829907244609:=Nat
def tw14015664878369629153:=Nat
def tw17980871811068516001:=Nat
def tw13676105332413296769:=Nat
def tw4174400914918783872:=Nat
def tw16081157286847531936:=Nat
def tw11582060327102928896:=Nat
def tw9737698500166551232:=Nat
def tw14315495789935615808:=Nat
def tw12509474395367081216:=Nat
def tw5200099022682203424:=Nat
def tw14074067745518143456:=Nat
def tw8095704408533242944:=Nat
def tw9741881707447071808:=Nat
def tw3653931387509269600:=Nat
def tw797033074835033600:=Nat
def tw5948632307714953440:=Nat
def tw242896161438849696:=Nat
def tw3432962890319886688:=Nat
def tw16670762413675154176:=Nat
def tw4198768328428969408:=Nat
def tw583480428256116192:=Nat
def tw9805104806376751007:=Nat
def tw10517849209092635999:=Nat
def tw3340990357828096479:=Nat
def tw14055938261052868767:=Nat
def tw8326219224308992575:=Nat
def tw1603898577707906623:=Nat
def tw2543952223242301023:=Nat
def tw954146047726015167:=Nat
def tw18028051915861558655:=Nat
def tw3827040528207119743:=Nat
def tw6696963089971475103:=Nat
def tw11234912286810857567:=Nat
def tw8136278922306128639:=Nat
def tw7378984080988252830:=Nat
def tw6732884225995187870:=Nat
def tw4349787208047347454:=Nat
def tw10168966658339183070:=Nat
def tw4614211443600830366:=Nat
def tw10741868727137481630:=Nat
def tw1611123285822075454:=Nat
def tw13623054827983515646:=Nat
def tw16856234206027416574:=Nat
def tw17400187236509118462:=Nat
def tw13773466462580984862:=Nat
def tw3930398235478267934:=Nat
def tw589463627466358814:=Nat
def tw2531923004819914110:=Nat
def tw5455656974946997662:=Nat
def tw11676043387839696382:=Nat
def tw16856362812074947102:=Nat
def tw17578786221480675870:=Nat
def tw17943317367314126461:=Nat
def tw490403850311789213:=Nat
def tw2157674775394596509:=Nat
def tw8361082181770287165:=Nat
def tw9861400548438787133:=Nat
def tw2598681476655387709:=Nat
def tw1016329048031881309:=Nat
def tw13063684228630582461:=Nat
def tw4311307176735585469:=Nat
def tw2853729586450793693:=Nat
def tw4053621329782077757:=Nat
def tw2287252038021274045:=Nat
def tw4345907033361988733:=Nat
def tw8613776907758841981:=Nat
def tw8193457470442119325:=Nat
def tw10129208975153750621:=Nat
def tw1846640131145497853:=Nat
def tw16927881298425165501:=Nat
def tw9743188040361886397:=Nat
def tw16447799465461076701:=Nat
def tw15726250226221225469:=Nat
def tw13376582471708952541:=Nat
def tw399801320947498396:=Nat
def tw16703813338128365628:=Nat
def tw9233652141030222940:=Nat
def tw5731626953119294108:=Nat
def tw2575606317827554620:=Nat
def tw13835318397842606396:=Nat
def tw12161904304769624380:=Nat
def tw18387443024785093372:=Nat
def tw11616451655175614236:=Nat
def tw10824553087050645276:=Nat
def tw17398255098472271292:=Nat
def tw3128244726125361596:=Nat
def tw8752181602583081852:=Nat
def tw259065453805696572:=Nat
def tw6906297707348405244:=Nat
def tw12319734352068497532:=Nat
def tw1565199178737281852:=Nat
def tw2254404395956849500:=Nat
def tw11769542019330101532:=Nat
def tw18432261288846738716:=Nat
def tw16578826331528526780:=Nat
def tw7230998224710527964:=Nat
def tw565044192725212124:=Nat
def tw4610235321755569116:=Nat
def tw1219612061663398299:=Nat
def tw1186081526923413307:=Nat
def tw15152677141818833563:=Nat
def tw3770815038265757755:=Nat
def tw3745860214707253467:=Nat
def tw17787542421359563995:=Nat
def tw5273558157418780539:=Nat
def tw10766524744882111515:=Nat
def tw6996481959976138203:=Nat
def tw18414102106616926331:=Nat
def tw13734553697769832731:=Nat
def tw2917834560896027323:=Nat
def tw16846211598063920218:=Nat
def tw17381816456027957786:=Nat
def tw5746483701746073914:=Nat
def tw13890458152879541562:=Nat
def tw16642322918988932858:=Nat
def tw14236844917396401914:=Nat
def tw14999966755713308410:=Nat
def tw10532135341397818810:=Nat
def tw17159190758851945946:=Nat
def tw4748420696609944026:=Nat
def tw15655647937866676954:=Nat
def tw6554439352168844122:=Nat
def tw10033265238849516794:=Nat
def tw11644758167558098202:=Nat
def tw100024890320328986:=Nat
def tw6708355737200104953:=Nat
def tw17403745413032823737:=Nat
def tw9014308085199430617:=Nat
def tw1837518963437173721:=Nat
def tw15744017528933917657:=Nat
def tw11655418999734864537:=Nat
def tw13716154289612584025:=Nat
def tw17667224544449342201:=Nat
def tw11416598247366629145:=Nat
def tw16994095575941863289:=Nat
def tw13322929250674677625:=Nat
def tw3235224752801039353:=Nat
def tw7068724334967664089:=Nat
def tw1584944861885609081:=Nat
def tw18242395015756729497:=Nat
def tw15760600378687781433:=Nat
def tw477626108860404313:=Nat
def tw2596357828339311897:=Nat
def tw15730099946484141753:=Nat
def tw17439368081313687225:=Nat
def tw5859077166704022905:=Nat
def tw3159846105315536728:=Nat
def tw15641159907426664376:=Nat
def tw6622627182019812728:=Nat
def tw3750921231595587992:=Nat
def tw5086562795826423992:=Nat
def tw13010925876143595704:=Nat
def tw16606779424203555032:=Nat
def tw13416021289377741432:=Nat
def tw1522354582644646200:=Nat
def tw6124716531961659128:=Nat
def tw12125323423749773048:=Nat
def tw10696149603047414680:=Nat
def tw8803597799308108696:=Nat
def tw1106723160257879608:=Nat
def tw5237610434842072088:=Nat
def tw17371753144504436440:=Nat
def tw16887106553582753912:=Nat
def tw7906095209111096120:=Nat
def tw6828658789019803319:=Nat
def tw7074042137442923223:=Nat
def tw454284764573084503:=Nat
def tw6338769865520159223:=Nat
def tw9607595356512905143:=Nat
def tw11598404904516643447:=Nat
def tw16518805803846655607:=Nat
def tw5862817435349829687:=Nat
def tw912319232736000087:=Nat
def tw826075755596450903:=Nat
def tw11402094030765050615:=Nat
def tw12389809729101551799:=Nat
def tw6299663167067898039:=Nat
def tw3964048193911364791:=Nat
def tw17910401037886028663:=Nat
def tw15851373023049182519:=Nat
def tw159664750868631991:=Nat
def tw14070962611080446423:=Nat
def tw13022117188729596471:=Nat
def tw3026644385112584790:=Nat
def tw3660944000612823030:=Nat
def tw15294291017378701142:=Nat
def tw17744521789958051062:=Nat
def tw42701407729441014:=Nat
def tw8276909808193251254:=Nat
def tw16358667222907374646:=Nat
def tw9799392628109664790:=Nat
def tw15109375952920631478:=Nat
def tw10516549465971097782:=Nat
def tw8165979925859363030:=Nat
def tw11926216522273447542:=Nat
def tw14743049768489350454:=Nat
def tw4969350852631691606:=Nat
def tw18309087024514141526:=Nat
def tw3693858787550323478:=Nat
def tw3612839195354708758:=Nat
def tw5777051730264763254:=Nat
def tw4470666486077989430:=Nat
def tw2267570168437517878:=Nat
def tw6554520853843334485:=Nat
def tw9323268710741699189:=Nat
def tw15174007232535921685:=Nat
def tw2871578915051009749:=Nat
def tw8595468163307563765:=Nat
def tw2018028323848994965:=Nat
def tw12794989673925095605:=Nat
def tw10340838348251315157:=Nat
def tw14220623919969334357:=Nat
def tw4974620949608936533:=Nat
def tw8095565709123213429:=Nat
def tw6489219172687004789:=Nat
def tw15806411433288073749:=Nat
def tw11610238811728941621:=Nat
def tw5134287362846421684:=Nat
def tw1483868119649443028:=Nat
def tw10331156486602286324:=Nat
def tw16363912839997356980:=Nat
def tw10776161392025344948:=Nat
def tw13936134825831164244:=Nat
def tw5322939179069580308:=Nat
def tw16073596846459246164:=Nat
def tw3566232113997959764:=Nat
def tw13166168221578738996:=Nat
def tw1406015033907252948:=Nat
def tw6039968760202583476:=Nat
def tw6590956649293297076:=Nat
def tw2098375563603948404:=Nat
def tw6785120328814856756:=Nat
def tw7901915663949133364:=Nat
def tw15983859151562669491:=Nat
def tw17213694447865374259:=Nat
def tw10663156329789954291:=Nat
def tw7632604237948971347:=Nat
def tw7791292733057527859:=Nat
def tw357625077349341907:=Nat
def tw4931346948066962131:=Nat
def tw7841110843867897555:=Nat
def tw14149315572255578259:=Nat
def tw11601373265721586867:=Nat
def tw7548860611819378547:=Nat
def tw9619794711344120787:=Nat
def tw15554672602609977170:=Nat
def tw590149634989227890:=Nat
def tw10059402597806045042:=Nat
def tw14338280207670325778:=Nat
def tw5292654352944590834:=Nat
def tw3936662876379724434:=Nat
def tw17674777830787580018:=Nat
def tw8748177291766489330:=Nat
def tw11331496977206287282:=Nat
def tw13056985653872434514:=Nat
def tw5420503453080690738:=Nat
def tw17736643606413735058:=Nat
def tw14717251892408914:=Nat
def tw7936101224903294578:=Nat
def tw8457559689260588306:=Nat
def tw7696894545954520786:=Nat
def tw14232519885243303634:=Nat
def tw5748198448553682674:=Nat
def tw4753864911077626033:=Nat
def tw16401511411900364977:=Nat
def tw10471004118696605873:=Nat
def tw4354284688238958417:=Nat
def tw16545909697519410001:=Nat
def tw5120685990602498897:=Nat
def tw10530694207601564529:=Nat
def tw16754971922682951537:=Nat
def tw6225777749487084817:=Nat
def tw16452949753483218353:=Nat
def tw15535346079935845457:=Nat
def tw18368360144501185617:=Nat
def tw16442421864137563377:=Nat
def tw3059992662918116593:=Nat
def tw11491093093243598193:=Nat
def tw8737342152742625777:=Nat
def tw1542092795735048113:=Nat
def tw4193374522317143089:=Nat
def tw17959515962815820497:=Nat
def tw12893215981831500497:=Nat
def tw500219119910657745:=Nat
def tw4774430914464952465:=Nat
def tw12108302282234974353:=Nat
def tw8771093114043808913:=Nat
def tw13255421236494069296:=Nat
def tw16206611970317916720:=Nat
def tw12444408454965637680:=Nat
def tw12695815853535646352:=Nat
def tw13824518391488152208:=Nat
def tw9405084460482717360:=Nat
def tw6613597270611765328:=Nat
def tw15394220125329001488:=Nat
def tw1012675737751030832:=Nat
def tw3418864786941528528:=Nat
def tw63039493658537424:=Nat
def tw7773915134602629616:=Nat
def tw18321755583791871408:=Nat
def tw15200989118650924464:=Nat
def tw6202019579627799109:=Nat
def tw2302339846815418661:=Nat
def tw4919800233278384167:=Nat
def tw2557782400027124618:=Nat
def tw2318524672528255707:=Nat
def tw17942951886286688765:=Nat
def tw6002092204762403689:=Nat
def tw16543452970147766814:=Nat
def tw18040304042809848385:=Nat
def tw2635262313917401537:=Nat
def tw5256152526869045990:=Nat
def tw8845630598913022908:=Nat
def tw4496974458139631712:=Nat
def tw17735411052641507190:=Nat
def tw10403159876107476477:=Nat
def tw4862866924203051938:=Nat
def tw12276931360225113533:=Nat
def tw17192793659866057867:=Nat
end PySem.W.Fast
open PySem PySem.W PyProof.Rows
set_option maxRecDepth 100000 in
set_option maxHeartbeats 0 in
theorem PySem.Challenge.cw_byestand_k22_turned_rounds_refused_holds : PySem.Challenge.rw_byestand_k22_turned_rounds_refused.Holds := by
 w_on;o_law;k_head;(case hw=>w_witness2)
 k_fill
 first | refine Ev.adS (l:=PySem.Challenge.rw_byestand_k22_turned_rounds_refused) (tbl:=498) (c:=502) (k:=192) rfl rfl ⟨rfl,by decide,by decide⟩ (fun w h Y=>⟨PySem.W.km_in_of Y,PySem.W.km_tabs_of Y _ (by decide)⟩) (fun P=>⟨rfl,rfl⟩) (fun P=>rfl) ?F
 case F=>
  intro w mg fa h KX G hmg;refine' My.all_mk KX G hmg (Ev.cZ ?_ ?_ ?_ ?_) (Ev.cZ ?_ ?_ ?_ ?_) (Ev.cZ ?_ ?_ ?_ ?_) (Ev.cZ ?_ ?_ ?_ ?_) (Ev.cZ ?_ ?_ ?_ ?_) (Ev.cZ ?_ ?_ ?_ ?_) (Ev.cZ ?_ ?_ ?_ ?_) (Ev.cZ ?_ ?_ ?_ ?_) (Ev.cZ ?_ ?_ ?_ ?_) (Ev.cZ ?_ ?_ ?_ ?_) (Ev.cZ ?_ ?_ ?_ ?_) (Ev.cZ ?_ ?_ ?_ ?_) (Ev.cZ ?_ ?_ ?_ ?_) (Ev.cZ ?_ ?_ ?_ ?_) (Ev.cZ ?_ ?_ ?_ ?_) (Ev.cZ ?_ ?_ ?_ ?_) (Ev.cZ ?_ ?_ ?_ ?_) (Ev.cZ ?_ ?_ ?_ ?_) (Ev.cZ ?_ ?_ ?_ ?_) (Ev.cZ ?_ ?_ ?_ ?_) (Ev.cZ ?_ ?_ ?_ ?_) (Ev.cZ ?_ ?_ ?_ ?_) (Ev.cZ ?_ ?_ ?_ ?_) (Ev.cZ ?_ ?_ ?_ ?_) (Ev.cZ ?_ ?_ ?_ ?_) (Ev.cZ ?_ ?_ ?_ ?_) (Ev.cZ ?_ ?_ ?_ ?_) (Ev.cZ ?_ ?_ ?_ ?_) (Ev.cZ ?_ ?_ ?_ ?_) (Ev.cZ ?_ ?_ ?_ ?_) (Ev.cZ ?_ ?_ ?_ ?_) ?_ ?_ ?_ ?_ ?_ ?_ ?_ ?_ ?_ ?_ ?_ ?_ ?_ (Ev.tW ?_ ?_ ?_ ?_ ?_) (Ev.tW ?_ ?_ ?_ ?_ ?_) (Ev.tW ?_ ?_ ?_ ?_ ?_) (Ev.tW ?_ ?_ ?_ ?_ ?_) (Ev.tW ?_ ?_ ?_ ?_ ?_) (Ev.tW ?_ ?_ ?_ ?_ ?_) (Ev.tW ?_ ?_ ?_ ?_ ?_) (Ev.tW ?_ ?_ ?_ ?_ ?_) (Ev.tW ?_ ?_ ?_ ?_ ?_) (Ev.tW ?_ ?_ ?_ ?_ ?_) (Ev.xq ?_ ?_ ?_ ?_ ?_) (Ev.xq ?_ ?_ ?_ ?_ ?_) (Ev.xq ?_ ?_ ?_ ?_ ?_) (Ev.xq ?_ ?_ ?_ ?_ ?_) (Ev.xq ?_ ?_ ?_ ?_ ?_) (Ev.xq ?_ ?_ ?_ ?_ ?_) (Ev.xq ?_ ?_ ?_ ?_ ?_) (Ev.xq ?_ ?_ ?_ ?_ ?_) ?_ ?_ ?_ ?_ ?_ ?_ ?_ ?_ ?_ (Ev.aeK ?_ ?_ ?_ ?_) (Ev.zJ ?_ ?_ ?_ ?_ ?_ ?_ ?_ ?_) (Ev.zJ ?_ ?_ ?_ ?_ ?_ ?_ ?_ ?_) (Ev.zJ ?_ ?_ ?_ ?_ ?_ ?_ ?_ ?_) (Ev.zJ ?_ ?_ ?_ ?_ ?_ ?_ ?_ ?_) (Ev.zJ ?_ ?_ ?_ ?_ ?_ ?_ ?_ ?_) (Ev.zJ ?_ ?_ ?_ ?_ ?_ ?_ ?_ ?_) (Ev.zJ ?_ ?_ ?_ ?_ ?_ ?_ ?_ ?_) ?_ ?_ ?_ ?_ ?_ ?_ ?_ ?_ ?_ ?_ ?_ ?_ ?_ ?_ ?_ ?_ ?_ ?_ ?_ ?_ ?_ ?_ ?_ ?_ ?_ ?_ ?_ ?_ ?_ ?_
  all_goals try first | k_is | rfl
