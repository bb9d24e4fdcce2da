import PyProof.Rows.All
import Wide.All
import OpenK.AllK
import Wide.FinOn
import Lean
import PyProof.EqAt
import PyProof.EqKinds
import PyProof.TupleCall
import PySem.Challenge.RW_byestand_k28_whole_points_hang_on_order
import KE.KNestM
import KE.KRevSl
set_option Elab.async false
set_option linter.all false
set_option maxRecDepth 100000
namespace L2
open PySem PySem.Spec PyProof.Rows
abbrev Key:=Sum Int Str
def A_:Key->Value->Bool
 | .inl k,v=>Value.isInt k v
 | .inr x,v=>Value.isStrOf x v
def Kd (w:World):Key->Int
 | .inl k=>hashInt k
 | .inr x=>hashStr w x
theorem bG:∀ {k:Key} {v:Value},A_ k v=true->(∃ i t,k=Sum.inl i/\v=Value.int i t)\/(∃ x t,k=Sum.inr x/\v=Value.str x t)
 | .inl i,v,h=>by
   obtain ⟨t,e⟩:=Value.isInt_shape (k:=i) (v:=v) h
   exact .inl ⟨i,t,rfl,e⟩
 | .inr x,v,h=>by
   obtain ⟨t,e⟩:=Value.isStrOf_shape (x:=x) (v:=v) h
   exact .inr ⟨x,t,rfl,e⟩
theorem Ej (a b:Int):decide ((Sum.inl a:Key)=Sum.inl b)=(a == b):=by
 by_cases e:a=b
 · subst e;simp
 · have h:¬ (Sum.inl a:Key)=Sum.inl b:=fun q=>e (Sum.inl.inj q)
   rw [decide_eq_false h]
   exact (beq_eq_false_iff_ne.mpr e).symm
theorem Ek (a b:Str):decide ((Sum.inr a:Key)=Sum.inr b)=decide (a=b):=by
 by_cases e:a=b
 · subst e;simp
 · have h:¬ (Sum.inr a:Key)=Sum.inr b:=fun q=>e (Sum.inr.inj q)
   rw [decide_eq_false h,decide_eq_false e]
theorem El (a:Int) (b:Str):decide ((Sum.inl a:Key)=Sum.inr b)=false:=decide_eq_false (fun q=>nomatch q)
theorem Em (a:Str) (b:Int):decide ((Sum.inr a:Key)=Sum.inl b)=false:=decide_eq_false (fun q=>nomatch q)
def oR (prog:Program) (w:World):PySem.KeyKind prog w Key where
 is:=A_
 hash:=Kd w
 inj:=fun v a b ha hb=>by
  rcases bG ha with ⟨i,t,rfl,rfl⟩ | ⟨x,t,rfl,rfl⟩
  · rcases bG hb with ⟨j,u,rfl,e⟩ | ⟨y,u,rfl,e⟩
    · injection e with e1 _;rw [e1]
    · exact nomatch e
  · rcases bG hb with ⟨j,u,rfl,e⟩ | ⟨y,u,rfl,e⟩
    · exact nomatch e
    · injection e with e1 _;rw [e1]
 byValue:=fun k v h=>by
  rcases bG h with ⟨i,t,rfl,rfl⟩ | ⟨x,t,rfl,rfl⟩ <;> rfl
 pyHash:=fun hv h=>by
  rcases bG hv with ⟨i,t,rfl,rfl⟩ | ⟨x,t,rfl,rfl⟩
  · exact wpAny_pyHash_int h
  · exact wpAny_pyHash_str h
 eqBool:=fun hu hv h=>by
  rcases bG hu with ⟨i,t,rfl,rfl⟩ | ⟨x,t,rfl,rfl⟩
  · rcases bG hv with ⟨j,u,rfl,rfl⟩ | ⟨y,u,rfl,rfl⟩
    · rw [Ej] at h;exact wpAny_eqBool_int h
    · rw [El] at h;exact SeqAt.EqAt.int_str i t y u _ _ _ _ h
  · rcases bG hv with ⟨j,u,rfl,rfl⟩ | ⟨y,u,rfl,rfl⟩
    · rw [Em] at h;exact SeqAt.EqAt.str_int x t j u _ _ _ _ h
    · rw [Ek] at h;exact wpAny_eqBool_str h
 «strs»:=fun k x t v h=>by
  rcases bG h with ⟨i,u,rfl,e⟩ | ⟨y,u,rfl,e⟩
  · exact nomatch e
  · injection e with e1 _
    subst e1
    cases v <;> rfl
end L2
namespace L2
open PySem PySem.Spec PyProof.Rows
inductive V where
 | non | bl (b:Bool) | int (i:Int) | str (x:Str) | byt (b:Array UInt8) | flt (b:UInt64) | ref (a:Addr) | ty (n:String)
 deriving DecidableEq
def RelV:V->Value->Prop
 | .non,u=>u=Value.none
 | .bl b,u=>u=Value.bool b
 | .int i,u=>∃ t,u=Value.int i t
 | .str x,u=>∃ t,u=Value.str x t
 | .byt b,u=>∃ t,u=Value.bytes b t
 | .flt b,u=>∃ t,u=Value.float b t
 | .ref a,u=>u=Value.ref a
 | .ty n,u=>u=Value.type n
abbrev Vals:List V->List Value->Prop:=Paired RelV
theorem Vals.length {xs:List V} {us:List Value} (r:Vals xs us):xs.length=us.length:=Paired.length r
theorem Vals.get:∀ {xs:List V} {us:List Value} {i:Nat} {x:V},Vals xs us->xs[i]? =some x->∃ u,us[i]? =some u/\RelV x u
 | _,_,_,_,.nil,e=>by simp at e
 | _,_,0,_,.cons r _,e=>by simp at e;subst e;exact ⟨_,rfl,r⟩
 | _,_,i + 1,x,.cons _ t,e=>by
   obtain ⟨u,h1,h2⟩:=Vals.get (i:=i) (x:=x) t (by simpa using e)
   exact ⟨u,by simpa using h1,h2⟩
theorem Vals.append:∀ {xs ys:List V} {us ws:List Value},Vals xs us->Vals ys ws->Vals (xs ++ ys) (us ++ ws)
 | _,_,_,_,.nil,s=>s
 | _,_,_,_,.cons r t,s=>.cons r (Vals.append t s)
theorem Vals.take:∀ {xs:List V} {us:List Value} (n:Nat),Vals xs us->Vals (xs.take n) (us.take n)
 | _,_,0,_=>.nil
 | _,_,_ + 1,.nil=>.nil
 | _,_,n + 1,.cons r t=>.cons r (Vals.take n t)
theorem Vals.drop:∀ {xs:List V} {us:List Value} (n:Nat),Vals xs us->Vals (xs.drop n) (us.drop n)
 | _,_,0,r=>r
 | _,_,_ + 1,.nil=>.nil
 | _,_,n + 1,.cons _ t=>Vals.drop n t
def En:Option V->Option Value->Prop
 | some v,some u=>RelV v u
 | none,none=>True
 | _,_=>False
def KV {κ:Type}:List (κ × V)->List (κ × Value)->Prop:=Paired fun (p:κ × V) (q:κ × Value)=>p.1=q.1/\RelV p.2 q.2
def kV:Key->V
 | .inl i=>.int i
 | .inr x=>.str x
inductive HO where
 | lst (xs:List V)
 | tup (xs:List V)
 | dK (kvs:List (Key × V)) | dT (kvs:List (List Key × V))
 | set (S:Int->Bool) (n:Nat)
 | ins (C dx:Addr) (fs:List (Str × V))
 | own (x:Addr)
 | xd (fs:List (Str × V))
 | met (f x:Addr)
 | rng (lo hi:Int)
 | frz (o:Obj) (u:HO)
 | tbl (ps:Array Value)
 | ext (φ:Heap->Prop)
abbrev Hp:=Addr->Option HO
def upd (H:Hp) (a:Addr) (o:HO):Hp:=fun b=>if b=a then some o else H b
theorem aR {H:Hp} {a:Addr} {o:HO}:upd H a o a=some o:=by unfold upd;rw [if_pos rfl]
theorem aJ {H:Hp} {a b:Addr} {o:HO} (h:b ≠ a):upd H a o b=H b:=by unfold upd;rw [if_neg h]
theorem bf {H:Hp} {a b:Addr} {o:HO} (h:H a=some o) (h':H b=none):a ≠ b:=by
 intro e;subst e;rw [h] at h';cases h'
section
variable (P:Program) (w:World)
def bO (H:Hp) (h:Heap) (a:Addr):HO->Prop
 | .lst xs=>xs.length <= sizeLine/\∃ (its:List Value) (n:Nat),Vals xs its/\h.get? a=some { cls:=.type "list",data:=.seq its.toArray n }
 | .tup xs=>xs.length <= sizeLine/\∃ its:List Value,Vals xs its/\IsTup h a its.toArray
 | .dK kvs=>kvs.length <= sizeLine/\(a == sysModules)=false/\∃ vs,KV kvs vs/\h.DictOf (oR P w) a vs
 | .dT kvs=>kvs.length <= sizeLine/\(a == sysModules)=false/\∃ xs:List (List Key × Addr × Value),
    Paired (fun (p:List Key × V) (q:List Key × Addr × Value)=>p.1=q.1/\H q.2.1=some (.tup (p.1.map kV))/\RelV p.2 q.2.2) kvs xs/\
    ∃ o es ep,h.get? a=some o/\o.ExactDict/\o.data= .dict es ep/\es.toList=xs.map (entryOfKey (tupleKind (oR P w)))/\(xs.map (·.1)).Nodup
 | .set S n=>h.SetOf (intKind P w) a S n
 | .ins C dx fs=>H dx=some (.own a)/\fs.length <= 1000/\dx ≠ a/\h.get? a=some (PySem.W.instObj C dx)/\
    ∃ mA,h.Ns1 dx mA/\(∀ f,En (fs.lookup f) (mA f))/\PySem.Within mA (fs.map (·.1))
 | .own _=>∃ o,h.get? a=some o
 | .xd fs=>∃ mA,h.Ns1 a mA/\∀ f,En (fs.lookup f) (mA f)
 | .rng lo hi=>∃ t u v,h.get? a=some { cls:=.type "range",data:=.fields #[.int lo t,.int hi u,.int 1 v] }
 | .frz o u=>h.get? a=some o/\bO H h a u
 | .tbl ps=>h.get? a=some { cls:=.none,data:=.fields ps }
 | .met f x=>h.get? a=some (PySem.W.methodObj (.ref f) (.ref x))
 | .ext φ=>φ h/\(∃ o,h.get? a=some o)/\∀ h1 h2:Heap,φ h1->(∀ o,h1.get? a=some o->h2.get? a=some o)->φ h2
def HOk (H:Hp) (h:Heap):Prop:=∀ a o,H a=some o->bO P w H h a o
end
section
variable {P:Program} {w:World} {H H':Hp} {h h':Heap} {a:Addr} {o:HO}
theorem bO.lt (x:bO P w H h a o):a < h.objs.size:=by
 cases o with
 | lst xs=>obtain ⟨_,_,_,_,e⟩:=x;exact Heap.lt_size e
 | tup xs=>obtain ⟨_,_,_,p⟩:=x;exact p.lt
 | dK kvs=>obtain ⟨_,_,_,_,o,_,_,e,_⟩:=x;exact Heap.lt_size e
 | dT kvs=>obtain ⟨_,_,_,_,o,_,_,e,_⟩:=x;exact Heap.lt_size e
 | set S n=>obtain ⟨o,_,_,_,e,_⟩:=x;exact Heap.lt_size e
 | ins C dx fs=>obtain ⟨_,_,_,e,_⟩:=x;exact Heap.lt_size e
 | own y=>obtain ⟨_,e⟩:=x;exact Heap.lt_size e
 | xd fs=>obtain ⟨_,⟨_,_,_,e,_⟩,_⟩:=x;exact Heap.lt_size e
 | rng lo hi=>obtain ⟨_,_,_,e⟩:=x;exact Heap.lt_size e
 | frz ob u=>obtain ⟨e,_⟩:=x;exact Heap.lt_size e
 | tbl ps=>exact Heap.lt_size (show h.get? a=some _ from x)
 | met f y=>exact Heap.lt_size (show h.get? a=some _ from x)
 | ext φ=>obtain ⟨_,⟨_,e⟩,_⟩:=x;exact Heap.lt_size e
theorem Paired.mQ {α β:Type} {F G:α->β->Prop}:∀ {l₁:List α} {l₂:List β},Paired F l₁ l₂->(∀ a b,F a b->G a b)->Paired G l₁ l₂
 | _,_,.nil,_=>.nil
 | _,_,.cons r t,f=>.cons (f _ _ r) (Paired.mQ t f)
theorem bO.stay (x:bO P w H h a o) (k:∀ b u,(b=a\/H b=some (.own a))->h.get? b=some u->h'.get? b=some u)
 (ho:∀ b,H b=some (.own a)->H' b=some (.own a)) (ht:∀ b xs,H b=some (.tup xs)->H' b=some (.tup xs)):bO P w H' h' a o:=by
 induction o with
 | lst xs=>obtain ⟨z,its,n,r,e⟩:=x;exact ⟨z,its,n,r,k _ _ (.inl rfl) e⟩
 | tup xs=>obtain ⟨z,its,r,ob,e,c⟩:=x;exact ⟨z,its,r,ob,k _ _ (.inl rfl) e,c⟩
 | dK kvs=>obtain ⟨z,y,vs,r,ob,es,ep,e,c⟩:=x;exact ⟨z,y,vs,r,ob,es,ep,k _ _ (.inl rfl) e,c⟩
 | dT kvs=>
   obtain ⟨z,y,xs,r,ob,es,ep,e,c⟩:=x
   exact ⟨z,y,xs,Paired.mQ r fun p q z=>⟨z.1,ht _ _ z.2.1,z.2.2⟩,ob,es,ep,k _ _ (.inl rfl) e,c⟩
 | set S n=>obtain ⟨ob,es,ep,t,e,c⟩:=x;exact ⟨ob,es,ep,t,k _ _ (.inl rfl) e,c⟩
 | ins C dx fs=>
   obtain ⟨d,z,ne,e,mA,⟨od,es,ep,e2,c⟩,r⟩:=x
   exact ⟨ho _ d,z,ne,k _ _ (.inl rfl) e,mA,⟨od,es,ep,k _ _ (.inr d) e2,c⟩,r⟩
 | own y=>obtain ⟨ob,e⟩:=x;exact ⟨ob,k _ _ (.inl rfl) e⟩
 | xd fs=>obtain ⟨mA,⟨od,es,ep,e,c⟩,r⟩:=x;exact ⟨mA,⟨od,es,ep,k _ _ (.inl rfl) e,c⟩,r⟩
 | rng lo hi=>obtain ⟨t,u,v,e⟩:=x;exact ⟨t,u,v,k _ _ (.inl rfl) e⟩
 | frz ob u ih=>obtain ⟨e,q⟩:=x;exact ⟨k _ _ (.inl rfl) e,ih q⟩
 | tbl ps=>
   have e:h.get? a=some { cls:=.none,data:=.fields ps }:=x
   show h'.get? a=some { cls:=.none,data:=.fields ps }
   exact k a _ (.inl rfl) e
 | met f y=>
   have e:h.get? a=some (PySem.W.methodObj (.ref f) (.ref y)):=x
   show h'.get? a=some (PySem.W.methodObj (.ref f) (.ref y))
   exact k a _ (.inl rfl) e
 | ext φ=>obtain ⟨p,⟨o,e⟩,st⟩:=x;exact ⟨st _ _ p fun o q=>k _ _ (.inl rfl) q,⟨o,k _ _ (.inl rfl) e⟩,st⟩
theorem HOk.lt (x:HOk P w H h) (e:H a=some o):a < h.objs.size:=(x a o e).lt
theorem HOk.fresh (x:HOk P w H h) (e:h.objs.size <= a):H a=none:=by
 cases q:H a with
 | none=>rfl
 | some u=>exact absurd (Nat.lt_of_lt_of_le (x.lt q) e) (Nat.lt_irrefl _)
theorem HOk.kept (x:HOk P w H h) (k:∀ b u,h.get? b=some u->h'.get? b=some u):HOk P w H h':=fun a o e=>
 (x a o e).stay (fun b u _ q=>k b u q) (fun _ q=>q) fun _ _ q=>q
theorem HOk.laid (x:HOk P w H h) (k:∀ b u,h.get? b=some u->h'.get? b=some u) (hp:h.objs.size <= a) (new:bO P w (upd H a o) h' a o):HOk P w (upd H a o) h':=fun b u e=>by
 have hn:=x.fresh hp
 by_cases hb:b=a
 · subst hb;rw [aR] at e;cases e;exact new
 · rw [aJ hb] at e
   exact (x b u e).stay (fun c v _ q=>k c v q) (fun c q=>by rw [aJ (bf q hn)];exact q) fun c xs q=>by rw [aJ (bf q hn)];exact q
end
def Rd (H:Hp) (a:Addr) (u:HO):Prop:=H a=some u\/∃ o,H a=some (.frz o u)
theorem Rd.ok {P:Program} {w:World} {H:Hp} {h:Heap} {a:Addr} {u:HO} (r:Rd H a u) (x:HOk P w H h):bO P w H h a u:=by
 rcases r with r | ⟨o,r⟩
 · exact x a u r
 · obtain ⟨_,q⟩:=x a _ r
   exact q
def Mut:Option HO->Prop
 | some (.lst _)=>True
 | some (.dK _)=>True
 | some (.dT _)=>True
 | some (.set _ _)=>True
 | some (.ins _ _ _)=>True
 | some (.ext _)=>True
 | _=>False
section
variable {P:Program} {w:World} {H:Hp} {h h':Heap} {x e:Addr} {o':HO}
theorem HOk.write (ok:HOk P w H h) (mu:Mut (H x)) (he:e=x\/H e=some (.own x)) (k:∀ b u,b ≠ e->h.get? b=some u->h'.get? b=some u) (heo:∃ u,h'.get? e=some u)
 (new:bO P w (upd H x o') h' x o'):HOk P w (upd H x o') h':=fun b u q=>by
 have Eo:∀ c y,H c=some (.own y)->c ≠ x:=fun c y r z=>by subst z;rw [r] at mu;exact mu
 have Ke:∀ c xs,H c=some (.tup xs)->c ≠ x:=fun c xs r z=>by subst z;rw [r] at mu;exact mu
 by_cases hb:b=x
 · subst hb;rw [aR] at q;cases q;exact new
 · rw [aJ hb] at q
   by_cases hbe:b=e
   · have q':H b=some (.own x):=by
      rcases he with z | z
      · exact absurd (hbe.trans z) hb
      · rw [hbe];exact z
     rw [q] at q';cases q'
     obtain ⟨v,hv⟩:=heo
     exact ⟨v,by rw [hbe];exact hv⟩
   · refine (ok b u q).stay (fun c v hc r=>k c v ?_ r) (fun c r=>by rw [aJ (Eo c b r)];exact r) fun c xs r=>by rw [aJ (Ke c xs r)];exact r
     rcases hc with rfl | hc
     · exact hbe
     · rintro rfl
       rcases he with z | z
       · exact Eo c b hc z
       · rw [hc] at z;cases z;exact hb rfl
end
structure Un (fs ex:List Addr) (H H':Hp) (h h':Heap):Prop where
 keep:∀ b o,h.get? b=some o->H b=none->b ∉ fs->b ∉ ex->h'.get? b=some o
 slot:∀ b o,h.get? b=some o->H b=none->b ∈ fs->b ∉ ex->∃ sl,h'.get? b=some { o with slots:=sl }
 free:∀ b o,h.get? b=some o->H b=none->b ∉ ex->H' b=none
 there:∀ b o,h.get? b=some o->b ∉ ex->∃ o',h'.get? b=some o'
 tups:∀ b xs,H b=some (.tup xs)->H' b=some (.tup xs)
 eV:∀ b o u,H b=some (.frz o u)->H' b=some (.frz o u)
 fG:∀ b ps,H b=some (.tbl ps)->∃ more,H' b=some (.tbl (ps ++ more))
section
variable {fs fs' ex ex':List Addr} {H H1 H2:Hp} {h h1 h2 h':Heap} {a x e:Addr} {o:HO}
theorem Un.any (u:Un fs ex H H1 h h1) {b:Addr} {ob:Obj} (q:h.get? b=some ob) (n:H b=none) (hx:b ∉ ex):∃ sl,h1.get? b=some { ob with slots:=sl }:=by
 by_cases hb:b ∈ fs
 · exact u.slot b ob q n hb hx
 · exact ⟨ob.slots,u.keep b ob q n hb hx⟩
theorem Un.trans (a:Un fs ex H H1 h h1) (b:Un fs ex H1 H2 h1 h2):Un fs ex H H2 h h2 where
 keep:=fun c ob q n hc hx=>b.keep c ob (a.keep c ob q n hc hx) (a.free c ob q n hx) hc hx
 slot:=fun c ob q n hc hx=>by
  obtain ⟨sl,e1⟩:=a.slot c ob q n hc hx
  obtain ⟨sl',e2⟩:=b.slot c _ e1 (a.free c ob q n hx) hc hx
  exact ⟨sl',e2⟩
 free:=fun c ob q n hx=>by
  obtain ⟨o',e1⟩:=a.there c ob q hx
  exact b.free c o' e1 (a.free c ob q n hx) hx
 there:=fun c ob q hx=>by
  obtain ⟨o',e1⟩:=a.there c ob q hx
  exact b.there c o' e1 hx
 tups:=fun c xs q=>b.tups c xs (a.tups c xs q)
 eV:=fun c ob xs q=>b.eV c ob xs (a.eV c ob xs q)
 fG:=fun c ps q=>by
  obtain ⟨m1,e1⟩:=a.fG c ps q
  obtain ⟨m2,e2⟩:=b.fG c _ e1
  exact ⟨m1 ++ m2,by rw [e2,Array.append_assoc]⟩
theorem Un.kept (k:∀ b u,h.get? b=some u->h'.get? b=some u):Un fs ex H H h h':=
 ⟨fun b ob q _ _ _=>k b ob q,fun b ob q _ _ _=>⟨ob.slots,k b ob q⟩,fun _ _ _ n _=>n,fun b ob q _=>⟨ob,k b ob q⟩,fun _ _ q=>q,fun _ _ _ q=>q,fun _ ps q=>⟨#[],by rw [q];simp⟩⟩
theorem Un.refl:Un fs ex H H h h:=Un.kept fun _ _ q=>q
theorem Un.laid (k:∀ b u,h.get? b=some u->h'.get? b=some u) (hp:h.objs.size <= a) (hn:H a=none):Un fs ex H (upd H a o) h h' where
 keep:=fun b u q _ _ _=>k b u q
 slot:=fun b u q _ _ _=>⟨u.slots,k b u q⟩
 free:=fun b u q n _=>by rw [aJ (Nat.ne_of_lt (Nat.lt_of_lt_of_le (Heap.lt_size q) hp))];exact n
 there:=fun b u q _=>⟨u,k b u q⟩
 tups:=fun b xs q=>by rw [aJ (bf q hn)];exact q
 eV:=fun b u xs q=>by rw [aJ (bf q hn)];exact q
 fG:=fun b ps q=>⟨#[],by rw [aJ (bf q hn),q];simp⟩
theorem Un.write (mu:Mut (H x)) (he:e=x\/H e=some (.own x)) (k:∀ b u,b ≠ e->h.get? b=some u->h'.get? b=some u) (heo:∃ u,h'.get? e=some u):Un fs ex H (upd H x o) h h':=by
 have hx:∀ b,H b=none->b ≠ x:=fun b n z=>by subst z;rw [n] at mu;exact mu
 have hb:∀ b,H b=none->b ≠ e:=fun b n z=>by
  subst z
  rcases he with r | r
  · exact hx b n r
  · rw [n] at r;cases r
 have hm:∀ b u,H b=some u->¬ Mut (some u)->b ≠ x:=fun b u q nm z=>by subst z;rw [q] at mu;exact nm mu
 refine ⟨fun b u q n _ _=>k b u (hb b n) q,fun b u q n _ _=>⟨u.slots,k b u (hb b n) q⟩,fun b u q n _=>by rw [aJ (hx b n)];exact n,fun b u q _=>?_,
  fun b xs q=>by rw [aJ (hm b _ q fun z=>z)];exact q,fun b u xs q=>by rw [aJ (hm b _ q fun z=>z)];exact q,fun b ps q=>⟨#[],by rw [aJ (hm b _ q fun z=>z),q];simp⟩⟩
 by_cases hbe:b=e
 · subst hbe;exact heo
 · exact ⟨u,k b u hbe q⟩
theorem Un.mono (u:Un fs ex H H1 h h1) (hs:∀ b ∈ fs,b ∈ fs') (hx:∀ b ∈ ex,b ∈ ex'):Un fs' ex' H H1 h h1:=
 ⟨fun b ob q n hb he=>u.keep b ob q n (fun z=>hb (hs b z)) fun z=>he (hx b z),fun _ _ q n _ he=>u.any q n fun z=>he (hx _ z),fun b ob q n he=>u.free b ob q n fun z=>he (hx b z),fun b ob q he=>u.there b ob q fun z=>he (hx b z),u.tups,u.eV,u.fG⟩
end
def trk (h:Heap) (H:Hp):List Addr:=(List.range h.objs.size).filter fun a=>(H a).isSome
def jC (h:Heap) (H:Hp):Heap:=PySem.W.hideAll h (trk h H)
theorem wJ (h:Heap) (H:Hp):(jC h H).objs.size=h.objs.size:=PySem.W.hideAll_size _ _
theorem yU {h:Heap} {H:Hp} {b:Addr} {o:Obj} (e:h.get? b=some o) (n:H b=none):(jC h H).get? b=some o:=
 PySem.W.hideAll_get _ e fun hm=>by
  have q:(H b).isSome=true:=(List.mem_filter.mp hm).2
  rw [n] at q;simp at q
theorem Ci {h:Heap} {H:Hp} {b:Addr} {o:Obj} (e:(jC h H).get? b=some o):h.get? b=some o/\H b=none:=by
 have e':h.get? b=some o:=PySem.W.of_hideAll (trk h H) e
 refine ⟨e',?_⟩
 cases q:H b with
 | none=>rfl
 | some x=>
   have hm:b ∈ trk h H:=List.mem_filter.mpr ⟨List.mem_range.mpr (Heap.lt_size e'),by simp [q]⟩
   have z:(jC h H).get? b=none:=PySem.W.hideAll_none (trk h H) hm
   rw [z] at e;cases e
def Cj (g h:Heap) (L:Addr):List (Addr × Obj):=(List.range h.objs.size).filterMap fun a=>if a=L\/(g.get? a).isSome=true then none else (h.get? a).map fun o=>(a,o)
def rest (g h:Heap) (L d:Addr):List (Addr × Obj):=(Cj g h L).filter fun p=>decide (p.1 ≠ d)
end L2
namespace L2
open PySem PySem.Spec PyProof.Rows
structure Mod (K:PySem.W.Frag) (mg:Str->Option Value) (base:Heap):Prop where
 kin:K.In base
 glob:base.Ns mainGlobals mg
 blt:∃ mb,base.Ns builtinsNs mb/\∀ x:Str,x ≠ "__name__"->mb x=bootBuiltins x
 nolimit:base.NoLimit
structure Cx where
 prog:Program
 w:World
 K:PySem.W.Frag
 mg:Str->Option Value
 base:Heap
 A:Around
 N:List Str
 s₀:Shared
 H₀:Hp
 env:Env
 outer:List Env
 stack:List Env
 ex:List Addr
 fn:Str->Bool
 calm:Bool
 pn:List (Addr × Obj)
 xe:Value->Shared->Prop
def frs (l:List Env):List Addr:=l.filterMap (·.frame)
abbrev Cx.fs (X:Cx):List Addr:=frs X.outer
def Vis (sc:Scope) (x:Str):Prop:=sc.names.lookup x=some .local\/sc.names.lookup x=some .cell\/sc.names.lookup x=some .free
def Loc (sc:Scope) (x:Str):Prop:=sc.names.lookup x=some .local\/sc.names.lookup x=some .cell
def Look (env:Env) (h:Heap) (m:Str->Option Value) (x:Str) (u:Value):Prop:=
 (env.kindOf x=some .local/\m x=some u)\/((env.kindOf x=some .cell\/env.kindOf x=some .free)/\∃ c,env.cells.lookup x=some c/\h.IsCell c (some u))
structure Cx.Ok (X:Cx):Prop where
 mod:Mod X.K X.mg X.base
 kind:X.env.scope.kind= .function
 glob:X.env.globals=mainGlobals
 blt:X.env.builtins=builtinsNs
 above:X.s₀.heap.objs.size <= X.env.locals
 inj:∀ x y c,X.env.cells.lookup x=some c->X.env.cells.lookup y=some c->x=y
 has:∀ x,(X.env.kindOf x=some .cell\/X.env.kindOf x=some .free)->∃ c,X.env.cells.lookup x=some c
 cab:∀ x c,X.fn x=true->X.env.cells.lookup x=some c->X.s₀.heap.objs.size <= c
 hd:X.calm=true->X.A.handled=none
 frames:X.A.frames=some X.stack
 stk:X.stack=X.outer\/(X.stack=X.env::X.outer/\X.env.frame=some X.env.locals)
 exf:∀ b ∈ X.ex,b ≠ X.env.locals/\∀ x c,X.env.cells.lookup x=some c->c ≠ b
 bs:∀ b o,X.base.get? b=some o->X.s₀.heap.get? b=some o/\X.H₀ b=none
 bsz:X.base.objs.size <= X.s₀.heap.objs.size
 kh:∀ b o,X.base.get? b=some o->b ∉ X.ex
 uO:∀ b ∈ X.ex,b ∉ X.fs
 h_:X.s₀.heap.FunFrames X.base X.outer
 frf:∀ b ∈ X.fs,X.H₀ b=none
structure Inv (X:Cx) (pins:List (Addr × Obj)) (σ:List (Option V)) (H:Hp) (s:Shared):Prop where
 ok:X.Ok
 os:s.os=X.s₀.os
 bare:AllBare s.gens
 base:Un X.fs X.ex X.H₀ H X.s₀.heap s.heap
 loc:∃ m,s.heap.Ns X.env.locals m/\∀ (i:Nat) (x:Str) (v:V),X.N[i]? =some x->σ[i]? =some (some v)->Vis X.env.scope x->∃ u,RelV v u/\Look X.env s.heap m x u
 cell:∀ x c,X.env.cells.lookup x=some c->∃ v,s.heap.IsCell c v
 free:H X.env.locals=none
 eN:∀ x c,X.env.cells.lookup x=some c->H c=none
 pin:∀ p ∈ X.pn ++ pins,s.heap.get? p.1=some p.2/\H p.1=none/\p.1 ≠ X.env.locals/\p.1 ∉ X.fs/\∀ v,p.2.data ≠ .cell v
 hok:HOk X.prog X.w H s.heap
 len:σ.length=X.N.length
section
variable {X:Cx} {pins:List (Addr × Obj)} {σ:List (Option V)} {H H':Hp} {s:Shared} {h':Heap}
theorem Cx.Ok.Kf (ok:X.Ok) {b:Addr} {o:Obj} (e:X.base.get? b=some o):b ∉ X.fs:=fun hb=>by
 have:=(ok.h_.mem hb).1
 rw [e] at this;cases this
theorem Inv.bs (I:Inv X pins σ H s):∀ b o,X.base.get? b=some o->s.heap.get? b=some o/\H b=none:=fun b o e=>
 ⟨I.base.keep b o (I.ok.bs b o e).1 (I.ok.bs b o e).2 (I.ok.Kf e) (I.ok.kh b o e),I.base.free b o (I.ok.bs b o e).1 (I.ok.bs b o e).2 (I.ok.kh b o e)⟩
theorem Inv.bk (I:Inv X pins σ H s):∀ b o,X.base.get? b=some o->s.heap.get? b=some o:=fun b o e=>(I.bs b o e).1
theorem Inv.mod (I:Inv X pins σ H s):Mod X.K X.mg X.base:=I.ok.mod
theorem Inv.kIn (I:Inv X pins σ H s):X.K.In s.heap:=I.ok.mod.kin.keeps I.bk
theorem Inv.fr (I:Inv X pins σ H s):∃ m,Fr X.base X.env.locals s.heap m:=
 let ⟨m,hn,_⟩:=I.loc
 ⟨m,hn,I.bk,Nat.le_trans I.ok.bsz I.ok.above⟩
theorem Inv.lt (I:Inv X pins σ H s):X.env.locals < s.heap.objs.size:=let ⟨_,hn,_⟩:=I.loc;hn.lt
theorem Inv.sz (I:Inv X pins σ H s):X.s₀.heap.objs.size <= s.heap.objs.size:=Nat.le_trans I.ok.above (Nat.le_of_lt I.lt)
theorem Inv.Ep (I:Inv X pins σ H s) {a:Addr} (h:s.heap.objs.size <= a):a ∉ X.fs:=fun hb=>by
 obtain ⟨_,o,ho,_⟩:=I.ok.h_.mem hb
 exact absurd (Nat.lt_of_lt_of_le (Heap.lt_size ho) (Nat.le_trans I.sz h)) (Nat.lt_irrefl _)
theorem Inv.cne (I:Inv X pins σ H s):∀ x c,X.env.cells.lookup x=some c->c ≠ X.env.locals:=fun x c e z=>by
 obtain ⟨v,o,ho,hd⟩:=I.cell x c e
 obtain ⟨m,⟨o',es,ep,ho',hd',_⟩,_⟩:=I.loc
 rw [z,ho'] at ho;cases ho;rw [hd'] at hd;cases hd
theorem Inv.h_ (I:Inv X pins σ H s):s.heap.FunFrames X.base X.outer:=by
 have all:∀ (l:List Env),(∀ b ∈ frs l,b ∈ X.fs)->X.s₀.heap.FunFrames X.base l->s.heap.FunFrames X.base l:=by
  intro l
  induction l with
  | nil=>intro _ _;trivial
  | cons env r ih=>
    intro hs hl
    obtain ⟨hk,⟨L,o,hf,hn,ho,hd⟩,hr⟩:=hl
    have hL:L ∈ X.fs:=hs L (by unfold frs;rw [List.filterMap_cons,hf];exact List.mem_cons_self)
    obtain ⟨sl,e⟩:=I.base.slot L o ho (I.ok.frf L hL) hL fun z=>I.ok.uO L z hL
    exact ⟨hk,⟨L,_,hf,hn,e,hd⟩,ih (fun b hb=>hs b (by unfold frs;rw [List.filterMap_cons,hf];exact List.mem_cons_of_mem _ hb)) hr⟩
 exact all X.outer (fun _ hb=>hb) I.ok.h_
theorem Inv.stack (I:Inv X pins σ H s):s.heap.FunFrames X.base X.stack:=by
 rcases I.ok.stk with e | ⟨e,hf⟩
 · rw [e];exact I.h_
 · rw [e]
   obtain ⟨m,hn,_⟩:=I.loc
   refine .cons (by rw [I.ok.kind];decide) hf hn ?_ I.h_
   exact Heap.get?_none_of_le (Nat.le_trans I.ok.bsz I.ok.above)
theorem Inv.nA (I:Inv X pins σ H s):∀ b ∈ frs X.stack,b ∈ X.env.locals::X.fs:=fun b hb=>by
 rcases I.ok.stk with e | ⟨e,hf⟩
 · rw [e] at hb;exact List.mem_cons_of_mem _ hb
 · rw [e] at hb
   unfold frs at hb
   rw [List.filterMap_cons,hf] at hb
   exact hb
theorem Inv.lQ (I:Inv X pins σ H s):∀ b ∈ frs X.stack,H b=none:=fun b hb=>by
 rcases List.mem_cons.mp (I.nA b hb) with e | hb
 · rw [e];exact I.free
 · obtain ⟨_,o,ho,_⟩:=I.ok.h_.mem hb
   exact I.base.free b o ho (I.ok.frf b hb) fun z=>I.ok.uO b z hb
theorem Inv.step {g':Array GenState} {t':Nat} {d':Drawn} {ch:List Addr} (I:Inv X pins σ H s)
 (hch:∀ b ∈ ch,(b ∈ X.ex\/X.s₀.heap.objs.size <= b)/\b ≠ X.env.locals/\(∀ x c,X.env.cells.lookup x=some c->c ≠ b)/\∀ p ∈ X.pn ++ pins,p.1 ≠ b)
 (keep:∀ b o,b ≠ X.env.locals->b ∉ X.fs->b ∉ ch->s.heap.get? b=some o->H b=none->h'.get? b=some o)
 (slot:∀ b o,b ≠ X.env.locals->b ∈ X.fs->b ∉ ch->s.heap.get? b=some o->H b=none->∃ sl,h'.get? b=some { o with slots:=sl }) (free:∀ b o,b ∉ ch->s.heap.get? b=some o->H b=none->H' b=none)
 (there:∀ b o,b ∉ ch->s.heap.get? b=some o->∃ o',h'.get? b=some o')
 (tups:∀ b xs,H b=some (.tup xs)->H' b=some (.tup xs)) (eV:∀ b o u,H b=some (.frz o u)->H' b=some (.frz o u)) (fG:∀ b ps,H b=some (.tbl ps)->∃ more,H' b=some (.tbl (ps ++ more)))
 (ns:∀ m,s.heap.Ns X.env.locals m->h'.Ns X.env.locals m) (hok:HOk X.prog X.w H' h') (hg:AllBare g'):
 Inv X pins σ H' { s with heap:=h',gens:=g',drawn:=d',toks:=t' }:=by
 have neL:∀ b o,X.s₀.heap.get? b=some o->b ≠ X.env.locals:=fun b o e=>Nat.ne_of_lt (Nat.lt_of_lt_of_le (Heap.lt_size e) I.ok.above)
 have neC:∀ b o,X.s₀.heap.get? b=some o->b ∉ X.ex->b ∉ ch:=fun b o e hx hb=>by
  rcases (hch b hb).1 with z | z
  · exact hx z
  · exact absurd (Nat.lt_of_lt_of_le (Heap.lt_size e) z) (Nat.lt_irrefl _)
 have cellK:∀ x c,X.env.cells.lookup x=some c->∀ v,s.heap.IsCell c v->h'.IsCell c v:=fun x c e v ⟨o,ho,hd⟩=>by
  have nch:c ∉ ch:=fun z=>(hch c z).2.2.1 x c e rfl
  by_cases hc:c ∈ X.fs
  · obtain ⟨sl,q⟩:=slot c o (I.cne x c e) hc nch ho (I.eN x c e)
    exact ⟨_,q,hd⟩
  · exact ⟨o,keep c o (I.cne x c e) hc nch ho (I.eN x c e),hd⟩
 refine ⟨I.ok,I.os,hg,⟨fun b o e n hb hx=>?_,fun b o e n hb hx=>?_,fun b o e n hx=>?_,fun b o e hx=>?_,fun b xs e=>tups b xs (I.base.tups b xs e),fun b o xs e=>eV b o xs (I.base.eV b o xs e),fun b ps e=>?_⟩,?_,fun x c e=>?_,?_,fun x c e=>?_,fun p hp=>?_,hok,I.len⟩
 · exact keep b o (neL b o e) hb (neC b o e hx) (I.base.keep b o e n hb hx) (I.base.free b o e n hx)
 · obtain ⟨sl,e1⟩:=I.base.slot b o e n hb hx
   obtain ⟨sl',e2⟩:=slot b _ (neL b o e) hb (neC b o e hx) e1 (I.base.free b o e n hx)
   exact ⟨sl',e2⟩
 · obtain ⟨o',e1⟩:=I.base.there b o e hx
   exact free b o' (neC b o e hx) e1 (I.base.free b o e n hx)
 · obtain ⟨o',e1⟩:=I.base.there b o e hx
   exact there b o' (neC b o e hx) e1
 · obtain ⟨m1,e1⟩:=I.base.fG b ps e
   obtain ⟨m2,e2⟩:=fG b _ e1
   exact ⟨m1 ++ m2,by rw [e2,Array.append_assoc]⟩
 · obtain ⟨m,hn,hl⟩:=I.loc
   refine ⟨m,ns m hn,fun i x v e1 e2 e3=>?_⟩
   obtain ⟨u,r,l⟩:=hl i x v e1 e2 e3
   refine ⟨u,r,?_⟩
   rcases l with l | ⟨k,c,e,z⟩
   · exact .inl l
   · exact .inr ⟨k,c,e,cellK x c e _ z⟩
 · obtain ⟨v,z⟩:=I.cell x c e
   exact ⟨v,cellK x c e v z⟩
 · obtain ⟨m,⟨o,_,_,ho,_⟩,_⟩:=I.loc
   exact free _ o (fun z=>(hch _ z).2.1 rfl) ho I.free
 · obtain ⟨v,o,ho,hd⟩:=I.cell x c e
   exact free c o (fun z=>(hch c z).2.2.1 x c e rfl) ho (I.eN x c e)
 · obtain ⟨e,n,ne,nf,d⟩:=I.pin p hp
   have nch:p.1 ∉ ch:=fun z=>(hch p.1 z).2.2.2 p hp rfl
   exact ⟨keep p.1 p.2 ne nf nch e n,free p.1 p.2 nch e n,ne,nf,d⟩
theorem Inv.un {t':Nat} (I:Inv X pins σ H s) (u:Un X.fs [] H H' s.heap h') (hok:HOk X.prog X.w H' h'):Inv X pins σ H' { s with heap:=h',toks:=t' }:=by
 obtain ⟨m,⟨o,es,ep,ho,r⟩,_⟩:=id I.loc
 obtain ⟨sl,hL⟩:=u.any ho I.free (by simp)
 exact I.step (g':=s.gens) (d':=s.drawn) (ch:=[]) (fun _ z=>nomatch z) (fun b o _ hb _ e n=>u.keep b o e n hb (by simp)) (fun b o _ hb _ e n=>u.slot b o e n hb (by simp)) (fun b o _ e n=>u.free b o e n (by simp)) (fun b o _ e=>u.there b o e (by simp)) u.tups u.eV u.fG (fun m' hm=>by
  obtain ⟨o',es',ep',ho',r'⟩:=hm
  rw [ho] at ho';cases ho'
  exact ⟨_,es',ep',hL,r'⟩) hok I.bare
theorem Inv.call {g':Array GenState} {t':Nat} {d':Drawn} {ch:List Addr} (I:Inv X pins σ H s) (u:Un (frs X.stack) ch H H' s.heap h') (hok:HOk X.prog X.w H' h') (hg:AllBare g')
 (hch:∀ b ∈ ch,(b ∈ X.ex\/X.s₀.heap.objs.size <= b)/\b ≠ X.env.locals/\(∀ x c,X.env.cells.lookup x=some c->c ≠ b)/\∀ p ∈ X.pn ++ pins,p.1 ≠ b):
 Inv X pins σ H' { s with heap:=h',gens:=g',drawn:=d',toks:=t' }:=by
 obtain ⟨m,⟨o,es,ep,ho,r⟩,_⟩:=id I.loc
 obtain ⟨sl,hL⟩:=u.any ho I.free fun z=>(hch _ z).2.1 rfl
 exact I.step (ch:=ch) hch (fun b o hL hb hc e n=>u.keep b o e n (fun z=>(List.mem_cons.mp (I.nA b z)).elim hL hb) hc) (fun b o _ _ hc e n=>u.any e n hc) (fun b o hc e n=>u.free b o e n hc) (fun b o hc e=>u.there b o e hc) u.tups u.eV u.fG (fun m' hm=>by
  obtain ⟨o',es',ep',ho',r'⟩:=hm
  rw [ho] at ho';cases ho'
  exact ⟨_,es',ep',hL,r'⟩) hok hg
theorem Inv.turned {t':Nat} {it:Addr} (I:Inv X pins σ H s) (k:∀ b o,b ≠ it->s.heap.get? b=some o->h'.get? b=some o) (hn:H it=none) (hL:it ≠ X.env.locals)
 (h1:it ∈ X.ex\/X.s₀.heap.objs.size <= it) (h2:∀ x c,X.env.cells.lookup x=some c->c ≠ it) (h3:∀ p ∈ X.pn ++ pins,p.1 ≠ it):Inv X pins σ H { s with heap:=h',toks:=t' }:=by
 have nit:∀ b u,H b=some u->b ≠ it:=fun b u e z=>by rw [z,hn] at e;cases e
 refine I.step (g':=s.gens) (d':=s.drawn) (ch:=[it]) (fun b hb=>?_) (fun b o _ _ hc e _=>k b o (fun z=>hc (by simp [z])) e) (fun b o _ _ hc e _=>⟨o.slots,k b o (fun z=>hc (by simp [z])) e⟩) (fun _ _ _ _ n=>n)
  (fun b o hc e=>⟨o,k b o (fun z=>hc (by simp [z])) e⟩) (fun _ _ e=>e) (fun _ _ _ e=>e) (fun b ps e=>⟨#[],by rw [e];simp⟩) (fun m hm=>?_) (fun b u e=>?_) I.bare
 · have e:b=it:=by simpa using hb
   subst e
   exact ⟨h1,hL,h2,h3⟩
 · obtain ⟨o,es,ep,ho,r⟩:=hm
   exact ⟨o,es,ep,k _ o (Ne.symm hL) ho,r⟩
 · refine (I.hok b u e).stay (fun c v hc q=>k c v ?_ q) (fun _ q=>q) fun _ _ q=>q
   rcases hc with z | z
   · rw [z];exact nit b u e
   · exact nit c _ z
theorem Inv.tok (I:Inv X pins σ H s) (t:Nat):Inv X pins σ H { s with toks:=t }:=I.un (h':=s.heap) (t':=t) Un.refl I.hok
theorem Inv.kept {t':Nat} (I:Inv X pins σ H s) (k:∀ b u,s.heap.get? b=some u->h'.get? b=some u):Inv X pins σ H { s with heap:=h',toks:=t' }:=I.un (Un.kept k) (I.hok.kept k)
theorem Inv.laid {a:Addr} {o:HO} {t':Nat} (I:Inv X pins σ H s) (k:∀ b u,s.heap.get? b=some u->h'.get? b=some u) (hp:s.heap.objs.size <= a) (new:bO X.prog X.w (upd H a o) h' a o):
 Inv X pins σ (upd H a o) { s with heap:=h',toks:=t' }:=I.un (Un.laid k hp (I.hok.fresh hp)) (I.hok.laid k hp new)
theorem Inv.write {x e:Addr} {o:HO} {t':Nat} (I:Inv X pins σ H s) (mu:Mut (H x)) (he:e=x\/H e=some (.own x)) (k:∀ b u,b ≠ e->s.heap.get? b=some u->h'.get? b=some u) (heo:∃ u,h'.get? e=some u)
 (new:bO X.prog X.w (upd H x o) h' x o):Inv X pins σ (upd H x o) { s with heap:=h',toks:=t' }:=I.un (Un.write mu he k heo) (I.hok.write mu he k heo new)
theorem Inv.weak {σ':List (Option V)} (I:Inv X pins σ H s) (hl:σ'.length=σ.length) (w:∀ (i:Nat) v,σ'[i]? =some (some v)->σ[i]? =some (some v)):Inv X pins σ' H s:=
 ⟨I.ok,I.os,I.bare,I.base,let ⟨m,hn,hl'⟩:=I.loc;⟨m,hn,fun i x v e1 e2 e3=>hl' i x v e1 (w i v e2) e3⟩,I.cell,I.free,I.eN,I.pin,I.hok,hl.trans I.len⟩
theorem Inv.oU {Ba:List (Addr × Obj)} (I:Inv X pins σ H s) (h:∀ p ∈ Ba,s.heap.get? p.1=some p.2/\H p.1=none/\p.1 ≠ X.env.locals/\p.1 ∉ X.fs/\∀ v,p.2.data ≠ .cell v):Inv X Ba σ H s:=
 ⟨I.ok,I.os,I.bare,I.base,I.loc,I.cell,I.free,I.eN,fun p hp=>(List.mem_append.mp hp).elim (fun z=>I.pin p (List.mem_append_left _ z)) (h p),I.hok,I.len⟩
theorem qP {N:List Str} (hN:N.Nodup) {i j:Nat} {x:Str} (a:N[i]? =some x) (b:N[j]? =some x):i=j:=by
 obtain ⟨h1,e1⟩:=List.getElem?_eq_some_iff.mp a
 obtain ⟨h2,e2⟩:=List.getElem?_eq_some_iff.mp b
 exact (List.getElem_inj hN).mp (e1.trans e2.symm)
theorem wK {M:Model} {A:Around} {E:Value->Shared->Prop} {i:Nat} {x:Str} {v:V} {u:Value} {Q:Unit->Shared->Prop} (I:Inv X pins σ H s) (hN:X.N.Nodup) (hi:X.N[i]? =some x) (hx:Loc X.env.scope x) (r:RelV v u)
 (h:∀ s',Inv X pins (σ.set i (some v)) H s'->(∃ a,Heap.SameBut a s.heap s'.heap/\(a=X.env.locals\/X.env.cells.lookup x=some a))->Q () s') (hf:X.fn x=true\/X.env.scope.names.lookup x=some .local:=by first | exact .inl rfl | exact .inr rfl | assumption):wpAny M A (storeName X.env x u) Q E s:=by
 obtain ⟨m,hn,hl⟩:=id I.loc
 have hcls:(X.env.scope.kind == .class || (X.env.scope.kind == .module && X.env.locals != X.env.globals))=false:=by rw [I.ok.kind];rfl
 have Er:i < σ.length:=by rw [I.len];exact (List.getElem?_eq_some_iff.mp hi).1
 have cne:=I.cne
 have tracked:∀ {a:Addr} {h':Heap},(∃ o,s.heap.get? a=some o/\H a=none)->Heap.SameBut a s.heap h'->HOk X.prog X.w H h':=fun {a h'} ha hs b ob e=>by
  obtain ⟨_,_,hfree⟩:=ha
  refine (I.hok b ob e).stay (fun c w' hc q=>(hs.2 c ?_).trans q) (fun _ q=>q) fun _ _ q=>q
  rintro rfl
  rcases hc with rfl | hc
  · rw [hfree] at e;cases e
  · rw [hfree] at hc;cases hc
 rcases hx with hk | hk
 · refine wpAny_storeName_local hk hn (fun h' hn' hs=>?_) hcls
   obtain ⟨oL,_,_,hoL,_⟩:=id hn
   refine h _ ⟨I.ok,I.os,I.bare,⟨fun b o e n hb hx=>?_,fun b o e n hb hx=>?_,I.base.free,fun b o e hx=>?_,I.base.tups,I.base.eV,I.base.fG⟩,⟨_,hn',fun j y v' e1 e2 e3=>?_⟩,fun y c e=>?_,I.free,I.eN,fun p hp=>?_,tracked ⟨oL,hoL,I.free⟩ hs,by simpa using I.len⟩ ⟨_,hs,.inl rfl⟩
   · exact (hs.2 b (Nat.ne_of_lt (Nat.lt_of_lt_of_le (Heap.lt_size e) I.ok.above))).trans (I.base.keep b o e n hb hx)
   · obtain ⟨sl,e1⟩:=I.base.slot b o e n hb hx
     exact ⟨sl,(hs.2 b (Nat.ne_of_lt (Nat.lt_of_lt_of_le (Heap.lt_size e) I.ok.above))).trans e1⟩
   · obtain ⟨o',e1⟩:=I.base.there b o e hx
     exact ⟨o',(hs.2 b (Nat.ne_of_lt (Nat.lt_of_lt_of_le (Heap.lt_size e) I.ok.above))).trans e1⟩
   · by_cases hj:j=i
     · subst hj
       rw [hi] at e1;cases e1
       rw [List.getElem?_set_self Er] at e2
       cases e2
       exact ⟨u,r,.inl ⟨hk,by simp⟩⟩
     · rw [List.getElem?_set_ne (Ne.symm hj)] at e2
       obtain ⟨u',r',q⟩:=hl j y v' e1 e2 e3
       refine ⟨u',r',?_⟩
       rcases q with ⟨k,e⟩ | ⟨k,c,e,z⟩
       · refine .inl ⟨k,?_⟩
         have:y ≠ x:=fun e=>hj (qP hN e1 (e ▸ hi))
         simp [this,e]
       · exact .inr ⟨k,c,e,z.sameBut hs (cne y c e)⟩
   · obtain ⟨w',z⟩:=I.cell y c e
     exact ⟨w',z.sameBut hs (cne y c e)⟩
   · obtain ⟨e,n,ne,nf,d⟩:=I.pin p hp
     exact ⟨(hs.2 p.1 ne).trans e,n,ne,nf,d⟩
 · have hfn:X.fn x=true:=by
    rcases hf with z | z
    · exact z
    · rw [z] at hk;cases hk
   obtain ⟨c,hc⟩:=I.ok.has x (.inl hk)
   obtain ⟨w',z⟩:=I.cell x c hc
   refine wpAny_storeName_cell I.ok.kind hk hc z (fun h' hc' hs=>?_)
   obtain ⟨oc,hoc,Kg⟩:=id z
   refine h { s with heap:=h' } ⟨I.ok,I.os,I.bare,⟨fun b o e n hb hx=>?_,fun b o e n hb hx=>?_,I.base.free,fun b o e hx=>?_,I.base.tups,I.base.eV,I.base.fG⟩,⟨m,hn.sameBut hs (Ne.symm (cne x c hc)),fun j y v' e1 e2 e3=>?_⟩,fun y c' e=>?_,I.free,I.eN,fun p hp=>?_,tracked ⟨oc,hoc,I.eN x c hc⟩ hs,by simpa using I.len⟩ ⟨c,hs,.inr hc⟩
   · exact (hs.2 b (Nat.ne_of_lt (Nat.lt_of_lt_of_le (Heap.lt_size e) (I.ok.cab x c hfn hc)))).trans (I.base.keep b o e n hb hx)
   · obtain ⟨sl,e1⟩:=I.base.slot b o e n hb hx
     exact ⟨sl,(hs.2 b (Nat.ne_of_lt (Nat.lt_of_lt_of_le (Heap.lt_size e) (I.ok.cab x c hfn hc)))).trans e1⟩
   · obtain ⟨o',e1⟩:=I.base.there b o e hx
     exact ⟨o',(hs.2 b (Nat.ne_of_lt (Nat.lt_of_lt_of_le (Heap.lt_size e) (I.ok.cab x c hfn hc)))).trans e1⟩
   · by_cases hj:j=i
     · subst hj
       rw [hi] at e1;cases e1
       rw [List.getElem?_set_self Er] at e2
       cases e2
       exact ⟨u,r,.inr ⟨.inl hk,c,hc,hc'⟩⟩
     · rw [List.getElem?_set_ne (Ne.symm hj)] at e2
       obtain ⟨u',r',q⟩:=hl j y v' e1 e2 e3
       refine ⟨u',r',?_⟩
       rcases q with q | ⟨k,c',e,z'⟩
       · exact .inl q
       · refine .inr ⟨k,c',e,z'.sameBut hs ?_⟩
         rintro rfl
         exact hj (qP hN e1 (I.ok.inj _ _ _ e hc ▸ hi))
   · by_cases hcc:c'=c
     · subst hcc;exact ⟨_,hc'⟩
     · obtain ⟨w2,z2⟩:=I.cell y c' e
       exact ⟨w2,z2.sameBut hs hcc⟩
   · obtain ⟨e,n,ne,nf,d⟩:=I.pin p hp
     refine ⟨(hs.2 p.1 ?_).trans e,n,ne,nf,d⟩
     intro q
     rw [q,hoc] at e
     have q':oc=p.2:=Option.some.inj e
     exact d w' (by rw [<- q'];exact Kg)
theorem ie {M:Model} {A:Around} {E:Value->Shared->Prop} {i:Nat} {x:Str} {v:V} {u:Value} {Q:Unit->Shared->Prop} (I:Inv X pins σ H s) (hN:X.N.Nodup) (hi:X.N[i]? =some x) (hx:Loc X.env.scope x) (r:RelV v u)
 (h:∀ s',Inv X pins (σ.set i (some v)) H s'->Q () s') (hf:X.fn x=true\/X.env.scope.names.lookup x=some .local:=by first | exact .inl rfl | exact .inr rfl | assumption):wpAny M A (storeName X.env x u) Q E s:=
 wK I hN hi hx r (fun s' I' _=>h s' I') hf
theorem Inv.call' {s':Shared} {ch:List Addr} (I:Inv X pins σ H s) (ho:s'.os=s.os) (u:Un (frs X.stack) ch H H' s.heap s'.heap) (hok:HOk X.prog X.w H' s'.heap) (hg:AllBare s'.gens)
 (hch:∀ b ∈ ch,(b ∈ X.ex\/X.s₀.heap.objs.size <= b)/\b ≠ X.env.locals/\(∀ x c,X.env.cells.lookup x=some c->c ≠ b)/\∀ p ∈ X.pn ++ pins,p.1 ≠ b):Inv X pins σ H' s':=by
 obtain ⟨h',g',d',t',o'⟩:=s'
 have e:o'=s.os:=ho
 subst e
 exact I.call (g':=g') (t':=t') (d':=d') u hok hg hch
end
abbrev XK:=Value->Option Addr->Hp->Prop
abbrev St:=List (Option V)
abbrev VK:=V->Hp->Prop
abbrev TE:=St->Hp->VK->Prop
abbrev TT:=St->Hp->(Bool->Hp->Prop)->Prop
abbrev TA:=St->Hp->(List V->Hp->Prop)->Prop
structure Ends where
 nx:St->Hp->Prop
 rt:VK
 bk:St->Hp->Prop:=fun _ _=>False
 ct:St->Hp->Prop:=fun _ _=>False
abbrev TS:=Ends->St->Hp->Prop
def EP (X:Cx) (pins:List (Addr × Obj)) (σ:St) (Q:VK) (u:Value) (s':Shared):Prop:=∃ v H',Inv X pins σ H' s'/\RelV v u/\Q v H'
def TP (X:Cx) (pins:List (Addr × Obj)) (σ:St) (Q:Bool->Hp->Prop) (b:Bool) (s':Shared):Prop:=∃ H',Inv X pins σ H' s'/\Q b H'
def AP (X:Cx) (pins:List (Addr × Obj)) (σ:St) (Q:List V->Hp->Prop) (us:List Value) (s':Shared):Prop:=∃ vs H',Inv X pins σ H' s'/\Vals vs us/\Q vs H'
def SP (X:Cx) (pins:List (Addr × Obj)) (D:Ends) (f:Flow) (s':Shared):Prop:=
 match f with
 | .next=>∃ σ' H',Inv X pins σ' H' s'/\D.nx σ' H'
 | .brk=>∃ σ' H',Inv X pins σ' H' s'/\D.bk σ' H'
 | .cont=>∃ σ' H',Inv X pins σ' H' s'/\D.ct σ' H'
 | .ret u=>∃ v σ' H',Inv X pins σ' H' s'/\RelV v u/\D.rt v H'
def PE (X:Cx) (e:Expr) (t:TE):Prop:=
 ∀ (pins:List (Addr × Obj)) (s:Shared) (σ:St) (H:Hp) (Q:VK),Inv X pins σ H s->t σ H Q->wpAny (model X.prog X.w) X.A (eval e X.env) (EP X pins σ Q) X.xe s
def PT (X:Cx) (e:Expr) (t:TT):Prop:=
 ∀ (pins:List (Addr × Obj)) (s:Shared) (σ:St) (H:Hp) (Q:Bool->Hp->Prop),Inv X pins σ H s->t σ H Q->wpAny (model X.prog X.w) X.A (isTrue e X.env (eval e X.env)) (TP X pins σ Q) X.xe s
def PW (X:Cx) (e:Expr) (t:TT):Prop:=
 ∀ (whole:Sem Value) (pins:List (Addr × Obj)) (s:Shared) (σ:St) (H:Hp) (Q:Bool->Hp->Prop),Inv X pins σ H s->t σ H Q->wpAny (model X.prog X.w) X.A (isTrue e X.env whole) (TP X pins σ Q) X.xe s
theorem PW.pt {X:Cx} {e:Expr} {t:TT} (h:PW X e t):PT X e t:=h _
def PA (X:Cx) (es:List Expr) (t:TA):Prop:=
 ∀ (pos:Pos) (pins:List (Addr × Obj)) (s:Shared) (σ:St) (H:Hp) (Q:List V->Hp->Prop),Inv X pins σ H s->t σ H Q->wpAny (model X.prog X.w) X.A (spliced (backTo pos (starEach es X.env))) (AP X pins σ Q) X.xe s
def PS (X:Cx) (st:Stmt) (t:TS):Prop:=
 ∀ (pins:List (Addr × Obj)) (s:Shared) (σ:St) (H:Hp) (D:Ends),Inv X pins σ H s->t D σ H->wpAny (model X.prog X.w) X.A (exec st X.env) (SP X pins D) X.xe s
def PSs (X:Cx) (st:List Stmt) (t:TS):Prop:=
 ∀ (pins:List (Addr × Obj)) (s:Shared) (σ:St) (H:Hp) (D:Ends),Inv X pins σ H s->t D σ H->wpAny (model X.prog X.w) X.A (execs st X.env) (SP X pins D) X.xe s
theorem thn {α:Type} {t:Sem α} {Q Q':α->Shared->Prop} {M:Model} {A:Around} {E:Value->Shared->Prop} {s:Shared} (h:wpAny M A t Q E s) (hQ:∀ a s,Q a s->Q' a s):wpAny M A t Q' E s:=wpAny_mono h hQ fun _ _ x=>x
end L2
namespace L2
open PySem PySem.Spec PyProof.Rows
section
variable {X:Cx}
def Es (i:Nat):TE:=fun σ H Q=>∃ v,σ[i]? =some (some v)/\Q v H
def tC (v:V):TE:=fun _ H Q=>Q v H
theorem wL {i:Nat} {x:Str} {pos:Pos} (hN:X.N[i]? =some x) (hv:Vis X.env.scope x) (hd:(x == ("__debug__":Str))=false:=by decide) (hcd:(x == ("__classdict__":Str))=false:=by decide):PE X (.Name x pos) (Es i):=by
 intro pins s σ H Q I h
 obtain ⟨v,e,h⟩:=h
 obtain ⟨m,hn,hl⟩:=I.loc
 obtain ⟨u,r,l⟩:=hl i x v hN e hv
 have fin:EP X pins σ Q u s:=⟨v,H,I,r,h⟩
 rcases l with ⟨hk,hm⟩ | ⟨hk,c,hc,hcell⟩
 · exact wpAny_Name (wpAny_loadName_local I.ok.kind hk hn hm fin) hd
 · rcases hk with hk | hk
   · exact wpAny_Name (wpAny_loadName_cell I.ok.kind hk hc hcell fin) hd
   · exact wpAny_Name (wpAny_loadName_free I.ok.kind hk hc hcell fin hcd) hd
theorem aD {i j pos}:PE X (.Constant (.int i) j pos) (tC (.int i)):=fun _ _ _ H _ I h=>wpAny_Constant_int ⟨.int i,H,I.tok _,⟨_,rfl⟩,h⟩
theorem Bb {b j pos}:PE X (.Constant (.bool b) j pos) (tC (.bl b)):=fun _ _ _ H _ I h=>Constant_bool ⟨.bl b,H,I,rfl,h⟩
def Gl (X:Cx) (x:Str):Prop:=X.env.kindOf x=some .globalImplicit
theorem Ck {E:Value->Shared->Prop} {pins:List (Addr × Obj)} {s:Shared} {σ:St} {H:Hp} {x:Str} {u:Value} {pos:Pos} {Q:Value->Shared->Prop} (I:Inv X pins σ H s) (hg:Gl X x) (hm:X.mg x=some u) (h:Q u s)
 (hd:(x == ("__debug__":Str))=false:=by decide):wpAny (model X.prog X.w) X.A (eval (.Name x pos) X.env) Q E s:=
 Calls.Name_function_global I.ok.kind hg (Calls.loadGlobal_global (by rw [I.ok.glob];exact I.mod.glob.keeps I.bk) hm h) hd
theorem qQ {E:Value->Shared->Prop} {pins:List (Addr × Obj)} {s:Shared} {σ:St} {H:Hp} {x:Str} {u:Value} {pos:Pos} {Q:Value->Shared->Prop} (I:Inv X pins σ H s) (hg:Gl X x) (hm:X.mg x=none) (hv:bootBuiltins x=some u) (h:Q u s)
 (hn:x ≠ "__name__":=by decide) (hd:(x == ("__debug__":Str))=false:=by decide):wpAny (model X.prog X.w) X.A (eval (.Name x pos) X.env) Q E s:=by
 obtain ⟨mb,h1,h2⟩:=I.mod.blt
 exact Calls.Name_function_global I.ok.kind hg (Calls.loadGlobal_builtin (by rw [I.ok.glob];exact I.mod.glob.keeps I.bk) hm (by rw [I.ok.blt];exact h1.keeps I.bk) ((h2 x hn).trans hv) h) hd
variable {a b:Expr} {ta tb:TE} {pos:Pos}
variable {tA tB':TT} {rest:List Expr}
def Et (t u:TT):TT:=fun σ H Q=>t σ H fun c H1=>if c=true then u σ H1 Q else Q false H1
def Kh (t:TT):TT:=fun σ H Q=>t σ H fun c H1=>Q (!c) H1
theorem pw_and1 (ha:PT X a tA):PW X (.BoolOp .And [a] pos) tA:=by
 intro wh pins s σ H Q I h
 refine isTrue_and (thn (ha pins s σ H Q I h) fun c s1 e=>?_)
 cases c with
 | true=>exact isTrue_and_nil e
 | false=>exact e
theorem pw_and (ha:PT X a tA) (hb:PW X (.BoolOp .And (b::rest) pos) tB'):PW X (.BoolOp .And (a::b::rest) pos) (Et tA tB'):=by
 intro wh pins s σ H Q I h
 refine isTrue_and (thn (ha pins s σ H _ I h) fun c s1 ⟨H1,I1,q1⟩=>?_)
 cases c with
 | true=>exact hb wh pins s1 σ H1 Q I1 q1
 | false=>exact ⟨H1,I1,q1⟩
theorem Eu (ha:PT X a tA):PT X (.UnaryOp .Not a pos) (Kh tA):=by
 intro pins s σ H Q I h
 exact isTrue_not (ha pins s σ H (fun c H1=>Q (!c) H1) I h)
def Bc (ta tb:TE):TE:=fun σ H Q=>ta σ H fun x H1=>∃ c,x= .bl c/\if c=true then tb σ H1 Q else Q (.bl false) H1
theorem Ew {op} {t:TE} (h:PE X a t):PE X (.BoolOp op [a] pos) t:=fun pins s σ H Q I hw=>BoolOp_one (h pins s σ H Q I hw)
theorem Ex (ha:PE X a ta) (hb:PE X (.BoolOp .And (b::rest) pos) tb):PE X (.BoolOp .And (a::b::rest) pos) (Bc ta tb):=by
 intro pins s σ H Q I h
 refine BoolOp_and (thn (ha pins s σ H _ I h) fun v s1 ⟨x,H1,I1,r1,q1⟩=>?_)
 obtain ⟨c,rfl,q1⟩:=q1
 cases r1
 refine wpAny_truthy_bool ?_
 cases c with
 | true=>exact hb pins s1 σ H1 Q I1 q1
 | false=>exact ⟨.bl false,H1,I1,rfl,q1⟩
def tIf (t:TT) (ta tb:TE):TE:=fun σ H Q=>t σ H fun c H1=>if c=true then ta σ H1 Q else tb σ H1 Q
theorem qR {c:Expr} (hc:PT X c tA) (ha:PE X a ta) (hb:PE X b tb):PE X (.IfExp c a b pos) (tIf tA ta tb):=by
 intro pins s σ H Q I h
 refine wpAny_IfExp (thn (hc pins s σ H _ I h) fun d s1 ⟨H1,I1,q1⟩=>?_)
 cases d with
 | true=>exact ha pins s1 σ H1 Q I1 q1
 | false=>exact hb pins s1 σ H1 Q I1 q1
end
end L2
namespace L2
open PySem PySem.Spec PyProof.Rows
def SqL (K:PySem.W.Frag) (H:Hp) (a:Addr) (xs:List V):Prop:=
 Rd H a (.lst xs)\/
  ∃ (o:Obj) (its:Array Value) (n:Nat),K.lookup a=some o/\o.cls= .type "list"/\o.dict=none/\o.data= .seq its n/\its.size <= sizeLine/\Vals xs its.toList
def SqT (K:PySem.W.Frag) (H:Hp) (a:Addr) (xs:List V):Prop:=
 Rd H a (.tup xs)\/
  ∃ (o:Obj) (its:Array Value) (n:Nat),K.lookup a=some o/\o.cls= .type "tuple"/\o.data= .seq its n/\its.size <= sizeLine/\Vals xs its.toList
def Kl:Value->Option V
 | .none=>some .non
 | .bool b=>some (.bl b)
 | .int i _=>some (.int i)
 | .str x _=>some (.str x)
 | .bytes b _=>some (.byt b)
 | .float b _=>some (.flt b)
 | .ref a=>some (.ref a)
 | .type n=>some (.ty n)
 | _=>none
theorem RelV.abs {x:V} {u:Value} (r:RelV x u):Kl u=some x:=by
 cases x with
 | non=>cases r;rfl
 | bl _=>cases r;rfl
 | int _=>obtain ⟨t,rfl⟩:=r;rfl
 | str _=>obtain ⟨t,rfl⟩:=r;rfl
 | byt _=>obtain ⟨t,rfl⟩:=r;rfl
 | flt _=>obtain ⟨t,rfl⟩:=r;rfl
 | ref _=>cases r;rfl
 | ty _=>cases r;rfl
theorem RelV.inj {x y:V} {u:Value} (r:RelV x u) (q:RelV y u):x=y:=Option.some.inj (r.abs.symm.trans q.abs)
theorem Vals.inj:∀ {xs ys:List V} {us:List Value},Vals xs us->Vals ys us->xs=ys
 | _,_,_,.nil,.nil=>rfl
 | _,_,_,.cons r t,.cons r' t'=>by rw [r.inj r',Vals.inj t t']
section
variable {X:Cx} {pins:List (Addr × Obj)} {σ:St} {H:Hp} {s:Shared} {a:Addr} {xs ys:List V}
theorem SqL.of {K:PySem.W.Frag} (h:H a=some (.lst xs)):SqL K H a xs:=.inl (.inl h)
theorem SqT.of {K:PySem.W.Frag} (h:H a=some (.tup xs)):SqT K H a xs:=.inl (.inl h)
theorem Inv.list (I:Inv X pins σ H s) (h:SqL X.K H a xs):∃ its:List Value,Vals xs its/\PlainL s.heap a its.toArray/\xs.length <= sizeLine:=by
 rcases h with h | ⟨o,its,n,hk,hc,hd,hs,hz,r⟩
 · obtain ⟨z,its,n,r,e⟩:=h.ok I.hok
   exact ⟨its,r,⟨_,n,e,rfl,rfl,rfl⟩,z⟩
 · refine ⟨its.toList,r,⟨o,n,I.kIn a o hk,hc,hd,by simpa using hs⟩,?_⟩
   have e:=r.length
   simp only [Array.length_toList] at e
   omega
theorem Inv.tuple (I:Inv X pins σ H s) (h:SqT X.K H a xs):∃ its:List Value,Vals xs its/\IsTup s.heap a its.toArray/\xs.length <= sizeLine:=by
 rcases h with h | ⟨o,its,n,hk,hc,hs,hz,r⟩
 · obtain ⟨z,its,r,p⟩:=h.ok I.hok
   exact ⟨its,r,p,z⟩
 · refine ⟨its.toList,r,⟨o,I.kIn a o hk,hc,n,by simpa using hs⟩,?_⟩
   have e:=r.length
   simp only [Array.length_toList] at e
   omega
theorem Inv.yV (I:Inv X pins σ H s) (h:SqL X.K H a xs) (h':SqL X.K H a ys):xs=ys:=by
 obtain ⟨its,r,⟨o,n,e,_,_,d⟩,_⟩:=I.list h
 obtain ⟨its',r',⟨o',n',e',_,_,d'⟩,_⟩:=I.list h'
 rw [e] at e';cases e'
 rw [d] at d'
 injection d' with d1 _
 have:its=its':=by simpa using congrArg Array.toList d1
 subst this
 exact r.inj r'
theorem Inv.wM (I:Inv X pins σ H s) (h:SqT X.K H a xs) (h':SqT X.K H a ys):xs=ys:=by
 obtain ⟨its,r,⟨o,e,_,n,d⟩,_⟩:=I.tuple h
 obtain ⟨its',r',⟨o',e',_,n',d'⟩,_⟩:=I.tuple h'
 rw [e] at e';cases e'
 rw [d] at d'
 injection d' with d1 _
 have:its=its':=by simpa using congrArg Array.toList d1
 subst this
 exact r.inj r'
end
abbrev Cx.wish (X:Cx) (E:Value->Shared->Prop):Cx:={ X with xe:=E }
abbrev Cx.nox (X:Cx):Cx:=X.wish fun _ _=>False
theorem Cx.Ok.wish {X:Cx} (ok:X.Ok) (E:Value->Shared->Prop):(X.wish E).Ok:=
 ⟨ok.mod,ok.kind,ok.glob,ok.blt,ok.above,ok.inj,ok.has,ok.cab,ok.hd,ok.frames,ok.stk,ok.exf,ok.bs,ok.bsz,ok.kh,ok.uO,ok.h_,ok.frf⟩
theorem Cx.Ok.gF {X:Cx} {E:Value->Shared->Prop} (ok:(X.wish E).Ok):X.Ok:=
 ⟨ok.mod,ok.kind,ok.glob,ok.blt,ok.above,ok.inj,ok.has,ok.cab,ok.hd,ok.frames,ok.stk,ok.exf,ok.bs,ok.bsz,ok.kh,ok.uO,ok.h_,ok.frf⟩
section
variable {X:Cx} {pins:List (Addr × Obj)} {σ:St} {H:Hp} {s:Shared} {E:Value->Shared->Prop}
theorem Inv.wish (I:Inv X pins σ H s) (E:Value->Shared->Prop):Inv (X.wish E) pins σ H s:=⟨I.ok.wish E,I.os,I.bare,I.base,I.loc,I.cell,I.free,I.eN,I.pin,I.hok,I.len⟩
theorem Inv.gF (I:Inv (X.wish E) pins σ H s):Inv X pins σ H s:=⟨I.ok.gF,I.os,I.bare,I.base,I.loc,I.cell,I.free,I.eN,I.pin,I.hok,I.len⟩
theorem SP.gF {D:Ends} {f:Flow} {s':Shared} (h:SP (X.wish E) pins D f s'):SP X pins D f s':=by
 cases f with
 | next=>obtain ⟨σ',H',I,q⟩:=h;exact ⟨σ',H',I.gF,q⟩
 | brk=>obtain ⟨σ',H',I,q⟩:=h;exact ⟨σ',H',I.gF,q⟩
 | cont=>obtain ⟨σ',H',I,q⟩:=h;exact ⟨σ',H',I.gF,q⟩
 | ret u=>obtain ⟨v,σ',H',I,r,q⟩:=h;exact ⟨v,σ',H',I.gF,r,q⟩
theorem PSs.nox {st:List Stmt} {t:TS} (h:PSs X.nox st t):PSs X st t:=fun pins s σ H D I hw=>
 wpAny_mono (h pins s σ H D (I.wish _) hw) (fun _ _ q=>q.gF) fun _ _ z=>False.elim z
end
section
variable {X:Cx} {st:Stmt} {rest:List Stmt} {t u:TS} {e:Expr} {te:TE} {pos:Pos}
def qz:TS:=fun D σ H=>D.nx σ H
def yW (t u:TS):TS:=fun D σ H=>t { D with nx:=u D } σ H
theorem lR:PSs X [] qz:=fun _ _ σ H _ I h=>wpAny_execs_nil ⟨σ,H,I,h⟩
theorem bw (h1:PS X st t) (h2:PSs X rest u):PSs X (st::rest) (yW t u):=by
 intro pins s σ H D I h
 refine wpAny_execs_cons (thn (h1 pins s σ H { D with nx:=u D } I h) fun f s1 q=>?_)
 cases f with
 | next=>
   obtain ⟨σ',H',I',q⟩:=q
   exact h2 pins s1 σ' H' D I' q
 | ret v=>exact q
 | brk=>exact q
 | cont=>exact q
theorem dG (h1:PS X st t):PSs X [st] t:=by
 intro pins s σ H D I h
 refine wpAny_execs_cons (thn (h1 pins s σ H D I h) fun f s1 q=>?_)
 cases f with
 | next=>exact wpAny_execs_nil q
 | ret v=>exact q
 | brk=>exact q
 | cont=>exact q
theorem Inv.quiet {pins:List (Addr × Obj)} {σ:St} {H:Hp} {s:Shared} (I:Inv X pins σ H s):interactive X.env=false:=by simp [interactive,I.ok.kind]
def Jc (te:TE):TS:=fun D σ H=>te σ H fun _ H1=>D.nx σ H1
theorem uf (he:PE X e te) (hs:swapsWith e none pos.line X.env=pure false:=by rfl):PS X (.Expr e pos) (Jc te):=by
 intro pins s σ H D I h
 exact wpAny_Expr_any (thn (he pins s σ H _ I h) fun v s1 ⟨x,H1,I1,r1,q1⟩=>⟨σ,H1,I1,q1⟩) I.quiet hs
def Km (te:TE):TS:=fun D σ H=>te σ H D.rt
theorem ig (he:PE X e te):PS X (.Return (some e) pos) (Km te):=by
 intro pins s σ H D I h
 exact wpAny_Return_some (thn (he pins s σ H _ I h) fun v s1 ⟨x,H1,I1,r1,q1⟩=>⟨x,σ,H1,I1,r1,q1⟩)
def Ko (c:TT) (t u:TS):TS:=fun D σ H=>c σ H fun b H1=>if b=true then t D σ H1 else u D σ H1
theorem qC {c:Expr} {a b:List Stmt} {tc:TT} (hc:PT X c tc) (ha:PSs X a t) (hb:PSs X b u):PS X (.If c a b pos) (Ko tc t u):=by
 intro pins s σ H D I h
 refine wpAny_If (thn (hc pins s σ H _ I h) fun d s1 ⟨H1,I1,q1⟩=>?_)
 cases d with
 | true=>exact ha pins s1 σ H1 D I1 q1
 | false=>exact hb pins s1 σ H1 D I1 q1
end
abbrev TG:=V->St->Hp->(St->Hp->Prop)->Prop
abbrev TGs:=List V->St->Hp->(St->Hp->Prop)->Prop
def PG (X:Cx) (target:Expr) (t:TG):Prop:=
 ∀ (pins:List (Addr × Obj)) (s:Shared) (σ:St) (H:Hp) (v:V) (u:Value) (Q:St->Hp->Prop),Inv X pins σ H s->RelV v u->t v σ H Q->
   wpAny (model X.prog X.w) X.A (assign target X.env u) (fun _ s'=>∃ σ' H',Inv X pins σ' H' s'/\Q σ' H') X.xe s
def PGs (X:Cx) (ts:List Expr) (t:TGs):Prop:=
 ∀ (pins:List (Addr × Obj)) (s:Shared) (σ:St) (H:Hp) (vs:List V) (us:List Value) (Q:St->Hp->Prop),Inv X pins σ H s->Vals vs us->t vs σ H Q->
   wpAny (model X.prog X.w) X.A (assignInOrder ((assignEach ts X.env).map (·.2)) us) (fun _ s'=>∃ σ' H',Inv X pins σ' H' s'/\Q σ' H') X.xe s
section
variable {X:Cx} {pos:Pos}
def qD (i:Nat):TG:=fun v σ H Q=>Q (σ.set i (some v)) H
theorem oV {i:Nat} {x:Str} (hN:X.N.Nodup) (hi:X.N[i]? =some x) (hx:Loc X.env.scope x) (hf:X.fn x=true\/X.env.scope.names.lookup x=some .local:=by first | exact .inl rfl | exact .inr rfl | assumption):PG X (.Name x pos) (qD i):=by
 intro pins s σ H v u Q I r h
 exact wpAny_assign_Name (ie I hN hi hx r (fun s' I'=>⟨_,H,I',h⟩) hf)
def Kq:TGs:=fun vs σ H Q=>vs= []/\Q σ H
def Jd (t:TG) (u:TGs):TGs:=fun vs σ H Q=>∃ v r,vs=v::r/\t v σ H fun σ' H'=>u r σ' H' Q
theorem Cm:PGs X [] Kq:=by
 intro pins s σ H vs us Q I r h
 obtain ⟨e,h⟩:=h
 subst e
 cases r
 exact assignInOrder_nil ⟨σ,H,I,h⟩
theorem yX {e:Expr} {es:List Expr} {t:TG} {u:TGs} (h1:PG X e t) (h2:PGs X es u)
 (hs:(assignEach (e::es) X.env).map (·.2)=assign e X.env::(assignEach es X.env).map (·.2):=by rfl):PGs X (e::es) (Jd t u):=by
 intro pins s σ H vs us Q I r h
 obtain ⟨v,vr,e1,h⟩:=h
 subst e1
 cases r with
 | cons r rr=>
   rw [hs]
   refine assignInOrder_cons (thn (h1 pins s σ H _ _ _ I r h) fun _ s1 ⟨σ1,H1,I1,q1⟩=>?_)
   exact h2 pins s1 σ1 H1 _ _ Q I1 rr q1
def Kr (K:PySem.W.Frag) (n:Nat) (t:TGs):TG:=fun v σ H Q=>∃ a xs,v= .ref a/\SqT K H a xs/\xs.length=n/\t xs σ H Q
theorem Ey {es:List Expr} {k:Nat} {t:TGs} {n:Nat} (hc:X.calm=true) (h:PGs X es t)
 (hn:(assignEach es X.env).length=n:=by rfl) (hst:(assignEach es X.env).findIdx? (·.1)=none:=by rfl):PG X (.Tuple es k pos) (Kr X.K n t):=by
 intro pins s σ H v u Q I r hw
 obtain ⟨a,xs,e1,hq,hl,hw⟩:=hw
 subst e1
 cases r
 obtain ⟨its,rv,ht,hz⟩:=I.tuple hq
 refine assign_Tuple_tuple (I.ok.hd hc) ht (by simp [hn,<- hl,rv.length]) hst fun h' hx=>?_
 have I1:Inv X pins σ H { s with heap:=h' }:=I.kept (t':=s.toks) fun b o e=>hx b o (Nat.ne_of_lt (Heap.lt_size e)) e
 exact h pins _ σ H xs _ Q I1 (by simpa using rv) hw
def uP (te:TE) (g:TG):TS:=fun D σ H=>te σ H fun x H1=>g x σ H1 D.nx
theorem Ez {tg e:Expr} {te:TE} {g:TG} (he:PE X e te) (hg:PG X tg g) (hs:swapsWithSole [tg] e pos.line X.env=pure false:=by rfl) (hw:swappedStores [tg] e X.env=pure none:=by rfl)
 (h1:(assignEach [tg] X.env).map (·.2)= [assign tg X.env]:=by rfl):PS X (.Assign [tg] e pos) (uP te g):=by
 intro pins s σ H D I h
 refine wpAny_Assign_stores (thn (he pins s σ H _ I h) fun v s1 ⟨x,H1,I1,r1,q1⟩=>?_) hs hw
 rw [h1]
 exact thn (hg pins s1 σ H1 x v _ I1 r1 q1) fun _ s2 q=>q
theorem gG {i:Nat} {x:Str} {e:Expr} {te:TE} {pos':Pos} (hN:X.N.Nodup) (hi:X.N[i]? =some x) (hx:Loc X.env.scope x) (he:PE X e te) (hs:swapsWith e (some (.Name x pos')) pos.line X.env=pure false:=by rfl) (hf:X.fn x=true\/X.env.scope.names.lookup x=some .local:=by first | exact .inl rfl | exact .inr rfl | assumption):
 PS X (.Assign [.Name x pos'] e pos) (uP te (qD i)):=by
 intro pins s σ H D I h
 refine wpAny_Assign_Name (thn (he pins s σ H _ I h) fun v s1 ⟨y,H1,I1,r1,q1⟩=>?_) hs
 exact ie I1 hN hi hx r1 (fun s2 I2=>⟨_,H1,I2,q1⟩) hf
def EY (i j:Nat) (ta:TA):TS:=fun D σ H=>ta σ H fun vs H1=>∃ v w,vs= [v,w]/\D.nx ((σ.set i (some v)).set j (some w)) H1
theorem E_ {i j:Nat} {x y:Str} {a b:Expr} {ta:TA} {px py pt:Pos} {kt k2 pt2} (hc:X.calm=true) (hN:X.N.Nodup) (hi:X.N[i]? =some x) (hj:X.N[j]? =some y) (hij:i ≠ j)
 (hx:X.env.scope.names.lookup x=some .local) (hy:X.env.scope.names.lookup y=some .local) (ha:PA X [a,b] ta)
 (hw:swappedStores [.Tuple [.Name x px,.Name y py] kt pt] (.Tuple [a,b] k2 pt2) X.env=pure (some [x,y]))
 (hs:swapsWithSole [.Tuple [.Name x px,.Name y py] kt pt] (.Tuple [a,b] k2 pt2) pos.line X.env=pure false:=by rfl):
 PS X (.Assign [.Tuple [.Name x px,.Name y py] kt pt] (.Tuple [a,b] k2 pt2) pos) (EY i j ta):=by
 intro pins s σ H D I h
 rw [exec_Assign_arm]
 refine wpAny_bind (wpAny_standAt ?_)
 rw [hs]
 refine wpAny_bind (wpAny_pure ?_)
 rw [if_neg (by decide)]
 refine wpAny_bind (Tuple_ (thn (ha _ pins s σ H _ I h) fun us s1 ⟨vs,H1,I1,r1,q1⟩=>?_))
 obtain ⟨v,w,e1,q1⟩:=q1
 subst e1
 obtain ⟨u1,u2,rfl,rv,rw'⟩:∃ u1 u2,us= [u1,u2]/\RelV v u1/\RelV w u2:=by
  cases r1 with
  | cons p q=>
    cases q with
    | cons p' q'=>
      cases q'
      exact ⟨_,_,rfl,p,p'⟩
 refine wpAny_newObj_type ?_ (by show 2 <= sizeLine;decide)
 have I2:Inv X pins σ H1 { s1 with heap:=s1.heap.push { cls:=.type "tuple",data:=.seq [u1,u2].toArray } }:=I1.kept (t':=s1.toks) fun b o e=>Heap.get?_push_of_some _ e
 rw [hw]
 refine wpAny_bind (wpAny_pure ?_)
 show wpAny (model X.prog X.w) X.A (do rule "assign.swapped-stores";let items <- unpackItems (.ref s1.heap.objs.size) 2 none;assignInOrder [fun v=>bindName X.env y v,fun v=>bindName X.env x v] items.reverse;pure Flow.next) _ _ _
 refine wpAny_bind (wpAny_rule (wpAny_bind (unpackItems_tuple (items:=#[u1,u2]) (I.ok.hd hc) (IsTup.new s1.heap _) fun h' hx'=>?_)))
 have I3:=I2.kept (h':=h') (t':=s1.toks) fun b o e=>hx' b o (Nat.ne_of_lt (Heap.lt_size e)) e
 show wpAny _ _ (assignInOrder [fun v=>bindName X.env y v,fun v=>bindName X.env x v] [u2,u1] >>= fun _=>pure Flow.next) _ _ _
 refine wpAny_bind (assignInOrder_cons (wpAny_bindName (ie I3 hN hj (.inl hy) rw' (fun s2 I4=>?_) (.inr hy))))
 refine assignInOrder_cons (wpAny_bindName (ie I4 hN hi (.inl hx) rv (fun s3 I5=>assignInOrder_nil (wpAny_pure ?_)) (.inr hx)))
 rw [List.set_comm _ _ (Ne.symm hij)] at I5
 exact ⟨_,H1,I5,q1⟩
end
section
variable {X:Cx} {pos:Pos}
def wN (c:TT) (tb:TS):TS:=fun D σ H=>∃ W:Nat->St->Hp->Prop,(∃ m,W m σ H)/\∀ m σ H,W m σ H->
 c σ H fun b H1=>if b=true then ∃ N:St->Hp->Prop,(∀ σ' H',N σ' H'->∃ m',m' < m/\W m' σ' H')/\tb { D with nx:=N,ct:=N,bk:=D.nx } σ H1 else D.nx σ H1
theorem yZ {c:Expr} {body:List Stmt} {tc:TT} {tb:TS} (hp:PassesOwn (model X.prog X.w) X.A X.env X.xe) (hc:PT X c tc) (hb:PSs X body tb):PS X (.While c body [] pos) (wN tc tb):=by
 intro pins s σ H D I h
 obtain ⟨W,⟨m0,w0⟩,turn⟩:=h
 refine wpAny_While (codeAny_whileLoop (fun n s'=>∃ σ' H',Inv X pins σ' H' s'/\W n σ' H') ?_ m0 ⟨σ,H,I,w0⟩)
 rintro n s1 ⟨σ1,H1,I1,w1⟩
 refine wpAny_passesOwn hp (thn (hc pins s1 σ1 H1 _ I1 (turn n σ1 H1 w1)) fun b s2 ⟨H2,I2,q2⟩=>?_)
 cases b with
 | true=>
   obtain ⟨N,hN,q2⟩:=q2
   rw [if_pos rfl]
   refine wpAny_passesOwn hp (thn (hb pins s2 σ1 H2 _ I2 q2) fun f s3 q3=>?_)
   cases f with
   | next=>
     obtain ⟨σ3,H3,I3,n3⟩:=q3
     obtain ⟨m',hm,w3⟩:=hN σ3 H3 n3
     exact ⟨m',hm,σ3,H3,I3,w3⟩
   | cont=>
     obtain ⟨σ3,H3,I3,n3⟩:=q3
     obtain ⟨m',hm,w3⟩:=hN σ3 H3 n3
     exact ⟨m',hm,σ3,H3,I3,w3⟩
   | brk=>exact q3
   | ret v=>exact q3
 | false=>
   rw [if_neg Bool.false_ne_true]
   exact wpAny_execs_nil ⟨σ1,H2,I2,q2⟩
end
structure It where
 go:Nat->Hp->Prop
 yld:Nat->Hp->V->Hp->Prop
 stop:Nat->Hp->Prop
def fP (X:Cx) (pins:List (Addr × Obj)) (H:Hp) (b:Addr):Prop:=
 H b=none/\b ≠ X.env.locals/\b ∉ X.fs/\(b ∈ X.ex\/X.s₀.heap.objs.size <= b)/\(∀ x c,X.env.cells.lookup x=some c->c ≠ b)/\∀ p ∈ X.pn ++ pins,p.1 ≠ b
theorem Inv.y_ {X:Cx} {pins:List (Addr × Obj)} {σ:St} {H H':Hp} {s:Shared} {b:Addr} (I:Inv X pins σ H s) (hb:s.heap.objs.size <= b) (hn:H' b=none):fP X pins H' b:=by
 refine ⟨hn,Nat.ne_of_gt (Nat.lt_of_lt_of_le I.lt hb),I.Ep hb,.inr (Nat.le_trans I.sz hb),fun x c e z=>?_,fun p hp z=>?_⟩
 · obtain ⟨v,q⟩:=I.cell x c e
   exact absurd (Nat.lt_of_lt_of_le q.lt (by rw [z];exact hb)) (Nat.lt_irrefl _)
 · exact absurd (Nat.lt_of_lt_of_le (Heap.lt_size (I.pin p hp).1) (by rw [z];exact hb)) (Nat.lt_irrefl _)
structure Turn (P:Program) (w:World) (K:PySem.W.Frag) (tg:Expr) (J:It) (fp:List Addr) (it:Addr) (tn:Nat->Heap->Prop):Prop where
 mem:it ∈ fp
 obj:∀ i h,tn i h->∀ b ∈ fp,∃ o,h.get? b=some o/\∀ v,o.data ≠ .cell v
 keep:∀ i h h',tn i h->(∀ b ∈ fp,∀ o,h.get? b=some o->h'.get? b=some o)->tn i h'
 item:∀ (X:Cx),X.prog=P->X.w=w->X.K=K->X.calm=true->∀ (i:Nat) (pins:List (Addr × Obj)) (s:Shared) (σ:St) (H:Hp) (E:Value->Shared->Prop),Inv X pins σ H s->(∀ b ∈ fp,fP X pins H b)->tn i s.heap->J.go i H->
  wpAny (model P w) X.A (pyNext (.ref it)) (fun r s1=>∃ u,r=some u/\
   wpAny (model P w) X.A (letOwnedTupleGo tg (.ref it) u) (fun _ s2=>∃ x H',Inv X pins σ H' s2/\RelV x u/\J.yld i H x H'/\tn (i + 1) s2.heap/\∀ b ∈ fp,H' b=none) E s1) E s
 done:∀ (X:Cx),X.prog=P->X.w=w->X.K=K->X.calm=true->∀ (i:Nat) (pins:List (Addr × Obj)) (s:Shared) (σ:St) (H:Hp) (E:Value->Shared->Prop),Inv X pins σ H s->(∀ b ∈ fp,fP X pins H b)->tn i s.heap->J.stop i H->
  wpAny (model P w) X.A (pyNext (.ref it)) (fun r s1=>r=none/\Inv X pins σ H s1) E s
 self:∀ (A:Around) (i:Nat) (s:Shared) (Q:Value->Shared->Prop) (E:Value->Shared->Prop),tn i s.heap->Q (.ref it) s->wpAny (model P w) A (pyIter (.ref it)) Q E s
abbrev TI:=St->Hp->(It->Hp->Prop)->Prop
def PIE (X:Cx) (pins:List (Addr × Obj)) (σ:St) (tg:Expr) (R:It->Hp->Prop) (itv:Value) (s2:Shared):Prop:=
 ∃ (it:Addr) (fp:List Addr) (tn:Nat->Heap->Prop) (J:It) (H':Hp),itv= .ref it/\Inv X pins σ H' s2/\Turn X.prog X.w X.K tg J fp it tn/\tn 0 s2.heap/\(∀ b ∈ fp,fP X pins H' b)/\R J H'
def PI (X:Cx) (tg iter:Expr) (wi:TI):Prop:=
 ∀ (pins:List (Addr × Obj)) (s:Shared) (σ:St) (H:Hp) (R:It->Hp->Prop),Inv X pins σ H s->wi σ H R->
   wpAny (model X.prog X.w) X.A (eval iter X.env) (fun v s1=>wpAny (model X.prog X.w) X.A (pyIter v) (PIE X pins σ tg R) X.xe s1) X.xe s
theorem uQ {M:Model} {A:Around} {E:Value->Shared->Prop} {s:Shared} {tg:Expr} {it:Addr} {u:Value} {o:Obj} {n:String} {vs:Array Value} {Q:Unit->Shared->Prop} (ho:s.heap.get? it=some o) (hc:o.cls= .type n) (hd:o.data= .fields vs)
 (hn:["enumerate","zip","dict_itemiterator","dict_reverseitemiterator","odict_iterator","itertools.zip_longest","itertools.pairwise"].contains n=false) (hQ:Q () s):wpAny M A (letOwnedTupleGo tg (.ref it) u) Q E s:=by
 unfold letOwnedTupleGo
 cases tg <;> first
  | exact wpAny_pure hQ
  | (cases u <;> first
      | exact wpAny_pure hQ
      | (refine wpAny_bind (wpAny_load ho ?_)
         rw [hc,hd]
         show wpAny M A (if (["enumerate","zip","dict_itemiterator","dict_reverseitemiterator","odict_iterator","itertools.zip_longest","itertools.pairwise"].contains n && vs[0]? == some (rawInt _))=true then _ else _) Q E s
         rw [if_neg (by intro h;rw [hn,Bool.false_and] at h;cases h)]
         exact wpAny_pure hQ))
def Itl (K:PySem.W.Frag) (a:Addr):It:=
 ⟨fun i H=>∃ xs x,SqL K H a xs/\xs[i]? =some x,fun i H x H'=>H'=H/\∀ xs,SqL K H a xs->xs[i]? =some x,fun i H=>∃ xs,SqL K H a xs/\xs.length <= i⟩
def Itt (K:PySem.W.Frag) (a:Addr):It:=
 ⟨fun i H=>∃ xs x,SqT K H a xs/\xs[i]? =some x,fun i H x H'=>H'=H/\∀ xs,SqT K H a xs->xs[i]? =some x,fun i H=>∃ xs,SqT K H a xs/\xs.length <= i⟩
def Itr (lo:Int) (n:Nat):It:=⟨fun i _=>i < n,fun i H x H'=>H'=H/\x= .int (lo + i),fun i _=>n <= i⟩
theorem wO {P:Program} {w:World} {K:PySem.W.Frag} {tg:Expr} (a it:Addr):Turn P w K tg (Itl K a) [it] it (fun i h=>h.IsListIter it a i) where
 mem:=by simp
 obj:=fun i h st b hb=>by
  have e:b=it:=by simpa using hb
  subst e
  obtain ⟨o,e,c,d⟩:=st
  exact ⟨o,e,fun v z=>by rw [d] at z;cases z⟩
 keep:=fun i h h' st k=>st.at fun o e=>k it (by simp) o e
 item:=by
  intro X hP hw hK hc i pins s σ H E I hf st hg
  subst hP hw hK
  obtain ⟨xs,x,hq,hx⟩:=hg
  obtain ⟨its,rv,p,hz⟩:=I.list hq
  obtain ⟨u,hu,ru⟩:=rv.get hx
  obtain ⟨f0,f1,f2,f3,f4,f5⟩:=hf it (by simp)
  refine wpAny_pyNext_list_item st p.isList (x:=u) (by simpa using hu) fun h' st' sb=>?_
  have I1:Inv X pins σ H { s with heap:=h' }:=I.turned (t':=s.toks) (fun b o hb e=>(sb.2 b hb).trans e) f0 f1 f3 f4 f5
  obtain ⟨o,e,c,d⟩:=id st'
  exact ⟨u,rfl,uQ (s:={ s with heap:=h' }) e c d (by decide) ⟨x,H,I1,ru,⟨rfl,fun ys hy=>by rw [I.yV hy hq];exact hx⟩,st',fun b hb=>(hf b hb).1⟩⟩
 done:=by
  intro X hP hw hK hc i pins s σ H E I hf st hg
  subst hP hw hK
  obtain ⟨xs,hq,hx⟩:=hg
  obtain ⟨its,rv,p,hz⟩:=I.list hq
  obtain ⟨f0,f1,f2,f3,f4,f5⟩:=hf it (by simp)
  have hl:=rv.length
  exact wpAny_pyNext_list_end (I.ok.hd hc) st p.isList (by simp;omega) fun h' eb=>⟨rfl,I.turned (t':=s.toks) (fun b o hb e=>eb b o hb e) f0 f1 f3 f4 f5⟩
 self:=fun _ _ _ _ _ st h=>wpAny_pyIter_listiter st h
theorem uR {P:Program} {w:World} {K:PySem.W.Frag} {tg:Expr} (a it:Addr):Turn P w K tg (Itt K a) [it] it (fun i h=>h.IsTupleIter it a i) where
 mem:=by simp
 obj:=fun i h st b hb=>by
  have e:b=it:=by simpa using hb
  subst e
  obtain ⟨o,e,c,d⟩:=st
  exact ⟨o,e,fun v z=>by rw [d] at z;cases z⟩
 keep:=fun i h h' st k=>st.at fun o e=>k it (by simp) o e
 item:=by
  intro X hP hw hK hc i pins s σ H E I hf st hg
  subst hP hw hK
  obtain ⟨xs,x,hq,hx⟩:=hg
  obtain ⟨its,rv,p,hz⟩:=I.tuple hq
  obtain ⟨u,hu,ru⟩:=rv.get hx
  obtain ⟨f0,f1,f2,f3,f4,f5⟩:=hf it (by simp)
  refine wpAny_pyNext_tuple_item st (show s.heap.IsTuple a its.toArray from p) (x:=u) (by simpa using hu) fun h' st' sb=>?_
  have I1:Inv X pins σ H { s with heap:=h' }:=I.turned (t':=s.toks) (fun b o hb e=>(sb.2 b hb).trans e) f0 f1 f3 f4 f5
  obtain ⟨o,e,c,d⟩:=id st'
  exact ⟨u,rfl,uQ (s:={ s with heap:=h' }) e c d (by decide) ⟨x,H,I1,ru,⟨rfl,fun ys hy=>by rw [I.wM hy hq];exact hx⟩,st',fun b hb=>(hf b hb).1⟩⟩
 done:=by
  intro X hP hw hK hc i pins s σ H E I hf st hg
  subst hP hw hK
  obtain ⟨xs,hq,hx⟩:=hg
  obtain ⟨its,rv,p,hz⟩:=I.tuple hq
  obtain ⟨f0,f1,f2,f3,f4,f5⟩:=hf it (by simp)
  have hl:=rv.length
  exact wpAny_pyNext_tuple_end (I.ok.hd hc) st (show s.heap.IsTuple a its.toArray from p) (by simp;omega) fun h' eb=>⟨rfl,I.turned (t':=s.toks) (fun b o hb e=>eb b o hb e) f0 f1 f3 f4 f5⟩
 self:=fun _ _ _ _ _ st h=>wpAny_pyIter_tupleiter st h
theorem uT {P:Program} {w:World} {K:PySem.W.Frag} {tg:Expr} (it:Addr) (lo:Int) (n:Nat):Turn P w K tg (Itr lo n) [it] it (fun i h=>IsRangeIter h it (lo + (i:Nat) * 1) ((n:Int) - (i:Nat)) 1) where
 mem:=by simp
 obj:=fun i h st b hb=>by
  have e:b=it:=by simpa using hb
  subst e
  exact ⟨_,st,fun v z=>by
   have z':Data.fields _=Data.cell v:=z
   cases z'⟩
 keep:=fun i h h' st k=>k it (by simp) _ st
 item:=by
  intro X hP hw hK hc i pins s σ H E I hf st hg
  subst hP hw hK
  obtain ⟨f0,f1,f2,f3,f4,f5⟩:=hf it (by simp)
  have W:=Walks.range (prog:=X.prog) (w:=X.w) (I.ok.hd hc) it lo 1 n
  refine W.item i s _ _ hg st fun v h' tk hv st' kk=>?_
  obtain ⟨t,rfl⟩:=hv
  have I1:Inv X pins σ H { s with heap:=h',toks:=tk }:=I.turned (fun b o hb e=>kk b o (by simpa using hb) e) f0 f1 f3 f4 f5
  refine ⟨_,rfl,uQ (s:={ s with heap:=h',toks:=tk }) (n:="range_iterator") st' rfl rfl (by decide) ⟨.int (lo + i),H,I1,⟨t,?_⟩,⟨rfl,rfl⟩,st',fun b hb=>(hf b hb).1⟩⟩
  rw [Int.mul_one]
 done:=by
  intro X hP hw hK hc i pins s σ H E I hf st hg
  subst hP hw hK
  obtain ⟨f0,f1,f2,f3,f4,f5⟩:=hf it (by simp)
  exact wpAny_pyNext_range_end (I.ok.hd hc) st (by have:n <= i:=hg;omega) fun h' eb=>⟨rfl,I.turned (t':=s.toks) (fun b o hb e=>eb b o hb e) f0 f1 f3 f4 f5⟩
 self:=fun _ _ _ _ _ st h=>wpAny_pyIter_rangeiter st h
end L2
namespace L2
open PySem PySem.Spec PyProof.Rows
section
variable {X:Cx} {tg:Expr}
def uU (K:PySem.W.Frag) (tl:TE):TI:=fun σ H R=>tl σ H fun x H1=>∃ a,x= .ref a/\(∃ xs,SqL K H1 a xs)/\R (Itl K a) H1
def za (K:PySem.W.Frag) (tl:TE):TI:=fun σ H R=>tl σ H fun x H1=>∃ a,x= .ref a/\(∃ xs,SqT K H1 a xs)/\R (Itt K a) H1
theorem ug {l:Expr} {tl:TE} (hl:PE X l tl):PI X tg l (uU X.K tl):=by
 intro pins s σ H R I h
 refine thn (hl pins s σ H _ I h) fun v s1 ⟨x,H1,I1,r1,q1⟩=>?_
 obtain ⟨a,e,⟨xs,hq⟩,q⟩:=q1
 subst e
 cases r1
 obtain ⟨its,rv,p,hz⟩:=I1.list hq
 refine wpAny_pyIter_list p.isList ?_
 refine ⟨s1.heap.objs.size,[s1.heap.objs.size],_,_,H1,rfl,I1.kept (t':=s1.toks) fun b o e=>Heap.get?_push_of_some _ e,wO a _,⟨_,Heap.get?_push_size _ rfl,rfl,rfl⟩,fun b hb=>?_,q⟩
 have e:b=s1.heap.objs.size:=by simpa using hb
 subst e
 exact I1.y_ (Nat.le_refl _) (I1.hok.fresh (Nat.le_refl _))
theorem Fb {l:Expr} {tl:TE} (hl:PE X l tl):PI X tg l (za X.K tl):=by
 intro pins s σ H R I h
 refine thn (hl pins s σ H _ I h) fun v s1 ⟨x,H1,I1,r1,q1⟩=>?_
 obtain ⟨a,e,⟨xs,hq⟩,q⟩:=q1
 subst e
 cases r1
 obtain ⟨its,rv,p,hz⟩:=I1.tuple hq
 refine wpAny_pyIter_tuple (show s1.heap.IsTuple a its.toArray from p) ?_
 refine ⟨s1.heap.objs.size,[s1.heap.objs.size],_,_,H1,rfl,I1.kept (t':=s1.toks) fun b o e=>Heap.get?_push_of_some _ e,uR a _,⟨_,Heap.get?_push_size _ rfl,rfl,rfl⟩,fun b hb=>?_,q⟩
 have e:b=s1.heap.objs.size:=by simpa using hb
 subst e
 exact I1.y_ (Nat.le_refl _) (I1.hok.fresh (Nat.le_refl _))
theorem zb {pins:List (Addr × Obj)} {σ:St} {H:Hp} {s:Shared} {R:It->Hp->Prop} {E:Value->Shared->Prop} {lo hi:Int} {t u v:Tok} {tk:Nat} (I:Inv X pins σ H s) (h1: -(2 ^ 62) <= lo) (h2:lo < 2 ^ 62) (h3: -(2 ^ 62) <= hi) (h4:hi < 2 ^ 62)
 (q:R (Itr lo (hi - lo).toNat) H):wpAny (model X.prog X.w) X.A (pyIter (.ref s.heap.objs.size)) (PIE X pins σ tg R) E { s with heap:=s.heap.push { cls:=.type "range",data:=.fields #[.int lo t,.int hi u,.int 1 v] },toks:=tk }:=by
 refine wpAny_pyIter_range (IsRange.new ..) (small_one h1 h2 h3 h4) ?_
 have I1:Inv X pins σ H { s with heap:=s.heap.push { cls:=.type "range",data:=.fields #[.int lo t,.int hi u,.int 1 v] },toks:=tk }:=I.kept fun b o e=>Heap.get?_push_of_some _ e
 refine ⟨(s.heap.push { cls:=.type "range",data:=.fields #[.int lo t,.int hi u,.int 1 v] }).objs.size,[(s.heap.push { cls:=.type "range",data:=.fields #[.int lo t,.int hi u,.int 1 v] }).objs.size],_,_,H,rfl,
  I1.kept (t':=tk) fun b o e=>Heap.get?_push_of_some _ e,uT _ lo (hi - lo).toNat,?_,fun b hb=>?_,q⟩
 · have e1:lo + ((0:Nat):Int) * 1=lo:=by simp
   have e2:(((hi - lo).toNat:Nat):Int) - ((0:Nat):Int)=Builtin.Range.rangeSize lo hi 1:=by rw [rangeSize_one];split <;> omega
   show IsRangeIter _ _ (lo + ((0:Nat):Int) * 1) ((((hi - lo).toNat:Nat):Int) - ((0:Nat):Int)) 1
   rw [e1,e2]
   exact Heap.get?_push_size _ rfl
 · have e:b=(s.heap.push { cls:=.type "range",data:=.fields #[.int lo t,.int hi u,.int 1 v] }).objs.size:=by simpa using hb
   subst e
   exact I1.y_ (Nat.le_refl _) (I1.hok.fresh (Nat.le_refl _))
def Bd (ta:TA):TI:=fun σ H R=>ta σ H fun vs H1=>∃ j:Int,vs= [.int j]/\-(2 ^ 62) <= j/\j < 2 ^ 62/\R (Itr 0 j.toNat) H1
theorem iM {a:Expr} {ta:TA} {p pos:Pos} (hg:Gl X "range") (hm:X.mg "range" =none) (ha:PA X [a] ta) (hs:starEach [a] X.env= [(false,eval a X.env)]:=by rfl):PI X tg (.Call (.Name "range" p) [a] [] pos) (Bd ta):=by
 intro pins s σ H R I h
 refine Call_ (qQ I hg hm boot_range (PyProof.Rows.callWith_type1 (thn (ha pos pins s σ H _ I h) fun us s1 ⟨vs,H1,I1,r1,q1⟩=>?_) hs rfl))
 obtain ⟨j,e,q1,q2,q⟩:=q1
 subst e
 cases r1 with
 | cons r rr=>
   cases rr
   obtain ⟨t,rfl⟩:=r
   exact call_range_1 (zb I1 (by omega) (by omega) q1 q2 (by simpa using q))
def zc (wi:TI) (g:TG) (tb:TS):TS:=fun D σ H=>wi σ H fun J H1=>∃ W:Nat->Nat->St->Hp->Prop,(∃ m,W 0 m σ H1)/\∀ i m σ H,W i m σ H->
 (J.stop i H/\D.nx σ H)\/(J.go i H/\∃ N:St->Hp->Prop,(∀ σ' H',N σ' H'->∃ m',m' < m/\W (i + 1) m' σ' H')/\∀ x H',J.yld i H x H'->g x σ H' fun σ2 H2=>tb { D with nx:=N,ct:=N,bk:=D.nx } σ2 H2)
def kj (fp:List Addr) (h:Heap):List (Addr × Obj):=fp.filterMap fun b=>(h.get? b).map fun o=>(b,o)
theorem gP {fp:List Addr} {h:Heap} {b:Addr} {o:Obj} (hb:b ∈ fp) (e:h.get? b=some o):(b,o) ∈ kj fp h:=List.mem_filterMap.mpr ⟨b,hb,by rw [e];rfl⟩
theorem wQ {fp:List Addr} {h:Heap} {p:Addr × Obj} (hp:p ∈ kj fp h):p.1 ∈ fp/\h.get? p.1=some p.2:=by
 obtain ⟨b,hb,e⟩:=List.mem_filterMap.mp hp
 cases q:h.get? b with
 | none=>rw [q] at e;cases e
 | some o=>
   rw [q] at e
   have e':(b,o)=p:=Option.some.inj e
   subst e'
   exact ⟨hb,q⟩
theorem Inv.pinned {pins:List (Addr × Obj)} {σ:St} {H:Hp} {s:Shared} {fp:List Addr} (I:Inv X pins σ H s) (hf:∀ b ∈ fp,fP X pins H b) (ho:∀ b ∈ fp,∃ o,s.heap.get? b=some o/\∀ v,o.data ≠ .cell v):Inv X (pins ++ kj fp s.heap) σ H s:=
 I.oU fun p hp=>(List.mem_append.mp hp).elim (fun z=>I.pin p (List.mem_append_right _ z)) fun z=>by
  obtain ⟨hb,e⟩:=wQ z
  obtain ⟨f0,f1,f2,_⟩:=hf p.1 hb
  obtain ⟨o,e',d⟩:=ho p.1 hb
  rw [e] at e';cases e'
  exact ⟨e,f0,f1,f2,d⟩
theorem Inv.ir {pins pl:List (Addr × Obj)} {σ:St} {H:Hp} {s:Shared} (I:Inv X (pins ++ pl) σ H s):Inv X pins σ H s:=I.oU fun p hp=>I.pin p (List.mem_append_right _ (List.mem_append_left _ hp))
theorem qT {iter:Expr} {body:List Stmt} {wi:TI} {g:TG} {tb:TS} {pos:Pos} (hp:PassesOwn (model X.prog X.w) X.A X.env X.xe) (hc:X.calm=true) (hi:PI X tg iter wi) (hg:PG X tg g) (hb:PSs X body tb)
 (hs:∀ x,foldedSetIterable iter X.env x=pure x:=by intro _;rfl):PS X (.For tg iter body [] pos) (zc wi g tb):=by
 intro pins s σ H D I h
 refine wpAny_For (thn (hi pins s σ H _ I h) fun v s1 h1=>thn h1 fun itv s2 h2=>?_) hs
 obtain ⟨it,fp,tn,J,H2,e,I2,T,st2,f2,W,⟨m0,w0⟩,turn⟩:=h2
 subst e
 have stat:∀ {H':Hp},(∀ b ∈ fp,H' b=none)->∀ b ∈ fp,fP X pins H' b:=fun hn b hb=>⟨hn b hb,(f2 b hb).2⟩
 refine codeAny_forLoop_any (fun n s'=>∃ i σ' H',Inv X pins σ' H' s'/\tn i s'.heap/\(∀ b ∈ fp,H' b=none)/\W i n σ' H') ?_ m0 ⟨0,σ,H2,I2,st2,fun b hb=>(f2 b hb).1,w0⟩
 rintro n s3 ⟨i,σ3,H3,I3,st3,fr3,w3⟩
 rcases turn i n σ3 H3 w3 with ⟨stop,qn⟩ | ⟨go,N,hN,step⟩
 · refine wpAny_passesOwn hp (thn (T.done X rfl rfl rfl hc i pins s3 σ3 H3 X.xe I3 (stat fr3) st3 stop) fun r s4 ⟨hr,I4⟩=>?_)
   subst hr
   exact wpAny_execs_nil ⟨σ3,H3,I4,qn⟩
 · refine wpAny_passesOwn hp (thn (T.item X rfl rfl rfl hc i pins s3 σ3 H3 X.xe I3 (stat fr3) st3 go) fun r s4 ⟨u,hr,h4⟩=>?_)
   subst hr
   refine wpAny_passesOwn hp (thn h4 fun _ s5 ⟨x,H5,I5,r5,y5,st5,fr5⟩=>?_)
   have I5':=I5.pinned (stat fr5) (T.obj _ _ st5)
   refine wpAny_passesOwn hp (thn (hg _ s5 σ3 H5 x u _ I5' r5 (step x H5 y5)) fun _ s6 ⟨σ6,H6,I6,q6⟩=>?_)
   refine wpAny_passesOwn hp (thn (hb _ s6 σ6 H6 _ I6 q6) fun f s7 q7=>?_)
   have again:∀ {σ7:St} {H7:Hp},Inv X (pins ++ kj fp s5.heap) σ7 H7 s7->N σ7 H7->∃ m,m < n/\∃ i σ' H',Inv X pins σ' H' s7/\tn i s7.heap/\(∀ b ∈ fp,H' b=none)/\W i m σ' H':=fun {σ7 H7} I7 n7=>by
    obtain ⟨m',hm,w7⟩:=hN σ7 H7 n7
    refine ⟨m',hm,i + 1,σ7,H7,I7.ir,T.keep _ _ _ st5 fun b hb o e=>(I7.pin (b,o) (List.mem_append_right _ (List.mem_append_right _ (gP hb e)))).1,fun b hb=>?_,w7⟩
    obtain ⟨o,e,d⟩:=T.obj _ _ st5 b hb
    exact (I7.pin (b,o) (List.mem_append_right _ (List.mem_append_right _ (gP hb e)))).2.1
   cases f with
   | next=>obtain ⟨σ7,H7,I7,n7⟩:=q7;exact again I7 n7
   | cont=>obtain ⟨σ7,H7,I7,n7⟩:=q7;exact again I7 n7
   | brk=>obtain ⟨σ7,H7,I7,q7⟩:=q7;exact ⟨σ7,H7,I7.ir,q7⟩
   | ret v=>obtain ⟨x7,σ7,H7,I7,r7,q7⟩:=q7;exact ⟨x7,σ7,H7,I7.ir,r7,q7⟩
end
theorem zf {K:PySem.W.Frag} {a:Addr} {xs:List V} {g:TG} {tb:TS} {D:Ends} {σ:St} {H:Hp} (Pv:Nat->St->Hp->Prop) (h0:Pv 0 σ H) (hl:∀ i σ H,i <= xs.length->Pv i σ H->SqL K H a xs)
 (hs:∀ i x σ H,xs[i]? =some x->Pv i σ H->g x σ H fun σ2 H2=>tb { D with nx:=Pv (i + 1),ct:=Pv (i + 1),bk:=D.nx } σ2 H2) (hd:∀ σ H,Pv xs.length σ H->D.nx σ H):
 ∃ W:Nat->Nat->St->Hp->Prop,(∃ m,W 0 m σ H)/\∀ i m σ H,W i m σ H->
   ((Itl K a).stop i H/\D.nx σ H)\/((Itl K a).go i H/\∃ N:St->Hp->Prop,(∀ σ' H',N σ' H'->∃ m',m' < m/\W (i + 1) m' σ' H')/\∀ x H',(Itl K a).yld i H x H'->g x σ H' fun σ2 H2=>tb { D with nx:=N,ct:=N,bk:=D.nx } σ2 H2):=by
 refine ⟨fun i m σ H=>m=xs.length - i/\i <= xs.length/\Pv i σ H,⟨xs.length,by simp,Nat.zero_le _,h0⟩,?_⟩
 rintro i m σ H ⟨rfl,hi,p⟩
 have q:=hl i σ H hi p
 by_cases hlt:i < xs.length
 · refine .inr ⟨⟨xs,xs[i],q,by simp [hlt]⟩,Pv (i + 1),fun σ' H' p'=>⟨xs.length - (i + 1),by omega,rfl,hlt,p'⟩,fun x H' y=>?_⟩
   obtain ⟨e,y⟩:=y
   subst e
   exact hs i x σ _ (y xs q) p
 · have e:i=xs.length:=by omega
   subst e
   exact .inl ⟨⟨xs,q,Nat.le_refl _⟩,hd σ H p⟩
theorem wR {lo:Int} {n:Nat} {g:TG} {tb:TS} {D:Ends} {σ:St} {H:Hp} (Pv:Nat->St->Hp->Prop) (h0:Pv 0 σ H)
 (hs:∀ i σ H,i < n->Pv i σ H->g (.int (lo + i)) σ H fun σ2 H2=>tb { D with nx:=Pv (i + 1),ct:=Pv (i + 1),bk:=D.nx } σ2 H2) (hd:∀ σ H,Pv n σ H->D.nx σ H):
 ∃ W:Nat->Nat->St->Hp->Prop,(∃ m,W 0 m σ H)/\∀ i m σ H,W i m σ H->
   ((Itr lo n).stop i H/\D.nx σ H)\/((Itr lo n).go i H/\∃ N:St->Hp->Prop,(∀ σ' H',N σ' H'->∃ m',m' < m/\W (i + 1) m' σ' H')/\∀ x H',(Itr lo n).yld i H x H'->g x σ H' fun σ2 H2=>tb { D with nx:=N,ct:=N,bk:=D.nx } σ2 H2):=by
 refine ⟨fun i m σ H=>m=n - i/\i <= n/\Pv i σ H,⟨n,by simp,Nat.zero_le _,h0⟩,?_⟩
 rintro i m σ H ⟨rfl,hi,p⟩
 by_cases hlt:i < n
 · refine .inr ⟨hlt,Pv (i + 1),fun σ' H' p'=>⟨n - (i + 1),by omega,rfl,hlt,p'⟩,fun x H' y=>?_⟩
   obtain ⟨e,y⟩:=y
   subst e y
   exact hs i σ _ hlt p
 · have e:i=n:=by omega
   subst e
   exact .inl ⟨Nat.le_refl _,hd σ H p⟩
end L2
namespace L2
open PySem PySem.Spec PyProof.Rows
abbrev R2:=V->V->Hp->VK->Prop
def OpR (X:Cx) (f:Value->Value->Sem Value) (r:R2):Prop:=
 ∀ (pins:List (Addr × Obj)) (s:Shared) (σ:St) (H:Hp) (x y:V) (v u:Value) (Q:VK),Inv X pins σ H s->RelV x v->RelV y u->r x y H Q->
   wpAny (model X.prog X.w) X.A (f v u) (EP X pins σ Q) X.xe s
def UnR (X:Cx) (f:Value->Sem Value) (r:V->Hp->VK->Prop):Prop:=
 ∀ (pins:List (Addr × Obj)) (s:Shared) (σ:St) (H:Hp) (x:V) (v:Value) (Q:VK),Inv X pins σ H s->RelV x v->r x H Q->
   wpAny (model X.prog X.w) X.A (f v) (EP X pins σ Q) X.xe s
def eO (X:Cx) (f:Value) (r:List V->Hp->VK->Prop):Prop:=
 ∀ (pins:List (Addr × Obj)) (s:Shared) (σ:St) (H:Hp) (xs:List V) (us:List Value) (Q:VK),Inv X pins σ H s->Vals xs us->r xs H Q->
   wpAny (model X.prog X.w) X.A (call f us) (EP X pins σ Q) X.xe s
def Ku (X:Cx) (r:V->Hp->(Bool->Hp->Prop)->Prop):Prop:=
 ∀ (pins:List (Addr × Obj)) (s:Shared) (σ:St) (H:Hp) (x:V) (v:Value) (Q:Bool->Hp->Prop),Inv X pins σ H s->RelV x v->r x H Q->
   wpAny (model X.prog X.w) X.A (truthy v) (TP X pins σ Q) X.xe s
def tOp (r:R2) (ta tb:TE):TE:=fun σ H Q=>ta σ H fun x H1=>tb σ H1 fun y H2=>r x y H2 Q
def tUn (r:V->Hp->VK->Prop) (ta:TE):TE:=fun σ H Q=>ta σ H fun x H1=>r x H1 Q
def rI (C:Int->Int->Prop) (g:Int->Int->V):R2:=fun x y H Q=>∃ i j,x= .int i/\y= .int j/\C i j/\Q (g i j) H
def rI0 (g:Int->Int->V):R2:=fun x y H Q=>∃ i j,x= .int i/\y= .int j/\Q (g i j) H
def rU (g:Int->V):V->Hp->VK->Prop:=fun x H Q=>∃ i,x= .int i/\Q (g i) H
section
variable {X:Cx} {a b c:Expr} {ta tb tc:TE} {pos:Pos}
theorem zg (ha:PE X a ta) (hb:PE X b tb) {pins:List (Addr × Obj)} {s:Shared} {σ:St} {H:Hp} {R:V->V->Hp->Prop} (I:Inv X pins σ H s)
 (h:ta σ H fun x H1=>tb σ H1 fun y H2=>R x y H2) {Q:Value->Shared->Prop} {f:Value->Value->Sem Value}
 (hf:∀ v u s2 x y H2,Inv X pins σ H2 s2->RelV x v->RelV y u->R x y H2->wpAny (model X.prog X.w) X.A (f v u) Q X.xe s2):
 wpAny (model X.prog X.w) X.A (eval a X.env) (fun v s₁=>wpAny (model X.prog X.w) X.A (eval b X.env) (fun u s₂=>wpAny (model X.prog X.w) X.A (f v u) Q X.xe s₂) X.xe s₁) X.xe s:=by
 refine thn (ha pins s σ H _ I h) fun v s1 ⟨x,H1,I1,r1,q1⟩=>?_
 refine thn (hb pins s1 σ H1 _ I1 q1) fun u s2 ⟨y,H2,I2,r2,q2⟩=>?_
 exact hf v u s2 x y H2 I2 r1 r2 q2
theorem a_ {op:Operator} {r:R2} (ho:OpR X (binaryOp op) r) (ha:PE X a ta) (hb:PE X b tb):PE X (.BinOp a op b pos) (tOp r ta tb):=by
 intro pins s σ H Q I h
 exact wpAny_BinOp (zg ha hb I h fun v u s2 x y H2 I2 rx ry q=>ho pins s2 σ H2 x y v u Q I2 rx ry q)
theorem Je {op:UnaryOp} {r:V->Hp->VK->Prop} (ho:UnR X (unaryOp op) r) (ha:PE X a ta):PE X (.UnaryOp op a pos) (tUn r ta):=by
 intro pins s σ H Q I h
 exact UnaryOp_ (thn (ha pins s σ H _ I h) fun v s1 ⟨x,H1,I1,r1,q1⟩=>ho pins s1 σ H1 x v Q I1 r1 q1)
theorem opI {f:Value->Value->Sem Value} {C:Int->Int->Prop} {g:Int->Int->Int}
 (rule:∀ (i j:Int) (t u:Tok) (s:Shared) (Q:Value->Shared->Prop) (E:Value->Shared->Prop),C i j->Q (.int (g i j) s.toks) { s with toks:=s.toks + 1 }->wpAny (model X.prog X.w) X.A (f (.int i t) (.int j u)) Q E s):
 OpR X f (rI C fun i j=>.int (g i j)):=by
 intro pins s σ H x y v u Q I rx ry h
 obtain ⟨i,j,rfl,rfl,hc,q⟩:=h
 obtain ⟨t,rfl⟩:=rx
 obtain ⟨t',rfl⟩:=ry
 exact rule i j t t' s _ _ hc ⟨.int (g i j),H,I.tok _,⟨_,rfl⟩,q⟩
theorem Fd {f:Value->Value->Sem Value} {g:Int->Int->Int}
 (rule:∀ (i j:Int) (t u:Tok) (s:Shared) (Q:Value->Shared->Prop) (E:Value->Shared->Prop),Q (.int (g i j) s.toks) { s with toks:=s.toks + 1 }->wpAny (model X.prog X.w) X.A (f (.int i t) (.int j u)) Q E s):
 OpR X f (rI0 fun i j=>.int (g i j)):=by
 intro pins s σ H x y v u Q I rx ry h
 obtain ⟨i,j,rfl,rfl,q⟩:=h
 obtain ⟨t,rfl⟩:=rx
 obtain ⟨t',rfl⟩:=ry
 exact rule i j t t' s _ _ ⟨.int (g i j),H,I.tok _,⟨_,rfl⟩,q⟩
theorem uV {f:Value->Value->Sem Value} {g:Int->Int->Bool}
 (rule:∀ (i j:Int) (t u:Tok) (s:Shared) (Q:Value->Shared->Prop) (E:Value->Shared->Prop),Q (.bool (g i j)) s->wpAny (model X.prog X.w) X.A (f (.int i t) (.int j u)) Q E s):
 OpR X f (rI0 fun i j=>.bl (g i j)):=by
 intro pins s σ H x y v u Q I rx ry h
 obtain ⟨i,j,rfl,rfl,q⟩:=h
 obtain ⟨t,rfl⟩:=rx
 obtain ⟨t',rfl⟩:=ry
 exact rule i j t t' s _ _ ⟨.bl (g i j),H,I,rfl,q⟩
def Fe (i j:Int):Prop:=0 <= j/\j <= 1000000/\i.natAbs < 2 ^ 64
def zj (i j:Int):Prop:=(-(2 ^ 64) < i/\i < 2 ^ 64)\/(-(2 ^ 64) < j/\j < 2 ^ 64)
theorem zj.ok {i j:Int} (h:zj i j):IntMulOk i j:=by
 rcases h with ⟨h1,h2⟩ | ⟨h1,h2⟩
 · exact .of_left (intBits_le_64 h1 h2)
 · exact .of_right (intBits_le_64 h1 h2)
theorem b_:OpR X (binaryOp .Add) (rI0 fun i j=>.int (i + j)):=Fd fun _ _ _ _ _ _ _ q=>add_int q
theorem d8:OpR X (binaryOp .Sub) (rI0 fun i j=>.int (i - j)):=Fd fun _ _ _ _ _ _ _ q=>sub_int q
theorem bV:OpR X (binaryOp .Mod) (rI (fun _ j=>0 < j) fun i j=>.int (i % j)):=opI fun i j _ _ _ _ _ hc q=>by
 have h1:(0:Int) < j:=hc
 exact mod_int' (by omega) (by rw [Int.fmod_eq_emod_of_nonneg i (by omega)];exact q)
theorem Ff:OpR X (binaryOp .Pow) (rI Fe fun i j=>.int (i ^ j.toNat)):=opI fun _ _ _ _ _ _ _ hc q=>pow_int_small hc.1 hc.2.1 hc.2.2 q
theorem unI {f:Value->Sem Value} {g:Int->Int}
 (rule:∀ (i:Int) (t:Tok) (s:Shared) (Q:Value->Shared->Prop) (E:Value->Shared->Prop),Q (.int (g i) s.toks) { s with toks:=s.toks + 1 }->wpAny (model X.prog X.w) X.A (f (.int i t)) Q E s):
 UnR X f (rU fun i=>.int (g i)):=by
 intro pins s σ H x v Q I rx h
 obtain ⟨i,rfl,q⟩:=h
 obtain ⟨t,rfl⟩:=rx
 exact rule i t s _ _ ⟨.int (g i),H,I.tok _,⟨_,rfl⟩,q⟩
theorem nD:UnR X (unaryOp .USub) (rU fun i=>.int (-i)):=unI fun _ _ _ _ _ q=>neg_int q
end
def Kv:V->V->Bool
 | .non,.non=>true | .non,.int _=>true | .int _,.non=>true | .non,.bl _=>true | .bl _,.non=>true | .non,.str _=>true | .str _,.non=>true
 | .int _,.int _=>true | .bl _,.bl _=>true | .str _,.str _=>true | .byt _,.byt _=>true
 | .int _,.str _=>true | .str _,.int _=>true | .bl _,.str _=>true | .str _,.bl _=>true
 | _,_=>false
def rEq:R2:=fun x y H Q=>Kv x y=true/\Q (.bl (decide (x=y))) H
theorem Cp {i j:Int}:decide (V.int i=V.int j)=(i == j):=by
 rw [Bool.eq_iff_iff]
 simp
theorem Fg {i j:Bool}:decide (V.bl i=V.bl j)=(i == j):=by
 rw [Bool.eq_iff_iff]
 simp
theorem Cq {i j:Str}:decide (V.str i=V.str j)=(i == j):=by
 rw [Bool.eq_iff_iff]
 simp
theorem Cr {i j:Array UInt8}:decide (V.byt i=V.byt j)=(i.toList == j.toList):=by
 rw [Bool.eq_iff_iff]
 cases i
 cases j
 simp
section
variable {X:Cx} {a b c:Expr} {ta tb tc:TE} {pos:Pos}
theorem bY {pins:List (Addr × Obj)} {σ:St} {H:Hp} {s:Shared} {Q:VK} {k k':Bool} (I:Inv X pins σ H s) (q:Q (.bl k) H) (e:k=k'):EP X pins σ Q (.bool k') s:=by
 subst e
 exact ⟨.bl k,H,I,rfl,q⟩
theorem Jf:OpR X (compareOp .Eq) rEq:=by
 intro pins s σ H x y v u Q I rx ry h
 obtain ⟨hs,q⟩:=h
 cases x with
 | non=>
   cases rx
   cases y with
   | non=>cases ry;exact PySem.EqNone.eq_none_none (bY I q (by simp))
   | bl j=>cases ry;exact PySem.EqNone.eq_none_bool (bY I q (by simp))
   | int j=>obtain ⟨t',rfl⟩:=ry;exact PySem.EqNone.eq_none_int (bY I q (by simp))
   | str j=>obtain ⟨t',rfl⟩:=ry;exact PySem.EqNone.eq_none_str (bY I q (by simp))
   | _=>exact absurd (show false=true from hs) Bool.false_ne_true
 | bl i=>
   cases rx
   cases y with
   | non=>cases ry;exact PySem.EqNone.eq_bool_none (bY I q (by simp))
   | bl j=>cases ry;exact eq_bool (bY I q Fg)
   | str j=>obtain ⟨t',rfl⟩:=ry;exact PySem.EqMixed.eq_bool_str (bY I q (by simp))
   | _=>exact absurd (show false=true from hs) Bool.false_ne_true
 | int i=>
   obtain ⟨t,rfl⟩:=rx
   cases y with
   | non=>cases ry;exact PySem.EqNone.eq_int_none (bY I q (by simp))
   | int j=>obtain ⟨t',rfl⟩:=ry;exact eq_int (bY I q Cp)
   | str j=>obtain ⟨t',rfl⟩:=ry;exact PySem.EqMixed.eq_int_str (bY I q (by simp))
   | _=>exact absurd (show false=true from hs) Bool.false_ne_true
 | str i=>
   obtain ⟨t,rfl⟩:=rx
   cases y with
   | non=>cases ry;exact PySem.EqNone.eq_str_none (bY I q (by simp))
   | bl j=>cases ry;exact PySem.EqMixed.eq_str_bool (bY I q (by simp))
   | int j=>obtain ⟨t',rfl⟩:=ry;exact PySem.EqMixed.eq_str_int (bY I q (by simp))
   | str j=>obtain ⟨t',rfl⟩:=ry;exact eq_str (bY I q Cq)
   | _=>exact absurd (show false=true from hs) Bool.false_ne_true
 | byt i=>
   obtain ⟨t,rfl⟩:=rx
   cases y with
   | byt j=>obtain ⟨t',rfl⟩:=ry;exact PySem.W.eq_bytes (bY I q Cr)
   | _=>exact absurd (show false=true from hs) Bool.false_ne_true
 | _=>cases y <;> exact absurd (show false=true from hs) Bool.false_ne_true
theorem uW:OpR X (compareOp .Lt) (rI0 fun i j=>.bl (decide (i < j))):=uV fun _ _ _ _ _ _ _ q=>lt_int q
theorem Be:OpR X (compareOp .LtE) (rI0 fun i j=>.bl (decide (i <= j))):=uV fun _ _ _ _ _ _ _ q=>le_int q
theorem qF:OpR X (compareOp .Gt) (rI0 fun i j=>.bl (decide (j < i))):=uV fun _ _ _ _ _ _ _ q=>gt_int q
theorem Jg:OpR X (compareOp .GtE) (rI0 fun i j=>.bl (decide (j <= i))):=uV fun _ _ _ _ _ _ _ q=>ge_int q
theorem OpR.or {f:Value->Value->Sem Value} {r r':R2} (h:OpR X f r) (h':OpR X f r'):OpR X f (fun x y H Q=>r x y H Q\/r' x y H Q):=by
 intro pins s σ H x y v u Q I rx ry q
 rcases q with q | q
 · exact h pins s σ H x y v u Q I rx ry q
 · exact h' pins s σ H x y v u Q I rx ry q
theorem bu (b:Expr) {op:CmpOp} (h:op ≠ .In:=by decide) (h2:op ≠ .NotIn:=by decide):behindInMarks op b=false:=by
 have e1:(op == CmpOp.In)=false:=by cases op <;> first | rfl | exact absurd rfl h
 have e2:(op == CmpOp.NotIn)=false:=by cases op <;> first | rfl | exact absurd rfl h2
 cases b <;> simp [behindInMarks,e1,e2]
theorem Cu {op:CmpOp} {r:R2} (ho:OpR X (compareOp op) r) (ha:PE X a ta) (hb:PE X b tb) (hm:behindInMarks op b=false):PE X (.Compare a [op] [b] pos) (tOp r ta tb):=by
 intro pins s σ H Q I h
 exact wpAny_Compare1 (zg ha hb I h fun v u s2 x y H2 I2 rx ry q=>ho pins s2 σ H2 x y v u Q I2 rx ry q) hm
def Jh (t:TE):TT:=fun σ H Q=>t σ H fun x H'=>∃ k,x= .bl k/\Q k H'
theorem jm {op:CmpOp} {r:R2} (ho:OpR X (compareOp op) r) (ha:PE X a ta) (hb:PE X b tb) (hm:behindInMarks op b=false):PT X (.Compare a [op] [b] pos) (Jh (tOp r ta tb)):=by
 intro pins s σ H Q I h
 refine wpAny_isTrue_Compare1 (thn (ha pins s σ H _ I h) fun v s1 ⟨x,H1,I1,r1,q1⟩=>thn (hb pins s1 σ H1 _ I1 q1) fun u s2 ⟨y,H2,I2,r2,q2⟩=>
  thn (ho pins s2 σ H2 x y v u _ I2 r1 r2 q2) fun c s3 ⟨z,H3,I3,r3,k,e,q3⟩=>?_) hm
 subst e
 cases r3
 exact wpAny_truthy_bool ⟨H3,I3,q3⟩
def wU (r r':R2) (ta tb tc:TE):TE:=fun σ H Q=>ta σ H fun x H1=>tb σ H1 fun y H2=>r x y H2 fun z H3=>∃ k,z= .bl k/\
 (if k=true then tc σ H3 fun w' H4=>r' y w' H4 Q else Q (.bl false) H3)
theorem zm {op op':CmpOp} {r r':R2} (ho:OpR X (compareOp op) r) (ho':OpR X (compareOp op') r') (ha:PE X a ta) (hb:PE X b tb) (hc:PE X c tc)
 (hm:lastMarks [op,op'] [b,c] =false:=by with_unfolding_all rfl):PE X (.Compare a [op,op'] [b,c] pos) (wU r r' ta tb tc):=by
 intro pins s σ H Q I h
 refine Compare_chain (thn (ha pins s σ H _ I h) fun v s1 ⟨x,H1,I1,r1,q1⟩=>chain_link (thn (hb pins s1 σ H1 _ I1 q1) fun u s2 ⟨y,H2,I2,r2,q2⟩=>
  thn (ho pins s2 σ H2 x y v u _ I2 r1 r2 q2) fun d s3 ⟨z,H3,I3,r3,k,e,q3⟩=>?_)) hm
 subst e
 cases r3
 refine wpAny_truthy_bool ?_
 cases k with
 | false=>exact ite_ff ⟨.bl false,H3,I3,rfl,q3⟩
 | true=>exact ite_tt (chain_last (thn (hc pins s3 σ H3 _ I3 q3) fun w' s4 ⟨z',H4,I4,r4,q4⟩=>ho' pins s4 σ H4 y z' u w' Q I4 r2 r4 q4))
def uX (K:PySem.W.Frag) (x:V) (H:Hp) (k:Bool):Prop:=
 match x with
 | .non=>k=false
 | .bl b=>k=b
 | .int i=>k=(i != 0)
 | .str y=>y.length <= sizeLine/\k=((y.length:Int) != 0)
 | .byt y=>y.size <= sizeLine/\k=((y.size:Int) != 0)
 | .ref p=>(∃ xs,SqL K H p xs/\k= !xs.isEmpty)\/(∃ xs,SqT K H p xs/\k= !xs.isEmpty)\/∃ kvs,H p=some (.dK kvs)/\k= !kvs.isEmpty
 | _=>False
theorem uY {κ:Type} {kvs:List (κ × V)} {vs:List (κ × Value)} (r:KV kvs vs):(!vs.isEmpty)= !kvs.isEmpty:=by
 cases r <;> rfl
theorem nF {xs:List V} {its:List Value} (r:Vals xs its):(!its.toArray.isEmpty)= !xs.isEmpty:=by
 cases r <;> simp
theorem kE:(sizeLine:Nat) < 2 ^ 63:=by rw [sizeLine_eq];decide
theorem Fi:Ku X (fun x H Q=>∃ k,uX X.K x H k/\Q k H):=by
 intro pins s σ H x v Q I rx h
 obtain ⟨k,e,q⟩:=h
 have hl:=kE
 have hs:sizeLine=16777216:=sizeLine_eq
 cases x with
 | non=>
   cases rx
   have e':k=false:=e
   subst e'
   exact truthy_none ⟨H,I,q⟩
 | bl b=>
   cases rx
   have e':k=b:=e
   subst e'
   exact wpAny_truthy_bool ⟨H,I,q⟩
 | int i=>
   obtain ⟨t,rfl⟩:=rx
   have e':k=(i != 0):=e
   subst e'
   exact PySem.P.truthy_int ⟨H,I,q⟩
 | str y=>
   obtain ⟨t,rfl⟩:=rx
   obtain ⟨hy,e'⟩:y.length <= sizeLine/\k=((y.length:Int) != 0):=e
   subst e'
   exact PySem.P.truthy_str (by omega) ⟨H,I.tok _,q⟩
 | byt y=>
   obtain ⟨t,rfl⟩:=rx
   obtain ⟨hy,e'⟩:y.size <= sizeLine/\k=((y.size:Int) != 0):=e
   subst e'
   exact PySem.W.truthy_bytes (by omega) ⟨H,I.tok _,q⟩
 | ref p=>
   cases rx
   have e':(∃ xs,SqL X.K H p xs/\k= !xs.isEmpty)\/(∃ xs,SqT X.K H p xs/\k= !xs.isEmpty)\/∃ kvs,H p=some (.dK kvs)/\k= !kvs.isEmpty:=e
   rcases e' with ⟨xs,hx,e'⟩ | ⟨xs,hx,e'⟩ | ⟨kvs,hx,e'⟩
   · subst e'
     obtain ⟨its,r,pl,hz⟩:=I.list hx
     have hlen:=r.length
     exact wpAny_truthy_list pl.isList (by simp only [List.size_toArray];omega) ⟨H,I.tok _,by rw [nF r];exact q⟩
   · subst e'
     obtain ⟨its,r,pl,hz⟩:=I.tuple hx
     have hlen:=r.length
     exact truthy_tuple pl (by simp only [List.size_toArray];omega) ⟨H,I.tok _,by rw [nF r];exact q⟩
   · subst e'
     obtain ⟨hz,hS,vs,r,m⟩:kvs.length <= sizeLine/\(p == sysModules)=false/\∃ vs,KV kvs vs/\s.heap.DictOf (oR X.prog X.w) p vs:=I.hok p _ hx
     have hlen:kvs.length=vs.length:=Paired.length r
     exact wpAny_truthy_dict hS m (by omega) ⟨H,I.tok _,by rw [uY r];exact q⟩
 | _=>exact (show False from e).elim
theorem zp (ha:PE X a ta) (he:∀ whole,isTrue a X.env whole=(do let v <- whole;standAt a.pos;holding [v] (truthy v))):
 PT X a (fun σ H Q=>ta σ H fun x H'=>∃ k,uX X.K x H' k/\Q k H'):=by
 intro pins s σ H Q I h
 exact isTrue_plain (thn (ha pins s σ H _ I h) fun v s1 ⟨x,H1,I1,r1,q1⟩=>Fi pins s1 σ H1 x v Q I1 r1 q1) (he _)
theorem vals1 {x:V} {us:List Value} (r:Vals [x] us):∃ u,us= [u]/\RelV x u:=by
 cases r with
 | cons r1 r2=>cases r2;exact ⟨_,rfl,r1⟩
theorem qU:eO X (.builtin "abs") (fun xs H Q=>∃ i,xs= [.int i]/\Q (.int (if i < 0 then -i else i)) H):=by
 intro pins s σ H xs us Q I r h
 obtain ⟨i,rfl,q⟩:=h
 obtain ⟨u,rfl,t,rfl⟩:=vals1 r
 exact call_abs_int fun u tk=>⟨.int (if i < 0 then -i else i),H,I.tok _,⟨_,rfl⟩,q⟩
end
end L2
namespace L2
open PySem PySem.Spec PyProof.Rows
structure Mq (h:Heap) (x dx C:Addr) (mA:Str->Option Value):Prop where
 obj:h.get? x=some (PySem.W.instObj C dx)
 ns:h.Ns1 dx mA
 ne:dx ≠ x
section
variable {prog:Program} {w:World} {A:Around} {E:Value->Shared->Prop} {s:Shared} {K:PySem.W.Frag} {x dx C f:Addr} {mA:Str->Option Value} {name:Str} {v:Value}
end
section
variable {P:Program} {w:World} {H H':Hp} {h h':Heap} {a C dx:Addr} {fs fs':List (Str × V)}
end
structure Cls (K:PySem.W.Frag) (C:Addr):Prop where
 pg:PySem.W.plainGet K C Str.empty=true
 hd:PySem.W.hasDictIn K C=true
 po:PySem.W.plainOver K C=true
 sa:PySem.W.findIn K (.ref C) "__setattr__" =some (some (.builtin "object.__setattr__"))
def Fj (K:PySem.W.Frag) (C:Addr) (f:Str):Prop:=PySem.W.findIn K (.ref C) f=some none
structure Con (K:PySem.W.Frag) (C:Addr) (f:Str) (v:V) (u:Value):Prop where
 at_:PySem.W.findIn K (.ref C) f=some (some u)
 rel:RelV v u
 get:PySem.W.specialIn K u "__get__" =some none
 cp:PySem.W.copiedNames.contains f=false
structure Meth (K:PySem.W.Frag) (C:Addr) (m:Str) (f:Addr):Prop where
 at_:PySem.W.findIn K (.ref C) m=some (some (.ref f))
 fn:PySem.W.isFn K (.ref f)=true
 kp:PySem.W.keepIn K (.ref f)=true
section
variable {X:Cx} {pins:List (Addr × Obj)} {σ:St} {H:Hp} {s:Shared} {a C dx:Addr} {fs:List (Str × V)} {f:Str} {v:V} {A:Around} {E:Value->Shared->Prop}
end
section
variable {X:Cx} {o e value:Expr} {f:Str} {pos pos' tpos:Pos} {ta tv:TE}
end
section
variable {X:Cx} {pins:List (Addr × Obj)} {σ:St} {H:Hp} {s:Shared} {A:Around} {E:Value->Shared->Prop} {Q:Value->Shared->Prop} {c:Value} {b:Bool}
inductive iu (K:PySem.W.Frag) (H:Hp):V->Value->Prop where
 | non:iu K H .non (.type "NoneType")
 | bl (x:Bool):iu K H (.bl x) (.type "bool")
 | int (i:Int):iu K H (.int i) (.type "int")
 | str (x:Str):iu K H (.str x) (.type "str")
 | flt (x:UInt64):iu K H (.flt x) (.type "float")
 | lst {a:Addr} {xs:List V} (e:H a=some (.lst xs)):iu K H (.ref a) (.type "list")
 | frz {a:Addr} {o:Obj} {xs:List V} (e:H a=some (.frz o (.lst xs))):iu K H (.ref a) (.type "list")
 | tup {a:Addr} {xs:List V} (e:H a=some (.tup xs)):iu K H (.ref a) (.type "tuple")
 | dK {a:Addr} {kvs:List (Key × V)} (e:H a=some (.dK kvs)):iu K H (.ref a) (.type "dict")
 | dT {a:Addr} {kvs:List (List Key × V)} (e:H a=some (.dT kvs)):iu K H (.ref a) (.type "dict")
 | ins {a C dx:Addr} {fs:List (Str × V)} (e:H a=some (.ins C dx fs)) (cl:Cls K C) (ha:PySem.W.findIn K (.ref C) "__class__" =some (some (.builtin "object.__class__")))
    (hn:PySem.W.specialIn K (.builtin "object.__class__") "__get__" =some (some (.builtin "getset_descriptor.__get__"))) (htk:PySem.W.takesIn K (.builtin "object.__class__")=some true)
    (hm:PySem.W.mroIn K C (.type "object")=some true):iu K H (.ref a) (.ref C)
end
end L2
namespace L2
open PySem PySem.Spec PyProof.Rows
structure bR (k:Nat) (A:Around):Prop where
 hd:A.handled=none
 dp:A.depth + 3 * k + 5 < recursionLimit
 un:A.units + 16 * k + 200 < cLine
theorem bR.mono {j k:Nat} {A:Around} (r:bR k A) (h:j <= k):bR j A:=⟨r.hd,by have:=r.dp;omega,by have:=r.un;omega⟩
theorem bR.deeper {k:Nat} {A:Around} (r:bR (k + 1) A) (env:Env):bR k (A.deeper env):=
 ⟨r.hd,by have:=r.dp;show A.depth + 1 + 3 * k + 5 < _;omega,by have:=r.un;show A.units + 3 + 16 * k + 200 < _;omega⟩
theorem bR.depth {k:Nat} {A:Around} (r:bR k A):A.depth < recursionLimit:=by have:=r.dp;omega
theorem bR.units {k:Nat} {A:Around} (r:bR k A):A.units + 64 < cLine:=by have:=r.un;omega
theorem bR.qW {k:Nat} {A:Around} (r:bR k A):A.units < cLine:=by have:=r.un;omega
def Kw:TA:=fun _ H Q=>Q [] H
def Ji (ta:TE) (tr:TA):TA:=fun σ H Q=>ta σ H fun x H1=>tr σ H1 fun xs H2=>Q (x::xs) H2
section
variable {X:Cx} {e:Expr} {es:List Expr} {te:TE} {t:TA} {pos:Pos}
theorem bH:PA X [] Kw:=fun _ _ _ _ H Q I h=>Calls.spliced_nil ⟨[],H,I,.nil,h⟩
theorem aC (ha:PE X e te) (hr:PA X es t) (hs:starEach (e::es) X.env=(false,eval e X.env)::starEach es X.env:=by rfl):PA X (e::es) (Ji te t):=by
 intro pos pins s σ H Q I h
 rw [hs]
 show wpAny _ _ (spliced ((false,eval e X.env)::backTo pos (starEach es X.env))) _ _ s
 refine Calls.spliced_cons (thn (ha pins s σ H _ I h) fun u s1 ⟨x,H1,I1,r1,q1⟩=>?_)
 exact thn (hr pos pins s1 σ H1 _ I1 q1) fun us s2 ⟨xs,H2,I2,r2,q2⟩=>⟨x::xs,H2,I2,.cons r1 r2,q2⟩
def Ky (t:TA):TE:=fun σ H Q=>t σ H fun xs H1=>xs.length <= sizeLine/\∀ p,H1 p=none->Q (.ref p) (upd H1 p (.tup xs))
def Kz (t:TA):TE:=fun σ H Q=>t σ H fun xs H1=>xs.length <= sizeLine/\∀ p,H1 p=none->Q (.ref p) (upd H1 p (.lst xs))
theorem Fo {x1} (h:PA X es t):PE X (.Tuple es x1 pos) (Ky t):=by
 intro pins s σ H Q I hq
 refine wpAny_Tuple_spliced (thn (h pos pins s σ H _ I hq) fun us s1 ⟨xs,H1,I1,r,z,q⟩=>⟨by rw [<- r.length];exact z,?_⟩)
 have hf:H1 s1.heap.objs.size=none:=I1.hok.fresh (Nat.le_refl _)
 refine ⟨.ref s1.heap.objs.size,upd H1 s1.heap.objs.size (.tup xs),I1.laid (t':=s1.toks) (fun b u e=>Heap.get?_push_of_some _ e) (Nat.le_refl _) ?_,rfl,q _ hf⟩
 exact ⟨z,us,r,⟨_,Heap.get?_push_size _ rfl,rfl,_,rfl⟩⟩
theorem nG (h:PA X es t):PE X (.List es pos) (Kz t):=by
 intro pins s σ H Q I hq
 refine wpAny_List_spliced (thn (h pos pins s σ H _ I hq) fun us s1 ⟨xs,H1,I1,r,z,q⟩=>⟨by rw [<- r.length];exact z,?_⟩)
 have hf:H1 s1.heap.objs.size=none:=I1.hok.fresh (Nat.le_refl _)
 refine ⟨.ref s1.heap.objs.size,upd H1 s1.heap.objs.size (.lst xs),I1.laid (t':=s1.toks) (fun b u e=>Heap.get?_push_of_some _ e) (Nat.le_refl _) ?_,rfl,q _ hf⟩
 exact ⟨z,us,0,r,Heap.get?_push_size _ rfl⟩
end
abbrev Sp:=List V->Hp->VK->XK->Prop
abbrev CXT:=List Env->Hp->Shared->XK->Value->Shared->Prop
structure uZ (P:Program) (w:World) (K:PySem.W.Frag) (mg:Str->Option Value) (base:Heap) (A:Around) (outer:List Env) (s:Shared) (H:Hp):Prop where
 frames:A.frames=some outer
 mod:Mod K mg base
 bs:∀ b o,base.get? b=some o->s.heap.get? b=some o/\H b=none
 bsz:base.objs.size <= s.heap.objs.size
 h_:s.heap.FunFrames base outer
 frf:∀ b ∈ frs outer,H b=none
 hok:HOk P w H s.heap
 bare:AllBare s.gens
def CE (outer:List Env) (P:Program) (w:World) (H:Hp) (s:Shared) (Q:VK) (u:Value) (s':Shared):Prop:=
 ∃ v H',s'.os=s.os/\AllBare s'.gens/\Un (frs outer) [] H H' s.heap s'.heap/\HOk P w H' s'.heap/\RelV v u/\Q v H'
def CR (CX:CXT) (outer:List Env) (P:Program) (w:World) (H:Hp) (s:Shared) (Q:VK) (E:XK) (r:Result) (s':Shared):Prop:=
 match r with
 | .ok (.ret u)=>CE outer P w H s Q u s'
 | .ok _=>False
 | .error e=>CX outer H s E e s'
structure b8 (P:Program) (w:World) (K:PySem.W.Frag) (mg:Str->Option Value) (base:Heap) (CX:CXT) (k:Nat) (f:Addr) (fd:FuncData) (ps:List Str) (sp:Sp):Prop where
 len:∀ vs H Q E,sp vs H Q E->vs.length=ps.length
 run:∀ (A:Around) (outer:List Env) (s:Shared) (H:Hp) (args:Args) (us:List Value) (vs:List V) (Q:VK) (E:XK),bR k A->uZ P w K mg base A outer s H->BindsTo s fd args (ps.zip us)->Vals vs us->sp vs H Q E->
  codeAny (model P w) A (.call (.ref f) args) (CR CX outer P w H s Q E) s
theorem b8.mono {P:Program} {w:World} {K:PySem.W.Frag} {mg:Str->Option Value} {base:Heap} {CX:CXT} {j k:Nat} {f:Addr} {fd:FuncData} {ps:List Str} {sp:Sp} (F:b8 P w K mg base CX j f fd ps sp) (h:j <= k):
 b8 P w K mg base CX k f fd ps sp:=⟨F.len,fun A outer s H args us vs Q E hr=>F.run A outer s H args us vs Q E (hr.mono h)⟩
section
variable {X:Cx} {pins:List (Addr × Obj)} {σ:St} {H:Hp} {s s':Shared}
theorem Inv.env0 (I:Inv X pins σ H s):uZ X.prog X.w X.K X.mg X.base X.A X.stack s H:=
 ⟨I.ok.frames,I.ok.mod,I.bs,Nat.le_trans I.ok.bsz I.sz,I.stack,I.lQ,I.hok,I.bare⟩
theorem Inv.after {Q:VK} {u:Value} (I:Inv X pins σ H s) (h:CE X.stack X.prog X.w H s Q u s'):EP X pins σ Q u s':=by
 obtain ⟨v,H',os,bare,un,hok,r,q⟩:=h
 obtain ⟨hh,g,d,t,os'⟩:=s'
 obtain rfl:os'=s.os:=os
 exact ⟨v,H',I.call (h':=hh) (g':=g) (d':=d) (t':=t) (ch:=[]) un hok bare (fun b z=>absurd z (by simp)),r,q⟩
end
def u_ (sp:Sp) (dvs:List V) (E:XK) (t:TA):TE:=fun σ H Q=>t σ H fun vs H1=>sp (vs ++ dvs) H1 Q E
def Binds (K:PySem.W.Frag) (fd:FuncData) (ps:List Str) (ds:List Value):Prop:=
 ∀ (s:Shared) (us:List Value),K.In s.heap->(us ++ ds).length=ps.length->BindsTo s fd ⟨us,[]⟩ (ps.zip (us ++ ds))
theorem Binds.all {K:PySem.W.Frag} {fd:FuncData} {ps:List Str} (h:∀ us:List Value,us.length=ps.length->bindArgs fd ⟨us,[]⟩ =pure (ps.zip us)):Binds K fd ps []:=fun s us _ hl=>by
 rw [List.append_nil] at hl ⊢
 exact .of_eq (h us hl)
def Passes (CX:CXT) (X:Cx) (E:XK):Prop:=∀ (pins:List (Addr × Obj)) (σ:St) (H:Hp) (s:Shared) (e:Value) (s':Shared),Inv X pins σ H s->CX X.stack H s E e s'->X.xe e s'
section
variable {X:Cx} {CX:CXT} {k:Nat} {f C:Addr} {fd:FuncData} {ps:List Str} {sp:Sp} {dvs:List V} {ds:List Value} {E:XK} {x m:Str} {p pos apos:Pos} {e o:Expr} {es:List Expr} {ta:TE} {t:TA}
theorem Fp {pins:List (Addr × Obj)} {σ:St} {H:Hp} {s:Shared} {Q:VK} {us:List Value} {vs:List V} (F:b8 X.prog X.w X.K X.mg X.base CX k f fd ps sp) (hr:bR k X.A) (hb:Binds X.K fd ps ds) (hd:Vals dvs ds) (hx:Passes CX X E)
 (I:Inv X pins σ H s) (r:Vals vs us) (h:sp (vs ++ dvs) H Q E):wpAny (model X.prog X.w) X.A (call (.ref f) us) (EP X pins σ Q) X.xe s:=by
 have r2:Vals (vs ++ dvs) (us ++ ds):=r.append hd
 have hl:(us ++ ds).length=ps.length:=by rw [<- r2.length];exact F.len _ _ _ _ h
 refine wpAny_call (codeAny_mono (F.run X.A X.stack s H ⟨us,[]⟩ (us ++ ds) (vs ++ dvs) Q E hr I.env0 (hb s us I.kIn hl) r2 h) fun r s' hq=>?_)
 cases r with
 | error e=>exact hx pins σ H s e s' I hq
 | ok fl=>
   cases fl with
   | ret u=>exact I.after hq
   | next=>exact False.elim hq
   | brk=>exact False.elim hq
   | cont=>exact False.elim hq
theorem uh (F:b8 X.prog X.w X.K X.mg X.base CX k f fd ps sp) (hr:bR k X.A) (hg:Gl X x) (hm:X.mg x=some (.ref f)) (hk:PySem.W.keepIn X.K (.ref f)=true) (hb:Binds X.K fd ps ds) (hd:Vals dvs ds) (hx:Passes CX X E)
 (ha:PA X (e::es) t) (hdb:(x == ("__debug__":Str))=false:=by decide) (he:starEach (e::es) X.env=(false,eval e X.env)::starEach es X.env:=by rfl) (hpl:(backTo pos (starEach es X.env)).any (·.1)=false:=by rfl):
 PE X (.Call (.Name x p) (e::es) [] pos) (u_ sp dvs E t):=by
 intro pins s σ H Q I h
 refine wpAny_Call_Name_kw (Ck I hg hm ?_ hdb)
 refine PySem.W.callWith_K (h₀:=X.base) I.ok.mod.kin hk (thn (ha pos pins s σ H _ I h) fun us s1 ⟨vs,H1,I1,r,q⟩=>⟨I1.kIn,?_⟩) he hpl
 exact Fp F hr hb hd hx I1 r q
structure Mk (K:PySem.W.Frag) (C f:Addr):Prop where
 makes:PySem.W.makesIn K C=true
 init:PySem.W.findIn K (.ref C) "__init__" =some (some (.ref f))
 fn:PySem.W.isFn K (.ref f)=true
 kp:PySem.W.keepIn K (.ref C)=true
end
section
variable {X:Cx} {CX:CXT} {k:Nat} {f C:Addr} {fd:FuncData} {ps ks:List Str} {sp:Sp} {E:XK} {x m:Str} {p pos apos kpos:Pos} {e o:Expr} {es:List Expr} {kws:List Keyword} {te ta:TE} {t tk:TA} {nm:Option Str}
structure Lz (K:PySem.W.Frag) (fd:FuncData) (ps ks:List Str) (g:List Value->List Value->List Value) (gV:List V->List V->List V):Prop where
 to:∀ (s:Shared) (us ws:List Value),K.In s.heap->(g us ws).length=ps.length->BindsTo s fd ⟨us,ks.zip ws⟩ (ps.zip (g us ws))
 rel:∀ {vs:List V} {us:List Value} {zs:List V} {ws:List Value},Vals vs us->Vals zs ws->Vals (gV vs zs) (g us ws)
variable {g:List Value->List Value->List Value} {gV:List V->List V->List V}
end
structure aN (N P:List Str) (sc:Scope):Prop where
 kind:sc.kind= .function
 co:sc.isCoroutine=false
 gen:sc.isGenerator=false
 nd:N.Nodup
 pre:N.take P.length=P
 par:∀ x ∈ P,sc.names.lookup x=some .local\/sc.names.lookup x=some .cell
 Ft:∀ y ∈ sc.names,y.2 ≠ .free
theorem pO {kindOf:Str->Option NameKind} {x:Str}:∀ {binds:List (Str × Value)} {m:Str->Option Value},(∀ v,(x,v) ∉ binds)->bindL kindOf binds m x=m x
 | [],_,_=>rfl
 | (n,v)::r,m,h=>by
   unfold bindL
   rw [pO fun w hw=>h w (List.mem_cons_of_mem _ hw)]
   split
   · have:x ≠ n:=by rintro rfl;exact h v List.mem_cons_self
     simp [this]
   · rfl
theorem pP {kindOf:Str->Option NameKind} {x:Str}:∀ {binds:List (Str × Value)} {m:Str->Option Value},(∀ v,(x,v) ∉ binds)->bindC kindOf binds m x=m x
 | [],_,_=>rfl
 | (n,v)::r,m,h=>by
   unfold bindC
   rw [pP fun w hw=>h w (List.mem_cons_of_mem _ hw)]
   split
   · rfl
   · have:x ≠ n:=by rintro rfl;exact h v List.mem_cons_self
     simp [this]
theorem pQ {kindOf:Str->Option NameKind} {x:Str} {v:Value}:∀ {P:List Str} {vs:List Value} {i:Nat} {m:Str->Option Value},P.Nodup->P[i]? =some x->vs[i]? =some v->kindOf x=some .local->
 bindL kindOf (P.zip vs) m x=some v
 | [],_,_,_,_,h,_,_=>by simp at h
 | _::_,[],_,_,_,_,h,_=>by simp at h
 | p::P,w::vs,0,m,nd,h1,h2,hk=>by
   simp at h1 h2;subst h1;subst h2
   show bindL kindOf ((p,w)::P.zip vs) m p=_
   unfold bindL
   rw [pO fun v hv=>(List.nodup_cons.mp nd).1 (List.of_mem_zip hv).1,if_pos hk]
   simp
 | p::P,w::vs,i + 1,m,nd,h1,h2,hk=>by
   show bindL kindOf ((p,w)::P.zip vs) m x=_
   unfold bindL
   exact pQ (i:=i) (List.nodup_cons.mp nd).2 (by simpa using h1) (by simpa using h2) hk
theorem pR {kindOf:Str->Option NameKind} {x:Str} {v:Value}:∀ {P:List Str} {vs:List Value} {i:Nat} {m:Str->Option Value},P.Nodup->P[i]? =some x->vs[i]? =some v->kindOf x ≠ some .local->
 bindC kindOf (P.zip vs) m x=some v
 | [],_,_,_,_,h,_,_=>by simp at h
 | _::_,[],_,_,_,_,h,_=>by simp at h
 | p::P,w::vs,0,m,nd,h1,h2,hk=>by
   simp at h1 h2;subst h1;subst h2
   show bindC kindOf ((p,w)::P.zip vs) m p=_
   unfold bindC
   rw [pP fun v hv=>(List.nodup_cons.mp nd).1 (List.of_mem_zip hv).1,if_neg hk]
   simp
 | p::P,w::vs,i + 1,m,nd,h1,h2,hk=>by
   show bindC kindOf ((p,w)::P.zip vs) m x=_
   unfold bindC
   exact pR (i:=i) (List.nodup_cons.mp nd).2 (by simpa using h1) (by simpa using h2) hk
def start (N:List Str) (vs:List V):St:=vs.map some ++ List.replicate (N.length - vs.length) none
def jd (CX:CXT) (P:Program) (w:World) (K:PySem.W.Frag) (mg:Str->Option Value) (base:Heap) (N:List Str) (qual:Str) (scope:Scope) (f:Addr) (cd:Value) (A:Around) (outer:List Env) (s:Shared) (H:Hp) (E:XK):Cx where
 prog:=P
 w:=w
 K:=K
 mg:=mg
 base:=base
 A:=A.deeper (envOfC qual scope s.heap.objs.size f cd)
 N:=N
 s₀:=s
 H₀:=H
 env:=envOfC qual scope s.heap.objs.size f cd
 outer:=outer
 stack:=envOfC qual scope s.heap.objs.size f cd::outer
 ex:=[]
 calm:=true
 fn:=fun _=>true
 pn:=[]
 xe:=fun e s'=>wpAny (model P w) (A.deeper (envOfC qual scope s.heap.objs.size f cd)) (leaving (envOfC qual scope s.heap.objs.size f cd) e) (fun _ s''=>CX outer H s E e s'') (fun e' s''=>CX outer H s E e' s'') s'
theorem qX {sc:Scope} {n:Nat} {x:Str} (h:sc.names.lookup x=some .cell):∃ c,(cellsFrom n sc.names []).lookup x=some c:=by
 have q:=PySem.W.cellsFrom_some sc.names n [] (.inl h)
 exact Option.isSome_iff_exists.mp q
theorem wV {CX:CXT} {P:Program} {w:World} {K:PySem.W.Frag} {mg:Str->Option Value} {base:Heap} {N ps:List Str} {qual:Str} {scope:Scope} {f:Addr} {cd:Value} {A:Around} {outer:List Env} {s s1:Shared} {H:Hp} {E:XK} {us:List Value} {vs:List V}
 (S:aN N ps scope) (hd:A.handled=none) (e0:uZ P w K mg base A outer s H) (hl:vs.length=ps.length) (r:Vals vs us)
 (x:InCallC s s.heap.objs.size (bindL (envOfC qual scope s.heap.objs.size f cd).kindOf (ps.zip us) fun _=>none) (cellsFrom (s.heap.objs.size + 1) scope.names []) (bindC (envOfC qual scope s.heap.objs.size f cd).kindOf (ps.zip us) fun _=>none) s1):
 Inv (jd CX P w K mg base N qual scope f cd A outer s H E) [] (start N vs) H s1:=by
 have hpl:ps.length <= N.length:=by have:=congrArg List.length S.pre;rw [List.length_take] at this;omega
 obtain ⟨h1,tk,rfl,hk⟩:=x.done
 have noA:∀ b:Addr,b ∉ (jd CX P w K mg base N qual scope f cd A outer s H E).ex:=fun b z=>absurd (show b ∈ ([]:List Addr) from z) (by simp)
 refine ⟨⟨e0.mod,S.kind,rfl,rfl,Nat.le_refl _,fun y z c h1 h2=>?_,fun y hy=>?_,fun y c _ h=>?_,fun _=>hd,Around.frames_deeper e0.frames,.inr ⟨rfl,rfl⟩,fun b z=>absurd z (noA b),e0.bs,e0.bsz,fun b _ _=>noA b,fun b z=>absurd z (noA b),e0.h_,e0.frf⟩,
  rfl,e0.bare,Un.kept hk,⟨_,x.toInCall.ns,fun i y v h1 h2 h3=>?_⟩,fun y c h=>⟨_,x.cell y c h⟩,e0.hok.fresh (Nat.le_refl _),fun y c h=>?_,fun p hp=>absurd (show p ∈ ([]:List (Addr × Obj)) from hp) (by simp),e0.hok.kept hk,?_⟩
 · exact name_of_addr x.apart (PySem.mem_of_lookup h1) (PySem.mem_of_lookup h2)
 · have hy:scope.names.lookup y=some .cell\/scope.names.lookup y=some .free:=hy
   rcases hy with hy | hy
   · exact qX hy
   · exact absurd rfl (S.Ft _ (PySem.mem_of_lookup hy))
 · exact Nat.le_of_lt (x.above y c (PySem.mem_of_lookup h))
 · have hi:i < vs.length:=by
    unfold start at h2
    by_cases hi:i < vs.length
    · exact hi
    · rw [List.getElem?_append_right (by simpa using hi)] at h2
      rw [List.getElem?_replicate] at h2
      split at h2 <;> cases h2
   have ha:vs[i]? =some v:=by
    unfold start at h2
    rw [List.getElem?_append_left (by simpa using hi),List.getElem?_map] at h2
    cases e:vs[i]? with
    | none=>rw [e] at h2;cases h2
    | some a=>rw [e] at h2;cases h2;rfl
   obtain ⟨u,hu,rv⟩:=r.get ha
   have hp:ps[i]? =some y:=by
    rw [<- S.pre,List.getElem?_take_of_lt (by omega)];exact h1
   have ndP:ps.Nodup:=by rw [<- S.pre];exact S.nd.sublist (List.take_sublist _ _)
   refine ⟨u,rv,?_⟩
   rcases S.par y (List.mem_of_getElem? hp) with k | k
   · exact .inl ⟨k,pQ ndP hp hu k⟩
   · obtain ⟨c,e⟩:=qX (n:=s.heap.objs.size + 1) k
     refine .inr ⟨.inl k,c,e,?_⟩
     have q:=x.cell y c e
     rw [pR ndP hp hu (by show scope.names.lookup y ≠ _;rw [k];decide)] at q
     exact q
 · exact e0.hok.fresh (Nat.le_of_lt (x.above y c (PySem.mem_of_lookup h)))
 · unfold start
   show _=N.length
   rw [List.length_append,List.length_map,List.length_replicate]
   omega
theorem vd {CX:CXT} {P:Program} {w:World} {K:PySem.W.Frag} {mg:Str->Option Value} {base:Heap} {k:Nat} {f:Addr} {name qual:Str} {params:Arguments} {body:List Stmt} {scope:Scope} {dV kV doc pm cdv ct oc:Value} {an od:Option Addr}
 {osl:Array (Option Value)} {N ps:List Str} {sp:Sp} (lk:K.lookup f=some ⟨oc,od,.func (PySem.W.fnOf name qual params body scope dV kV doc pm an cdv ct),osl⟩) (hcd:PySem.W.codeIn K cdv qual=true) (S:aN N ps scope)
 (len:∀ vs H Q E,sp vs H Q E->vs.length=ps.length)
 (hbody:∀ (A:Around) (outer:List Env) (s:Shared) (H:Hp) (vs:List V) (Q:VK) (E:XK),bR k (A.deeper (envOfC qual scope s.heap.objs.size f cdv))->sp vs H Q E->
   ∃ t,PSs (jd CX P w K mg base N qual scope f cdv A outer s H E) body t/\t { nx:=fun _ H'=>Q .non H',rt:=Q } (start N vs) H):
 b8 P w K mg base CX (k + 1) f (PySem.W.fnOf name qual params body scope dV kV doc pm an cdv ct) ps sp:=by
 refine ⟨len,fun A outer s H args us vs Q E hr e0 hb r hsp=>?_⟩
 have hl:=len _ _ _ _ hsp
 have KX:K.In s.heap:=e0.mod.kin.keeps fun b o e=>(e0.bs b o e).1
 have lim:s.heap.NoLimit:=e0.mod.nolimit.keeps fun b o e=>(e0.bs b o e).1
 have hkind:∀ y ∈ ps.zip us,scope.names.lookup y.1=some .local\/(scope.names.lookup y.1=some .cell/\((cellsFrom (s.heap.objs.size + 1) scope.names []).lookup y.1).isSome=true):=fun ⟨n,v⟩ hy=>by
  rcases S.par n (List.of_mem_zip hy).1 with q | q
  · exact .inl q
  · exact .inr ⟨q,PySem.W.cellsFrom_some _ _ _ (.inl q)⟩
 refine codeAny_call_function hr.depth (KX _ _ lk) rfl S.co S.gen rfl (PySem.W.codeRec_of KX hcd) (hb _ _ _ _ ?_)
 refine wpAny_newFunctionEnv_cells S.kind hkind fun env he s1 x=>?_
 subst he
 refine ⟨lim.keeps x.toInCall.keep,codeAny_func ?_⟩
 obtain ⟨t,ht,hq⟩:=hbody A outer s H vs Q E (hr.deeper _) hsp
 have I:Inv (jd CX P w K mg base N qual scope f cdv A outer s H E) [] (start N vs) H s1:=wV S hr.hd e0 hl r x
 refine wpAny_mono (ht [] s1 (start N vs) H _ I hq) (fun fl s' hs=>?_) fun e s' hs=>hs
 have fin:∀ {σ':St} {H':Hp} {v:V} {u:Value},Inv (jd CX P w K mg base N qual scope f cdv A outer s H E) [] σ' H' s'->RelV v u->Q v H'->CE outer P w H s Q u s':=
  fun {σ' H' v u} J rv q=>⟨v,H',J.os,J.bare,J.base,J.hok,rv,q⟩
 cases fl with
 | ret u=>
   obtain ⟨v,σ',H',J,rv,q⟩:=hs
   exact fin J rv q
 | next=>
   obtain ⟨σ',H',J,q⟩:=hs
   exact fin (v:=V.non) (u:=Value.none) J rfl q
 | brk=>
   obtain ⟨_,_,_,q⟩:=hs
   exact False.elim q
 | cont=>
   obtain ⟨_,_,_,q⟩:=hs
   exact False.elim q
end L2
namespace L2
open PySem PySem.Spec PyProof.Rows
section
variable {X:Cx} {x:Str} {p pos:Pos} {e:Expr} {es:List Expr} {t:TA} {id T:String} {r:List V->Hp->VK->Prop}
def tCB (r:List V->Hp->VK->Prop) (t:TA):TE:=fun σ H Q=>t σ H fun vs H1=>r vs H1 Q
theorem eX (hc:eO X (.builtin id) r) (hg:Gl X x) (hm:X.mg x=none) (hv:bootBuiltins x=some (.builtin id)) (ha:PA X (e::es) t) (hn:x ≠ "__name__":=by decide) (hdb:(x == ("__debug__":Str))=false:=by decide)
 (he:starEach (e::es) X.env=(false,eval e X.env)::starEach es X.env:=by rfl) (hpl:(backTo pos (starEach es X.env)).any (·.1)=false:=by rfl):PE X (.Call (.Name x p) (e::es) [] pos) (tCB r t):=by
 intro pins s σ H Q I h
 refine wpAny_Call_Name_kw (qQ I hg hm hv ?_ hn hdb)
 exact PyProof.Rows.callWith_builtin1 (thn (ha pos pins s σ H _ I h) fun us s1 ⟨vs,H1,I1,r1,q1⟩=>hc pins s1 σ H1 vs us Q I1 r1 q1) he hpl
theorem pU (hc:eO X (.type T) r) (hg:Gl X x) (hm:X.mg x=none) (hv:bootBuiltins x=some (.type T)) (ha:PA X (e::es) t) (hn:x ≠ "__name__":=by decide) (hdb:(x == ("__debug__":Str))=false:=by decide)
 (he:starEach (e::es) X.env=(false,eval e X.env)::starEach es X.env:=by rfl) (hpl:(backTo pos (starEach es X.env)).any (·.1)=false:=by rfl):PE X (.Call (.Name x p) (e::es) [] pos) (tCB r t):=by
 intro pins s σ H Q I h
 refine wpAny_Call_Name_kw (qQ I hg hm hv ?_ hn hdb)
 exact PyProof.Rows.callWith_type1 (thn (ha pos pins s σ H _ I h) fun us s1 ⟨vs,H1,I1,r1,q1⟩=>hc pins s1 σ H1 vs us Q I1 r1 q1) he hpl
end
end L2
namespace HT
open PySem PyProof.Rows
def lexLt:List Int->List Int->Bool
 | [],[]=>false
 | [],_::_=>true
 | _::_,[]=>false
 | x::xs,y::ys=>if x=y then lexLt xs ys else decide (x < y)
theorem vf (x y:Int) (xs ys:List Int):lexLt (x::xs) (y::ys)=if x=y then lexLt xs ys else decide (x < y):=rfl
theorem ql:lexLt [] [] =false:=rfl
theorem oW (y:Int) (ys:List Int):lexLt [] (y::ys)=true:=rfl
theorem oX (x:Int) (xs:List Int):lexLt (x::xs) [] =false:=rfl
theorem zq (A:Around) (s:Shared) (a:Int) (t:Tok) (c:Int) (u:Tok):∃ e,SeqAt.EqAt A s (.int a t) (.int c u) e/\(e=true ↔ a=c):=
 ⟨(a == c),SeqAt.EqAt.int_int a t c u,by simp⟩
theorem zu (A:Around) (s:Shared) (a:Int) (t:Tok) (c:Int) (u:Tok) (prog:Program) (w:World) (E:Value->Shared->Prop) (Q:Value->Shared->Prop) (h:Q (.bool (decide (a < c))) s):
 wpAny (model prog w) A (richCompare .Lt (.int a t) (.int c u)) Q E s:=
 (PyProof.Rows.lt_int h:wpAny (model prog w) A (compareOp .Lt (.int a t) (.int c u)) Q E s)
section
open PySem.SeqAt
open PySem.AutoSeq1 (wpAny_loadPart')
open PySem.MeetsSeq PySem.MeetsSeq2 PySem.MeetsSeq3
theorem qm (l b:Addr) (items items2:Array Value) (n n2:Nat) (dd dd2:Option Addr) (sl sl2:Array (Option Value)) (ns ms:List Int) (hi:IntsAre items.toList ns) (hj:IntsAre items2.toList ms):
 Meets (Builtin.«tuple.__lt__» ⟨[.ref l,.ref b],[]⟩)
  (fun _ R s=>s.heap.get? l=some { cls:=.type "tuple",dict:=dd,data:=.seq items n,slots:=sl }/\s.heap.get? b=some { cls:=.type "tuple",dict:=dd2,data:=.seq items2 n2,slots:=sl2 }/\
    R (.ok (.ret (.bool (lexLt ns ms)))) s):=
 .of_wp fun prog w A R s h=>by
  obtain ⟨hp,g,d,tk,os⟩:=s;obtain ⟨hl,hb,h⟩:=h
  have f2:=AutoSeq1.sub_tuple_tuple
  have z1:items.size=ns.length:=by rw [<- hi.length];simp
  have z2:items2.size=ms.length:=by rw [<- hj.length];simp
  wp_walk using wpAny_loadPart' hl,wpAny_loadPart' hb,wpAny_forIn_list _ (fun rest b s'=>b.1=none/\s'= ⟨hp,g,d,tk,os⟩/\∃ (vs ws:List Value) (ns' ms':List Int),rest=vs.zip ws/\
   IntsAre vs ns'/\IntsAre ws ms'/\ns'.length + items2.size=ms'.length + items.size/\R (.ok (.ret (.bool (lexLt ns' ms')))) ⟨hp,g,d,tk,os⟩) _
  case turn=>
   rintro ⟨y,x⟩ rest b s' ⟨hb',rfl,vs,ws,ns',ms',hz,hvi,hwi,hlen,hR⟩
   cases hvi with
   | nil=>rw [List.zip_nil_left] at hz;cases hz
   | cons a t KC=>
     cases hwi with
     | nil=>rw [List.zip_nil_right] at hz;cases hz
     | cons c u KD=>
       rw [List.zip_cons_cons] at hz
       injection hz with hyx hrest
       injection hyx with hy hx
       subst hy hx
       rw [vf] at hR
       simp only [List.length_cons] at hlen
       obtain ⟨e,he,hiff⟩:=zq A.in1 ⟨hp,g,d,tk,os⟩ a t c u
       refine wpAny_bind (he prog w _ _ ?_)
       cases e with
       | true=>
         rw [if_pos (hiff.mp rfl)] at hR
         wp_walk
         exact ⟨rfl,rfl,_,_,_,_,hrest,KC,KD,by omega,hR⟩
       | false=>
         rw [if_neg (fun q=>absurd (hiff.mpr q) Bool.false_ne_true)] at hR
         have hri:=zu A.in1 ⟨hp,g,d,tk,os⟩ a t c u prog w
         wp_walk using hri
         exact ⟨_,rfl,by simpa using hR⟩
  case fin=>
   rintro ⟨b1,b2⟩ s' ⟨hb',rfl,vs,ws,ns',ms',hz,hvi,hwi,hlen,hR⟩
   simp only at hb'
   subst hb'
   have hv:lexLt ns' ms'=decide (items.size < items2.size):=by
    cases hvi with
    | nil=>
      cases hwi with
      | nil=>
        simp only [List.length_nil] at hlen
        rw [ql]
        exact (decide_eq_false (by omega)).symm
      | cons c u hw=>
        simp only [List.length_nil,List.length_cons] at hlen
        rw [oW]
        exact (decide_eq_true (by omega)).symm
    | cons a t hv=>
      cases hwi with
      | nil=>
        simp only [List.length_nil,List.length_cons] at hlen
        rw [oX]
        exact (decide_eq_false (by omega)).symm
      | cons c u hw=>
        rw [List.zip_cons_cons] at hz
        cases hz
   rw [hv] at hR
   wp_walk
   exact ⟨_,rfl,by simpa [Builtin.Tuple.tupleCompareSizes] using hR⟩
  case h=>
   exact ⟨rfl,rfl,items.toList,items2.toList,ns,ms,rfl,hi,hj,by omega,h⟩
end
section
variable {prog:Program} {w:World} {A:Around} {E:Value->Shared->Prop} {s:Shared}
theorem vg {l b:Addr} {items items2:Array Value} {ns ms:List Int} {Q:Value->Shared->Prop} (hl:IsTup s.heap l items) (hb:IsTup s.heap b items2) (hi:IntsAre items.toList ns) (hj:IntsAre items2.toList ms)
 (hu:A.units < cLine) (h:Q (.bool (lexLt ns ms)) s):wpAny (model prog w) A (compareOp .Lt (.ref l) (.ref b)) Q E s:=by
 obtain ⟨⟨cls,dd,data,sl⟩,ho,hc,n,hd⟩:=id hl
 obtain ⟨⟨cls2,dd2,data2,sl2⟩,ho2,hc2,n2,hd2⟩:=id hb
 simp only at hc hd hc2 hd2
 subst hc hd hc2 hd2
 exact richCompare_meets_room (op:=.Lt) ⟨_,ho,rfl⟩ ⟨_,ho2,rfl⟩ PySem.F.slot_tuple_lt PySem.F.entry_tuple_lt (PySem.F.args_tuple_lt_2 _ _) (qm l b items items2 n n2 dd dd2 sl sl2 ns ms hi hj)
  ⟨ho,ho2,show Value.bool (lexLt ns ms) ≠ Value.notImplemented/\Q (.bool (lexLt ns ms)) s from ⟨(fun x=>nomatch x),h⟩⟩ hu
def sIx (n d:Nat):Option Int->Nat
 | none=>d
 | some v=>if v < 0 then (v + (n:Int)).toNat else min v.toNat n
theorem Fv (n d:Nat) (hd:d <= n) (o:Option Int):sIx n d o <= n:=by
 cases o with
 | none=>exact hd
 | some v=>
   show (if v < 0 then (v + (n:Int)).toNat else min v.toNat n) <= n
   by_cases hv:v < 0
   · rw [if_pos hv];omega
   · rw [if_neg hv];exact Nat.min_le_right _ _
theorem um (v:Int) (n d:Nat):(if v < 0 then max (v + (n:Int)) 0 else min v (n:Int))=((sIx n d (some v):Nat):Int):=by
 show (if v < 0 then max (v + (n:Int)) 0 else min v (n:Int))=(((if v < 0 then (v + (n:Int)).toNat else min v.toNat n):Nat):Int)
 by_cases hv:v < 0
 · simp only [if_pos hv];omega
 · simp only [if_neg hv];omega
theorem vh (lo hi:Option Int) (n:Nat):Builtin.Slice.sliceAdjust lo hi 1 (n:Int)=(((sIx n 0 lo:Nat):Int),((sIx n n hi:Nat):Int)):=by
 have h1:¬ ((1:Int) < 0):=by omega
 unfold Builtin.Slice.sliceAdjust
 simp only [h1,if_false]
 refine Prod.ext ?_ ?_
 · cases lo with
   | none=>rfl
   | some v=>exact um v n 0
 · cases hi with
   | none=>rfl
   | some v=>exact um v n n
theorem vm (i j:Nat):Builtin.Slice.slicePlaces (i:Int) (j:Int) 1=j - i:=by
 unfold Builtin.Slice.slicePlaces
 have h1:(1:Int) > 0:=by omega
 simp only [h1,if_true,Int.ediv_one]
 split <;> omega
theorem nH {v:Value} {o:Option Int} {Q:Option Int->Shared->Prop} (p:IsPart v o) (h:Q o s):wpAny (model prog w) A (Builtin.Slice.slicePartIndex v) Q E s:=by
 cases p with
 | none=>exact slicePart_none h
 | int i t=>exact slicePart_int h
theorem mR {sl:Addr} {vl vu:Value} {lo hi:Option Int} {n:Nat} {Q:Int × Int × Nat->Shared->Prop} (hs:s.heap.IsSliceOf sl vl vu .none) (pl:IsPart vl lo) (pu:IsPart vu hi)
 (h:Q (((sIx n 0 lo:Nat):Int),1,sIx n n hi - sIx n 0 lo) s):wpAny (model prog w) A (Builtin.Slice.sliceApplied (.ref sl) (pure (n:Int))) Q E s:=by
 obtain ⟨os,hos,hcs,hds⟩:=id hs
 unfold Builtin.Slice.sliceApplied Builtin.Slice.sliceFields
 refine wpAny_bind (wpAny_bind (wpAny_field hos hds (x:=vl) rfl (wpAny_bind (wpAny_field hos hds (x:=vu) rfl (wpAny_bind (wpAny_field hos hds (x:=.none) rfl (wpAny_pure ?_)))))))
 refine wpAny_bind (slicePart_none ?_)
 show wpAny _ _ (if ((1:Int) == 0)=true then _ else _) _ _ s
 rw [if_neg (by decide)]
 refine wpAny_bind (nH pl (wpAny_bind (nH pu (wpAny_bind (wpAny_pure ?_)))))
 show wpAny _ _ (match Builtin.Slice.sliceAdjust lo hi 1 (n:Int) with | (lo,hi)=>pure (lo,(1:Int),Builtin.Slice.slicePlaces lo hi 1)) _ _ s
 rw [vh lo hi n]
 show wpAny _ _ (pure (((sIx n 0 lo:Nat):Int),(1:Int),Builtin.Slice.slicePlaces ((sIx n 0 lo:Nat):Int) ((sIx n n hi:Nat):Int) 1)) _ _ s
 rw [vm]
 exact wpAny_pure h
theorem zx (xs:Array Value) (i k:Nat):((List.range k).filterMap fun (m:Nat)=>xs[((i:Int) + (m:Int) * 1).toNat]?).toArray=((xs.toList.drop i).take k).toArray:=by
 have e:(fun (m:Nat)=>xs[((i:Int) + (m:Int) * 1).toNat]?)=fun m=>xs[i + m]?:=by
  funext m
  have:((i:Int) + (m:Int) * 1).toNat=i + m:=by omega
  rw [this]
 rw [e]
 have:=pick_run xs i k
 rw [List.filterMap_map] at this
 have e2:((fun x=>xs[x]?) ∘ fun x=>i + x)=fun m=>xs[i + m]?:=rfl
 rw [e2] at this
 rw [this]
theorem mG {t sl:Addr} {items:Array Value} {vl vu:Value} {lo hi:Option Int} {Q:Value->Shared->Prop} (ht:IsTup s.heap t items) (hs:s.heap.IsSliceOf sl vl vu .none) (pl:IsPart vl lo) (pu:IsPart vu hi)
 (hw:¬ (sIx items.size 0 lo=0/\sIx items.size items.size hi=items.size))
 (h:Q (.ref s.heap.objs.size) { s with heap:=s.heap.push { cls:=.type "tuple",data:=.seq ((items.toList.drop (sIx items.size 0 lo)).take (sIx items.size items.size hi - sIx items.size 0 lo)).toArray } })
 (hsz:items.size <= sizeLine):wpAny (model prog w) A (getItem (.ref t) (.ref sl)) Q E s:=by
 have qG:sizeOk (.seq ((items.toList.drop (sIx items.size 0 lo)).take (sIx items.size items.size hi - sIx items.size 0 lo)).toArray):=by
  show ((items.toList.drop (sIx items.size 0 lo)).take (sIx items.size items.size hi - sIx items.size 0 lo)).toArray.size <= sizeLine
  rw [List.size_toArray,List.length_take,List.length_drop,Array.length_toList]
  omega
 have hj:sIx items.size items.size hi <= items.size:=Fv _ _ (Nat.le_refl _) hi
 obtain ⟨os,hos,hcs,hds⟩:=id hs
 have hTs:s.TypeIs (.ref sl) "slice":=⟨os,hos,hcs⟩
 unfold getItem
 try with_reducible refine wpAny_holding ?_
 first | refine wpAny_bind (wpAny_pure ?_) | skip
 refine wpAny_bind (wpAny_sequenceKey ht.typeIs (by decide) ?_)
 refine wpAny_bind (wpAny_callSpecial?_slot (name:=Str.ofString "__getitem__") ht.typeIs PyProof.Rows.slot_tuple_getitem
  (wpAny_call_entry PyProof.Rows.slot_tuple_getitem ht.typeIs entry_tuple_getitem ?_ (args_tuple_getitem _ _)))
 show wpAny _ _ (Builtin.Tuple.tupleItemsOf (.ref t) >>= _) _ _ s
 refine wpAny_bind (tupleItemsOf_ ht ?_)
 refine wpAny_bind (wpAny_typeOf hTs ?_)
 rw [if_pos (by decide)]
 refine wpAny_bind (mR hs pl pu ?_)
 have hno:¬ ((((sIx items.size 0 lo:Nat):Int) == 0 && (1:Int) == 1 && (sIx items.size items.size hi - sIx items.size 0 lo) == items.size)=true):=by
  intro q
  rw [Bool.and_eq_true,Bool.and_eq_true] at q
  have q1:((sIx items.size 0 lo:Nat):Int)=0:=eq_of_beq q.1.1
  have q2:sIx items.size items.size hi - sIx items.size 0 lo=items.size:=eq_of_beq q.2
  exact hw ⟨by omega,by omega⟩
 show wpAny _ _ (if (((sIx items.size 0 lo:Nat):Int) == 0 && (1:Int) == 1 && (sIx items.size items.size hi - sIx items.size 0 lo) == items.size)=true then _ else _) _ _ s
 rw [if_neg hno,zx]
 first
  | exact wpAny_bind (m:=Builtin.Tuple.tupleExact _) (wpAny_newObj_type (wpAny_pure ⟨_,rfl,wpAny_pure h⟩) qG)
  | exact wpAny_bind (m:=Builtin.Tuple.tupleExact _) (wpAny_newObj_type (wpAny_bind (wpAny_pure (wpAny_pure ⟨_,rfl,wpAny_pure h⟩))) qG)
  | exact wpAny_bind (wpAny_bind (m:=Builtin.Tuple.tupleExact _) (wpAny_newObj_type (wpAny_pure (wpAny_pure ⟨_,rfl,wpAny_pure h⟩)) qG))
  | exact wpAny_bind (wpAny_bind (m:=Builtin.Tuple.tupleExact _) (wpAny_newObj_type (wpAny_pure ⟨_,rfl,wpAny_pure h⟩) qG))
end
end HT
namespace L2
open PySem PySem.Spec PyProof.Rows
abbrev TO:=St->Hp->(Option Int->Hp->Prop)->Prop
def PO (X:Cx) (e:Option Expr) (t:TO):Prop:=
 ∀ (pins:List (Addr × Obj)) (s:Shared) (σ:St) (H:Hp) (Q:Option Int->Hp->Prop),Inv X pins σ H s->t σ H Q->
   wpAny (model X.prog X.w) X.A (evalPart e X.env) (fun u s'=>∃ o H',Inv X pins σ H' s'/\IsPart u o/\Q o H') X.xe s
def uo:TO:=fun _ H Q=>Q none H
def Bf (t:TE):TO:=fun σ H Q=>t σ H fun x H1=>∃ i,x= .int i/\Q (some i) H1
theorem intsAre_of {ns:List Int}:∀ {us:List Value},Vals (ns.map V.int) us->IntsAre us ns:=by
 induction ns with
 | nil=>intro us r;rw [List.map_nil] at r;cases r;exact .nil
 | cons n ns ih=>
   intro us r
   rw [List.map_cons] at r
   cases r with
   | cons r1 r2=>
     obtain ⟨t,e⟩:=r1
     subst e
     exact .cons n t (ih r2)
section
variable {X:Cx} {e:Expr} {te:TE} {lo hi:Option Expr} {tl th:TO} {pos p2:Pos}
theorem Cv:PO X none uo:=by
 intro pins s σ H Q I h
 rw [evalPart_none]
 exact wpAny_pure ⟨none,H,I,.none,h⟩
theorem Cw (h:PE X e te):PO X (some e) (Bf te):=by
 intro pins s σ H Q I hw
 rw [evalPart_some]
 refine thn (h pins s σ H _ I hw) fun u s1 ⟨x,H1,I1,r1,q1⟩=>?_
 obtain ⟨i,rfl,q⟩:=q1
 obtain ⟨t,rfl⟩:=r1
 exact ⟨some i,H1,I1,.int i t,q⟩
def SlR (X:Cx) (r:V->Option Int->Option Int->Hp->VK->Prop):Prop:=
 ∀ (pins:List (Addr × Obj)) (s:Shared) (σ:St) (H:Hp) (x:V) (v vl vu:Value) (lo hi:Option Int) (sl:Addr) (Q:VK),Inv X pins σ H s->RelV x v->s.heap.IsSliceOf sl vl vu .none->IsPart vl lo->IsPart vu hi->r x lo hi H Q->
   ∃ T id,typeLookup (.type T) "__getitem__" =pure (some (.builtin id))/\s.TypeIs v T/\wpAny (model X.prog X.w) X.A (getItem v (.ref sl)) (EP X pins σ Q) X.xe s
theorem SlR.or {r r':V->Option Int->Option Int->Hp->VK->Prop} (h:SlR X r) (h':SlR X r'):SlR X (fun x lo hi H Q=>r x lo hi H Q\/r' x lo hi H Q):=by
 intro pins s σ H x v vl vu lo hi sl Q I rx hs pl pu q
 rcases q with q | q
 · exact h pins s σ H x v vl vu lo hi sl Q I rx hs pl pu q
 · exact h' pins s σ H x v vl vu lo hi sl Q I rx hs pl pu q
def tSl (r:V->Option Int->Option Int->Hp->VK->Prop) (te:TE) (tl th:TO):TE:=fun σ H Q=>te σ H fun x H1=>tl σ H1 fun l H2=>th σ H2 fun u H3=>r x l u H3 Q
theorem zy {r:V->Option Int->Option Int->Hp->VK->Prop} (hr:SlR X r) (he:PE X e te) (hl:PO X lo tl) (hu:PO X hi th):PE X (.Subscript e (.Slice lo hi none p2) pos) (tSl r te tl th):=by
 intro pins s σ H Q I h
 refine Subscript_ (thn (he pins s σ H _ I h) fun v s1 ⟨x,H1,I1,r1,q1⟩=>?_)
 refine wpAny_Slice (thn (hl pins s1 σ H1 _ I1 q1) fun vl s2 ⟨l,H2,I2,pl,q2⟩=>thn (hu pins s2 σ H2 _ I2 q2) fun vu s3 ⟨u,H3,I3,pu,q3⟩=>?_)
 rw [evalPart_none]
 refine wpAny_pure ?_
 have I4:Inv X pins σ H3 { s3 with heap:=s3.heap.push { cls:=.type "slice",data:=.fields #[vl,vu,.none] } }:=I3.kept (t':=s3.toks) fun b ob q=>Heap.get?_push_of_some _ q
 obtain ⟨T,id,hT,ht,hg⟩:=hr pins { s3 with heap:=s3.heap.push { cls:=.type "slice",data:=.fields #[vl,vu,.none] } } σ H3 x v vl vu l u s3.heap.objs.size Q I4 r1 (Heap.IsSliceOf.new ..) pl pu q3
 show wpAny (model X.prog X.w) X.A (subscriptTail e (.Slice lo hi none p2) v (.ref s3.heap.objs.size)) (EP X pins σ Q) X.xe { s3 with heap:=s3.heap.push { cls:=.type "slice",data:=.fields #[vl,vu,.none] } }
 exact tail_any (ops:=[.ref s3.heap.objs.size,v]) ht hT hg (by with_unfolding_all rfl)
def oY (xs:List V) (lo hi:Option Int):List V:=(xs.drop (HT.sIx xs.length 0 lo)).take (HT.sIx xs.length xs.length hi - HT.sIx xs.length 0 lo)
theorem mJ (xs:List V) (lo hi:Option Int):(oY xs lo hi).length <= xs.length:=by
 unfold oY
 rw [List.length_take,List.length_drop]
 omega
def Fw (K:PySem.W.Frag):V->Option Int->Option Int->Hp->VK->Prop:=fun x lo hi H Q=>∃ a xs,x= .ref a/\SqT K H a xs/\
 ¬ (HT.sIx xs.length 0 lo=0/\HT.sIx xs.length xs.length hi=xs.length)/\∀ p,H p=none->Q (.ref p) (upd H p (.tup (oY xs lo hi)))
theorem Fx:SlR X (Fw X.K):=by
 intro pins s σ H x v vl vu lo hi sl Q I rx hs pl pu h
 obtain ⟨a,xs,rfl,hx,hw,q⟩:=h
 cases rx
 obtain ⟨its,r,ht,hz⟩:=I.tuple hx
 have hlen:its.toArray.size=xs.length:=by rw [List.size_toArray];exact r.length.symm
 refine ⟨"tuple",_,PyProof.Rows.slot_tuple_getitem.lookup,ht.typeIs,?_⟩
 refine HT.mG ht hs pl pu (by rw [hlen];exact hw) ?_ (by rw [hlen];exact hz)
 rw [hlen]
 refine ⟨.ref s.heap.objs.size,_,I.laid (t':=s.toks) (o:=.tup (oY xs lo hi)) (fun b ob q=>Heap.get?_push_of_some _ q) (Nat.le_refl _) ?_,rfl,q _ (I.hok.fresh (Nat.le_refl _))⟩
 exact ⟨Nat.le_trans (mJ xs lo hi) hz,_,(r.drop (HT.sIx xs.length 0 lo)).take (HT.sIx xs.length xs.length hi - HT.sIx xs.length 0 lo),IsTup.new _ _⟩
def Fy (K:PySem.W.Frag):R2:=fun x y H Q=>∃ a b ns ms,x= .ref a/\y= .ref b/\SqT K H a (ns.map V.int)/\SqT K H b (ms.map V.int)/\Q (.bl (HT.lexLt ns ms)) H
theorem wW (hu:X.A.units < cLine):OpR X (compareOp .Lt) (Fy X.K):=by
 intro pins s σ H x y v u Q I rx ry h
 obtain ⟨a,b,ns,ms,rfl,rfl,ha,hb,q⟩:=h
 cases rx
 cases ry
 obtain ⟨its,r1,p1,_⟩:=I.tuple ha
 obtain ⟨its2,r2,p2,_⟩:=I.tuple hb
 have i1:IntsAre its.toArray.toList ns:=intsAre_of r1
 have i2:IntsAre its2.toArray.toList ms:=intsAre_of r2
 exact HT.vg p1 p2 i1 i2 hu ⟨.bl (HT.lexLt ns ms),H,I,rfl,q⟩
end
end L2
namespace L2
open PySem PySem.Spec PyProof.Rows
def ixN (n:Nat) (i:Int):Option Nat:=if 0 <= i then (if i < n then some i.toNat else none) else if -(n:Int) <= i then some (i + n).toNat else none
def atI {α:Type} (xs:List α) (i:Int):Option α:=(ixN xs.length i).bind fun j=>xs[j]?
theorem Cy {n:Nat} {i:Int} {j:Nat} (h:ixN n i=some j):seqIndex? i n=some j/\j < n/\-(n:Int) <= i/\i < n:=by
 unfold ixN at h
 by_cases h0:0 <= i
 · rw [if_pos h0] at h
   by_cases h1:i < n
   · rw [if_pos h1] at h
     have e:i.toNat=j:=Option.some.inj h
     exact ⟨by rw [seqIndex_of h0 h1,e],by omega,by omega,h1⟩
   · rw [if_neg h1] at h;cases h
 · rw [if_neg h0] at h
   by_cases h1: -(n:Int) <= i
   · rw [if_pos h1] at h
     have e:(i + n).toNat=j:=Option.some.inj h
     exact ⟨by rw [seqIndex_neg (by omega) h1,e],by omega,h1,by omega⟩
   · rw [if_neg h1] at h;cases h
theorem oZ {α:Type} {xs:List α} {i:Int} {v:α} (h:atI xs i=some v):∃ j,seqIndex? i xs.length=some j/\xs[j]? =some v/\j < xs.length/\-(xs.length:Int) <= i/\i < xs.length:=by
 unfold atI at h
 cases e:ixN xs.length i with
 | none=>rw [e] at h;cases h
 | some j=>
   rw [e] at h
   obtain ⟨h1,h2,h3,h4⟩:=Cy e
   exact ⟨j,h1,h,h2,h3,h4⟩
theorem Cz {α:Type} {xs:List α} {j:Nat} {v:α} (h:xs[j]? =some v):atI xs (j:Int)=some v:=by
 have hj:j < xs.length:=(List.getElem?_eq_some_iff.mp h).1
 have e:ixN xs.length (j:Int)=some j:=by
  unfold ixN
  rw [if_pos (by omega),if_pos (by omega)];simp
 unfold atI;rw [e];exact h
def uq (b:Expr):Prop:=∀ o i,subscripted b false o i=operate [o,i] (getItem o i)
def IxR (X:Cx) (r:R2):Prop:=
 ∀ (value slice:Expr) (pins:List (Addr × Obj)) (s:Shared) (σ:St) (H:Hp) (x y:V) (v u:Value) (Q:VK),Inv X pins σ H s->RelV x v->RelV y u->r x y H Q->
   subscripted slice false v u=operate [v,u] (getItem v u)->wpAny (model X.prog X.w) X.A (subscriptTail value slice v u) (EP X pins σ Q) X.xe s
def MtR (X:Cx) (id:String) (r:V->List V->Hp->VK->Prop):Prop:=
 ∀ (pins:List (Addr × Obj)) (s:Shared) (σ:St) (H:Hp) (x:V) (xs:List V) (v:Value) (us:List Value) (Q:VK),Inv X pins σ H s->RelV x v->Vals xs us->r x xs H Q->
   wpAny (model X.prog X.w) X.A (call (.builtin id) (v::us)) (EP X pins σ Q) X.xe s
section
variable {X:Cx} {a b:Expr} {ta tb:TE} {pos:Pos}
theorem IxR.or {r r':R2} (h:IxR X r) (h':IxR X r'):IxR X (fun x y H Q=>r x y H Q\/r' x y H Q):=by
 intro value slice pins s σ H x y v u Q I rx ry q hs
 rcases q with q | q
 · exact h value slice pins s σ H x y v u Q I rx ry q hs
 · exact h' value slice pins s σ H x y v u Q I rx ry q hs
theorem vo {r:R2} (hr:IxR X r) (ha:PE X a ta) (hb:PE X b tb) (hs:uq b):PE X (.Subscript a b pos) (tOp r ta tb):=by
 intro pins s σ H Q I h
 exact Subscript_ (zg ha hb I h fun v u s2 x y H2 I2 rx ry q=>hr a b pins s2 σ H2 x y v u Q I2 rx ry q (hs _ _))
def Fz (K:PySem.W.Frag):R2:=fun x y H Q=>∃ p xs i v,x= .ref p/\y= .int i/\SqL K H p xs/\atI xs i=some v/\Q v H
def FJ (K:PySem.W.Frag):R2:=fun x y H Q=>∃ p xs i v,x= .ref p/\y= .int i/\SqT K H p xs/\atI xs i=some v/\Q v H
def FN:R2:=fun x y H Q=>∃ z i c,x= .str z/\y= .int i/\z.length <= sizeLine/\atI z.cps.toList i=some c/\Q (.str ⟨#[c]⟩) H
theorem o4:IxR X (Fz X.K):=by
 intro value slice pins s σ H x y v u Q I rx ry h hs
 obtain ⟨p,xs,i,z,rfl,rfl,hq,he,q⟩:=h
 cases rx
 obtain ⟨t,rfl⟩:=ry
 obtain ⟨its,r,pl,hz⟩:=I.list hq
 obtain ⟨j,h1,h2,h3,h4,h5⟩:=oZ he
 obtain ⟨w,ew,rw'⟩:=r.get h2
 have hl:=r.length
 have hn:=kE
 have fin:EP X pins σ Q w s:=⟨z,H,I,rw',q⟩
 by_cases h0:0 <= i
 · have hj:i.toNat=j:=by
    rw [seqIndex_of h0 h5] at h1
    exact Option.some.inj h1
   exact item_listR pl.isList h0 (by omega) (by rw [hj];simpa using ew) fin hs
 · have hj:(i + (its.toArray.size:Int)).toNat=j:=by
    rw [seqIndex_neg (by omega) h4] at h1
    rw [List.size_toArray,<- hl]
    exact Option.some.inj h1
   exact subscriptTail_builtinR (x:=w) pl.isList.typeIs slot_list_getitem.lookup
    (wpAny_getItem_list_neg (Q:=fun r s'=>r=w/\EP X pins σ Q r s') pl.isList (by omega) (by rw [List.size_toArray] <;> omega) (by omega) (by rw [hj];simpa using ew) ⟨rfl,fin⟩) hs
theorem FQ:IxR X (FJ X.K):=by
 intro value slice pins s σ H x y v u Q I rx ry h hs
 obtain ⟨p,xs,i,z,rfl,rfl,hq,he,q⟩:=h
 cases rx
 obtain ⟨t,rfl⟩:=ry
 obtain ⟨its,r,pl,hz⟩:=I.tuple hq
 obtain ⟨j,h1,h2,h3,h4,h5⟩:=oZ he
 obtain ⟨w,ew,rw'⟩:=r.get h2
 have hl:=r.length
 have hn:=kE
 have fin:EP X pins σ Q w s:=⟨z,H,I,rw',q⟩
 exact subscriptTail_builtinR (x:=w) pl.typeIs slot_tuple_getitem.lookup
  (getItem_tuple (j:=j) (Q:=fun r s'=>r=w/\EP X pins σ Q r s') pl (by omega) (by omega) (by rw [List.size_toArray,<- hl];exact h1) (by simpa using ew) ⟨rfl,fin⟩) hs
theorem FT:IxR X FN:=by
 intro value slice pins s σ H x y v u Q I rx ry h hs
 obtain ⟨z,i,c,rfl,rfl,hz,he,q⟩:=h
 obtain ⟨t,rfl⟩:=rx
 obtain ⟨t',rfl⟩:=ry
 obtain ⟨j,h1,h2,h3,h4,h5⟩:=oZ he
 have hl:z.cps.toList.length=z.length:=by simp [Str.length]
 rw [hl] at h1 h4 h5
 have hn:=kE
 exact tail_any (typeIs_str s z t) slot_str_getitem.lookup (getItem_str (c:=c) (by
  have e1:decide (i < -(2 ^ 63:Int))=false:=decide_eq_false (by omega)
  have e2:decide (i >= 2 ^ 63)=false:=decide_eq_false (by omega)
  rw [e1,e2,Bool.or_false]) (by rw [h1];simpa using h2) ⟨.str ⟨#[c]⟩,H,I.tok _,⟨_,rfl⟩,q⟩) hs
def rIx (K:PySem.W.Frag):R2:=fun x y H Q=>Fz K x y H Q\/FJ K x y H Q\/FN x y H Q
theorem FW:IxR X (rIx X.K):=o4.or (FQ.or FT)
theorem qY (lo hi:Option Int) (n:Nat):(sliceBounds lo hi none n).1=((HT.sIx n 0 lo:Nat):Int)/\(sliceBounds lo hi none n).2.1=((HT.sIx n n hi:Nat):Int)/\(sliceBounds lo hi none n).2.2=1:=by
 refine ⟨?_,?_,rfl⟩
 · cases lo with
   | none=>simp [sliceBounds,HT.sIx]
   | some i=>
     simp only [sliceBounds,HT.sIx,Option.getD_none,show (1:Int) > 0 by decide,if_true]
     by_cases h:i < 0
     · simp only [h,if_true] <;> omega
     · simp only [h,if_false] <;> omega
 · cases hi with
   | none=>simp [sliceBounds,HT.sIx]
   | some i=>
     simp only [sliceBounds,HT.sIx,Option.getD_none,show (1:Int) > 0 by decide,if_true]
     by_cases h:i < 0
     · simp only [h,if_true] <;> omega
     · simp only [h,if_false] <;> omega
theorem qp (its:List Value) (lo hi:Option Int):slicePick its.toArray lo hi none=((its.drop (HT.sIx its.length 0 lo)).take (HT.sIx its.length its.length hi - HT.sIx its.length 0 lo)).toArray:=by
 obtain ⟨h1,h2,h3⟩:=qY lo hi its.toArray.size
 unfold slicePick
 rw [h1,h2,h3]
 simp only [sliceRange_one,pick_run,List.size_toArray] <;> rfl
def FZ (K:PySem.W.Frag):V->Option Int->Option Int->Hp->VK->Prop:=fun x lo hi H Q=>∃ a xs,x= .ref a/\SqL K H a xs/\∀ p,H p=none->Q (.ref p) (upd H p (.lst (oY xs lo hi)))
theorem CG:SlR X (FZ X.K):=by
 intro pins s σ H x v vl vu lo hi sl Q I rx hs pl pu h
 obtain ⟨a,xs,rfl,hx,q⟩:=h
 cases rx
 obtain ⟨its,r,ht,hz⟩:=I.list hx
 have hlen:=r.length
 refine ⟨"list",_,slot_list_getitem.lookup,ht.isList.typeIs,?_⟩
 refine wpAny_getItem_list_slice ht.isList hs pl pu .none (by simp) ?_ (by rw [List.size_toArray] <;> omega)
 rw [qp,<- hlen]
 refine ⟨.ref s.heap.objs.size,_,I.laid (t':=s.toks) (o:=.lst (oY xs lo hi)) (fun b ob q=>Heap.get?_push_of_some _ q) (Nat.le_refl _) ?_,rfl,q _ (I.hok.fresh (Nat.le_refl _))⟩
 exact ⟨Nat.le_trans (mJ xs lo hi) hz,_,0,(r.drop (HT.sIx xs.length 0 lo)).take (HT.sIx xs.length xs.length hi - HT.sIx xs.length 0 lo),Heap.get?_push_size _ rfl⟩
theorem aK:eO X (.builtin "len") (fun xs H Q=>∃ p ys,xs= [.ref p]/\(SqL X.K H p ys\/SqT X.K H p ys)/\Q (.int ys.length) H):=by
 intro pins s σ H xs us Q I r h
 obtain ⟨p,ys,rfl,hq,q⟩:=h
 obtain ⟨u,rfl,rx⟩:=vals1 r
 cases rx
 have hn:=kE
 rcases hq with hq | hq
 · obtain ⟨its,r',pl,hz⟩:=I.list hq
   have hlen:=r'.length
   exact Calls.call_len_list pl.isList (by simp only [List.size_toArray] <;> omega) ⟨.int ys.length,H,I.tok _,⟨s.toks + 1,by rw [List.size_toArray,hlen]⟩,q⟩
 · obtain ⟨its,r',pl,hz⟩:=I.tuple hq
   have hlen:=r'.length
   exact len_tuple pl (by simp only [List.size_toArray] <;> omega) ⟨.int ys.length,H,I.tok _,⟨s.toks + 1,by rw [List.size_toArray,hlen]⟩,q⟩
theorem qZ:eO X (.type "list") (fun xs H Q=>∃ p ys,xs= [.ref p]/\(SqL X.K H p ys\/SqT X.K H p ys)/\∀ l,H l=none->Q (.ref l) (upd H l (.lst ys))):=by
 intro pins s σ H xs us Q I r h
 obtain ⟨p,ys,rfl,hq,q⟩:=h
 obtain ⟨u,rfl,rx⟩:=vals1 r
 cases rx
 have fin:∀ (its:List Value),Vals ys its->ys.length <= sizeLine->∀ (h':Heap) (c':Nat),(∀ b o',s.heap.get? b=some o'->h'.get? b=some o')->
  h'.get? s.heap.objs.size=some { cls:=.type "list",dict:=none,data:=.seq its.toArray c',slots:=#[] }->EP X pins σ Q (.ref s.heap.objs.size) { s with heap:=h' }:=fun its r' hz h' c' kp e=>
  ⟨.ref s.heap.objs.size,_,I.laid (t':=s.toks) kp (Nat.le_refl _) (show bO X.prog X.w _ h' _ (.lst ys) from ⟨hz,its,c',r',e⟩),rfl,q _ (I.hok.fresh (Nat.le_refl _))⟩
 rcases hq with hq | hq
 · obtain ⟨its,r',pl,hz⟩:=I.list hq
   have hlen:=r'.length
   obtain ⟨o,ho,hc,n,hd⟩:=pl.isList
   exact call_list_seq p (.inl rfl) ho hc hd (fun h' c' kp e=>fin its r' hz h' c' kp e) (by simp only [List.size_toArray] <;> omega)
 · obtain ⟨its,r',pl,hz⟩:=I.tuple hq
   have hlen:=r'.length
   obtain ⟨o,ho,hc,n,hd⟩:=pl
   exact call_list_seq p (.inr rfl) ho hc hd (fun h' c' kp e=>fin its r' hz h' c' kp e) (by simp only [List.size_toArray] <;> omega)
def tyV (K:PySem.W.Frag) (T:String) (x:V) (H:Hp):Prop:=match x with
 | .str _=>T= "str"
 | .int _=>T= "int"
 | .ref p=>(T= "list"/\∃ xs,SqL K H p xs)\/(T= "tuple"/\∃ o,K.lookup p=some o/\o.cls= .type "tuple"/\o.dict=none)\/
    (T= "dict"/\((∃ kvs,H p=some (.dK kvs))\/∃ kvs,H p=some (.dT kvs)))\/(T= "set"/\∃ S n,H p=some (.set S n))
 | _=>False
theorem F_ {pins:List (Addr × Obj)} {σ:St} {H:Hp} {s:Shared} {T:String} {x:V} {v:Value} (I:Inv X pins σ H s) (r:RelV x v) (ty:tyV X.K T x H):
 s.TypeIs v T/\∀ a,v= .ref a->∃ ob,s.heap.get? a=some ob/\ob.dict=none:=by
 cases x with
 | str z=>
   obtain ⟨t,rfl⟩:=r
   cases (show T= "str" from ty)
   exact ⟨typeIs_str s z t,fun _ e=>nomatch e⟩
 | int i=>
   obtain ⟨t,rfl⟩:=r
   cases (show T= "int" from ty)
   exact ⟨typeIs_int s i t,fun _ e=>nomatch e⟩
 | ref p=>
   cases r
   rcases ty with ⟨rfl,xs,hq⟩ | ⟨rfl,o,hk,hc,hd⟩ | ⟨rfl,hk⟩ | ⟨rfl,S,n,hk⟩
   · obtain ⟨its,_,pl,_⟩:=I.list hq
     refine ⟨pl.isList.typeIs,fun a e=>?_⟩
     cases e
     obtain ⟨o,n,e,c,hd,_⟩:=pl
     exact ⟨o,e,hd⟩
   · refine ⟨⟨o,I.kIn p o hk,hc⟩,fun a e=>?_⟩
     cases e
     exact ⟨o,I.kIn _ o hk,hd⟩
   · have z:∃ o,s.heap.get? p=some o/\o.ExactDict:=by
      rcases hk with ⟨kvs,hk⟩ | ⟨kvs,hk⟩
      · obtain ⟨_,_,_,_,o,_,_,e,ex,_⟩:=I.hok p _ hk
        exact ⟨o,e,ex⟩
      · obtain ⟨_,_,_,_,o,_,_,e,ex,_⟩:=I.hok p _ hk
        exact ⟨o,e,ex⟩
     obtain ⟨o,e,ex⟩:=z
     refine ⟨⟨o,e,ex.1⟩,fun a e2=>?_⟩
     cases e2
     exact ⟨o,e,ex.2.1⟩
   · obtain ⟨o,_,_,_,e,ex,_⟩:=I.hok p _ hk
     refine ⟨⟨o,e,ex.1⟩,fun a e2=>?_⟩
     cases e2
     exact ⟨o,e,ex.2.1⟩
 | _=>exact False.elim ty
def tBM (K:PySem.W.Frag) (T:String) (r:V->List V->Hp->VK->Prop) (to:TE) (t:TA):TE:=fun σ H Q=>to σ H fun x H1=>tyV K T x H1/\t σ H1 fun xs H2=>r x xs H2 Q
variable {o e:Expr} {es:List Expr} {to:TE} {t:TA} {name:Str} {apos cpos:Pos} {T id:String} {r:V->List V->Hp->VK->Prop}
theorem vp (pa:PlainAttrs T) (slot:Slot T name id) (hty:typeOf (.builtin id)=pure (.type "method_descriptor")) (hm:MtR X id r) (ho:PE X o to) (ha:PA X (e::es) t)
 (hbase:attributeBase o name X.env (eval o X.env)=eval o X.env:=by rfl)
 (hfew:((backTo cpos (starEach (e::es) X.env)).all (fun x=> !x.1) && (backToKw cpos (keywordEach [] X.env)).all (fun x=>x.1.isSome)
   && decide ((e::es).length + ([]:List Keyword).length + (if ([]:List Keyword).isEmpty then 0 else 1) < 30))=true:=by rfl)
 (hline:(apos.endLine == cpos.line)=true:=by rfl) (hs:starEach (e::es) X.env=(false,eval e X.env)::starEach es X.env:=by rfl) (hplain:(backTo cpos (starEach es X.env)).any (·.1)=false:=by rfl):
 PE X (.Call (.Attribute o name apos) (e::es) [] cpos) (tBM X.K T r to t):=by
 intro pins s σ H Q I h
 refine wpAny_Call_method_late hbase hfew hline rfl (thn (ho pins s σ H _ I h) fun v s1 ⟨x,H1,I1,r1,ty,q1⟩=>?_)
 obtain ⟨h1,h2⟩:=F_ I1 r1 ty
 refine ⟨T,id,pa,slot,hty,h1,h2,?_⟩
 have hA:=ha cpos pins s1 σ H1 _ I1 q1
 rw [hs] at hA ⊢
 refine Calls.callWith_builtin (by show (false || (backTo cpos (starEach es X.env)).any (·.1))=false;rw [hplain] <;> rfl) (Calls.evalArgs_plain ?_)
 exact thn hA fun us s2 ⟨vs,H2,I2,r2,q2⟩=>hm pins s2 σ H2 x vs v us Q I2 r1 r2 q2
end
end L2
namespace L2
open PySem PySem.Spec PyProof.Rows
def MtM (X:Cx) (id:String) (r:V->List V->Hp->VK->Prop):Prop:=
 ∀ (pins:List (Addr × Obj)) (s:Shared) (σ:St) (H:Hp) (x:V) (xs:List V) (v:Value) (us:List Value) (Q:VK),Inv X pins σ H s->RelV x v->Vals xs us->r x xs H Q->
   wpAny (model X.prog X.w) X.A (call (.builtin id) (v::us)) (EP X pins σ Q) X.xe s
theorem Vals.one:∀ {x:V} {us:List Value},Vals [x] us->∃ u,us= [u]/\RelV x u
 | _,_,.cons r .nil=>⟨_,rfl,r⟩
theorem Vals.rep {xs:List V} {us:List Value} (h:Vals xs us):∀ k:Nat,Vals (List.replicate k xs).flatten (List.replicate k us).flatten
 | 0=>.nil
 | k + 1=>by
   rw [List.replicate_succ,List.replicate_succ,List.flatten_cons,List.flatten_cons]
   exact Vals.append h (Vals.rep h k)
theorem foldl_rep (its:List Value):∀ (k:Nat) (acc:List Value),
 List.foldl (fun x1 x2=>x1 ++ x2) acc.toArray (List.replicate k its.toArray)=(acc ++ (List.replicate k its).flatten).toArray
 | 0,acc=>by simp
 | k + 1,acc=>by
   have e:acc.toArray ++ its.toArray=(acc ++ its).toArray:=by simp
   have e2:(acc ++ its) ++ (List.replicate k its).flatten=acc ++ (List.replicate (k + 1) its).flatten:=by
    rw [List.replicate_succ,List.flatten_cons,List.append_assoc]
   rw [<- e2,<- foldl_rep its k (acc ++ its),<- e,List.replicate_succ,List.foldl_cons]
section
variable {X:Cx} {pins:List (Addr × Obj)} {σ:St} {H:Hp} {s:Shared} {l b:Addr} {xs ys zs:List V}
theorem Inv.KH {its its':List Value} {n:Nat} {f:Array Value->Array Value} {t':Nat} (I:Inv X pins σ H s) (hH:H l=some (.lst xs))
 (e:s.heap.get? l=some { cls:=.type "list",data:=.seq its.toArray n }) (hf:f its.toArray=its'.toArray) (hv:Vals ys its') (hz:ys.length <= sizeLine):
 Inv X pins σ (upd H l (.lst ys)) { s with heap:=s.heap.update l (Obj.mapSeq f),toks:=t' }:=by
 have q:=PySem.IsL.update e f
 rw [hf] at q
 refine I.write (x:=l) (e:=l) (by rw [hH];exact trivial) (.inl rfl) (fun b' u hb hu=>(Heap.get?_update_other s.heap (Obj.mapSeq f) (Ne.symm hb)).trans hu) ⟨_,q⟩ ?_
 exact ⟨hz,its',_,hv,q⟩
theorem Inv.zA {its:List Value} {t':Nat} (I:Inv X pins σ H s) (hv:Vals ys its) (hz:ys.length <= sizeLine):
 Inv X pins σ (upd H s.heap.objs.size (.lst ys)) { s with heap:=s.heap.push { cls:=.type "list",data:=.seq its.toArray },toks:=t' }:=
 I.laid (fun _ _ q=>Heap.get?_push_of_some _ q) (Nat.le_refl _) ⟨hz,its,0,hv,Heap.get?_push_size _ rfl⟩
theorem Inv.fresh (I:Inv X pins σ H s):H s.heap.objs.size=none:=I.hok.fresh (Nat.le_refl _)
theorem Inv.vq (I:Inv X pins σ H s) (hH:H l=some (.lst xs)):xs.length <= sizeLine/\∃ (its:List Value) (n:Nat),Vals xs its/\xs.length=its.length/\s.heap.get? l=some { cls:=.type "list",data:=.seq its.toArray n }:=by
 obtain ⟨z,its,n,r,e⟩:=I.hok l _ hH
 exact ⟨z,its,n,r,r.length,e⟩
theorem zB {n:Nat} (h:n <= sizeLine):Builtin.List.listTooLong n=false:=by
 unfold Builtin.List.listTooLong
 exact decide_eq_false (by omega)
end
section
variable {X:Cx}
def CJ:V->List V->Hp->VK->Prop:=fun x vs H Q=>∃ l xs y,x= .ref l/\vs= [y]/\H l=some (.lst xs)/\xs.length < sizeLine/\Q .non (upd H l (.lst (xs ++ [y])))
theorem kI:MtM X "list.append" CJ:=by
 intro pins s σ H x vs v us Q I rx rv h
 obtain ⟨l,xs,y,rfl,rfl,hH,hz,q⟩:=h
 cases rx
 obtain ⟨u,rfl,ru⟩:=rv.one
 obtain ⟨z,its,n,r,hl,e⟩:=I.vq hH
 refine call_meets F.slot_list_append ⟨_,e,rfl⟩ F.entry_list_append (F.args_list_append_2 _ _) (PySem.list_append l its.toArray n u (by rw [List.size_toArray];omega)) ⟨e,?_⟩
 refine ⟨.non,_,I.KH (its':=its ++ [u]) hH e (by simp) (r.append (.cons ru .nil)) ?_,rfl,q⟩
 rw [List.length_append,List.length_singleton]
 omega
def Ga:R2:=fun x y H Q=>∃ l b xs zs,x= .ref l/\y= .ref b/\H l=some (.lst xs)/\H b=some (.lst zs)/\xs.length + zs.length <= sizeLine/\∀ p,H p=none->Q (.ref p) (upd H p (.lst (xs ++ zs)))
theorem d9:OpR X (binaryOp .Add) Ga:=by
 intro pins s σ H x y v u Q I rx ry h
 obtain ⟨l,b,xs,zs,rfl,rfl,hH,hB,hz,q⟩:=h
 cases rx
 cases ry
 obtain ⟨z,its,n,r,hl,e⟩:=I.vq hH
 obtain ⟨z2,its2,n2,r2,hl2,e2⟩:=I.vq hB
 refine PySem.P.add_list e e2 ?_ (by rw [List.size_toArray,List.size_toArray];omega)
 have ea:its.toArray ++ its2.toArray=(its ++ its2).toArray:=by simp
 rw [ea]
 exact ⟨.ref _,_,I.zA (t':=s.toks) (r.append r2) (by rw [List.length_append];omega),rfl,q _ I.fresh⟩
def Gb:R2:=fun x y H Q=>∃ l k xs,x= .ref l/\y= .int k/\H l=some (.lst xs)/\-(2 ^ 63) <= k/\k < 2 ^ 63/\xs.length * k.toNat <= sizeLine/\
 ∀ p,H p=none->Q (.ref p) (upd H p (.lst (List.replicate k.toNat xs).flatten))
theorem len_rep {α:Type} (xs:List α) (k:Nat):(List.replicate k xs).flatten.length=k * xs.length:=by
 induction k with
 | zero=>simp
 | succ k ih=>rw [List.replicate_succ,List.flatten_cons,List.length_append,ih,Nat.succ_mul,Nat.add_comm]
theorem bI:OpR X (binaryOp .Mult) Gb:=by
 intro pins s σ H x y v u Q I rx ry h
 obtain ⟨l,k,xs,rfl,rfl,hH,h1,h2,hz,q⟩:=h
 cases rx
 obtain ⟨t,rfl⟩:=ry
 obtain ⟨z,its,n,r,hl,e⟩:=I.vq hH
 have hlen:its.toArray.size * k.toNat <= sizeLine:=by rw [List.size_toArray,<- hl];exact hz
 have hcap:¬ its.toArray.size * k.toNat > (2 ^ 63 - 1) / 8:=by
  have:(sizeLine:Nat) <= (2 ^ 63 - 1) / 8:=by decide
  omega
 have hfit:¬ (!Builtin.List.listFitsIndex k)=true:=by
  rw [fitsIndex_both h1 h2]
  exact Bool.false_ne_true
 have Jj:¬ Builtin.List.listTooLong (its.toArray.size * k.toNat)=true:=by
  rw [zB hlen]
  exact Bool.false_ne_true
 have hnew:List.foldl (fun x1 x2=>x1 ++ x2) #[] (List.replicate (if its.toArray.isEmpty=true then 0 else k.toNat) its.toArray)=(List.replicate k.toNat its).flatten.toArray:=by
  have f0:∀ m:Nat,List.foldl (fun x1 x2=>x1 ++ x2) #[] (List.replicate m its.toArray)=(List.replicate m its).flatten.toArray:=fun m=>by
   have:=foldl_rep its m []
   rw [List.nil_append] at this
   exact this
  rw [f0]
  cases its with
  | nil=>simp
  | cons a r'=>rw [if_neg (by simp)]
 refine wpAny_binaryOp_repeat_ref (T:="list") (U:="int") (by decide) ⟨_,e,rfl⟩ (fun s'=>typeIs_int s' k t) noFill_list_mul F.fills_int_mul F.slot_int_rmul repeat_list F.slot_int_index.lookup
  (call_meets F.slot_int_rmul (typeIs_int s k t) F.entry_int_rmul (F.args_int_rmul_2 _ _) (int___rmul___int_list k t l its.toArray n)
    ⟨e,rfl,⟨_,e,rfl⟩,call_meets F.slot_list_mul ⟨_,e,rfl⟩ F.entry_list_mul (F.args_list_mul_2 _ _) (AutoListH.list___mul___list_int_3 l its.toArray n k t hfit hcap Jj) ⟨e,?_⟩⟩)
 rw [hnew]
 exact ⟨.ref _,_,I.zA (t':=s.toks) (r.rep k.toNat) (by rw [len_rep,Nat.mul_comm];exact hz),rfl,q _ I.fresh⟩
end
section
variable {prog:Program} {w:World} {A:Around} {E:Value->Shared->Prop} {s:Shared}
set_option maxRecDepth 100000 in
end
section
variable {X:Cx}
end
end L2
namespace Att
open PySem PySem.W PySem.Calls PyProof.Rows
theorem nJ {P:Params} {h:Heap}:∀ (ns:List Int) (vs:List Value),WellAll P h vs (ns.map WData.int)->IntsAre vs ns:=by
 intro ns
 induction ns with
 | nil=>
   intro vs w
   rw [List.map_nil] at w
   cases w
   exact .nil
 | cons n ns ih=>
   intro vs w
   rw [List.map_cons] at w
   cases w with
   | cons a b=>
     cases a
     exact .cons _ _ (ih _ b)
theorem wY {l:OpenLaw} {n:Nat} (hn:l.most=some n) {P:Params} {h:Heap} {args:List WData} {vals:List Value}
 (hpre:l.row.toRowW.claim.pre args=true) (hwl:WellAll P h vals args):
 ∃ a vs ns,vals= [Value.ref a]/\args= [WData.list (ns.map WData.int)]/\h.get? a=some { cls:=.type "list",data:=.seq vs.toArray }/\IntsAre vs ns/\ns.length <= n:=by
 have hsh:WShape.hasAll [] args [.list .int] =true:=(pre_splitW hpre).1
 have hc:l.pre.holds [] { args:=args } =true:=(pre_splitW hpre).2
 obtain ⟨d,r,rfl,h1,h2⟩:=hasAllW_cons hsh
 obtain rfl:=hasAllW_nil h2
 obtain ⟨xs,rfl,h3⟩:=hasW_list h1
 obtain ⟨ns,rfl⟩:=items_int h3
 have hlen:ns.length <= n:=by
  unfold OpenLaw.pre at hc
  have h4:(WTm.not (.lt (.lit (.int (n:Int))) (.len (.arg 0)))).holds [] { args:=[.list (ns.map .int)] } =true:=by
   have h4:=(holds_andW hc).1
   rw [hn] at h4
   exact h4
  have h5:=condW_of h4 (w_not (w_lt w_lit (w_len_list (w_arg rfl))))
  rw [List.length_map] at h5
  refine Nat.le_of_not_lt fun q=>?_
  have q':(n:Int) < ((ns.length:Nat):Int):=by omega
  first
   | (rw [decide_eq_true q'] at h5;exact absurd h5 (by decide))
   | (simp at h5;omega)
 cases hwl with
 | cons w1 w2=>
   cases w2
   cases w1 with
   | list ho hall=>exact ⟨_,_,ns,rfl,rfl,ho,nJ ns _ hall,hlen⟩
theorem wZ (l:OpenLaw) (args:List WData):l.row.toRowW.claim.post args (.bool true) args=true:=
 postW_of (r:=l.row.toRowW) (X:=(true == true))
  (show WShape.has [] (.bool true) .bool=true by first | rfl | decide | simp [WShape.has,WShape.arms,WShape.armsAll])
  (show (WTm.eq .res (.lit (.bool true))).value [] { args:=args,res:=some (.bool true),after:=args } =some (.bool (true == true)) from w_eq_bool (w_res rfl) w_lit) rfl
theorem t8 {l:OpenLaw} {n:Nat} {q:Program} {loose:List Str} {XP:(Str->Option Value)->Heap->Prop} {YP:World->Heap->Prop} {d:DefRec}
 (hn:l.most=some n) (hdf:d.params.defaults= [])
 (call:∀ (w:World) (s₀ s₁:Shared) (mg mb:Str->Option Value) (fa:Addr) (o:Obj) (pm cd doc:Value) (a:Addr) (vs:List Value) (ns:List Int),
   Ground q loose [] XP w s₀ mg mb s₁.heap->YP w s₁.heap->
   s₁.heap.get? fa=some o->o.data= .func (docDef d.name d.params d.body d.scope pm cd doc)->s₁.heap.CodeRec cd d.name->mg d.name=some (.ref fa)->
   s₁.heap.get? a=some { cls:=.type "list",data:=.seq vs.toArray }->IntsAre vs ns->ns.length <= n->s₁.gens= #[]->
   codeAny (model l.prog w) callerA (.call (.ref fa) ⟨[.ref a],[]⟩) (fun r s'=>r= .ok (.ret (.bool true))/\OldK s₁.heap s'.heap/\s'.os=s₁.os/\AllBare s'.gens) s₁):
 WalkO q loose XP YP l.row.toRowW d [] (fun f vs=>PySem.call f vs):=by
 intro w s₀ s₁ mg mb G Y fa o pm cd doc dV kV ho hd hcd hD hmg hg args vals as hpre hlay hrd hwl hlo
 obtain rfl:dV= .none:=Dflts.none hD hdf
 obtain rfl:kV= .none:=Dflts.noKw hD
 obtain ⟨a,vs,ns,rfl,rfl,hobj,hints,hlen⟩:=wY hn hpre hwl
 refine enter_call (codeAny_mono (call w s₀ s₁ mg mb fa o pm cd doc a vs ns G Y ho (fd_plain hd) hcd hmg hobj hints hlen hg) fun r s' hq=>?_)
 obtain ⟨rfl,h2,h3,h4⟩:=hq
 exact ⟨.inl ⟨.bool true,.bool true,[],rfl,fun _=>rfl,.bool true,wZ l _,fun _=>⟨List.Pairwise.nil,fun _ hm=>(nomatch hm)⟩⟩,h2,h3,h4⟩
section
variable {prog:Program} {w:World} {A:Around} {E:Value->Shared->Prop} {s:Shared} {K:Frag}
end
end Att
namespace L2
open PySem PySem.Spec PyProof.Rows
theorem gH:∀ {vs:List Value} {ns:List Int},IntsAre vs ns->Vals (ns.map V.int) vs
 | _,_,.nil=>.nil
 | _,_,.cons n t h=>.cons ⟨t,rfl⟩ (gH h)
def Only (H:Hp):Prop:=∀ b,H b=none\/∃ o xs,H b=some (.frz o (.lst xs))
theorem zE {P:Program} {w:World} {K:PySem.W.Frag} {mg mb:Str->Option Value} {CX:CXT} {k:Nat} {fa a:Addr} {fd:FuncData} {x:Str} {sp:Sp} {s₁:Shared} {vs:List Value} {ns:List Int}
 (KX:K.In s₁.heap) (hns:s₁.heap.Ns mainGlobals mg) (hb:s₁.heap.Ns builtinsNs mb) (hbb:∀ x:Str,x ≠ "__name__"->mb x=bootBuiltins x) (hlim:s₁.heap.NoLimit) (hg:s₁.gens= #[])
 (ha:s₁.heap.get? a=some { cls:=.type "list",data:=.seq vs.toArray }) (hi:IntsAre vs ns) (hl:ns.length <= sizeLine) (hr:bR k callerA)
 (F:∀ base:Heap,K.In base->base.Ns mainGlobals mg->b8 P w K mg base CX k fa fd [x] sp) (hbind:∀ (s:Shared) (u:Value),BindsTo s fd ⟨[u],[]⟩ [(x,u)])
 (hsp:∀ H:Hp,Only H->SqL K H a (ns.map V.int)->sp [.ref a] H (fun v _=>v= .bl true) fun _ _ _=>False)
 (hCX:∀ H e s',CX [] H s₁ (fun _ _ _=>False) e s'->False):
 codeAny (model P w) callerA (.call (.ref fa) ⟨[.ref a],[]⟩) (fun r s'=>r= .ok (.ret (.bool true))/\OldK s₁.heap s'.heap/\s'.os=s₁.os/\AllBare s'.gens) s₁:=by
 have rv:=gH hi
 have lenV:=hi.length
 have core:∀ H:Hp,Only H->SqL K H a (ns.map V.int)->HOk P w H s₁.heap->(∀ b,H b ≠ none->b=a)->(H a ≠ none->K.lookup a=none)->
  codeAny (model P w) callerA (.call (.ref fa) ⟨[.ref a],[]⟩) (fun r s'=>r= .ok (.ret (.bool true))/\OldK s₁.heap s'.heap/\s'.os=s₁.os/\AllBare s'.gens) s₁:=by
  intro H hO hS hok hA hK
  have ur:∀ {b:Addr} {o:Obj},s₁.heap.get? b=some o->H b=none->(jC s₁.heap H).get? b=some o:=fun e n=>yU e n
  have noA:∀ {b:Addr} {o:Obj} {es:Array DictEntry} {ep:Nat},s₁.heap.get? b=some o->o.data= .dict es ep->H b=none:=fun {b o es ep} e d=>by
   cases q:H b with
   | none=>rfl
   | some u=>
     have e':b=a:=hA b (by rw [q];simp)
     subst e'
     rw [ha] at e;cases e
     have d':Data.seq vs.toArray _=Data.dict es ep:=d
     cases d'
  have nsK:∀ {b:Addr} {m:Str->Option Value},s₁.heap.Ns b m->(jC s₁.heap H).Ns b m:=fun {b m} ⟨o,es,ep,e,d,r⟩=>⟨o,es,ep,ur e (noA e d),d,r⟩
  have hKb:K.In (jC s₁.heap H):=fun b o e=>ur (KX b o e) (by
   cases q:H b with
   | none=>rfl
   | some u=>
     have e':b=a:=hA b (by rw [q];simp)
     subst e'
     rw [hK (by rw [q];simp)] at e;cases e)
  have hM:Mod K mg (jC s₁.heap H):=⟨hKb,nsK hns,⟨mb,nsK hb,hbb⟩,let ⟨mc,h1,h2⟩:=hlim;⟨mc,nsK h1,h2⟩⟩
  have e0:uZ P w K mg (jC s₁.heap H) callerA [] s₁ H:=⟨rfl,hM,fun b o e=>Ci e,Nat.le_of_eq (wJ _ _),trivial,fun b hb=>absurd (show b ∈ ([]:List Addr) from hb) (by simp),hok,.of_eq hg⟩
  refine codeAny_mono ((F _ hKb (nsK hns)).run callerA [] s₁ H ⟨[.ref a],[]⟩ [.ref a] [.ref a] _ _ hr e0 (hbind s₁ (.ref a)) (.cons rfl .nil) (hsp H hO hS)) fun r s' h=>?_
  cases r with
  | error e=>exact (hCX H e s' h).elim
  | ok fl=>
    cases fl with
    | next=>exact False.elim h
    | brk=>exact False.elim h
    | cont=>exact False.elim h
    | ret u=>
      obtain ⟨v,H',os,bare,un,hok',r',q⟩:=h
      have q':v= .bl true:=q
      subst q'
      obtain rfl:u=Value.bool true:=r'
      refine ⟨rfl,OldK.of_keep fun b o e=>?_,os,bare⟩
      cases q:H b with
      | none=>exact un.keep b o e q (by intro z;exact absurd (show b ∈ ([]:List Addr) from z) (by simp)) (by simp)
      | some u=>
        rcases hO b with z | ⟨ob,xs,z⟩
        · rw [q] at z;cases z
        · have z2:=un.eV b ob _ z
          obtain ⟨e1,_⟩:=hok b _ z
          obtain ⟨e2,_⟩:=hok' b _ z2
          rw [e] at e1;cases e1
          exact e2
 cases hk:K.lookup a with
 | some o=>
   have e:=KX a o hk
   rw [ha] at e
   cases e
   refine core (fun _=>none) (fun _=>.inl rfl) (.inr ⟨_,vs.toArray,_,hk,rfl,rfl,rfl,by rw [List.size_toArray,lenV];exact hl,by simpa using rv⟩) (fun b u z=>by have z':(none:Option HO)=some u:=z;cases z') (fun b z=>absurd rfl z) fun z=>absurd rfl z
 | none=>
   refine core (fun b=>if b=a then some (.frz { cls:=.type "list",data:=.seq vs.toArray } (.lst (ns.map V.int))) else none) (fun b=>?_) (.inl (.inr ⟨{ cls:=.type "list",data:=.seq vs.toArray },if_pos rfl⟩)) (fun b u z=>?_) (fun b z=>?_) fun _=>hk
   · by_cases hb:b=a
     · exact .inr ⟨_,_,if_pos hb⟩
     · exact .inl (if_neg hb)
   · by_cases hb:b=a
     · have z':=(if_pos hb).symm.trans z
       cases z'
       subst hb
       exact ⟨ha,by rw [List.length_map];exact hl,vs,_,rv,ha⟩
     · have z':=(if_neg hb).symm.trans z
       cases z'
   · by_cases hb:b=a
     · exact hb
     · exact absurd (if_neg hb) z
end L2
namespace L2
open PySem PySem.Spec PyProof.Rows
theorem CK {l:PySem.W.OpenLaw} {n k:Nat} {q:Program} {loose:List Str} {XP:(Str->Option Value)->Heap->Prop} {YP:World->Heap->Prop} {d:DefRec} {K:Params->PySem.W.Frag} {CX:World->CXT} {sp:World->Sp} {x:Str}
 (hn:l.most=some n) (hn2:n <= sizeLine) (hdf:d.params.defaults= []) (hr:bR k callerA)
 (hY:∀ (w:World) (h:Heap),YP w h->(K w.params).In h)
 (F:∀ (w:World) (mg:Str->Option Value) (fa:Addr) (h:Heap),(K w.params).In h->h.Ns mainGlobals mg->mg d.name=some (.ref fa)->
   ∃ fd:FuncData,(∀ (s:Shared) (u:Value),BindsTo s fd ⟨[u],[]⟩ [(x,u)])/\
     ∀ base:Heap,(K w.params).In base->base.Ns mainGlobals mg->b8 l.prog w (K w.params) mg base (CX w) k fa fd [x] (sp w))
 (hsp:∀ (w:World) (H:Hp) (a:Addr) (ns:List Int),ns.length <= n->Only H->SqL (K w.params) H a (ns.map V.int)->sp w [.ref a] H (fun v _=>v= .bl true) fun _ _ _=>False)
 (hCX:∀ (w:World) (H:Hp) (s:Shared) (e:Value) (s':Shared),CX w [] H s (fun _ _ _=>False) e s'->False):
 PySem.W.WalkO q loose XP YP l.row.toRowW d [] (fun f vs=>PySem.call f vs):=by
 refine Att.t8 hn hdf fun w s₀ s₁ mg mb fa o pm cd doc a vs ns G Y ho hd hcd hmg hobj hints hlen hg=>?_
 have KX:=hY w _ Y
 obtain ⟨fd,hb,hF⟩:=F w mg fa _ KX G.T.g hmg
 exact zE KX G.T.g G.T.b G.T.builtins G.T.nolimit hg hobj hints (Nat.le_trans hlen hn2) hr hF hb (fun H hO hS=>hsp w H a ns hlen hO hS) fun H e s'=>hCX w H s₁ e s'
end L2
namespace L2
open PySem PySem.Spec PyProof.Rows
def dH (s:Stmt):Arguments:=match s with
 | .FunctionDef _ a _ _ _ _ _ _ _ _=>a
 | _=>{ posonlyargs:=[],args:=[],vararg:=none,kwonlyargs:=[],kw_defaults:=[],kwarg:=none,defaults:=[] }
def bQ (s:Stmt):List Stmt:=match s with
 | .FunctionDef _ _ b _ _ _ _ _ _ _=>b
 | _=>[]
def aa (s:Stmt):Scope:=match s with
 | .FunctionDef _ _ _ _ _ _ sc _ _ _=>sc
 | _=>{ kind:=.function,names:=[],isGenerator:=false,isCoroutine:=false }
abbrev CX0:CXT:=fun _ _ _ _ _ _=>False
abbrev E0:XK:=fun _ _ _=>False
theorem Jk {X:Cx}:Passes CX0 X E0:=fun _ _ _ _ _ _ _ h=>h.elim
structure Fun (K:PySem.W.Frag) (x qual:Str) (st:Stmt) (f:Addr) (fd:FuncData):Prop where
 ex:∃ (oc:Value) (od:Option Addr) (kV doc pm:Value) (an:Option Addr) (cdv ct:Value) (osl:Array (Option Value)),
  fd=PySem.W.fnOf x qual (dH st) (bQ st) (aa st) .none kV doc pm an cdv ct/\K.lookup f=some ⟨oc,od,.func fd,osl⟩/\PySem.W.codeIn K cdv qual=true
 kp:PySem.W.keepIn K (.ref f)=true
section
variable {P:Program} {w:World} {K:PySem.W.Frag} {mg:Str->Option Value} {base:Heap}
theorem Fun.ok {x qual:Str} {st:Stmt} {f:Addr} {fd:FuncData} {N ps:List Str} {k:Nat} {sp:Sp} (F:Fun K x qual st f fd) (S:aN N ps (aa st)) (len:∀ vs H Q E,sp vs H Q E->vs.length=ps.length)
 (hbody:∀ (cdv:Value) (A:Around) (outer:List Env) (s:Shared) (H:Hp) (vs:List V) (Q:VK) (E:XK),bR k (A.deeper (envOfC qual (aa st) s.heap.objs.size f cdv))->sp vs H Q E->
   ∃ t,PSs (jd CX0 P w K mg base N qual (aa st) f cdv A outer s H E).nox (bQ st) t/\t { nx:=fun _ H'=>Q .non H',rt:=Q } (start N vs) H):b8 P w K mg base CX0 (k + 1) f fd ps sp:=by
 obtain ⟨oc,od,kV,doc,pm,an,cdv,ct,osl,rfl,lk,hcd⟩:=F.ex
 refine vd lk hcd S len fun A outer s H vs Q E hr hsp=>?_
 obtain ⟨t,h,q⟩:=hbody cdv A outer s H vs Q E hr hsp
 exact ⟨t,h.nox,q⟩
theorem Fun.binds {x qual:Str} {st:Stmt} {f:Addr} {fd:FuncData} {ps:List Str} (F:Fun K x qual st f fd)
 (h:∀ (kV doc pm:Value) (an:Option Addr) (cdv ct:Value) (us:List Value),us.length=ps.length->bindArgs (PySem.W.fnOf x qual (dH st) (bQ st) (aa st) .none kV doc pm an cdv ct) ⟨us,[]⟩ =pure (ps.zip us)):Binds K fd ps []:=by
 obtain ⟨oc,od,kV,doc,pm,an,cdv,ct,osl,rfl,lk,hcd⟩:=F.ex
 exact .all (h kV doc pm an cdv ct)
theorem w5 {x qual:Str} {st:Stmt} {f:Addr} {oc:Value} {od an:Option Addr} {osl:Array (Option Value)} {kV doc pm cdv ct:Value} (l:K.lookup f=some ⟨oc,od,.func (PySem.W.fnOf x qual (dH st) (bQ st) (aa st) .none kV doc pm an cdv ct),osl⟩)
 (c:PySem.W.codeIn K cdv qual=true) (k:PySem.W.keepIn K (.ref f)=true):Fun K x qual st f (PySem.W.fnOf x qual (dH st) (bQ st) (aa st) .none kV doc pm an cdv ct):=⟨⟨oc,od,kV,doc,pm,an,cdv,ct,osl,rfl,l,c⟩,k⟩
end
theorem w6 {n:Nat} (h:n <= 1000):n < sizeLine:=Nat.lt_of_le_of_lt h (by decide)
section
variable {X:Cx}
theorem pv (i:Nat) {x:Str} {pos:Pos} (hN:X.N[i]? =some x:=by rfl) (hv:Vis X.env.scope x:=by first | exact Or.inl rfl | exact Or.inr (Or.inl rfl) | exact Or.inr (Or.inr rfl)) (hd:(x == ("__debug__":Str))=false:=by decide)
 (hcd:(x == ("__classdict__":Str))=false:=by decide):PE X (.Name x pos) (Es i):=wL hN hv hd hcd
end
theorem o5 {A B:Prop} (h:B):if false=true then A else B:=by
 rw [if_neg Bool.false_ne_true]
 exact h
theorem o6 {A B:Prop} (h:A):if true=true then A else B:=by
 rw [if_pos rfl]
 exact h
theorem vz {c A B:Prop} [Decidable c] (h1:c->A) (h2:¬ c->B):if c then A else B:=by
 by_cases h:c
 · rw [if_pos h]
   exact h1 h
 · rw [if_neg h]
   exact h2 h
def dW (H H':Hp):Prop:=∀ b o,H b=some o->H' b=some o
theorem dW.trans {H H1 H2:Hp} (a:dW H H1) (b:dW H1 H2):dW H H2:=fun c o h=>b c o (a c o h)
theorem dW.free {H H':Hp} (e:dW H H') {l:Addr} (h:H' l=Option.none):H l=Option.none:=by
 cases q:H l with
 | none=>rfl
 | some o=>
   rw [e l o q] at h
   cases h
end L2
set_option maxRecDepth 1000000
set_option maxHeartbeats 4000000
namespace L2
open PySem PySem.Spec PyProof.Rows
section
variable {κ:Type} [DecidableEq κ]
end
section
variable {P:Program} {w:World} {H:Hp} {h:Heap} {a:Addr}
end
section
variable {X:Cx} {pins:List (Addr × Obj)} {σ:St} {H:Hp} {s:Shared} {a:Addr} {y v:V} {u r:Value} {o:Option V} {A:Around} {E:Value->Shared->Prop}
end
section
variable {X:Cx} {pins:List (Addr × Obj)} {σ:St} {H:Hp} {s:Shared} {a:Addr} {kvs:List (Key × V)} {k:Key} {u:Value} {A:Around} {E:Value->Shared->Prop}
end
section
variable {X:Cx} {o i e value:Expr} {pos pos' tpos:Pos} {td ty tv:TE}
end
section
variable {X:Cx} {pos:Pos}
end
def xg:List (TE × TE)->St->Hp->(List (V × V)->Hp->Prop)->Prop
 | [],_,H,Q=>Q [] H
 | (tk,tv)::r,σ,H,Q=>tk σ H fun x H1=>tv σ H1 fun y H2=>xg r σ H2 fun ps H3=>Q ((x,y)::ps) H3
abbrev VV:List (V × V)->List (Value × Value)->Prop:=Paired fun p q=>RelV p.1 q.1/\RelV p.2 q.2
def PPs (X:Cx) (pos:Pos) (keys:List (Option Expr)) (values:List Expr) (trs:List (TE × TE)):Prop:=
 ∀ (pins:List (Addr × Obj)) (s:Shared) (σ:St) (H:Hp) (Q:List (V × V)->Hp->Prop),Inv X pins σ H s->xg trs σ H Q->
   wpAny (model X.prog X.w) X.A (evalPairs (pairTrees keys values X.env pos)) (fun vs s'=>∃ ps H',Inv X pins σ H' s'/\VV ps vs/\Q ps H') X.xe s
structure M1 (X:Cx) (o:Expr) (m:Str) (apos:Pos) (e:Expr) (cpos:Pos):Prop where
 base:attributeBase o m X.env (eval o X.env)=eval o X.env
 few:((backTo cpos (starEach [e] X.env)).all (fun x=> !x.1) && (backToKw cpos (keywordEach [] X.env)).all (fun x=>x.1.isSome)
  && decide (([e]:List Expr).length + ([]:List Keyword).length + (if ([]:List Keyword).isEmpty then 0 else 1) < 30))=true
 line:(apos.endLine == cpos.line)=true
 trees:backTo cpos (starEach [e] X.env)= [(false,eval e X.env)]
structure M2 (X:Cx) (o:Expr) (m:Str) (apos:Pos) (e f:Expr) (cpos:Pos):Prop where
 base:attributeBase o m X.env (eval o X.env)=eval o X.env
 few:((backTo cpos (starEach [e,f] X.env)).all (fun x=> !x.1) && (backToKw cpos (keywordEach [] X.env)).all (fun x=>x.1.isSome)
  && decide (([e,f]:List Expr).length + ([]:List Keyword).length + (if ([]:List Keyword).isEmpty then 0 else 1) < 30))=true
 line:(apos.endLine == cpos.line)=true
 trees:backTo cpos (starEach [e,f] X.env)= [(false,eval e X.env),(false,eval f X.env)]
section
variable {X:Cx} {pins:List (Addr × Obj)} {σ:St} {H:Hp} {s:Shared} {a:Addr} {y d:V} {u r:Value} {o:Option V} {A:Around} {E:Value->Shared->Prop}
end
section
variable {X:Cx} {o e f:Expr} {apos cpos:Pos} {td ty tx:TE}
end
section
variable {X:Cx} {pins:List (Addr × Obj)} {σ:St} {H:Hp} {s:Shared} {a:Addr} {kvs:List (Key × V)} {A:Around} {E:Value->Shared->Prop}
end
section
variable {X:Cx} {pins:List (Addr × Obj)} {σ:St} {H:Hp} {s:Shared} {a:Addr} {y:V} {u:Value} {A:Around} {E:Value->Shared->Prop}
end
end L2
namespace L2
open PySem PySem.Spec PySem.SeqAt PyProof.Rows
theorem log2_lt_of {n k:Nat} (hk:0 < k) (h:n < 2 ^ k):n.log2 < k:=by
 rcases Nat.eq_zero_or_pos n with h0 | hp
 · rw [h0];exact hk
 · exact (Nat.log2_lt (Nat.ne_of_gt hp)).mpr h
def Sml (i:Int):Prop:=i.natAbs < 2 ^ 4000
theorem mK {i:Int} (h:Sml i):Builtin.Int.intBits i <= 2 ^ 20:=by
 have hl:i.natAbs.log2 < 4000:=log2_lt_of (by decide) h
 have e:(2:Nat) ^ 20=1048576:=by decide
 unfold Builtin.Int.intBits
 split <;> omega
def qH (i j:Int):Prop:=zj i j\/(Sml i/\Sml j)
def Bg (j:Int):Prop:=j ≠ 0/\Sml j
section
variable {X:Cx}
theorem aH:OpR X (binaryOp .Mult) (rI qH fun i j=>.int (i * j)):=opI fun _ _ _ _ _ _ _ hc q=>by
 rcases hc with hc | ⟨h1,h2⟩
 · exact mul_int q hc.ok
 · exact mul_int q (IntMulOk.of_bits (mK h1) (mK h2))
theorem fQ:OpR X (binaryOp .FloorDiv) (rI (fun _ j=>Bg j) fun i j=>.int (i.fdiv j)):=opI fun i j _ _ _ _ _ hc q=>
 floordiv_int hc.1 q (.inl (PyProof.noPylong_of_log2 (Nat.lt_of_lt_of_le (log2_lt_of (k:=4000) (by decide) hc.2) (by decide))))
end
mutual
inductive Rep (H:Hp):V->PyData->Prop
 | non:Rep H .non .none
 | bl (b):Rep H (.bl b) (.bool b)
 | int (i):Rep H (.int i) (.int i)
 | str (x):Rep H (.str x) (.str x)
 | lst {a xs ds}:H a=some (.lst xs)->bJ H xs ds->Rep H (.ref a) (.list ds)
 | tup {a xs ds}:H a=some (.tup xs)->bJ H xs ds->Rep H (.ref a) (.tuple ds)
inductive bJ (H:Hp):List V->List PyData->Prop
 | nil:bJ H [] []
 | cons {v vs d ds}:Rep H v d->bJ H vs ds->bJ H (v::vs) (d::ds)
end
mutual
theorem Rep.mono {H H':Hp} (e:dW H H'):∀ {v:V} {d:PyData},Rep H v d->Rep H' v d
 | _,_,.non=>.non
 | _,_,.bl b=>.bl b
 | _,_,.int i=>.int i
 | _,_,.str x=>.str x
 | _,_,.lst h r=>.lst (e _ _ h) (bJ.mono e r)
 | _,_,.tup h r=>.tup (e _ _ h) (bJ.mono e r)
theorem bJ.mono {H H':Hp} (e:dW H H'):∀ {vs:List V} {ds:List PyData},bJ H vs ds->bJ H' vs ds
 | _,_,.nil=>.nil
 | _,_,.cons r t=>.cons (Rep.mono e r) (bJ.mono e t)
end
mutual
theorem Rep.reads {P:Program} {w:World} {H:Hp} {h:Heap} (ok:HOk P w H h):∀ {v:V} {d:PyData} {u:Value},Rep H v d->RelV v u->∃ as,Reads h u d as
 | _,_,_,.non,r=>by cases r;exact ⟨_,.none⟩
 | _,_,_,.bl b,r=>by cases r;exact ⟨_,.bool b⟩
 | _,_,_,.int i,r=>by obtain ⟨t,rfl⟩:=r;exact ⟨_,.int i t⟩
 | _,_,_,.str x,r=>by obtain ⟨t,rfl⟩:=r;exact ⟨_,.str x t⟩
 | _,_,_,.lst (a:=a) (xs:=xs) e ra,r=>by
   cases r
   obtain ⟨_,its,n,rv,ho⟩:=(show bO P w H h a (.lst xs) from ok a _ e)
   obtain ⟨as,q⟩:=bJ.reads ok ra rv
   exact ⟨_,.list ho rfl rfl (by simpa using q)⟩
 | _,_,_,.tup (a:=a) (xs:=xs) e ra,r=>by
   cases r
   obtain ⟨_,its,rv,o,ho,hc,n,hd⟩:=(show bO P w H h a (.tup xs) from ok a _ e)
   obtain ⟨as,q⟩:=bJ.reads ok ra rv
   exact ⟨_,.tuple ho hc hd (by simpa using q)⟩
theorem bJ.reads {P:Program} {w:World} {H:Hp} {h:Heap} (ok:HOk P w H h):∀ {vs:List V} {ds:List PyData} {us:List Value},bJ H vs ds->Vals vs us->∃ as,ReadsAll h us ds as
 | _,_,_,.nil,.nil=>⟨_,.nil⟩
 | _,_,_,.cons r t,.cons rv tv=>by
   obtain ⟨as,q1⟩:=Rep.reads ok r rv
   obtain ⟨bs,q2⟩:=bJ.reads ok t tv
   exact ⟨_,.cons q1 q2⟩
end
section
variable {X:Cx}
def Gd:R2:=fun x y H Q=>∃ dx dy,Rep H x dx/\Rep H y dy/\shaped dx=true/\shaped dy=true/\Q (.bl (PyData.eqv dx dy)) H
def Ge:R2:=fun x y H Q=>∃ dx dy,Rep H x dx/\Rep H y dy/\shaped dx=true/\shaped dy=true/\Q (.bl (!PyData.eqv dx dy)) H
theorem q9 (hu:X.A.units + 64 < cLine):OpR X (compareOp .Eq) Gd:=by
 intro pins s σ H x y v u Q I rx ry h
 obtain ⟨dx,dy,hx,hy,sx,sy,q⟩:=h
 obtain ⟨as,ra⟩:=hx.reads I.hok rx
 obtain ⟨bs,rb⟩:=hy.reads I.hok ry
 exact eq_dataH ra rb sx sy hu ⟨.bl _,H,I,rfl,q⟩
theorem jn (hu:X.A.units + 64 < cLine):OpR X (compareOp .NotEq) Ge:=by
 intro pins s σ H x y v u Q I rx ry h
 obtain ⟨dx,dy,hx,hy,sx,sy,q⟩:=h
 obtain ⟨as,ra⟩:=hx.reads I.hok rx
 obtain ⟨bs,rb⟩:=hy.reads I.hok ry
 exact ne_dataH ra rb sx sy hu ⟨.bl _,H,I,rfl,q⟩
end
theorem aX {H:Hp} {p:Addr} (h:H p=none) (o:HO):dW H (upd H p o):=fun b u q=>by rw [aJ (bf q h)];exact q
structure Df (K:PySem.W.Frag) (mg:Str->Option Value) (x:Str) (st:Stmt) (ps:List Str) (f:Addr) (fd:FuncData):Prop where
 fn:Fun K x x st f fd
 bd:Binds K fd ps []
 mg:mg x=some (.ref f)
section
variable {X:Cx} {k:Nat} {x:Str} {st:Stmt} {f:Addr} {fd:FuncData} {ps:List Str} {sp:Sp} {p pos:Pos} {e:Expr} {es:List Expr} {t:TA}
theorem vA (D:Df X.K X.mg x st ps f fd) (F:b8 X.prog X.w X.K X.mg X.base CX0 k f fd ps sp) (hr:bR k X.A) (hg:Gl X x) (ha:PA X (e::es) t) (hdb:(x == ("__debug__":Str))=false:=by decide)
 (he:starEach (e::es) X.env=(false,eval e X.env)::starEach es X.env:=by rfl) (hpl:(backTo pos (starEach es X.env)).any (·.1)=false:=by rfl):
 PE X (.Call (.Name x p) (e::es) [] pos) (u_ sp [] E0 t):=uh F hr hg D.mg D.fn.kp D.bd .nil Jk ha hdb he hpl
end
end L2
namespace L2
open PySem PySem.Spec PySem.SeqAt PyProof.Rows
def dX (cells:List (Str × Addr)):List (Str × NameKind)->List (Str × Addr)->List (Str × Addr)
 | [],acc=>acc
 | (n,k)::r,acc=>if k= .free then dX cells r ((n,(cells.lookup n).getD 0)::acc) else dX cells r acc
theorem j8 {scope:Scope} {env:Env} (h:∀ y ∈ scope.names,y.2= .free->∃ c,env.cells.lookup y.1=some c):closureFor scope env=pure (dX env.cells scope.names []):=by
 have key:∀ (names:List (Str × NameKind)) (cs:List (Str × Addr)),(∀ y ∈ names,y.2= .free->∃ c,env.cells.lookup y.1=some c)->
  (forIn names cs fun (x:Str × NameKind) (r:List (Str × Addr))=>(match x with
    | (name,kind)=>if (kind == .free)=true then do let a <- cellOf env name;pure (ForInStep.yield ((name,a)::r)) else pure (ForInStep.yield r):Sem (ForInStep (List (Str × Addr)))))=(pure (dX env.cells names cs):Sem _):=by
  intro names
  induction names with
  | nil=>intro cs _;rfl
  | cons y r ih=>
    intro cs hy
    obtain ⟨n,k⟩:=y
    rw [List.forIn_cons]
    by_cases hk:k= .free
    · obtain ⟨c,hc⟩:=hy (n,k) List.mem_cons_self hk
      have hc':env.cells.lookup n=some c:=hc
      subst hk
      have e1:cellOf env n=pure c:=by unfold cellOf;rw [hc']
      simp only [beq_self_eq_true,if_true,e1,pure_bind]
      rw [ih _ fun z hz=>hy z (List.mem_cons_of_mem _ hz)]
      simp only [dX,if_true,hc',Option.getD_some]
    · have hb:(k == NameKind.free)=false:=by simpa using hk
      simp only [hb,Bool.false_eq_true,if_false,pure_bind]
      rw [ih _ fun z hz=>hy z (List.mem_cons_of_mem _ hz)]
      simp only [dX,if_neg hk]
 have e:closureFor scope env=(forIn scope.names ([]:List (Str × Addr)) (fun (x:Str × NameKind) (r:List (Str × Addr))=>(match x with
  | (name,kind)=>if (kind == .free)=true then do let a <- cellOf env name;pure (ForInStep.yield ((name,a)::r)) else pure (ForInStep.yield r):Sem (ForInStep (List (Str × Addr))))) >>= fun r=>pure r):=by
  unfold closureFor
  rfl
 rw [e,key _ _ h]
 rfl
theorem jD {cells:List (Str × Addr)} {x:Str} {c:Addr}:∀ {names:List (Str × NameKind)} {acc:List (Str × Addr)},(∀ y ∈ names,y.2= .free->∃ c,cells.lookup y.1=some c)->
 (dX cells names acc).lookup x=some c->cells.lookup x=some c\/acc.lookup x=some c
 | [],acc,_,h=>.inr h
 | (n,k)::r,acc,hy,h=>by
   unfold dX at h
   by_cases hk:k= .free
   · rw [if_pos hk] at h
     obtain ⟨d,hd⟩:=hy (n,k) List.mem_cons_self hk
     have hd':cells.lookup n=some d:=hd
     rw [hd'] at h
     rcases jD (fun z hz=>hy z (List.mem_cons_of_mem _ hz)) h with q | q
     · exact .inl q
     · rw [List.lookup_cons] at q
       cases e:x == n with
       | true=>
         have e':x=n:=eq_of_beq e
         rw [e] at q
         subst e'
         exact .inl (by rw [hd'];exact q)
       | false=>
         rw [e] at q
         exact .inr q
   · rw [if_neg hk] at h
     exact jD (fun z hz=>hy z (List.mem_cons_of_mem _ hz)) h
theorem lU {cells:List (Str × Addr)} {x:Str} {c:Addr} (hc:cells.lookup x=some c):∀ {names:List (Str × NameKind)} {acc:List (Str × Addr)},((x,NameKind.free) ∈ names\/acc.lookup x=some c)->
 (dX cells names acc).lookup x=some c
 | [],acc,h=>by
   rcases h with h | h
   · cases h
   · exact h
 | (n,k)::r,acc,h=>by
   unfold dX
   by_cases hk:k= .free
   · rw [if_pos hk]
     refine lU hc ?_
     by_cases e:x=n
     · subst e
       exact .inr (by rw [List.lookup_cons,beq_self_eq_true,hc];rfl)
     · have eb:(x == n)=false:=by simpa using e
       rcases h with h | h
       · rcases List.mem_cons.mp h with z | z
         · exact absurd (congrArg Prod.fst z) e
         · exact .inl z
       · exact .inr (by rw [List.lookup_cons,eb];exact h)
   · rw [if_neg hk]
     refine lU hc ?_
     rcases h with h | h
     · rcases List.mem_cons.mp h with z | z
       · exact absurd (congrArg Prod.snd z).symm hk
       · exact .inl z
     · exact .inr h
theorem fO {env:Env}:∀ {names:List (Str × NameKind)} {x:Str},names.lookup x=some .free->
 (names.map fun (n,k)=>if (k == NameKind.free && env.scope.kind == .function && env.kindOf n == some .cell) then (n,NameKind.cell) else (n,k)).lookup x=some .cell\/
 (names.map fun (n,k)=>if (k == NameKind.free && env.scope.kind == .function && env.kindOf n == some .cell) then (n,NameKind.cell) else (n,k)).lookup x=some .free
 | [],_,h=>by simp at h
 | (n,k)::r,x,h=>by
   have ih:= @fO env r x
   show List.lookup x ((if (k == NameKind.free && env.scope.kind == .function && env.kindOf n == some .cell)=true then (n,NameKind.cell) else (n,k))::_)=_\/List.lookup x ((if (k == NameKind.free && env.scope.kind == .function && env.kindOf n == some .cell)=true then (n,NameKind.cell) else (n,k))::_)=_
   cases hx:x == n with
   | true=>
     simp only [List.lookup_cons,hx] at h
     cases h
     by_cases hc:(NameKind.free == NameKind.free && env.scope.kind == .function && env.kindOf n == some .cell)=true
     · rw [if_pos hc];simp [List.lookup_cons,hx]
     · rw [if_neg hc];simp [List.lookup_cons,hx]
   | false=>
     simp only [List.lookup_cons,hx] at h
     by_cases hc:(k == NameKind.free && env.scope.kind == .function && env.kindOf n == some .cell)=true
     · rw [if_pos hc];simp only [List.lookup_cons,hx];exact ih h
     · rw [if_neg hc];simp only [List.lookup_cons,hx];exact ih h
theorem j9 {env:Env}:∀ {names:List (Str × NameKind)} {x:Str},(∀ y ∈ names,y.2 ≠ .cell)->
 ((names.map fun (n,k)=>if (k == NameKind.free && env.scope.kind == .function && env.kindOf n == some .cell) then (n,NameKind.cell) else (n,k)).lookup x=some .cell\/
 (names.map fun (n,k)=>if (k == NameKind.free && env.scope.kind == .function && env.kindOf n == some .cell) then (n,NameKind.cell) else (n,k)).lookup x=some .free)->names.lookup x=some .free
 | [],_,_,h=>by simp at h
 | (n,k)::r,x,hn,h=>by
   have ih:= @j9 env r x fun y hy=>hn y (List.mem_cons_of_mem _ hy)
   have hnk:k ≠ .cell:=hn (n,k) List.mem_cons_self
   change List.lookup x ((if (k == NameKind.free && env.scope.kind == .function && env.kindOf n == some .cell)=true then (n,NameKind.cell) else (n,k))::_)=_\/List.lookup x ((if (k == NameKind.free && env.scope.kind == .function && env.kindOf n == some .cell)=true then (n,NameKind.cell) else (n,k))::_)=_ at h
   cases hx:x == n with
   | true=>
     rw [List.lookup_cons,hx]
     by_cases hc:(k == NameKind.free && env.scope.kind == .function && env.kindOf n == some .cell)=true
     · have hk:k= .free:=by
        rw [Bool.and_eq_true,Bool.and_eq_true] at hc
        exact eq_of_beq hc.1.1
       rw [hk]
     · rw [if_neg hc] at h
       simp only [List.lookup_cons,hx] at h
       rcases h with h | h
       · exact absurd (Option.some.inj h) hnk
       · exact h
   | false=>
     rw [List.lookup_cons,hx]
     by_cases hc:(k == NameKind.free && env.scope.kind == .function && env.kindOf n == some .cell)=true
     · rw [if_pos hc] at h;simp only [List.lookup_cons,hx] at h;exact ih h
     · rw [if_neg hc] at h;simp only [List.lookup_cons,hx] at h;exact ih h
def blk (X:Cx) (N':List Str) (sc:Scope) (C:Addr) (s₀:Shared) (H₀:Hp) (fp:List Addr):Cx:=
 { X with N:=N',s₀:=s₀,H₀:=H₀,env:=compEnvC sc (dX X.env.cells sc.names []) C X.env,outer:=X.stack,ex:=fp,fn:=fun _=>false,pn:=[],xe:=fun _ _=>False }
def sgb (nt:Nat) (idx:List Nat) (σ:St):St:=List.replicate nt none ++ idx.map fun j=>(σ[j]?).getD none
structure jE (X:Cx) (N':List Str) (sc:Scope) (nt:Nat) (idx:List Nat):Prop where
 kind:sc.kind= .function
 xj:∀ y ∈ sc.names,y.2 ≠ .cell
 loc:∀ y ∈ sc.names,y.2= .local->sc.names.lookup y.1=some .local
 fr:∀ y ∈ sc.names,y.2= .free->X.env.kindOf y.1=some .cell\/X.env.kindOf y.1=some .free
 len:nt + idx.length=N'.length
 ix:∀ p ∈ idx.zip (N'.drop nt),X.N[p.1]? =some p.2/\sc.names.lookup p.2=some .free
theorem dI {names:List (Str × NameKind)} {x:Str} {k:NameKind} (h:names.lookup x=some k):(x,k) ∈ names:=PySem.mem_of_lookup h
theorem CN {X:Cx} {N':List Str} {sc:Scope} {nt:Nat} {idx:List Nat} {pins:List (Addr × Obj)} {σ:St} {H:Hp} {s:Shared} {fp:List Addr} {h':Heap} {tk:Nat} {m:Str->Option Value} (B:jE X N' sc nt idx)
 (I:Inv X pins σ H s) (hf:∀ b ∈ fp,fP X pins H b) (hlt:∀ b ∈ fp,b < s.heap.objs.size) (hns:h'.Ns s.heap.objs.size m) (hk:∀ b o,s.heap.get? b=some o->h'.get? b=some o):
 Inv (blk X N' sc s.heap.objs.size s H fp) (X.pn ++ pins) (sgb nt idx σ) H { s with heap:=h',toks:=tk }:=by
 have hcl:∀ y ∈ sc.names,y.2= .free->∃ c,X.env.cells.lookup y.1=some c:=fun y hy e=>I.ok.has y.1 (B.fr y hy e)
 have sub:∀ x c,(dX X.env.cells sc.names []).lookup x=some c->X.env.cells.lookup x=some c:=fun x c h=>by
  rcases jD hcl h with z | z
  · exact z
  · simp at z
 have KJ:∀ b,b ∈ frs X.stack->b=X.env.locals\/b ∈ X.fs:=fun b hb=>List.mem_cons.mp (I.nA b hb)
 have Bh:∀ b,b ≠ X.env.locals->b ∉ X.fs->b ∉ frs X.stack:=fun b h1 h2 h=>(KJ b h).elim h1 h2
 have fresh:H s.heap.objs.size=none:=I.hok.fresh (Nat.le_refl _)
 refine ⟨⟨I.ok.mod,B.kind,I.ok.glob,I.ok.blt,Nat.le_refl _,fun x y c h1 h2=>I.ok.inj x y c (sub x c h1) (sub y c h2),fun x hx=>?_,fun x c hx _=>?_,I.ok.hd,I.ok.frames,.inl rfl,fun b hb=>⟨Nat.ne_of_lt (hlt b hb),fun x c h=>(hf b hb).2.2.2.2.1 x c (sub x c h)⟩,
  I.bs,Nat.le_trans I.ok.bsz I.sz,fun b o e hb=>?_,fun b hb=>Bh b (hf b hb).2.1 (hf b hb).2.2.1,I.stack,I.lQ⟩,
  rfl,I.bare,Un.kept hk,⟨m,hns,fun i x v h1 h2 h3=>?_⟩,fun x c h=>?_,fresh,fun x c h=>I.eN x c (sub x c h),fun p hp=>?_,I.hok.kept hk,?_⟩
 · -- has
   have hx':=j9 (env:=X.env) (x:=x) B.xj hx
   obtain ⟨c,hc⟩:=hcl (x,.free) (dI hx') rfl
   exact ⟨c,lU hc (.inl (dI hx'))⟩
 · -- cab
   have hx':false=true:=hx
   cases hx'
 · -- kh
   rcases (hf b hb).2.2.2.1 with z | z
   · exact I.ok.kh b o e z
   · exact absurd (Nat.lt_of_lt_of_le (Heap.lt_size e) (Nat.le_trans I.ok.bsz z)) (Nat.lt_irrefl _)
 · -- loc
   have h1':N'[i]? =some x:=h1
   by_cases hi:i < nt
   · exfalso
     unfold sgb at h2
     rw [List.getElem?_append_left (by simpa using hi),List.getElem?_replicate] at h2
     split at h2 <;> cases h2
   · unfold sgb at h2
     rw [List.getElem?_append_right (by simpa using hi),List.length_replicate,List.getElem?_map] at h2
     cases ej:idx[i - nt]? with
     | none=>rw [ej] at h2;cases h2
     | some j=>
       rw [ej] at h2
       have h2':(σ[j]?).getD none=some v:=by simpa using h2
       have hz:(j,x) ∈ idx.zip (N'.drop nt):=by
        have e1:(N'.drop nt)[i - nt]? =some x:=by rw [List.getElem?_drop];rw [show nt + (i - nt)=i by omega];exact h1'
        refine List.mem_of_getElem? (i:=i - nt) ?_
        rw [List.getElem?_zip_eq_some]
        exact ⟨ej,e1⟩
       obtain ⟨q1,q2⟩:=B.ix _ hz
       have q1':X.N[j]? =some x:=q1
       have q2':sc.names.lookup x=some .free:=q2
       have hs:σ[j]? =some (some v):=by
        cases e:σ[j]? with
        | none=>rw [e] at h2';cases h2'
        | some o=>rw [e] at h2';exact congrArg some h2'
       have hkx:=B.fr (x,.free) (dI q2') rfl
       obtain ⟨mX,_,hl⟩:=I.loc
       obtain ⟨u,ru,lk⟩:=hl j x v q1' hs (by
        rcases hkx with z | z
        · exact .inr (.inl z)
        · exact .inr (.inr z))
       refine ⟨u,ru,.inr ⟨fO (env:=X.env) q2',?_⟩⟩
       rcases lk with ⟨z,_⟩ | ⟨_,c,hc,hcell⟩
       · exfalso
         rcases hkx with y | y
         · rw [z] at y;cases y
         · rw [z] at y;cases y
       · obtain ⟨o,ho,hd⟩:=hcell
         exact ⟨c,lU hc (.inl (dI q2')),o,hk c o ho,hd⟩
 · obtain ⟨v,o,ho,hd⟩:=I.cell x c (sub x c h)
   exact ⟨v,o,hk c o ho,hd⟩
 · have hp':p ∈ X.pn ++ pins:=by
    have:p ∈ ([]:List (Addr × Obj)) ++ (X.pn ++ pins):=hp
    simpa using this
   obtain ⟨e,n,ne,nf,d⟩:=I.pin p hp'
   exact ⟨hk _ _ e,n,Nat.ne_of_lt (Heap.lt_size e),Bh _ ne nf,d⟩
 · show (sgb nt idx σ).length=N'.length
   unfold sgb
   rw [List.length_append,List.length_replicate,List.length_map]
   exact B.len
end L2
namespace L2
open PySem PySem.Spec PySem.SeqAt PyProof.Rows
def Wk:St->St->Prop
 | [],[]=>True
 | none::r,_::r'=>Wk r r'
 | some a::r,b::r'=>b=some a/\Wk r r'
 | _,_=>False
theorem Wk.ok:∀ {σ σ2:St},Wk σ σ2->σ.length=σ2.length/\∀ (i:Nat) (v:V),σ[i]? =some (some v)->σ2[i]? =some (some v)
 | [],[],_=>⟨rfl,fun _ _ h=>h⟩
 | none::r,b::r',h=>by
   obtain ⟨h1,h2⟩:=Wk.ok (σ:=r) (σ2:=r') h
   refine ⟨by simp [h1],fun i v e=>?_⟩
   cases i with
   | zero=>simp at e
   | succ i=>simpa using h2 i v (by simpa using e)
 | some a::r,b::r',h=>by
   obtain ⟨hb,h⟩:=h
   obtain ⟨h1,h2⟩:=Wk.ok (σ:=r) (σ2:=r') h
   refine ⟨by simp [h1],fun i v e=>?_⟩
   cases i with
   | zero=>subst hb;simpa using e
   | succ i=>simpa using h2 i v (by simpa using e)
 | [],_::_,h=>h.elim
 | none::_,[],h=>h.elim
 | some _::_,[],h=>h.elim
abbrev TN:=St->Hp->(Hp->Prop)->Prop
def vB (J:It) (g:TG) (tif:TT) (tin:TN):TN:=fun σ H Q=>∃ W:Nat->Nat->Hp->Prop,(∃ m,W 0 m H)/\∀ i m H,W i m H->
 (J.stop i H/\Q H)\/(J.go i H/\∃ N:Hp->Prop,(∀ H',N H'->∃ m',m' < m/\W (i + 1) m' H')/\∀ x H',J.yld i H x H'->g x σ H' fun σ2 H2=>Wk σ σ2/\tif σ2 H2 fun b H3=>if b=true then tin σ2 H3 N else N H3)
def vC (D:Addr) (te:TE):TN:=fun σ H N=>te σ H fun y H1=>∃ ys,H1 D=some (.lst ys)/\ys.length < sizeLine/\N (upd H1 D (.lst (ys ++ [y])))
def PTs (Y:Cx) (ifs:List Expr) (t:TT):Prop:=
 ∀ (pins:List (Addr × Obj)) (s:Shared) (σ:St) (H:Hp) (Q:Bool->Hp->Prop),Inv Y pins σ H s->t σ H Q->
   wpAny (model Y.prog Y.w) Y.A (forIn ifs true fun c r=>if r=true then do let ok <- isTrue c Y.env (eval c Y.env);pure (ForInStep.yield ok) else pure (ForInStep.yield r)) (TP Y pins σ Q) Y.xe s
def Bj:TT:=fun _ H Q=>Q true H
theorem CP {Y:Cx}:PTs Y [] Bj:=fun _ _ _ H _ I h=>wpAny_tests_nil ⟨H,I,h⟩
def PN (Y:Cx) (m:Sem Unit) (t:TN):Prop:=
 ∀ (pins:List (Addr × Obj)) (s:Shared) (σ:St) (H:Hp) (N:Hp->Prop),Inv Y pins σ H s->t σ H N->wpAny (model Y.prog Y.w) Y.A m (fun _ s'=>∃ H',Inv Y pins σ H' s'/\N H') Y.xe s
def NoX (Y:Cx):Prop:=∀ e s,¬ Y.xe e s
theorem NoX.any {Y:Cx} (hx:NoX Y) {α:Type} {t:Sem α} {Q:α->Shared->Prop} {E:Value->Shared->Prop} {s:Shared} (h:wpAny (model Y.prog Y.w) Y.A t Q Y.xe s):wpAny (model Y.prog Y.w) Y.A t Q E s:=
 wpAny_mono h (fun _ _ q=>q) fun e s' z=>(hx e s' z).elim
theorem CQ {Y:Cx} {elt:Expr} {te:TE} {D:Addr} (he:PE Y elt te):PN Y (do let _ <- call (.builtin "list.append") [.ref D,<- eval elt Y.env]) (vC D te):=by
 intro pins s σ H N I h
 refine wpAny_bind (thn (he pins s σ H _ I h) fun u s1 ⟨y,H1,I1,r1,ys,e1,hl,hN⟩=>?_)
 refine wpAny_bind (thn (kI (X:=Y) pins s1 σ H1 (.ref D) [y] (.ref D) [u] (fun _ H2=>N H2) I1 rfl (.cons r1 .nil) ⟨D,ys,y,rfl,rfl,e1,hl,hN⟩) fun v s2 ⟨z,H2,I2,_,q2⟩=>?_)
 exact wpAny_pure ⟨H2,I2,q2⟩
def iw (e:Expr) (d:Nat) (it acc:Value) (env:Env) (target:Expr) (ifs:List Expr) (ipos:Pos) (inner:Sem Unit):Sem Fin:=do
 standAt ipos
 match <- pyNext it with
 | none=>pure (.done .next)
 | some v=>
   letOwnedTupleGo target it v
   assign target env v
   let mut ok:=true
   for c in ifs do
    if ok then ok <- isTrue c env (eval c env)
   if ok then
    inner
   again (.compLoop e d it acc env)
theorem Jl (elt target iter:Expr) (ifs:List Expr) (scope:Scope) (pos:Pos) (it acc:Value) (env:Env):
 compTurn (.ListComp elt [⟨target,iter,ifs,0⟩] scope pos) 0 it acc env=iw (.ListComp elt [⟨target,iter,ifs,0⟩] scope pos) 0 it acc env target ifs iter.pos (do let _ <- call (.builtin "list.append") [acc,<- eval elt env]):=rfl
def LR (Y:Cx) (pins:List (Addr × Obj)) (σ:St) (Q:Hp->Prop) (r:Result) (s':Shared):Prop:=
 match r with
 | .ok _=>∃ H',Inv Y pins σ H' s'/\Q H'
 | .error _=>False
theorem CV {Y:Cx} (hx:NoX Y) (hc:Y.calm=true) {elt:Expr} {gens:List Comprehension} {scope:Scope} {pos:Pos} {d:Nat} {it D:Addr} {tg:Expr} {ifs:List Expr} {ipos:Pos} {inner:Sem Unit} {J:It} {fp:List Addr} {tn:Nat->Heap->Prop} {g:TG} {tif:TT} {tin:TN}
 (ht:compTurn (.ListComp elt gens scope pos) d (.ref it) (.ref D) Y.env=iw (.ListComp elt gens scope pos) d (.ref it) (.ref D) Y.env tg ifs ipos inner)
 (T:Turn Y.prog Y.w Y.K tg J fp it tn) (hg:PG Y tg g) (hi:PTs Y ifs tif) (hn:PN Y inner tin)
 {pins:List (Addr × Obj)} {s:Shared} {σ:St} {H:Hp} {Q:Hp->Prop} (I:Inv Y pins σ H s) (st:tn 0 s.heap) (f:∀ b ∈ fp,fP Y pins H b) (h:vB J g tif tin σ H Q):
 codeAny (model Y.prog Y.w) Y.A (.compLoop (.ListComp elt gens scope pos) d (.ref it) (.ref D) Y.env) (LR Y pins σ Q) s:=by
 obtain ⟨W,⟨m0,w0⟩,turn⟩:=h
 have stat:∀ {H':Hp},(∀ b ∈ fp,H' b=none)->∀ b ∈ fp,fP Y pins H' b:=fun hn b hb=>⟨hn b hb,(f b hb).2⟩
 refine codeAny_loop rfl (fun n s'=>∃ i H',Inv Y pins σ H' s'/\tn i s'.heap/\(∀ b ∈ fp,H' b=none)/\W i n H') ?_ m0 ⟨0,H,I,st,fun b hb=>(f b hb).1,w0⟩
 rintro n s3 ⟨i,H3,I3,st3,fr3,w3⟩
 show wpAny _ Y.A ((compTurn (.ListComp elt gens scope pos) d (.ref it) (.ref D) Y.env).onRaise (fun x=>do noteFrame x Y.env;theTreesLotGoes x)) _ _ s3
 refine wpAny_noted ?_
 rw [ht]
 unfold iw
 refine wpAny_bind (wpAny_standAt ?_)
 rcases turn i n H3 w3 with ⟨stop,qn⟩ | ⟨go,N,hN,step⟩
 · refine wpAny_bind (thn (hx.any (T.done Y rfl rfl rfl hc i pins s3 σ H3 Y.xe I3 (stat fr3) st3 stop)) fun r s4 ⟨hr,I4⟩=>?_)
   subst hr
   exact wpAny_pure ⟨H3,I4,qn⟩
 · refine wpAny_bind (thn (hx.any (T.item Y rfl rfl rfl hc i pins s3 σ H3 Y.xe I3 (stat fr3) st3 go)) fun r s4 ⟨u,hr,h4⟩=>?_)
   subst hr
   refine wpAny_bind (thn (hx.any h4) fun _ s5 ⟨x,H5,I5,r5,y5,st5,fr5⟩=>?_)
   have I5':=I5.pinned (stat fr5) (T.obj _ _ st5)
   refine wpAny_bind (thn (hx.any (hg _ s5 σ H5 x u _ I5' r5 (step x H5 y5))) fun _ s6 ⟨σ6,H6,I6,wk,q6⟩=>?_)
   obtain ⟨wl,wv⟩:=wk.ok
   have again:∀ {σ7:St} {H7:Hp} {s7:Shared},Inv Y (pins ++ kj fp s5.heap) σ7 H7 s7->Wk σ σ7->N H7->∃ m,m < n/\∃ i H',Inv Y pins σ H' s7/\tn i s7.heap/\(∀ b ∈ fp,H' b=none)/\W i m H':=fun {σ7 H7 s7} I7 wk7 n7=>by
    obtain ⟨m',hm,w7⟩:=hN H7 n7
    obtain ⟨wl7,wv7⟩:=wk7.ok
    refine ⟨m',hm,i + 1,H7,(I7.weak wl7 wv7).ir,T.keep _ _ _ st5 fun b hb o e=>(I7.pin (b,o) (List.mem_append_right _ (List.mem_append_right _ (gP hb e)))).1,fun b hb=>?_,w7⟩
    obtain ⟨o,e,d⟩:=T.obj _ _ st5 b hb
    exact (I7.pin (b,o) (List.mem_append_right _ (List.mem_append_right _ (gP hb e)))).2.1
   refine wpAny_bind (thn (hx.any (hi _ s6 σ6 H6 _ I6 q6)) fun ok s7 ⟨H7,I7,q7⟩=>?_)
   cases ok with
   | false=>exact wpAny_pure ⟨rfl,again I7 wk q7⟩
   | true=>exact wpAny_bind (thn (hx.any (hn _ s7 σ6 H7 N I7 q7)) fun _ s8 ⟨H8,I8,q8⟩=>wpAny_pure ⟨rfl,again I8 wk q8⟩)
theorem xm {prog:Program} {w:World} {A:Around} {R:Result->Shared->Prop} {s:Shared} {elt:Expr} {gens:List Comprehension} {scope:Scope} {pos:Pos} {d:Nat} {it acc:Value} {env:Env} {g:Comprehension} (hg:gens[d]? =some g) (ha:g.is_async=0)
 (h0:codeAny (model prog w) A (.compLoop (.ListComp elt gens scope pos) d it acc env) R s)
 (h:wpAny (model prog w) A (pyIter it) (fun it' s'=>codeAny (model prog w) A (.compLoop (.ListComp elt gens scope pos) d it' acc env) R s') (notedBy (model prog w) A env fun x s'=>R (.error x) s') s):
 codeAny (model prog w) A (.compStart (.ListComp elt gens scope pos) d it acc env) R s:=by
 refine codeAny_of_tree ?_
 show wpAny _ _ ((compStart (.ListComp elt gens scope pos) d it acc env).onRaise (fun x=>do noteFrame x env;standAt theWindowsPlace)) _ _ s
 refine wpAny_notedAt ?_
 unfold compStart
 rw [show clausesOf (.ListComp elt gens scope pos)=gens from rfl,hg]
 have e1:(Option.elim (some g) false fun x=>x.is_async != 0)=false:=by show (g.is_async != 0)=false;rw [ha];rfl
 rw [e1]
 show wpAny _ _ (ask >>= _) _ _ s
 refine wpAny_bind (wpAny_askSetting (wpAny_ite ?_))
 split
 · exact wpAny_bind (wpAny_pure (wpAny_pure (And.intro rfl h0)))
 · exact wpAny_bind (wpAny_rule (wpAny_bind (wpAny_standAt (wpAny_bind (wpAny_mono h (fun it' s' h'=>wpAny_pure (And.intro rfl h')) fun _ _ x=>x)))))
end L2
namespace L2
open PySem PySem.Spec PySem.SeqAt PyProof.Rows
theorem q_ {X:Cx} {N':List Str} {sc:Scope} {pins nM:List (Addr × Obj)} {σ σY:St} {H H':Hp} {s s':Shared} {fp:List Addr} {h':Heap} (I:Inv X pins σ H s) (hf:∀ b ∈ fp,fP X pins H b)
 (IY:Inv (blk X N' sc s.heap.objs.size s H fp) nM σY H' s') (hs:Heap.SameBut s.heap.objs.size s'.heap h'):Inv X pins σ H' { s' with heap:=h' }:=by
 have hC:∀ b o,s.heap.get? b=some o->b ≠ s.heap.objs.size:=fun b o e=>Nat.ne_of_lt (Heap.lt_size e)
 have nC:H' s.heap.objs.size=none:=IY.free
 have u:Un (frs X.stack) fp H H' s.heap s'.heap:=IY.base
 have kk:∀ b o,b ≠ s.heap.objs.size->s'.heap.get? b=some o->h'.get? b=some o:=fun b o hb e=>hs.extBut b o hb e
 refine I.call' (s':={ s' with heap:=h' }) (ch:=fp) IY.os ⟨fun b o e n h1 h2=>kk b o (hC b o e) (u.keep b o e n h1 h2),fun b o e n h1 h2=>?_,u.free,fun b o e h2=>?_,u.tups,u.eV,u.fG⟩ ?_ IY.bare fun b hb=>?_
 · obtain ⟨sl,q⟩:=u.slot b o e n h1 h2
   exact ⟨sl,kk b _ (hC b o e) q⟩
 · obtain ⟨o',q⟩:=u.there b o e h2
   exact ⟨o',kk b _ (hC b o e) q⟩
 · intro a o e
   refine (IY.hok a o e).stay (fun b v hb q=>kk b v ?_ q) (fun _ q=>q) fun _ _ q=>q
   rintro rfl
   rcases hb with z | z
   · rw [z] at nC;rw [nC] at e;cases e
   · rw [nC] at z;cases z
 · obtain ⟨f0,f1,f2,f3,f4,f5⟩:=hf b hb
   exact ⟨f3,f1,f4,f5⟩
section
variable {X:Cx} {N':List Str} {sc:Scope} {nt:Nat} {idx:List Nat} {elt tg iter:Expr} {ifs:List Expr} {gs:List Comprehension} {pos:Pos} {wi:TI} {g:TG} {tif:TT} {tin:Addr->TN}
def qI (nt:Nat) (idx:List Nat) (wi:TI) (g:TG) (tif:TT) (tin:Addr->TN):TE:=fun σ H Q=>wi σ H fun J H1=>∀ D,H1 D=none->vB J g tif (tin D) (sgb nt idx σ) (upd H1 D (.lst [])) fun H2=>Q (.ref D) H2
structure nO (X:Cx) (N':List Str) (sc:Scope) (elt tg iter:Expr) (ifs:List Expr) (gs:List Comprehension) (pos:Pos) (g:TG) (tif:TT) (tin:Addr->TN):Prop where
 ok:∀ (C:Addr) (s₀:Shared) (H₀:Hp) (fp:List Addr) (D it:Addr),∃ inner:Sem Unit,
  compTurn (.ListComp elt (⟨tg,iter,ifs,0⟩::gs) sc pos) 0 (.ref it) (.ref D) (blk X N' sc C s₀ H₀ fp).env=iw (.ListComp elt (⟨tg,iter,ifs,0⟩::gs) sc pos) 0 (.ref it) (.ref D) (blk X N' sc C s₀ H₀ fp).env tg ifs iter.pos inner/\
  PG (blk X N' sc C s₀ H₀ fp) tg g/\PTs (blk X N' sc C s₀ H₀ fp) ifs tif/\PN (blk X N' sc C s₀ H₀ fp) inner (tin D)
theorem rm (B:jE X N' sc nt idx) (hc:X.calm=true) (hi:PI X tg iter wi) (O:nO X N' sc elt tg iter ifs gs pos g tif tin) {pins:List (Addr × Obj)} {s:Shared} {σ:St} {H:Hp} {Q:VK} {E:Value->Shared->Prop} {use:Option (Value->Sem Unit)} {QQ:Value->Shared->Prop}
 (I:Inv X pins σ H s) (h:qI nt idx wi g tif tin σ H Q) (hE:∀ e s,X.xe e s->E e s)
 (hend:∀ (D C:Addr) (s3 s':Shared) (H3 H':Hp) (fp:List Addr) (nM:List (Addr × Obj)) (σY:St),C=s3.heap.objs.size->Inv X pins σ H3 s3->(∀ b ∈ fp,fP X pins H3 b)->Inv (blk X N' sc C s3 H3 fp) nM σY H' s'->Q (.ref D) H'->
   compPost (model X.prog X.w) X.A E use QQ (.ref D) C (.ok .next) s'):
 wpAny (model X.prog X.w) X.A (eval iter X.env) (fun x s₁=>wpAny (model X.prog X.w) X.A (pyIter x) (fun it s₂=>wpAny (model X.prog X.w) X.A (newList []) (fun acc s₃=>
  wpAny (model X.prog X.w) X.A (newFunctionEnv sc X.env.globals (dX X.env.cells sc.names []) [] X.env.qual none .none (some X.env)) (fun cenv s₄=>
   codeAny (model X.prog X.w) X.A (.compStart (.ListComp elt (⟨tg,iter,ifs,0⟩::gs) sc pos) 0 it acc { cenv with scope:=relabel sc X.env }) (compPost (model X.prog X.w) X.A E use QQ acc cenv.locals) s₄) E s₃) E s₂) E s₁) E s:=by
 refine wpAny_mono (hi pins s σ H _ I h) (fun v s1 h1=>wpAny_mono h1 (fun itv s2 h2=>?_) hE) hE
 obtain ⟨it,fp,tn,J,H2,e,I2,T,st2,f2,hl⟩:=h2
 subst e
 refine wpAny_newObj_type ?_
 have I3:Inv X pins σ (upd H2 s2.heap.objs.size (.lst [])) { s2 with heap:=s2.heap.push { cls:=.type "list",data:=.seq ([]:List Value).toArray } }:=I2.zA (its:=[]) (ys:=[]) (t':=s2.toks) .nil (Nat.zero_le _)
 have hD:H2 s2.heap.objs.size=none:=I2.hok.fresh (Nat.le_refl _)
 have lt2:∀ b ∈ fp,b < s2.heap.objs.size:=fun b hb=>let ⟨o,ho,_⟩:=T.obj _ _ st2 b hb;Heap.lt_size ho
 have f3:∀ b ∈ fp,fP X pins (upd H2 s2.heap.objs.size (.lst [])) b:=fun b hb=>⟨by rw [aJ (Nat.ne_of_lt (lt2 b hb))];exact (f2 b hb).1,(f2 b hb).2⟩
 generalize hS3:({ s2 with heap:=s2.heap.push { cls:=.type "list",data:=.seq ([]:List Value).toArray } }:Shared)=s3 at I3 ⊢
 have lt3:∀ b ∈ fp,b < s3.heap.objs.size:=fun b hb=>by rw [<- hS3];show b < (s2.heap.push _).objs.size;rw [Heap.size_push];exact Nat.lt_succ_of_lt (lt2 b hb)
 have k3:∀ b o,s2.heap.get? b=some o->s3.heap.get? b=some o:=fun b o e=>by rw [<- hS3];exact Heap.get?_push_of_some _ e
 refine wpAny_newFunctionEnv B.xj (by intro y hy;simp at hy) (fun h₁ hns hsb=>?_) B.kind
 have old:∀ b o,s3.heap.get? b=some o->h₁.get? b=some o:=fun b o e=>hsb.extBut b o (Nat.ne_of_lt (Heap.lt_size e)) (Heap.get?_push_of_some _ e)
 have IY:=CN (tk:=s3.toks + ([]:List (Str × Value)).length) B I3 f3 lt3 hns old
 have hx:NoX (blk X N' sc s3.heap.objs.size s3 (upd H2 s2.heap.objs.size (.lst [])) fp):=fun _ _ z=>z
 obtain ⟨inner,ht,hg,hif,hin⟩:=O.ok s3.heap.objs.size s3 (upd H2 s2.heap.objs.size (.lst [])) fp s2.heap.objs.size it
 have stY:tn 0 h₁:=T.keep _ _ _ st2 fun b _ o e=>old b o (k3 b o e)
 have fY:∀ b ∈ fp,fP (blk X N' sc s3.heap.objs.size s3 (upd H2 s2.heap.objs.size (.lst [])) fp) (X.pn ++ pins) (upd H2 s2.heap.objs.size (.lst [])) b:=fun b hb=>by
  obtain ⟨g0,g1,g2,g3,g4,g5⟩:=f3 b hb
  refine ⟨g0,Nat.ne_of_lt (lt3 b hb),fun z=>(List.mem_cons.mp (I3.nA b z)).elim g1 g2,.inl hb,fun x c e=>?_,fun p hp=>g5 p (by have hp':p ∈ ([]:List (Addr × Obj)) ++ (X.pn ++ pins):=hp;simpa using hp')⟩
  rcases jD (fun y hy e=>I3.ok.has y.1 (B.fr y hy e)) e with z | z
  · exact g4 x c z
  · simp at z
 have loop:codeAny (model X.prog X.w) X.A (.compLoop (.ListComp elt (⟨tg,iter,ifs,0⟩::gs) sc pos) 0 (.ref it) (.ref s2.heap.objs.size) (blk X N' sc s3.heap.objs.size s3 (upd H2 s2.heap.objs.size (.lst [])) fp).env)
  (compPost (model X.prog X.w) X.A E use QQ (.ref s2.heap.objs.size) s3.heap.objs.size) { s3 with heap:=h₁,toks:=s3.toks + ([]:List (Str × Value)).length }:=by
  refine codeAny_mono (CV (Y:=blk X N' sc s3.heap.objs.size s3 (upd H2 s2.heap.objs.size (.lst [])) fp) hx hc ht T hg hif hin IY stY fY (hl _ hD)) fun r s' hr=>?_
  cases r with
  | error e=>exact False.elim hr
  | ok fl=>
    obtain ⟨H',IY',q⟩:=hr
    have fin:=hend s2.heap.objs.size _ s3 s' _ H' fp _ _ rfl I3 f3 IY' q
    cases use with
    | none=>exact fin
    | some u=>exact fin
 exact xm (g:=⟨tg,iter,ifs,0⟩) rfl rfl loop (T.self _ 0 _ _ _ stY loop)
theorem CW (B:jE X N' sc nt idx) (hc:X.calm=true) (hi:PI X tg iter wi) (O:nO X N' sc elt tg iter ifs gs pos g tif tin) (hs:∀ x,foldedSetIterable iter X.env x=pure x:=by intro _;rfl):
 PE X (.ListComp elt (⟨tg,iter,ifs,0⟩::gs) sc pos) (qI nt idx wi g tif tin):=by
 intro pins s σ H Q I h
 rw [eval_ListComp]
 refine wpAny_comprehension_free (use:=none) (cl:=dX X.env.cells sc.names []) rfl hs (j8 fun y hy e=>I.ok.has y.1 (B.fr y hy e)) B.kind B.loc
  (rm B hc hi O I h (fun _ _ z=>z) fun D C s3 s' H3 H' fp nM σY hC I3 f3 IY q=>?_)
 subst hC
 obtain ⟨m,hn,_⟩:=IY.loc
 exact ⟨m,hn,fun h' hs'=>⟨.ref D,H',q_ I3 f3 IY hs',rfl,q⟩⟩
theorem CZ {i:Nat} {y:Str} {py spos:Pos} (hN:X.N.Nodup) (hi':X.N[i]? =some y) (hy:Loc X.env.scope y) (B:jE X N' sc nt idx) (hc:X.calm=true) (hi:PI X tg iter wi) (O:nO X N' sc elt tg iter ifs gs pos g tif tin)
 (hsw:swapsWith (.ListComp elt (⟨tg,iter,ifs,0⟩::gs) sc pos) (some (.Name y py)) spos.line X.env=pure true:=by rfl) (hs:∀ x,foldedSetIterable iter X.env x=pure x:=by intro _;rfl)
 (hf:X.fn y=true\/X.env.scope.names.lookup y=some .local:=by first | exact .inl rfl | exact .inr rfl | assumption):
 PS X (.Assign [.Name y py] (.ListComp elt (⟨tg,iter,ifs,0⟩::gs) sc pos) spos) (uP (qI nt idx wi g tif tin) (qD i)):=by
 intro pins s σ H D0 I h
 rw [exec_Assign_Name_used _ _ _ _ hsw]
 refine wpAny_bind (wpAny_standAt (wpAny_bind ?_))
 show wpAny _ X.A (do let _ <- comprehension (.ListComp elt (⟨tg,iter,ifs,0⟩::gs) sc pos) sc X.env _ (newList []) false (eval iter X.env) (some (assign (.Name y py) X.env))) _ _ s
 refine wpAny_bind (wpAny_mono (wpAny_comprehension_free (use:=some (assign (.Name y py) X.env)) (Q:=fun _ s'=>SP X pins D0 .next s') (cl:=dX X.env.cells sc.names []) rfl hs (j8 fun y hy e=>I.ok.has y.1 (B.fr y hy e)) B.kind B.loc
  (rm B hc hi O I h (fun _ _ z=>z) fun D C s3 s' H3 H' fp nM σY hC I3 f3 IY q=>?_)) (fun _ s' hq=>wpAny_pure (wpAny_pure hq)) fun _ _ e=>e)
 subst hC
 obtain ⟨m,hn,_⟩:=id IY.loc
 obtain ⟨oC,es,ep,hoC,hdC,rest⟩:=id hn
 have IX:Inv X pins σ H' s':=q_ (h':=s'.heap) I3 f3 IY (Heap.SameBut.refl ..)
 have neL:s3.heap.objs.size ≠ X.env.locals:=Nat.ne_of_gt I3.lt
 have nfs:s3.heap.objs.size ∉ X.fs:=I3.Ep (Nat.le_refl _)
 have Jm:∀ x c,X.env.cells.lookup x=some c->c ≠ s3.heap.objs.size:=fun x c e z=>by
  obtain ⟨v,hv⟩:=I3.cell x c e
  exact absurd hv.lt (by rw [z];exact Nat.lt_irrefl _)
 have KN:s'.heap.get? s3.heap.objs.size=some oC:=hoC
 have hfree:H' s3.heap.objs.size=none:=IY.free
 have IP:Inv X (pins ++ [(s3.heap.objs.size,oC)]) σ H' s':=IX.oU fun p hp=>by
  rcases List.mem_append.mp hp with z | z
  · exact IX.pin p (List.mem_append_right _ z)
  · have e:p=(s3.heap.objs.size,oC):=by simpa using z
    subst e
    exact ⟨KN,hfree,neL,nfs,fun v z=>by rw [hdC] at z;cases z⟩
 show wpAny _ X.A (assign (.Name y py) X.env (.ref D)) _ _ _
 refine wpAny_assign_Name (ie IP hN hi' hy (v:=.ref D) rfl (fun s'' I''=>?_) hf)
 have pC:=I''.pin (s3.heap.objs.size,oC) (List.mem_append_right _ (List.mem_append_right _ (List.mem_singleton.mpr rfl)))
 refine ⟨m,⟨oC,es,ep,pC.1,hdC,rest⟩,fun h' hs'=>?_⟩
 refine ⟨_,H',(I''.ir).turned (it:=s3.heap.objs.size) (h':=h') (t':=s''.toks) (fun b o hb e=>hs'.extBut b o hb e) pC.2.1 neL (.inr I3.sz) Jm (fun p hp z=>?_),q⟩
 have:=(I3.pin p hp).1
 exact absurd (Heap.lt_size this) (by rw [z];exact Nat.lt_irrefl _)
theorem Bk {te:TE} (hg:∀ C s₀ H₀ fp,PG (blk X N' sc C s₀ H₀ fp) tg g) (hif:∀ C s₀ H₀ fp,PTs (blk X N' sc C s₀ H₀ fp) ifs tif) (he:∀ C s₀ H₀ fp,PE (blk X N' sc C s₀ H₀ fp) elt te):
 nO X N' sc elt tg iter ifs [] pos g tif (fun D=>vC D te):=
 ⟨fun C s₀ H₀ fp D it=>⟨_,Jl elt tg iter ifs sc pos (.ref it) (.ref D) _,hg C s₀ H₀ fp,hif C s₀ H₀ fp,CQ (he C s₀ H₀ fp)⟩⟩
end
end L2
namespace L2
open PySem PySem.Spec PySem.SeqAt PyProof.Rows
def Gf (N N':List Str) (sc osc:Scope) (nt:Nat) (idx:List Nat):Bool:=
 decide (sc.kind= .function) && sc.names.all (fun y=>decide (y.2 ≠ .cell)) && sc.names.all (fun y=> !decide (y.2= .local) || decide (sc.names.lookup y.1=some .local)) &&
 sc.names.all (fun y=> !decide (y.2= .free) || (decide (osc.names.lookup y.1=some .cell) || decide (osc.names.lookup y.1=some .free))) && decide (nt + idx.length=N'.length) &&
 (idx.zip (N'.drop nt)).all (fun p=>decide (N[p.1]? =some p.2) && decide (sc.names.lookup p.2=some .free))
theorem iy {X:Cx} {N N':List Str} {sc osc:Scope} {nt:Nat} {idx:List Nat} (h1:X.env.scope=osc) (h2:X.N=N) (h:Gf N N' sc osc nt idx=true):jE X N' sc nt idx:=by
 unfold Gf at h
 simp only [Bool.and_eq_true,List.all_eq_true,decide_eq_true_eq,Bool.or_eq_true,Bool.not_eq_true',decide_eq_false_iff_not] at h
 obtain ⟨⟨⟨⟨⟨a,b⟩,c⟩,d⟩,e⟩,f⟩:=h
 refine ⟨a,b,fun y hy q=>(c y hy).resolve_left (fun z=>z q),fun y hy q=>?_,e,fun p hp=>?_⟩
 · have z:=(d y hy).resolve_left (fun z=>z q)
   unfold Env.kindOf
   rw [h1]
   exact z
 · rw [h2];exact f p hp
structure Low (o u n d:Int):Prop where
 pos:0 < d
 gcd:Int.gcd n d=1
 eq:n * u=o * d
 le1:n.natAbs <= o.natAbs
 le2:d.natAbs <= u.natAbs
abbrev Drawn:List Int->List Int->Prop:=Paired fun n l=>0 <= n/\n < l
end L2
namespace L2
open PySem PySem.Spec PySem.SeqAt PyProof.Rows
section
variable {X:Cx}
theorem zF {bs:List Bool}:∀ {us:List Value},Vals (bs.map V.bl) us->LSm.BoolsAre us bs:=by
 induction bs with
 | nil=>intro us r;rw [List.map_nil] at r;cases r;exact .nil
 | cons b bs ih=>
   intro us r
   rw [List.map_cons] at r
   cases r with
   | cons r1 r2=>
     obtain rfl:=(show _=Value.bool b from r1)
     exact .cons b (ih r2)
def zG (f:List Bool->Bool):List V->Hp->VK->Prop:=fun xs H Q=>∃ p bs,xs= [.ref p]/\H p=some (.lst (bs.map V.bl))/\Q (.bl (f bs)) H
theorem xq (hc:X.calm=true):eO X (.builtin "all") (zG fun bs=>bs.all id):=by
 intro pins s σ H xs us Q I r h
 obtain ⟨p,bs,rfl,hp,q⟩:=h
 obtain ⟨u,rfl,ru⟩:=vals1 r
 cases ru
 obtain ⟨_,its,n,rv,ho⟩:=(show bO X.prog X.w H s.heap p (.lst (bs.map V.bl)) from I.hok p _ hp)
 have hb:=zF rv
 have hl:s.heap.IsList p its.toArray:=⟨_,ho,rfl,_,rfl⟩
 have hlt:p < s.heap.objs.size:=Heap.lt_size ho
 refine call_all_walk (wpAny_pyIter_list hl ?_)
 refine ⟨s.heap.objs.size,[s.heap.objs.size,p],[s.heap.objs.size],its.toArray.size,_,_,fun i=>(bs[i]?).getD true,rfl,Walks.list (A:=X.A.in1) (I.ok.hd hc) _ p (Nat.ne_of_lt hlt) its.toArray,
  ⟨⟨_,Heap.get?_push_size _ rfl,rfl,rfl⟩,hl.push _⟩,fun i v s' Q' E' hP hQ=>?_,fun h' tk hk=>?_⟩
 · obtain ⟨b,e,rfl⟩:=hb.get i v (by simpa using hP)
   simp only [e,Option.getD_some] at hQ
   exact wpAny_truthy_bool hQ
 · have e:((List.range its.toArray.size).all fun i=>(bs[i]?).getD true)=bs.all id:=by
    rw [List.size_toArray,hb.length];exact LSm.range_all bs
   rw [e]
   exact ⟨.bl _,H,I.kept (h':=h') (t':=tk) (LSm.kept_iter hk),rfl,q⟩
end
section
variable {X:Cx} {K:PySem.W.Frag} {tg l o e:Expr} {es:List Expr} {tl to te:TE} {t:TA} {pos apos:Pos}
def KQ (K:PySem.W.Frag):List V->Hp->VK->Prop:=fun xs H Q=>∃ p ys,xs= [.ref p]/\(SqL K H p ys\/SqT K H p ys)/\Q (.int ys.length) H
end
example (a b v:V):Wk (sgb 1 [0,1] [some a,some b]) ((sgb 1 [0,1] [some a,some b]).set 0 (some v)):=⟨rfl,rfl,trivial⟩
end L2
namespace L2
open PySem PySem.Spec PySem.SeqAt PyProof.Rows
def Kp (fs:List Addr) (g h:Heap):Prop:=∀ b o,g.get? b=some o->(b ∉ fs->h.get? b=some o)/\(b ∈ fs->∃ sl,h.get? b=some { o with slots:=sl })
theorem Kp.of_keeps {fs:List Addr} {g h:Heap} (k:∀ b o,g.get? b=some o->h.get? b=some o):Kp fs g h:=fun b o e=>⟨fun _=>k b o e,fun _=>⟨o.slots,k b o e⟩⟩
def Fly (g:Heap) (fl:Value) (e:Addr) (cls:Value) (d:Option Addr) (a0:Value) (h:Heap):Prop:=
 g.get? e=none/\∃ oe vs T oT ts,h.get? e=some oe/\oe.cls=cls/\oe.dict=d/\oe.data= .fields vs/\vs[0]? =some a0/\vs[1]? =some (.ref T)/\T ≠ e/\g.get? T=none/\h.get? T=some oT/\oT.data= .fields ts/\ts[3]? =some fl
section
variable {M:Model} {A:Around} {E:Value->Shared->Prop} {s:Shared} {base g:Heap} {env:Env} {outer:List Env} {L e:Addr} {a0:Value}
theorem xr {oe:Obj} {vs:Array Value} {head:Value} {hadNext:Bool} {Q:Unit->Shared->Prop} (hfr:A.frames=some (env::outer)) (hl:s.heap.FunFrames base (env::outer)) (hf:env.frame=some L)
 (he:s.heap.get? e=some oe) (hd:oe.data= .fields vs) (hsz:1 < vs.size)
 (h:∀ h' T oT ts,(∀ b o,s.heap.get? b=some o->b ≠ e->(b ∉ frs (env::outer)->h'.get? b=some o)/\∃ sl,h'.get? b=some { o with slots:=sl })->s.heap.get? T=none->
   h'.get? e=some (Obj.mapFields (·.setIfInBounds 1 (.ref T)) oe)->h'.get? T=some oT->oT.data= .fields ts->ts[3]? =some (rawInt L)->Q () { s with heap:=h' }):
 wpAny M A (do let a <- frameOf env;let pl <- entryPlaceOf L hadNext;let b <- EntryCells.newEntry head a .none (rawInt L) .none pl;setField (.ref e) 1 b) Q E s:=by
 have hene:e ∉ (env::outer).filterMap (·.frame):=fun hm=>by
  obtain ⟨_,o,ho,hnf⟩:=hl.mem hm
  rw [he] at ho;cases ho;exact hnf vs hd
 refine wpAny_bind (wpAny_frameOf_fun hfr hl hf fun h1 hs1=>?_)
 refine wpAny_bind (wpAny_entryPlaceOf fun pl hpl=>?_)
 unfold EntryCells.newEntry newFields
 refine wpAny_bind (wpAny_newObj_type ?_ (hpl.sizeOk5 _ _ _ _ _))
 have he1:h1.get? e=some oe:=(hs1.2.1 e hene).trans he
 refine wpAny_setField (Heap.get?_push_of_some _ he1) hd hsz ?_
 have hTe:h1.objs.size ≠ e:=Nat.ne_of_gt (Heap.lt_size he1)
 refine h _ h1.objs.size _ _ (fun b o hb hbe=>?_) ?_ ?_ ((Heap.get?_update_other _ _ hTe.symm).trans (Heap.get?_push_size h1 rfl)) rfl ?_
 · have up:∀ o',h1.get? b=some o'->((h1.push { cls:=.type "traceback",dict:=none,data:=.fields ([head,.ref L,.none,rawInt L,.none] ++ (if pl.isEmpty then List.replicate 6 Value.none else pl)).toArray }).update e (Obj.mapFields (·.setIfInBounds 1 (Value.ref h1.objs.size)))).get? b=some o':=fun o' q=>by
    rw [Heap.get?_update_other _ _ hbe.symm];exact Heap.get?_push_of_some _ q
   refine ⟨fun hn=>up o ((hs1.2.1 b hn).trans hb),?_⟩
   obtain ⟨sl,q⟩:=hs1.2.2 b o hb
   exact ⟨sl,up _ q⟩
 · cases q:s.heap.get? h1.objs.size with
   | none=>rfl
   | some o=>
     obtain ⟨sl,q'⟩:=hs1.2.2 _ o q
     exact absurd (Heap.lt_size q') (Nat.lt_irrefl _)
 · exact Heap.get?_update_self _ (Heap.get?_push_of_some _ he1) (Obj.isFreed_of_fields (Obj.data_mapFields hd _))
 · first
    | (simp;done)
    | (rcases hpl with rfl | ⟨_,_,_,_,_,_,_,rfl⟩ <;> simp)
theorem o7 (f:Array Value->Array Value) (o:Obj):(Obj.mapFields f o).dict=o.dict:=by
 obtain ⟨c,d,dt,sl⟩:=o;cases dt <;> rfl
theorem xu {cls:Value} {d:Option Addr} {Q:Unit->Shared->Prop} (hfr:A.frames=some (env::outer)) (hl:s.heap.FunFrames base (env::outer)) (hf:env.frame=some L)
 (hF:Fly g .none e cls d a0 s.heap) (hgs:Kp (frs (env::outer)) g s.heap)
 (h:∀ h',Kp (frs (env::outer)) g h'->Fly g (rawInt L) e cls d a0 h'->Q () { s with heap:=h' }):wpAny M A (noteFrame (.ref e) env) Q E s:=by
 obtain ⟨hg,oe,vs,T,oT,ts,he,hc,hdd,hd,h0,h1,hTe,hgT,hT,hdT,h3⟩:=hF
 subst hc hdd
 unfold noteFrame
 simp only [hf]
 refine wpAny_bind (wpAny_field he hd h1 ?_)
 rw [if_pos (show (Value.ref T != Value.none)=true from by simp)]
 refine wpAny_bind (wpAny_field hT hdT h3 ?_)
 rw [if_neg (show ¬ ((Value.none == rawInt L)=true) from by simp [rawInt])]
 refine wpAny_bind (wpAny_setField hT hdT (Array.getElem?_eq_some_iff.mp h3).1 ?_)
 have other:∀ b,b ≠ T->(s.heap.update T (Obj.mapFields (·.setIfInBounds 3 Value.none))).get? b=s.heap.get? b:=fun b hb=>Heap.get?_update_other _ _ (Ne.symm hb)
 have sz:=(Array.getElem?_eq_some_iff.mp h1).1
 have Jo:(s.heap.update T (Obj.mapFields (·.setIfInBounds 3 Value.none))).FunFrames base (env::outer):=hl.of_keeps fun b o hb hnf=>⟨o,(other b fun q=>by rw [q,hT] at hb;cases hb;exact hnf ts hdT).trans hb,rfl⟩
 refine xr hfr Jo hf ((other e (Ne.symm hTe)).trans he) hd sz fun h' T2 oT2 ts2 k kT ke kt kd k3=>h h' (fun b o q=>?_) ⟨hg,_,_,T2,oT2,ts2,ke,Obj.cls_mapFields _ _,o7 _ _,Obj.data_mapFields hd _,by rw [Array.getElem?_setIfInBounds_ne (by decide)];exact h0,by simp [sz],fun z=>?_,?_,kt,kd,k3⟩
 · have hbe:b ≠ e:=fun z=>by rw [z,hg] at q;cases q
   have hbT:b ≠ T:=fun z=>by rw [z,hgT] at q;cases q
   refine ⟨fun hb=>(k b o ((other b hbT).trans ((hgs b o q).1 hb)) hbe).1 hb,fun hb=>?_⟩
   obtain ⟨sl,q1⟩:=(hgs b o q).2 hb
   obtain ⟨sl2,q2⟩:=(k b _ ((other b hbT).trans q1) hbe).2
   exact ⟨sl2,q2⟩
 · rw [z,other e (Ne.symm hTe),he] at kT;cases kT
 · cases q:g.get? T2 with
   | none=>rfl
   | some o=>
     exfalso
     have hbT:T2 ≠ T:=fun z=>by rw [z,hgT] at q;cases q
     rw [other _ hbT] at kT
     by_cases hb:T2 ∈ frs (env::outer)
     · obtain ⟨sl,q1⟩:=(hgs T2 o q).2 hb
       rw [kT] at q1;cases q1
     · have q1:=(hgs T2 o q).1 hb
       rw [kT] at q1;cases q1
theorem zH {fs:List Addr} {cls fl:Value} {d:Option Addr} {Q:Unit->Shared->Prop} (hF:Fly g fl e cls d a0 s.heap) (hgs:Kp fs g s.heap)
 (h:∀ h',Kp fs g h'->Fly g .none e cls d a0 h'->Q () { s with heap:=h' }):wpAny M A (setFlight (.ref e) none) Q E s:=by
 obtain ⟨hg,oe,vs,T,oT,ts,he,hc,hdd,hd,h0,h1,hTe,hgT,hT,hdT,h3⟩:=hF
 have sz:=(Array.getElem?_eq_some_iff.mp h3).1
 have other:∀ b,b ≠ T->(s.heap.update T (Obj.mapFields (·.setIfInBounds 3 ((none:Option Addr).elim Value.none fun f=>rawInt f)))).get? b=s.heap.get? b:=fun b hb=>Heap.get?_update_other _ _ (Ne.symm hb)
 unfold setFlight
 refine wpAny_bind (wpAny_field he hd h1 ?_)
 rw [if_pos (show (Value.ref T != Value.none)=true from by simp)]
 refine wpAny_setField hT hdT sz (h _ (fun b o q=>?_) ?_)
 · have hbT:b ≠ T:=fun z=>by rw [z,hgT] at q;cases q
   exact ⟨fun hb=>(other b hbT).trans ((hgs b o q).1 hb),fun hb=>let ⟨sl,q1⟩:=(hgs b o q).2 hb;⟨sl,(other b hbT).trans q1⟩⟩
 · exact ⟨hg,oe,vs,T,_,_,(other e (Ne.symm hTe)).trans he,hc,hdd,hd,h0,h1,hTe,hgT,Heap.get?_update_self _ hT (Obj.isFreed_of_fields (Obj.data_mapFields hdT _)),Obj.data_mapFields hdT _,by simp [sz]⟩
theorem vD {cls:Value} {d:Option Addr} {Q:Unit->Shared->Prop} (hfr:A.frames=some (env::outer)) (hl:s.heap.FunFrames base (env::outer)) (hf:env.frame=some L)
 (hF:Fly g .none e cls d a0 s.heap) (hgs:Kp (frs (env::outer)) g s.heap)
 (h:∀ h',Kp (frs (env::outer)) g h'->Fly g .none e cls d a0 h'->Q () { s with heap:=h' }):wpAny M A (leaving env (.ref e)) Q E s:=by
 unfold leaving
 exact wpAny_bind (xu hfr hl hf hF hgs fun h' k F=>zH (s:={ s with heap:=h' }) F k fun h'' k2 F2=>h h'' k2 F2)
end
end L2
namespace L2
open PySem PySem.Spec PySem.SeqAt PyProof.Rows
structure Ord (bm:List Value):Prop where
 v:bm.contains (.type "ValueError")=true
 b:bm.contains (.type "BaseException")=true
 a:bm.contains (.type "AttributeError")=false
 n:bm.contains (.type "NameError")=false
section
variable {prog:Program} {w:World} {A:Around} {E:Value->Shared->Prop} {h:Heap} {g:Array GenState} {d:PySem.Drawn} {t:Nat} {os:OsState}
variable {nm q:Str} {C N:Addr} {bs bm:List Value} {hdct:Bool} {sn:List Str} {sub:List Value} {ab:Bool} {col:Option Bool} {dd:Option Addr} {k0 k1 k2 k3 k5:Option Value}
end
end L2
namespace L2
open PySem PySem.Spec PySem.SeqAt PyProof.Rows
open PySem.Builtin.ObjectAttr
abbrev bmV:List Value:=[.type "ValueError",.type "Exception",.type "BaseException",.type "object"]
section
variable {prog:Program} {w:World} {A:Around} {E:Value->Shared->Prop} {s:Shared} {K:PySem.W.Frag} {C e t:Addr} {v:Value} {name:Str} {cd:ClassData} {as:List Addr}
end
section
variable {prog:Program} {w:World} {A:Around} {E:Value->Shared->Prop} {h:Heap} {g:Array GenState} {d:PySem.Drawn} {t:Nat} {os:OsState}
variable {nm q:Str} {C N e ta:Addr} {bs bm:List Value} {hdct:Bool} {sn:List Str} {sub:List Value} {ab:Bool} {col:Option Bool} {dd od:Option Addr} {k0 k1 k2 k3 k5:Option Value}
end
end L2
namespace L2
open PySem PySem.Spec PySem.SeqAt PyProof.Rows
section
variable {prog:Program} {w:World} {A:Around} {E:Value->Shared->Prop} {h:Heap} {g:Array GenState} {d:PySem.Drawn} {t:Nat} {os:OsState}
variable {nm q:Str} {C N e dx:Addr} {bs bm:List Value} {hdct:Bool} {sn:List Str} {sub:List Value} {ab:Bool} {col:Option Bool} {dd:Option Addr} {k0 k1 k2 k3 k5:Option Value} {K:PySem.W.Frag} {cd:ClassData}
end
end L2
namespace L2
open PySem PySem.Spec PySem.SeqAt PyProof.Rows
structure Sup (H':Hp) (h0 g h:Heap):Prop where
 sub:∀ b o,g.get? b=some o->h.get? b=some o
 old:∀ b o,h.get? b=some o->((∃ o0,h0.get? b=some o0)\/∃ u,H' b=some u)->g.get? b=some o
def CXE (P:Program) (w:World):CXT:=fun outer H s E ev s'=>∃ (e:Addr) (C:Value) (d:Option Addr) (a0:Value) (H':Hp) (g:Heap),ev= .ref e/\s'.os=s.os/\AllBare s'.gens/\
 Un (frs outer) [] H H' s.heap s'.heap/\HOk P w H' s'.heap/\Fly g .none e C d a0 s'.heap/\Sup H' s.heap g s'.heap/\E C d H'
theorem rz {P:Program} {w:World} {outer:List Env} {H:Hp} {s s':Shared} {e:Value}:¬ CXE P w outer H s (fun _ _ _=>False) e s':=fun ⟨_,_,_,_,_,_,_,_,_,_,_,_,_,h⟩=>h
theorem bO.get {P:Program} {w:World} {H:Hp} {h:Heap} {a:Addr} {o:HO} (x:bO P w H h a o):∃ ob,h.get? a=some ob:=by
 cases o with
 | lst xs=>obtain ⟨_,_,_,_,e⟩:=x;exact ⟨_,e⟩
 | tup xs=>obtain ⟨_,_,_,ob,e,_⟩:=x;exact ⟨_,e⟩
 | dK kvs=>obtain ⟨_,_,_,_,o,_,_,e,_⟩:=x;exact ⟨_,e⟩
 | dT kvs=>obtain ⟨_,_,_,_,o,_,_,e,_⟩:=x;exact ⟨_,e⟩
 | set S n=>obtain ⟨o,_,_,_,e,_⟩:=x;exact ⟨_,e⟩
 | ins C dx fs=>obtain ⟨_,_,_,e,_⟩:=x;exact ⟨_,e⟩
 | own y=>obtain ⟨_,e⟩:=x;exact ⟨_,e⟩
 | xd fs=>obtain ⟨_,⟨_,_,_,e,_⟩,_⟩:=x;exact ⟨_,e⟩
 | rng lo hi=>obtain ⟨_,_,_,e⟩:=x;exact ⟨_,e⟩
 | frz ob u=>obtain ⟨e,_⟩:=x;exact ⟨_,e⟩
 | tbl ps=>exact ⟨_,(show h.get? a=some _ from x)⟩
 | met f y=>exact ⟨_,(show h.get? a=some _ from x)⟩
 | ext φ=>obtain ⟨_,⟨_,e⟩,_⟩:=x;exact ⟨_,e⟩
def only (g h:Heap):Heap:=PySem.W.hideAll h ((List.range h.objs.size).filter fun b=>(g.get? b).isNone)
theorem pW {g h:Heap} {b:Addr} (hb:g.get? b=none):(only g h).get? b=none:=by
 cases q:(only g h).get? b with
 | none=>rfl
 | some o=>
   have e:h.get? b=some o:=PySem.W.of_hideAll _ q
   have hm:b ∈ (List.range h.objs.size).filter fun b=>(g.get? b).isNone:=List.mem_filter.mpr ⟨List.mem_range.mpr (Heap.lt_size e),by rw [hb];rfl⟩
   have q2:(only g h).get? b=none:=PySem.W.hideAll_none _ hm
   rw [q] at q2;cases q2
theorem zJ {g h:Heap} {b:Addr} {o o':Obj} (e:h.get? b=some o) (hb:g.get? b=some o'):(only g h).get? b=some o:=by
 refine PySem.W.hideAll_get _ e fun hm=>?_
 have:=(List.mem_filter.mp hm).2
 rw [hb] at this;cases this
theorem C_ {g h:Heap} {b:Addr} {o:Obj} (e:(only g h).get? b=some o):h.get? b=some o:=PySem.W.of_hideAll _ e
theorem Fly.only {g h:Heap} {fl:Value} {e:Addr} {C:Value} {d:Option Addr} {a0:Value} (F:Fly g fl e C d a0 h):Fly (only g h) fl e C d a0 h:=by
 obtain ⟨hg,oe,vs,T,oT,ts,h1,h2,h3,h4,h5,h6,h7,h8,r⟩:=F
 exact ⟨pW hg,oe,vs,T,oT,ts,h1,h2,h3,h4,h5,h6,h7,pW h8,r⟩
theorem jF {env:Env} {outer:List Env} {L:Addr} (h:env.frame=some L):frs (env::outer)=L::frs outer:=by
 unfold frs;rw [List.filterMap_cons,h]
structure Own (X:Cx):Prop where
 ex:X.ex= []
 st:X.stack=X.env::X.outer
 fr:X.env.frame=some X.env.locals
section
variable {X:Cx} {pins:List (Addr × Obj)} {σ:St} {H H':Hp} {s s':Shared} {E:XK} {e:Addr} {C:Value} {d:Option Addr} {a0:Value} {g h':Heap}
theorem Own.frs (O:Own X):L2.frs X.stack=X.env.locals::X.fs:=by rw [O.st,jF O.fr]
theorem Inv.Gg (I:Inv X pins σ H s) (O:Own X) {b:Addr} {o:Obj} (q:X.s₀.heap.get? b=some o):∃ o',s.heap.get? b=some o':=I.base.there b o q (by rw [O.ex];simp)
theorem Gh {fs:List Addr} {base h h':Heap} {l:List Env} (u:Un fs [] H H' h h') (hs:∀ b ∈ L2.frs l,b ∈ fs) (hf:∀ b ∈ L2.frs l,H b=none) (hl:h.FunFrames base l):h'.FunFrames base l:=by
 induction l with
 | nil=>trivial
 | cons env rest ih=>
   obtain ⟨hk,⟨L,o,hfr,hn,ho,hd⟩,hr⟩:=hl
   have hm:L ∈ L2.frs (env::rest):=by rw [jF hfr];exact List.mem_cons_self
   obtain ⟨sl,e⟩:=u.slot L o ho (hf L hm) (hs L hm) (by simp)
   exact ⟨hk,⟨L,_,hfr,hn,e,hd⟩,ih (fun b hb=>hs b (by rw [jF hfr];exact List.mem_cons_of_mem _ hb)) (fun b hb=>hf b (by rw [jF hfr];exact List.mem_cons_of_mem _ hb)) hr⟩
theorem Gi (O:Own X) (I:Inv X pins σ H s) (hos:s'.os=s.os) (hb:AllBare s'.gens) (u:Un (L2.frs X.stack) [] H H' s.heap s'.heap) (ok:HOk X.prog X.w H' s'.heap)
 (sup:Sup H' X.s₀.heap g s'.heap) (k:Kp (L2.frs X.stack) g h') (F:Fly g .none e C d a0 h') (hE:E C d H'):CXE X.prog X.w X.outer X.H₀ X.s₀ E (.ref e) { s' with heap:=h' }:=by
 have b0:Un X.fs [] X.H₀ H X.s₀.heap s.heap:=by have:=I.base;rw [O.ex] at this;exact this
 have fr:=O.frs
 rw [fr] at u k
 have u0:Un (X.env.locals::X.fs) [] X.H₀ H' X.s₀.heap s'.heap:=(b0.mono (fun b hb=>List.mem_cons_of_mem _ hb) fun _ h=>h).trans u
 have hL:X.s₀.heap.get? X.env.locals=none:=Heap.get?_none_of_le I.ok.above
 have neL:∀ {b o},X.s₀.heap.get? b=some o->b ≠ X.env.locals:=fun q z=>by rw [z,hL] at q;cases q
 have nof:∀ b u',H' b=some u'->b ∉ X.env.locals::X.fs:=fun b u' q hm=>by
  have hm':b ∈ L2.frs X.stack:=by rw [fr];exact hm
  obtain ⟨_,o,ho,_⟩:=I.stack.mem hm'
  rw [u.free b o ho (I.lQ b hm') (by simp)] at q;cases q
 refine ⟨e,C,d,a0,H',L2.only g h',rfl,hos.trans I.os,hb,⟨fun b o q n hf _=>?_,fun b o q n hf _=>?_,u0.free,fun b o q _=>?_,u0.tups,u0.eV,u0.fG⟩,fun a o ea=>?_,F.only,⟨fun b o q=>C_ q,fun b o q hc=>?_⟩,hE⟩
 · have hn:b ∉ X.env.locals::X.fs:=fun z=>(List.mem_cons.mp z).elim (neL q) hf
   exact (k b o (sup.old b o (u0.keep b o q n hn (by simp)) (.inl ⟨o,q⟩))).1 hn
 · obtain ⟨sl,q1⟩:=u0.slot b o q n (List.mem_cons_of_mem _ hf) (by simp)
   obtain ⟨sl2,q2⟩:=(k b _ (sup.old b _ q1 (.inl ⟨o,q⟩))).2 (List.mem_cons_of_mem _ hf)
   exact ⟨sl2,q2⟩
 · obtain ⟨o',q1⟩:=u0.there b o q (by simp)
   have q2:=sup.old b _ q1 (.inl ⟨o,q⟩)
   by_cases hm:b ∈ X.env.locals::X.fs
   · obtain ⟨sl,q3⟩:=(k b _ q2).2 hm
     exact ⟨_,q3⟩
   · exact ⟨_,(k b _ q2).1 hm⟩
 · refine (ok a o ea).stay (fun b v hbv q=>?_) (fun _ q=>q) fun _ _ q=>q
   have tr:∃ u',H' b=some u':=by
    rcases hbv with z | z
    · exact ⟨o,by rw [z];exact ea⟩
    · exact ⟨_,z⟩
   obtain ⟨u',z⟩:=tr
   exact (k b v (sup.old b v q (.inr ⟨u',z⟩))).1 (nof b u' z)
 · have:∃ o',g.get? b=some o':=by
    rcases hc with ⟨o0,q0⟩ | ⟨u',z⟩
    · obtain ⟨o',q1⟩:=u0.there b o0 q0 (by simp)
      exact ⟨_,sup.old b _ q1 (.inl ⟨o0,q0⟩)⟩
    · obtain ⟨o',q1⟩:=(ok b u' z).get
      exact ⟨_,sup.old b _ q1 (.inr ⟨u',z⟩)⟩
   obtain ⟨o',q2⟩:=this
   exact zJ q q2
def Gj (X:Cx) (E:XK):Value->Shared->Prop:=fun e s'=>wpAny (model X.prog X.w) X.A (leaving X.env e) (fun _ s''=>CXE X.prog X.w X.outer X.H₀ X.s₀ E e s'') (fun e' s''=>CXE X.prog X.w X.outer X.H₀ X.s₀ E e' s'') s'
theorem rA {E':XK} (O:Own X) (hx:X.xe=Gj X E) (hE:∀ C d H,E' C d H->E C d H):Passes (CXE X.prog X.w) X E':=by
 intro pins σ H s ev s' I h
 obtain ⟨e,C,d,a0,H',g,rfl,hos,hb,u,ok,F,sup,q⟩:=h
 rw [hx]
 unfold Gj
 have hfr:X.A.frames=some (X.env::X.outer):=by rw [I.ok.frames,O.st]
 have hl:s'.heap.FunFrames X.base (X.env::X.outer):=by
  have:=Gh u (fun _ h=>h) I.lQ I.stack
  rw [O.st] at this;exact this
 refine vD hfr hl O.fr F (Kp.of_keeps sup.sub) fun h' k F'=>?_
 rw [<- O.st] at k
 refine Gi O I hos hb u ok ⟨sup.sub,fun b o q hc=>sup.old b o q ?_⟩ k F' (hE _ _ _ q)
 rcases hc with ⟨o0,q0⟩ | z
 · exact .inl (I.Gg O q0)
 · exact .inr z
end
end L2
namespace L2
open PySem PySem.Spec PySem.SeqAt PyProof.Rows
structure Gk (K:PySem.W.Frag) (C:Addr):Prop where
 obj:∃ (nm q:Str) (N:Addr) (bs:List Value) (as:List Addr) (sn:List Str) (sub:List Value) (ab:Bool) (col:Option Bool) (dd:Option Addr) (k0 k1 k2 k3 k5:Option Value),
  K.lookup C=some (excClassObj nm q C N bs (as.map Value.ref ++ bmV) true sn sub ab col dd k0 k1 k2 k3 k5 "ValueError.__new__")
 Mr:PySem.W.findIn K (.ref C) "__setattr__" =some (some (.builtin "object.__setattr__"))
 Ms:PySem.W.findIn K (.ref C) "__getattribute__" =some (some (.builtin "BaseException.__getattribute__"))
 Mt:PySem.W.findIn K (.ref C) "__getattr__" =some none
structure XMk (K:PySem.W.Frag) (C f:Addr):Prop where
 cls:Gk K C
 init:PySem.W.findIn K (.ref C) "__init__" =some (some (.ref f))
 fn:PySem.W.typeIn K (.ref f)=some (.type "function")
 kp:PySem.W.keepIn K (.ref C)=true
section
variable {X:Cx} {pins:List (Addr × Obj)} {σ:St} {H:Hp} {s:Shared}
structure CI (K:PySem.W.Frag) (S f:Addr):Prop where
 sp:PySem.W.specialIn K (.ref S) "__getattribute__" =some (some (.builtin "type.__getattribute__"))
 rd:PySem.W.readsIn K S (.type "type")=true
 fc:PySem.W.findCls K (.ref S) (.type "type") "__init__" =some (.val (.ref f))
 hd:PySem.W.handedIn (.ref f)=true
 kp:PySem.W.keepIn K (.ref f)=true
end
end L2
namespace L2
open PySem PySem.Spec PySem.SeqAt PyProof.Rows
def KR (K:PySem.W.Frag) (C S:Addr):Prop:=∃ cd:ClassData,PySem.W.clsIn K C=some cd/\cd.mro.contains (.ref S)=true
section
variable {X:Cx} {pins:List (Addr × Obj)} {σ:St} {H H':Hp} {s s':Shared} {e:Addr} {oe:Obj}
end
end L2
namespace L2
open PySem PySem.Spec PySem.SeqAt PyProof.Rows
section
variable {X:Cx} {pins:List (Addr × Obj)} {σ:St} {H:Hp} {s:Shared} {h':Heap}
end
def Itz (K:PySem.W.Frag) (a b:Addr):It:=
 ⟨fun i H=>∃ xs ys x y,SqL K H a xs/\SqL K H b ys/\xs[i]? =some x/\ys[i]? =some y,
  fun i H v H'=>∃ T x y,H T=none/\v= .ref T/\H'=upd H T (.tup [x,y])/\(∀ xs,SqL K H a xs->xs[i]? =some x)/\∀ ys,SqL K H b ys->ys[i]? =some y,
  fun i H=>∃ xs ys,SqL K H a xs/\SqL K H b ys/\(xs.length <= i\/ys.length <= i)⟩
structure Mf (z TI TO i1 i2 a b:Addr) (i:Nat) (h:Heap):Prop where
 hz:IsZip h z TI TO .none
 hTI:IsPair h TI (.ref i1) (.ref i2)
 hTO:∃ p q,IsPair h TO p q
 h1:h.IsListIter i1 a i
 h2:h.IsListIter i2 b i
section
variable {X:Cx}
def Itd (lo:Int) (n:Nat):It:=⟨fun i _=>i < n,fun i H x H'=>H'=H/\x= .int (lo - i),fun i _=>n <= i⟩
end
end L2
namespace L2
open PySem PySem.Spec PySem.SeqAt PyProof.Rows
def Ite (K:PySem.W.Frag) (a:Addr):It:=
 ⟨fun i H=>∃ xs x,SqL K H a xs/\xs[i]? =some x,
  fun i H v H'=>∃ T x,H T=none/\v= .ref T/\H'=upd H T (.tup [.int i,x])/\∀ xs,SqL K H a xs->xs[i]? =some x,
  fun i H=>∃ xs,SqL K H a xs/\xs.length <= i⟩
structure LK (e i1 a:Addr) (i:Nat) (h:Heap):Prop where
 he:∃ old,IsEnum h e i1 i old
 h1:h.IsListIter i1 a i
section
variable {X:Cx}
end
end L2
namespace L2
open PySem PySem.Spec PySem.SeqAt PyProof.Rows
section
variable {M:Model} {A:Around} {E:Value->Shared->Prop} {s:Shared}
end
section
variable {X:Cx}
end
end L2
namespace Ev
noncomputable section
inductive W where | non | bl (b:Bool) | int (i:Int) | str (c:List Nat) | ref (n:Nat)
 deriving DecidableEq
abbrev Fs:=List (List Nat × W)
inductive O where
 | tup (xs:List W) | lst (xs:List W) | ins (C:Nat) (fs:Fs) | dk (kvs:List (W × W)) | dt (kvs:List (List W × W)) | scr (ns:List Int)
 deriving DecidableEq
inductive Tr where | lf | nd (o:Option O) (l r:Tr)
def Tr.get (t:Tr):Nat->Option O:=Tr.rec (fun _=>none) (fun o _ _ gl gr k=>Nat.rec o (fun k _=>Bool.rec (gr (Nat.div k 2)) (gl (Nat.div k 2)) (Nat.beq (Nat.mod k 2) 0)) k) t
def Tr.set (d:Nat):Tr->Nat->O->Tr:=Nat.rec (fun t _ _=>t) (fun _ ih t k o=>Tr.rec
    (Nat.rec (.nd (some o) .lf .lf) (fun k _=>Bool.rec (.nd none .lf (ih .lf (Nat.div k 2) o)) (.nd none (ih .lf (Nat.div k 2) o) .lf) (Nat.beq (Nat.mod k 2) 0)) k)
    (fun x l r _ _=>Nat.rec (.nd (some o) l r) (fun k _=>Bool.rec (.nd x l (ih r (Nat.div k 2) o)) (.nd x (ih l (Nat.div k 2) o) r) (Nat.beq (Nat.mod k 2) 0)) k) t) d
inductive Hs where | mk (n:Nat) (t:Tr)
def Hs.n (h:Hs):Nat:=Hs.rec (fun n _=>n) h
def Hs.get (h:Hs) (k:Nat):Option O:=Hs.rec (fun _ t=>t.get k) h
def Hs.set (h:Hs) (k:Nat) (o:O):Hs:=Hs.rec (fun n t=>.mk n (t.set (Nat.succ k) k o)) h
def Hs.push (h:Hs) (o:O):Hs:=Hs.rec (fun n t=>.mk (Nat.add n 1) (t.set (Nat.succ n) n o)) h
inductive R (α:Type) where | ok (a:α) (h:Hs) | ex (C:Nat) (fs:Fs) (h:Hs) | no
def R.bind {α β:Type} (r:R α) (f:α->Hs->R β):R β:=R.rec (fun a h=>f a h) (fun C fs h=>.ex C fs h) .no r
def R.nox {α:Type} (r:R α):R α:=R.rec (fun a h=>.ok a h) (fun _ _ _=>.no) .no r
def W.elim {β:Type} (w:W) (z:β) (b:Bool->β) (i:Int->β) (s:List Nat->β) (r:Nat->β):β:=W.rec z b i s r w
def W.onI {β:Type} (w:W) (f:Int->R β):R β:=W.rec .no (fun _=>.no) f (fun _=>.no) (fun _=>.no) w
def W.onR {β:Type} (w:W) (f:Nat->R β):R β:=W.rec .no (fun _=>.no) (fun _=>.no) (fun _=>.no) f w
def W.onB {β:Type} (w:W) (f t:R β):R β:=W.rec .no (fun b=>Bool.rec f t b) (fun _=>.no) (fun _=>.no) (fun _=>.no) w
def ifB {β:Type} (b:Bool) (t f:β):β:=Bool.rec f t b
def cj (ws:List W) (f:W->R W):R W:=List.rec .no (fun a r _=>List.rec (f a) (fun _ _ _=>.no) r) ws
def eY (ws:List W) (f:W->W->R W):R W:=List.rec .no (fun a r _=>List.rec .no (fun b r _=>List.rec (f a b) (fun _ _ _=>.no) r) r) ws
def kJ (ws:List W) (f:Int->Int->R W):R W:=eY ws fun a b=>a.onI fun i=>b.onI fun j=>f i j
abbrev Sg:=List (Option W)
inductive Fl where | nx (τ:Sg) | rt (w:W) | bk (τ:Sg) | ct (τ:Sg)
def app {α:Type} (xs ys:List α):List α:=List.rec ys (fun x _ r=>x::r) xs
def len {α:Type} (xs:List α):Nat:=List.rec 0 (fun _ _ r=>Nat.add r 1) xs
def nth {α:Type} (xs:List α):Nat->Option α:=List.rec (fun _=>none) (fun x _ ih k=>Nat.rec (some x) (fun k _=>ih k) k) xs
def drp {α:Type} (xs:List α):Nat->List α:=List.rec (fun _=>[]) (fun x r ih k=>Nat.rec (x::r) (fun k _=>ih k) k) xs
def tak {α:Type} (xs:List α):Nat->List α:=List.rec (fun _=>[]) (fun x _ ih k=>Nat.rec [] (fun k _=>x::ih k) k) xs
def setAt {α:Type} (τ:List α) (w:α):Nat->List α:=List.rec (fun _=>[]) (fun x r ih k=>Nat.rec (w::r) (fun k _=>x::ih k) k) τ
def aP (τ:Sg):Nat->Option W:=List.rec (fun _=>none) (fun x _ ih k=>Nat.rec x (fun k _=>ih k) k) τ
def codes (x:List Nat):List Nat->Bool:=List.rec (fun y=>List.rec true (fun _ _ _=>false) y) (fun a _ ih y=>List.rec false (fun b r _=>ifB (Nat.beq a b) (ih r) false) y) x
def ieq (i j:Int):Bool:=Int.rec (fun a=>Int.rec (fun b=>Nat.beq a b) (fun _=>false) j) (fun a=>Int.rec (fun _=>false) (fun b=>Nat.beq a b) j) i
def ilt (i j:Int):Bool:=Int.rec (fun a=>Int.rec (fun b=>Nat.ble (Nat.add a 1) b) (fun _=>false) j) (fun a=>Int.rec (fun _=>true) (fun b=>Nat.ble (Nat.add b 1) a) j) i
def Opt {α β:Type} (o:Option α) (f:α->R β):R β:=Option.rec .no f o
def O.items {β:Type} (o:O) (f:List W->R β):R β:=O.rec f f (fun _ _=>.no) (fun _=>.no) (fun _=>.no) (fun _=>.no) o
def O.onL {β:Type} (o:O) (f:List W->R β):R β:=O.rec (fun _=>.no) f (fun _ _=>.no) (fun _=>.no) (fun _=>.no) (fun _=>.no) o
def O.onT {β:Type} (o:O) (f:List W->R β):R β:=O.rec f (fun _=>.no) (fun _ _=>.no) (fun _=>.no) (fun _=>.no) (fun _=>.no) o
def O.onS {β:Type} (o:O) (f:List W->R β):R β:=O.rec (fun _=>.no) f (fun _ _=>.no) (fun _=>.no) (fun _=>.no) (fun _=>.no) o
def O.onI {β:Type} (o:O) (f:Nat->Fs->R β):R β:=O.rec (fun _=>.no) (fun _=>.no) f (fun _=>.no) (fun _=>.no) (fun _=>.no) o
def Hs.at {β:Type} (h:Hs) (w:W) (f:Nat->O->R β):R β:=w.onR fun n=>Opt (h.get n) (f n)
def R.alloc (h:Hs) (o:O):R W:=.ok (.ref h.n) (h.push o)
def R.yes (b:Bool) (h:Hs):R W:=.ok (.bl b) h
inductive D where | non | bl (b:Bool) | int (i:Int) | str (c:List Nat) | lst (xs:List D) | tup (xs:List D)
def okC (c:List Nat):Bool:=List.rec true (fun x _ r=>ifB (Nat.ble (x + 1) 1114112) r false) c
def cZ (f:W->Option D) (xs:List W):Option (List D):=List.rec (some []) (fun x _ r=>Option.rec none (fun d=>Option.rec none (fun ds=>some (d::ds)) r) (f x)) xs
def toD (h:Hs) (n:Nat):W->Option D:=Nat.rec (fun _=>none) (fun _ ih w=>W.elim w (some .non) (fun b=>some (.bl b)) (fun i=>some (.int i)) (fun c=>ifB (okC c) (some (.str c)) none) fun k=>
 Option.rec none (fun o=>O.rec (fun xs=>Option.rec none (fun ds=>some (.tup ds)) (cZ ih xs)) (fun xs=>Option.rec none (fun ds=>some (.lst ds)) (cZ ih xs)) (fun _ _=>none) (fun _=>none) (fun _=>none) (fun _=>none) o) (h.get k)) n
def D.bools (b:Bool) (d:D):Bool:=D.casesOn d false (fun c=>Bool.rec (!c) c b) (fun _=>false) (fun _=>false) (fun _=>false) (fun _=>false)
mutual
def bK:D->D->Bool
 | .non,.non=>true
 | .bl a,.bl b=>a == b
 | .int i,.int j=>ieq i j
 | .str x,.str y=>codes x y
 | .lst xs,.lst ys=>je xs ys
 | .tup xs,.tup ys=>je xs ys
 | .bl a,.int j=>ieq (if a then 1 else 0) j
 | .int i,.bl b=>ieq i (if b then 1 else 0)
 | _,_=>false
def je:List D->List D->Bool
 | [],[]=>true
 | x::xs,y::ys=>bK x y && je xs ys
 | _,_=>false
end
mutual
def cC:D->D->Bool
 | .non,.non=>true
 | .bl a,.bl b=>a == b
 | .int i,.int j=>ieq i j
 | .str x,.str y=>codes x y
 | .lst xs,.lst ys=>d_ xs ys
 | .tup xs,.tup ys=>d_ xs ys
 | _,_=>false
def d_:List D->List D->Bool
 | [],[]=>true
 | x::xs,y::ys=>cC x y && d_ xs ys
 | _,_=>false
end
def mU (i j:Int):Int:=Int.rec (fun a=>Int.rec (fun b=>.ofNat (Nat.add a b)) (fun b=>Int.subNatNat a (Nat.add b 1)) j) (fun a=>Int.rec (fun b=>Int.subNatNat b (Nat.add a 1)) (fun b=>.negSucc (Nat.add (Nat.add a b) 1)) j) i
def vG (i j:Int):Int:=Int.rec (fun a=>Int.rec (fun b=>Bool.rec (.negSucc (Nat.sub (Nat.sub b a) 1)) (.ofNat (Nat.sub a b)) (Nat.ble b a)) (fun b=>.ofNat (Nat.add (Nat.add a b) 1)) j) (fun a=>Int.rec (fun b=>.negSucc (Nat.add a b)) (fun b=>i - .negSucc b) j) i
def fmod (i j:Int):Int:=Int.rec (fun a=>Int.rec (fun b=>.ofNat (Nat.mod a b)) (fun b=>i % .negSucc b) j) (fun a=>Int.rec (fun b=>.negSucc a % .ofNat b) (fun b=>.negSucc a % .negSucc b) j) i
structure Pr where
 f:List W->Hs->R W
def Sml (i:Int):Bool:=Int.rec (fun a=>Nat.ble (a + 1) (2 ^ 4000)) (fun a=>Nat.ble (a + 2) (2 ^ 4000)) i
def size (xs:List W) (k:R W):R W:=ifB (Nat.ble (len xs) 16777215) k .no
def Gm (h:Hs) (a b:W):R W:=h.at a fun _ x=>h.at b fun _ y=>O.casesOn x (fun _=>.no) (fun xs=>y.onL fun ys=>size (app xs ys) (.alloc h (.lst (app xs ys)))) (fun _ _=>.no) (fun _=>.no) (fun _=>.no) (fun _=>.no)
def Gn (h:Hs) (a b:W):R W:=W.elim a .no (fun _=>.no) (fun i=>b.onI fun j=>.ok (.int (mU i j)) h) (fun _=>.no) (fun _=>Gm h a b)
def Gp (h:Hs) (i j:Int):R W:=.ok (.int (vG i j)) h
def zK (xs:List W) (k:Nat):List W:=Nat.rec [] (fun _ r=>app xs r) k
def Gq (h:Hs) (a:W) (k:Int):R W:=h.at a fun _ x=>x.onL fun xs=>ifB (ilt k 100000) (ifB (ilt (-100000) k) (ifB (Nat.ble (len xs) 100) (.alloc h (.lst (zK xs k.toNat))) .no) .no) .no
def Gr (h:Hs) (a b:W):R W:=b.onI fun j=>W.elim a .no (fun _=>.no) (fun i=>ifB (Sml i) (ifB (Sml j) (.ok (.int (i * j)) h) .no) .no) (fun _=>.no) (fun _=>Gq h a j)
def Gs (h:Hs) (i j:Int):R W:=ifB (ilt 0 j) (.ok (.int (fmod i j)) h) .no
def Bl (h:Hs) (i j:Int):R W:=ifB (ilt 0 j) (ifB (Sml j) (.ok (.int (i.fdiv j)) h) .no) .no
def KY (h:Hs) (a:W):R W:=a.onI fun i=>.ok (.int (-i)) h
def Gu (h:Hs) (a:W):R W:=a.onI fun i=>.ok (.int (Int.ofNat i.natAbs)) h
def KZ (h:Hs) (i j:Int):R W:=.ok (.int (ifB (ilt j i) j i)) h
def K1 (h:Hs) (i j:Int):R W:=.ok (.int (ifB (ilt i j) j i)) h
def zL (n:Nat) (i:Int):Nat:=Int.rec (fun k=>k) (fun k=>ifB (Nat.ble (k + 1) n) (n - (k + 1)) n) i
def pIx (h:Hs) (a b:W):R W:=h.at a fun _ o=>o.items fun xs=>b.onI fun i=>Opt (nth xs (zL (len xs) i)) fun w=>.ok w h
def Gv (h:Hs) (a:W):R W:=h.at a fun _ o=>o.items fun xs=>.ok (.int (.ofNat (len xs))) h
def wD (h:Hs) (w:W) (f:D->R W):R W:=Opt (toD h 12 w) f
def pEq (f:Bool->Bool) (h:Hs) (a b:W):R W:=wD h a fun x=>wD h b fun y=>.yes (f (bK x y)) h
def Jp (h:Hs) (a b:W):R W:=wD h a fun x=>wD h b fun y=>.yes (cC x y) h
def zM (xs:List W):Bool:=List.rec false (fun _ _ _=>true) xs
def xx (h:Hs) (a:W):R W:=W.elim a (.yes false h) (fun b=>.yes b h) (fun i=>.yes (!ieq i 0) h) (fun _=>.no) (fun _=>h.at a fun _ o=>o.items fun xs=>.yes (zM xs) h)
def lV (h:Hs) (a b:W):R W:=h.at a fun n o=>o.onL fun xs=>size xs (.ok .non (h.set n (.lst (app xs [b]))))
def init (xs:List W):List W:=List.rec [] (fun x r ih=>List.rec [] (fun _ _ _=>x::ih) r) xs
def last (xs:List W):Option W:=List.rec none (fun x _ ih=>some (Option.rec x (fun y=>y) ih)) xs
def K3 (h:Hs) (a:W):R W:=h.at a fun n o=>o.onL fun xs=>Opt (last xs) fun w=>.ok w (h.set n (.lst (init xs)))
def Gw (h:Hs) (a:W):R W:=h.at a fun n o=>o.onL fun _=>.ok .non (h.set n (.lst []))
def rev (xs:List W):List W->List W:=List.rec (fun acc=>acc) (fun x _ ih acc=>ih (x::acc)) xs
def zN (h:Hs) (a:W):R W:=h.at a fun n o=>o.onL fun xs=>.ok .non (h.set n (.lst (rev xs [])))
def Dc (h:Hs) (a b:W):R W:=h.at a fun n o=>o.onL fun xs=>h.at b fun _ o=>o.onL fun ys=>size (app xs ys) (.ok .non (h.set n (.lst (app xs ys))))
def Bm (h:Hs) (a:W):R W:=h.at a fun _ o=>o.items fun xs=>.alloc h (.lst xs)
def eqF (a b:W):Option Bool:=W.elim a
 (W.elim b (some true) (fun _=>some false) (fun _=>some false) (fun _=>some false) (fun _=>none)) (fun _=>none)
 (fun i=>W.elim b (some false) (fun _=>none) (fun j=>some (ieq i j)) (fun _=>some false) (fun _=>none))
 (fun x=>W.elim b (some false) (fun _=>none) (fun _=>some false) (fun y=>some (codes x y)) (fun _=>none)) (fun _=>none)
def K4 (a:W) (xs:List W):Option Bool:=List.rec (some false) (fun x _ ih=>Option.rec none (fun b=>Option.rec none (fun r=>some (ifB b true r)) ih) (eqF x a)) xs
def pIn (f:Bool->Bool) (h:Hs) (a b:W):R W:=h.at b fun _ o=>o.items fun xs=>Opt (eqF a a) fun _=>Opt (K4 a xs) fun c=>.yes (f c) h
def bools (xs:List W):Option (List Bool):=List.rec (some []) (fun x _ ih=>W.elim x none (fun b=>Option.rec none (fun r=>some (b::r)) ih) (fun _=>none) (fun _=>none) (fun _=>none)) xs
def allB (xs:List Bool):Bool:=List.rec true (fun b _ r=>ifB b r false) xs
def anyB (xs:List Bool):Bool:=List.rec false (fun b _ r=>ifB b true r) xs
def zO (f:List Bool->Bool) (h:Hs) (a:W):R W:=h.at a fun _ o=>o.onL fun xs=>Opt (bools xs) fun bs=>.yes (f bs) h
def vH (xs:List W):List W->Option Bool:=List.rec (fun ys=>some (List.rec false (fun _ _ _=>true) ys)) (fun x _ ih ys=>List.rec (some false) (fun y r _=>W.elim x none (fun _=>none) (fun i=>W.elim y none (fun _=>none) (fun j=>ifB (ieq i j) (ih r) (some (ilt i j))) (fun _=>none) (fun _=>none)) (fun _=>none) (fun _=>none)) ys) xs
def lW (xs:List W):Bool:=List.rec true (fun x _ r=>W.elim x false (fun _=>false) (fun _=>r) (fun _=>false) (fun _=>false)) xs
def pLt (h:Hs) (a b:W):R W:=W.elim a .no (fun _=>.no) (fun i=>b.onI fun j=>.yes (ilt i j) h) (fun _=>.no) (fun _=>h.at a fun _ x=>h.at b fun _ y=>x.onT fun xs=>y.onT fun ys=>ifB (lW xs) (ifB (lW ys) (Opt (vH xs ys) fun c=>.yes c h) .no) .no)
def dj (i:Int) (xs:List Int):Bool:=List.rec false (fun x _ r=>ifB (ieq x i) true r) xs
def cO (xs:List W):Option (List Int):=List.rec (some []) (fun x _ ih=>W.elim x none (fun _=>none) (fun i=>Option.rec none (fun r=>some (i::r)) ih) (fun _=>none) (fun _=>none)) xs
def dd (l:List Int):List Int->List Int:=List.rec (fun acc=>acc) (fun x _ ih acc=>ih (ifB (dj x acc) acc (app acc [x]))) l
def Pr.add:Pr:=⟨fun ws h=>eY ws (Gn h)⟩
def Pr.sub:Pr:=⟨fun ws h=>kJ ws (Gp h)⟩
def Pr.mul:Pr:=⟨fun ws h=>eY ws (Gr h)⟩
def Pr.fdiv:Pr:=⟨fun ws h=>kJ ws (Bl h)⟩
def Pr.mod:Pr:=⟨fun ws h=>kJ ws (Gs h)⟩
def Pr.neg:Pr:=⟨fun ws h=>cj ws (KY h)⟩
def Pr.abs:Pr:=⟨fun ws h=>cj ws (Gu h)⟩
def Pr.min:Pr:=⟨fun ws h=>kJ ws (KZ h)⟩
def Pr.max:Pr:=⟨fun ws h=>kJ ws (K1 h)⟩
def Pr.lt:Pr:=⟨fun ws h=>eY ws (pLt h)⟩
def Pr.le:Pr:=⟨fun ws h=>kJ ws fun i j=>.yes (!ilt j i) h⟩
def Pr.gt:Pr:=⟨fun ws h=>kJ ws fun i j=>.yes (ilt j i) h⟩
def Pr.ge:Pr:=⟨fun ws h=>kJ ws fun i j=>.yes (!ilt i j) h⟩
def Pr.eq:Pr:=⟨fun ws h=>eY ws (pEq id h)⟩
def Pr.ne:Pr:=⟨fun ws h=>eY ws (pEq not h)⟩
def Pr.ix:Pr:=⟨fun ws h=>eY ws (pIx h)⟩
def Pr.len:Pr:=⟨fun ws h=>cj ws (Gv h)⟩
def Pr.tup:Pr:=⟨fun ws h=>size ws (.alloc h (.tup ws))⟩
def Pr.lst:Pr:=⟨fun ws h=>size ws (.alloc h (.lst ws))⟩
def Pr.rB:Pr:=⟨fun ws h=>cj ws fun a=>a.onB (.yes true h) (.yes false h)⟩
def Pr.truth:Pr:=⟨fun ws h=>cj ws (xx h)⟩
def Pr.append:Pr:=⟨fun ws h=>eY ws (lV h)⟩
def Pr.pop:Pr:=⟨fun ws h=>cj ws (K3 h)⟩
def Pr.clear:Pr:=⟨fun ws h=>cj ws (Gw h)⟩
def Pr.reverse:Pr:=⟨fun ws h=>cj ws (zN h)⟩
def Pr.extend:Pr:=⟨fun ws h=>eY ws (Dc h)⟩
def Pr.list:Pr:=⟨fun ws h=>cj ws (Bm h)⟩
def Pr.Jq:Pr:=⟨fun ws h=>eY ws (pIn not h)⟩
def Pr.all:Pr:=⟨fun ws h=>cj ws (zO allB h)⟩
def Pr.any:Pr:=⟨fun ws h=>cj ws (zO anyB h)⟩
def Pr.same:Pr:=⟨fun ws h=>eY ws (Jp h)⟩
def aU (p:Pr) (ws:List W) (h:Hs):R W:=p.f ws h
inductive Tg where | nm (i:Nat) | tup (ts:List Tg)
inductive Iv where | lst (n:Nat) | tup (n:Nat) | rng (lo:Int) (n:Nat) | zip (n m:Nat) | dwn (lo:Int) (n:Nat) | enu (n:Nat)
inductive A where | w (w:W) | ws (l:List W) | iv (v:Iv) | fl (f:Fl) | u
def A.toW {β:Type} (a:A) (f:W->R β):R β:=A.rec f (fun _=>.no) (fun _=>.no) (fun _=>.no) .no a
def A.toL {β:Type} (a:A) (f:List W->R β):R β:=A.rec (fun _=>.no) f (fun _=>.no) (fun _=>.no) .no a
def A.toV {β:Type} (a:A) (f:Iv->R β):R β:=A.rec (fun _=>.no) (fun _=>.no) f (fun _=>.no) .no a
def A.toF {β:Type} (a:A) (f:Fl->R β):R β:=A.rec (fun _=>.no) (fun _=>.no) (fun _=>.no) f .no a
abbrev Ks:=List (Nat->Nat->List W->Hs->R A)
abbrev Dn:=Ks->Nat->Sg->Hs->R A
structure X where
 f:Dn
structure I where
 f:Dn
structure S where
 f:Dn
inductive G where | mk (i:I) (t:Tg) (c:Option X)
inductive Fn where | mk (np n:Nat) (body:List S) | non
def ofW (r:R W):R A:=R.rec (fun w h=>.ok (.w w) h) (fun C f h=>.ex C f h) .no r
def goA (es:List X):Dn:=List.rec (fun _ _ _ h=>.ok (.ws []) h) (fun e _ ih K n τ h=>R.rec (motive:=fun _=>R A) (fun r h=>A.rec (motive:=fun _=>R A) (fun w=>R.rec (motive:=fun _=>R A) (fun r h=>A.rec (motive:=fun _=>R A) (fun _=>.no) (fun ws=>.ok (.ws (w::ws)) h) (fun _=>.no) (fun _=>.no) .no r) (fun C fs h=>.ex C fs h) .no (ih K n τ h)) (fun _=>.no) (fun _=>.no) (fun _=>.no) .no r) (fun C fs h=>.ex C fs h) .no (e.f K n τ h)) es
def cG (ss:List S):Dn:=List.rec (fun _ _ τ h=>.ok (.fl (.nx τ)) h) (fun s _ ih K n τ h=>R.rec (motive:=fun _=>R A) (fun r h=>A.rec (motive:=fun _=>R A) (fun _=>.no) (fun _=>.no) (fun _=>.no) (fun f=>Fl.rec (motive:=fun _=>R A) (fun τ=>ih K n τ h) (fun w=>.ok (.fl (.rt w)) h) (fun τ=>.ok (.fl (.bk τ)) h) (fun τ=>.ok (.fl (.ct τ)) h) f) .no r) (fun C fs h=>.ex C fs h) .no (s.f K n τ h)) ss
def bindL (f:Tg->W->Sg->Option Sg) (ts:List Tg):List W->Sg->Option Sg:=List.rec (fun ws τ=>List.rec (some τ) (fun _ _ _=>none) ws) (fun t _ ih ws τ=>List.rec none (fun w r _=>Option.rec none (fun τ=>ih r τ) (f t w τ)) ws) ts
def aA (h:Hs) (n:Nat):Tg->W->Sg->Option Sg:=Nat.rec (fun _ _ _=>none) (fun _ ih t w τ=>Tg.casesOn t (fun i=>some (setAt τ (some w) i)) fun ts=>
 W.elim w none (fun _=>none) (fun _=>none) (fun _=>none) fun k=>Option.rec none (fun o=>O.rec (fun xs=>bindL ih ts xs τ) (fun _=>none) (fun _ _=>none) (fun _=>none) (fun _=>none) (fun _=>none) o) (h.get k)) n
def Iv.next {β:Type} (v:Iv) (i:Nat) (h:Hs) (fin:R β) (go:W->Hs->R β):R β:=
 Iv.rec (fun n=>Opt (h.get n) fun o=>o.onS fun xs=>Option.rec fin (fun w=>go w h) (nth xs i)) (fun n=>Opt (h.get n) fun o=>o.onT fun xs=>Option.rec fin (fun w=>go w h) (nth xs i)) (fun lo n=>Bool.rec fin (go (.int (lo + .ofNat i)) h) (Nat.ble (Nat.add i 1) n))
  (fun n m=>Opt (h.get n) fun o=>o.onS fun xs=>Opt (h.get m) fun o=>o.onS fun ys=>Option.rec fin (fun x=>Option.rec fin (fun y=>go (.ref h.n) (h.push (.tup [x,y]))) (nth ys i)) (nth xs i))
  (fun lo n=>Bool.rec fin (go (.int (lo - .ofNat i)) h) (Nat.ble (Nat.add i 1) n))
  (fun n=>Opt (h.get n) fun o=>o.onS fun xs=>Option.rec fin (fun x=>go (.ref h.n) (h.push (.tup [.int (.ofNat i),x]))) (nth xs i)) v
def kO (nt:Nat) (idx:List Nat) (τ:Sg):Sg:=Nat.rec (List.rec [] (fun i _ r=>aP τ i::r) idx) (fun _ r=>none::r) nt
def K5 (n:Nat) (i:Int):Nat:=Int.rec (fun k=>ifB (Nat.ble k n) k n) (fun k=>n - (k + 1)) i
def jG (K:Ks) (n:Nat) (e:Option X) (τ:Sg) (h:Hs) (k:Option Int->Hs->R A):R A:=
 Option.rec (k none h) (fun e=>(e.f K n τ h).bind fun a h=>a.toW fun w=>w.onI fun i=>k (some i) h) e
def sIx (n d:Nat) (o:Option Int):Nat:=Option.rec d (K5 n) o
def frame (n:Nat) (ws:List W):Sg:=app (List.rec [] (fun w _ r=>some w::r) ws) (Nat.rec [] (fun _ r=>none::r) (n - len ws))
def nP (h:Hs) (f:Fl):R A:=Fl.rec (fun _=>.ok (.w .non) h) (fun w=>.ok (.w w) h) (fun _=>.no) (fun _=>.no) f
def Bo (K:Ks) (n:Nat) (h:Hs) (ws:List W) (F:Fn):R A:=Fn.rec (fun np k b=>ifB (Nat.beq (len ws) np) ((cG b K n (frame k ws) h).bind fun r h=>r.toF fun f=>nP h f) .no) .no F
def aQ (Pg:List Fn) (d:Nat):Ks:=Nat.rec [] (fun _ K=>(fun n f ws h=>Opt (nth Pg f) (Bo K n h ws))::K) d
def nQ (f:Nat) (ws:List W) (K:Ks) (n:Nat) (h:Hs):R A:=Nat.rec .no (fun n _=>List.rec .no (fun c _ _=>c n f ws h) K) n
def gQ (h:Hs) (f:Fl) (go:Sg->R A):R A:=Fl.rec go (fun w=>.ok (.fl (.rt w)) h) (fun τ=>.ok (.fl (.nx τ)) h) go f
def kW (v:Iv) (t:Tg) (b:List S) (K:Ks) (n:Nat):Nat->Sg->Hs->R A:=Nat.rec (fun _ _ _=>.no) (fun n ih i τ h=>v.next i h (.ok (.fl (.nx τ)) h) fun w h=>Opt (aA h 9 t w τ) fun τ=>(cG b K n τ h).bind fun r h=>r.toF fun f=>gQ h f fun τ=>ih (Nat.add i 1) τ h) n
def o8 (c:X) (b:List S) (K:Ks) (n:Nat):Sg->Hs->R A:=Nat.rec (fun _ _=>.no) (fun n ih τ h=>(c.f K n τ h).bind fun r h=>r.toW fun w=>w.onB (.ok (.fl (.nx τ)) h) ((cG b K n τ h).bind fun r h=>r.toF fun f=>gQ h f fun τ=>ih τ h)) n
def test (K:Ks) (m:Nat) (τ:Sg) (h:Hs) (c:Option X) (n k:Hs->R A):R A:=Option.rec (k h) (fun c=>(c.f K m τ h).bind fun r h=>r.toW fun w=>w.onB (n h) (k h)) c
def emit (h:Hs) (D:Nat) (w:W) (k:Hs->R A):R A:=(lV h (.ref D) w).bind fun _ h=>k h
def K6 (v:Iv) (t:Tg) (c:Option X) (e:X) (D:Nat) (K:Ks) (n:Nat):Nat->Sg->Hs->R A:=Nat.rec (fun _ _ _=>.no) (fun n ih i τ h=>v.next i h (.ok .u h) fun w h=>Opt (aA h 9 t w τ) fun τ1=>
 test K n τ1 h c (fun h=>ih (Nat.add i 1) τ h) (fun h=>(e.f K n τ1 h).bind fun r h=>r.toW fun w=>emit h D w fun h=>ih (Nat.add i 1) τ h)) n
def inner (K:Ks) (n:Nat) (τ:Sg) (h:Hs) (e:X) (D:Nat) (m:Option G) (k:Hs->R A):R A:=
 Option.rec ((e.f K n τ h).bind fun r h=>r.toW fun w=>emit h D w k) (fun g=>G.rec (fun i t c=>(i.f K n τ h).bind fun r h=>r.toV fun v=>(K6 v t c e D K n 0 τ h).bind fun _ h=>k h) g) m
def dY (v:Iv) (t:Tg) (c:Option X) (m:Option G) (e:X) (D:Nat) (K:Ks) (n:Nat):Nat->Sg->Hs->R A:=Nat.rec (fun _ _ _=>.no) (fun n ih i τ h=>v.next i h (.ok .u h) fun w h=>Opt (aA h 9 t w τ) fun τ1=>
 test K n τ1 h c (fun h=>ih (Nat.add i 1) τ h) (fun h=>inner K n τ1 h e D m fun h=>ih (Nat.add i 1) τ h)) n
def X.var (i:Nat):X:=⟨fun _ _ τ h=>Option.rec (motive:=fun _=>R A) .no (fun w=>.ok (.w w) h) (aP τ i)⟩
def X.cst (w:W):X:=⟨fun _ _ _ h=>.ok (.w w) h⟩
def X.pr (p:Pr) (as:List X):X:=⟨fun K n τ h=>R.rec (motive:=fun _=>R A) (fun r h=>A.rec (motive:=fun _=>R A) (fun _=>.no) (fun ws=>R.rec (motive:=fun _=>R A) (fun w h=>.ok (.w w) h) (fun C f h=>.ex C f h) .no (p.f ws h)) (fun _=>.no) (fun _=>.no) .no r) (fun C fs h=>.ex C fs h) .no (goA as K n τ h)⟩
def X.and (a b:X):X:=⟨fun K n τ h=>R.rec (motive:=fun _=>R A) (fun r h=>A.rec (motive:=fun _=>R A) (fun w=>W.rec (motive:=fun _=>R A) .no (fun bb=>Bool.rec (motive:=fun _=>R A) (.ok (.w (.bl false)) h) (b.f K n τ h) bb) (fun _=>.no) (fun _=>.no) (fun _=>.no) w) (fun _=>.no) (fun _=>.no) (fun _=>.no) .no r) (fun C fs h=>.ex C fs h) .no (a.f K n τ h)⟩
def X.or (a b:X):X:=⟨fun K n τ h=>R.rec (motive:=fun _=>R A) (fun r h=>A.rec (motive:=fun _=>R A) (fun w=>W.rec (motive:=fun _=>R A) .no (fun bb=>Bool.rec (motive:=fun _=>R A) (b.f K n τ h) (.ok (.w (.bl true)) h) bb) (fun _=>.no) (fun _=>.no) (fun _=>.no) w) (fun _=>.no) (fun _=>.no) (fun _=>.no) .no r) (fun C fs h=>.ex C fs h) .no (a.f K n τ h)⟩
def X.ite (c a b:X):X:=⟨fun K n τ h=>R.rec (motive:=fun _=>R A) (fun r h=>A.rec (motive:=fun _=>R A) (fun w=>W.rec (motive:=fun _=>R A) .no (fun bb=>Bool.rec (motive:=fun _=>R A) (b.f K n τ h) (a.f K n τ h) bb) (fun _=>.no) (fun _=>.no) (fun _=>.no) w) (fun _=>.no) (fun _=>.no) (fun _=>.no) .no r) (fun C fs h=>.ex C fs h) .no (c.f K n τ h)⟩
def X.chain (p q:Pr) (a b c:X):X:=⟨fun K n τ h=>(a.f K n τ h).bind fun r h=>r.toW fun u=>(b.f K n τ h).bind fun r h=>r.toW fun v=>(ofW (aU p [u,v] h)).bind fun r h=>r.toW fun k=>
 k.onB (.ok (.w (.bl false)) h) ((c.f K n τ h).bind fun r h=>r.toW fun w=>ofW (aU q [v,w] h))⟩
def X.slice (a:X) (lo hi:Option X):X:=⟨fun K n τ h=>(a.f K n τ h).bind fun r h=>r.toW fun w=>jG K n lo τ h fun l h=>jG K n hi τ h fun u h=>h.at w fun _ o=>
 O.rec (fun xs=>ifB (ifB (Nat.beq (sIx (len xs) 0 l) 0) (Nat.beq (sIx (len xs) (len xs) u) (len xs)) false) .no (ofW (.alloc h (.tup (tak (drp xs (sIx (len xs) 0 l)) (sIx (len xs) (len xs) u - sIx (len xs) 0 l)))))) (fun xs=>ofW (.alloc h (.lst (tak (drp xs (sIx (len xs) 0 l)) (sIx (len xs) (len xs) u - sIx (len xs) 0 l))))) (fun _ _=>.no) (fun _=>.no) (fun _=>.no) (fun _=>.no) o⟩
def X.call (f:Nat) (as:List X):X:=⟨fun K n τ h=>(goA as K n τ h).bind fun a h=>a.toL fun ws=>nQ f ws K n h⟩
def X.comp (nt:Nat) (idx:List Nat) (it:I) (t:Tg) (c:Option X) (m:Option G) (e:X):X:=⟨fun K n τ h=>(it.f K n τ h).bind fun r h=>r.toV fun v=>
 (dY v t c m e h.n K n 0 (kO nt idx τ) (h.push (.lst []))).nox.bind fun _ h'=>.ok (.w (.ref h.n)) h'⟩
def X.lm (p:Pr) (a:X) (as:List X):X:=⟨fun K n τ h=>(a.f K n τ h).bind fun r h=>r.toW fun w=>h.at w fun _ o=>o.onL fun _=>(goA as K n τ h).bind fun r h=>r.toL fun ws=>ofW (aU p (w::ws) h)⟩
def I.seq (e:X):I:=⟨fun K n τ h=>(e.f K n τ h).bind fun r h=>r.toW fun w=>h.at w fun n o=>O.casesOn o (fun _=>.ok (.iv (.tup n)) h) (fun _=>.ok (.iv (.lst n)) h) (fun _ _=>.no) (fun _=>.no) (fun _=>.no) (fun _=>.no)⟩
def within (i:Int) (k:R A):R A:=ifB (ilt i 1000000000) (ifB (ilt (-1000000000) i) k .no) .no
def rC (ws:List W) (f:W->R A):R A:=List.rec .no (fun a r _=>List.rec (f a) (fun _ _ _=>.no) r) ws
def rD (ws:List W) (f:W->W->R A):R A:=List.rec .no (fun a r _=>List.rec .no (fun b r _=>List.rec (f a b) (fun _ _ _=>.no) r) r) ws
def I.kY (as:List X):I:=⟨fun K n τ h=>(goA as K n τ h).bind fun r h=>r.toL fun ws=>rC ws fun w=>w.onI fun j=>within j (.ok (.iv (.rng 0 j.toNat)) h)⟩
def I.zip (as:List X):I:=⟨fun K n τ h=>(goA as K n τ h).bind fun r h=>r.toL fun ws=>rD ws fun v w=>h.at v fun n o=>o.onL fun _=>h.at w fun m o=>o.onL fun _=>.ok (.iv (.zip n m)) h⟩
def I.enu (as:List X):I:=⟨fun K n τ h=>(goA as K n τ h).bind fun r h=>r.toL fun ws=>rC ws fun v=>h.at v fun n o=>o.onL fun _=>.ok (.iv (.enu n)) h⟩
def S.asg (t:Tg) (e:X):S:=⟨fun K n τ h=>(e.f K n τ h).bind fun r h=>r.toW fun w=>Opt (aA h 9 t w τ) fun τ=>.ok (.fl (.nx τ)) h⟩
def S.expr (e:X):S:=⟨fun K n τ h=>(e.f K n τ h).bind fun r h=>r.toW fun _=>.ok (.fl (.nx τ)) h⟩
def S.ret (e:X):S:=⟨fun K n τ h=>(e.f K n τ h).bind fun r h=>r.toW fun w=>.ok (.fl (.rt w)) h⟩
def S.ife (c:X) (a b:List S):S:=⟨fun K n τ h=>(c.f K n τ h).bind fun r h=>r.toW fun w=>w.onB (cG b K n τ h) (cG a K n τ h)⟩
def S.for_ (i:I) (t:Tg) (b:List S):S:=⟨fun K n τ h=>(i.f K n τ h).bind fun r h=>r.toV fun v=>kW v t b K n 0 τ h⟩
def S.kZ (c:X) (b:List S):S:=⟨fun K n τ h=>o8 c b K n τ h⟩
def S.bk:S:=⟨fun _ _ τ h=>.ok (.fl (.bk τ)) h⟩
def S.ct:S:=⟨fun _ _ τ h=>.ok (.fl (.ct τ)) h⟩
def S.par (i j:Nat) (a b:X):S:=⟨fun K n τ h=>(goA [a,b] K n τ h).bind fun r h=>r.toL fun ws=>rD ws fun u w=>.ok (.fl (.nx (setAt (setAt τ (some u) i) (some w) j))) h⟩
inductive Q where
 | x (e:X) | a (es:List X) | i (e:I) | s (s:S) | ss (l:List S)
 | lp (v:Iv) (i:Nat) (t:Tg) (b:List S) | wh (c:X) (b:List S)
 | cl (v:Iv) (i:Nat) (t:Tg) (c:Option X) (m:Option G) (e:X) (D:Nat)
 | call (f:Nat) (ws:List W)
abbrev E:=Nat->Q->Sg->Hs->R A
def evs (Pg:List Fn) (n:Nat):E:=fun d q τ h=>Q.rec (fun e=>e.f (aQ Pg d) n τ h) (fun es=>goA es (aQ Pg d) n τ h) (fun e=>e.f (aQ Pg d) n τ h) (fun s=>s.f (aQ Pg d) n τ h) (fun l=>cG l (aQ Pg d) n τ h)
 (fun v i t b=>kW v t b (aQ Pg d) n i τ h) (fun c b=>o8 c b (aQ Pg d) n τ h) (fun v i t c m e D=>dY v t c m e D (aQ Pg d) n i τ h) (fun f ws=>nQ f ws (aQ Pg d) n h) q
def body (V:E) (d:Nat) (h:Hs) (ws:List W) (F:Fn):R A:=Fn.rec (fun np n b=>ifB (Nat.beq (len ws) np) ((V d (.ss b) (frame n ws) h).bind fun r h=>r.toF fun f=>nP h f) .no) .no F
end
end Ev
namespace Ev
theorem dm {α:Type} (xs ys:List α):app xs ys=xs ++ ys:=by
 induction xs with
 | nil=>rfl
 | cons x xs ih=>exact congrArg (x::·) ih
theorem len_eq {α:Type} (xs:List α):len xs=xs.length:=by
 induction xs with
 | nil=>rfl
 | cons x xs ih=>exact congrArg (· + 1) ih
theorem dw {α:Type} (xs:List α) (i:Nat):nth xs i=xs[i]?:=by
 induction xs generalizing i with
 | nil=>rfl
 | cons x xs ih=>cases i with
   | zero=>rfl
   | succ i=>exact ih i
theorem nR {α:Type} (xs:List α) (i:Nat):drp xs i=xs.drop i:=by
 induction xs generalizing i with
 | nil=>cases i <;> rfl
 | cons x xs ih=>cases i with
   | zero=>rfl
   | succ i=>exact ih i
theorem nT {α:Type} (xs:List α) (i:Nat):tak xs i=xs.take i:=by
 induction xs generalizing i with
 | nil=>cases i <;> rfl
 | cons x xs ih=>cases i with
   | zero=>rfl
   | succ i=>exact congrArg (x::·) (ih i)
theorem fU {α:Type} (xs:List α) (w:α) (i:Nat):setAt xs w i=xs.set i w:=by
 induction xs generalizing i with
 | nil=>cases i <;> rfl
 | cons x xs ih=>cases i with
   | zero=>rfl
   | succ i=>exact congrArg (x::·) (ih i)
theorem fV (xs:Sg) (i:Nat):aP xs i=(xs[i]?).getD none:=by
 induction xs generalizing i with
 | nil=>cases i <;> rfl
 | cons x xs ih=>cases i with
   | zero=>rfl
   | succ i=>exact ih i
theorem c7 {a b:Nat}:Nat.beq a b=true ↔ a=b:=⟨Nat.eq_of_beq_eq_true,fun h=>by subst h;exact Nat.beq_refl a⟩
theorem gR {a b:Nat}:Nat.beq a b=false ↔ a ≠ b:=by
 rw [<- Bool.not_eq_true,c7]
theorem ble_eq (a b:Nat):Nat.ble a b=decide (a <= b):=by
 cases h:Nat.ble a b with
 | true=>exact (decide_eq_true (Nat.le_of_ble_eq_true h)).symm
 | false=>exact (decide_eq_false fun z=>by rw [Nat.ble_eq_true_of_le z] at h;cases h).symm
theorem lX {x y:List Nat}:codes x y=true ↔ x=y:=by
 induction x generalizing y with
 | nil=>cases y with
   | nil=>exact ⟨fun _=>rfl,fun _=>rfl⟩
   | cons b r=>exact ⟨fun h=>Bool.noConfusion h,fun h=>nomatch h⟩
 | cons a x ih=>cases y with
   | nil=>exact ⟨fun h=>Bool.noConfusion h,fun h=>nomatch h⟩
   | cons b r=>
     show ifB (Nat.beq a b) (codes x r) false=true ↔ _
     cases e:Nat.beq a b with
     | true=>rw [c7.mp e];exact ih.trans ⟨fun h=>by rw [h],fun h=>(List.cons.inj h).2⟩
     | false=>exact ⟨fun h=>Bool.noConfusion h,fun h=>absurd (List.cons.inj h).1 (gR.mp e)⟩
theorem fH (i j:Int):ieq i j=decide (i=j):=by
 cases i with
 | ofNat a=>cases j with
   | ofNat b=>
     show Nat.beq a b=_
     cases e:Nat.beq a b with
     | true=>rw [c7.mp e];exact (decide_eq_true rfl).symm
     | false=>exact (decide_eq_false fun z=>gR.mp e (Int.ofNat.inj z)).symm
   | negSucc b=>exact (decide_eq_false fun z=>nomatch z).symm
 | negSucc a=>cases j with
   | ofNat b=>exact (decide_eq_false fun z=>nomatch z).symm
   | negSucc b=>
     show Nat.beq a b=_
     cases e:Nat.beq a b with
     | true=>rw [c7.mp e];exact (decide_eq_true rfl).symm
     | false=>exact (decide_eq_false fun z=>gR.mp e (Int.negSucc.inj z)).symm
theorem bL (i j:Int):ilt i j=decide (i < j):=by
 cases i with
 | ofNat a=>cases j with
   | ofNat b=>
     show Nat.ble (a + 1) b=_
     rw [ble_eq]
     exact decide_eq_decide.mpr ⟨fun h=>by have:(a:Int) < b:=by omega
                                           exact this,fun h=>by have:(a:Int) < b:=h
                                                                omega⟩
   | negSucc b=>exact (decide_eq_false (by intro h;have:(a:Int) < Int.negSucc b:=h;omega)).symm
 | negSucc a=>cases j with
   | ofNat b=>exact (decide_eq_true (by show Int.negSucc a < (b:Int);omega)).symm
   | negSucc b=>
     show Nat.ble (b + 1) a=_
     rw [ble_eq]
     exact decide_eq_decide.mpr ⟨fun h=>by omega,fun h=>by omega⟩
theorem get_set (d:Nat):∀ (t:Tr) (k k':Nat) (o:O),k < d->(t.set d k o).get k'=if k'=k then some o else t.get k':=by
 induction d with
 | zero=>intro t k k' o h;exact absurd h (Nat.not_lt_zero _)
 | succ d ih=>
   intro t k k' o h
   have half:∀ a b:Nat,a % 2=b % 2->(a / 2=b / 2 ↔ a + 1=b + 1):=fun a b e=>by omega
   cases t with
   | lf=>
     cases k with
     | zero=>cases k' with
       | zero=>rfl
       | succ k'=>
         show ifB (Nat.beq (k' % 2) 0) (Tr.get .lf (k' / 2)) (Tr.get .lf (k' / 2))=_
         rw [if_neg (by omega)]
         cases Nat.beq (k' % 2) 0 <;> rfl
     | succ k=>
       have hk:k / 2 < d:=by omega
       show (ifB (Nat.beq (k % 2) 0) (Tr.nd none (Tr.set d .lf (k / 2) o) .lf) (Tr.nd none .lf (Tr.set d .lf (k / 2) o)):Tr).get k'=_
       cases e:Nat.beq (k % 2) 0 with
       | true=>cases k' with
         | zero=>rfl
         | succ k'=>
           show ifB (Nat.beq (k' % 2) 0) (Tr.get (Tr.set d .lf (k / 2) o) (k' / 2)) (Tr.get .lf (k' / 2))=_
           have e1:=c7.mp e
           cases e':Nat.beq (k' % 2) 0 with
           | true=>
             have e2:=c7.mp e'
             show Tr.get (Tr.set d .lf (k / 2) o) (k' / 2)=_
             rw [ih .lf _ _ _ hk]
             by_cases z:k' / 2=k / 2
             · rw [if_pos z,if_pos (by omega)]
             · rw [if_neg z,if_neg (by omega)];rfl
           | false=>
             have e2:=gR.mp e'
             show none=_
             rw [if_neg (by intro z;apply e2;have:k'=k:=(by omega);rw [this];exact e1)];rfl
       | false=>cases k' with
         | zero=>rfl
         | succ k'=>
           show ifB (Nat.beq (k' % 2) 0) (Tr.get .lf (k' / 2)) (Tr.get (Tr.set d .lf (k / 2) o) (k' / 2))=_
           have e1:=gR.mp e
           cases e':Nat.beq (k' % 2) 0 with
           | false=>
             have e2:=gR.mp e'
             show Tr.get (Tr.set d .lf (k / 2) o) (k' / 2)=_
             rw [ih .lf _ _ _ hk]
             by_cases z:k' / 2=k / 2
             · rw [if_pos z,if_pos (by omega)]
             · rw [if_neg z,if_neg (by omega)];rfl
           | true=>
             have e2:=c7.mp e'
             show none=_
             rw [if_neg (by intro z;apply e1;have:k'=k:=by omega
                            rw [<- this];exact e2)];rfl
   | nd x l r=>
     cases k with
     | zero=>cases k' with
       | zero=>rfl
       | succ k'=>rw [if_neg (by omega)];rfl
     | succ k=>
       have hk:k / 2 < d:=by omega
       show (ifB (Nat.beq (k % 2) 0) (Tr.nd x (Tr.set d l (k / 2) o) r) (Tr.nd x l (Tr.set d r (k / 2) o)):Tr).get k'=_
       cases e:Nat.beq (k % 2) 0 with
       | true=>cases k' with
         | zero=>rfl
         | succ k'=>
           show ifB (Nat.beq (k' % 2) 0) (Tr.get (Tr.set d l (k / 2) o) (k' / 2)) (Tr.get r (k' / 2))=(if k' + 1=k + 1 then some o else ifB (Nat.beq (k' % 2) 0) (Tr.get l (k' / 2)) (Tr.get r (k' / 2)))
           have e1:=c7.mp e
           cases e':Nat.beq (k' % 2) 0 with
           | true=>
             have e2:=c7.mp e'
             show Tr.get (Tr.set d l (k / 2) o) (k' / 2)=(if k' + 1=k + 1 then some o else Tr.get l (k' / 2))
             rw [ih l _ _ _ hk]
             by_cases z:k' / 2=k / 2
             · rw [if_pos z,if_pos (by omega)]
             · rw [if_neg z,if_neg (by omega)]
           | false=>
             have e2:=gR.mp e'
             show Tr.get r (k' / 2)=(if k' + 1=k + 1 then some o else Tr.get r (k' / 2))
             rw [if_neg (by intro z;apply e2;have:k'=k:=(by omega);rw [this];exact e1)]
       | false=>cases k' with
         | zero=>rfl
         | succ k'=>
           show ifB (Nat.beq (k' % 2) 0) (Tr.get l (k' / 2)) (Tr.get (Tr.set d r (k / 2) o) (k' / 2))=(if k' + 1=k + 1 then some o else ifB (Nat.beq (k' % 2) 0) (Tr.get l (k' / 2)) (Tr.get r (k' / 2)))
           have e1:=gR.mp e
           cases e':Nat.beq (k' % 2) 0 with
           | false=>
             have e2:=gR.mp e'
             show Tr.get (Tr.set d r (k / 2) o) (k' / 2)=(if k' + 1=k + 1 then some o else Tr.get r (k' / 2))
             rw [ih r _ _ _ hk]
             by_cases z:k' / 2=k / 2
             · rw [if_pos z,if_pos (by omega)]
             · rw [if_neg z,if_neg (by omega)]
           | true=>
             have e2:=c7.mp e'
             show Tr.get l (k' / 2)=(if k' + 1=k + 1 then some o else Tr.get l (k' / 2))
             rw [if_neg (by intro z;apply e1;have:k'=k:=by omega
                            rw [<- this];exact e2)]
theorem Hs.k_ (h:Hs) (o:O):(h.push o).n=h.n + 1:=by cases h;rfl
theorem Hs.qJ (h:Hs) (k:Nat) (o:O):(h.set k o).n=h.n:=by cases h;rfl
theorem Hs.iz (h:Hs) (o:O) (k:Nat):(h.push o).get k=if k=h.n then some o else h.get k:=by
 cases h with | mk n t=>exact get_set (n + 1) t n k o (Nat.lt_succ_self n)
theorem Hs.get_set (h:Hs) (o:O) (j k:Nat):(h.set j o).get k=if k=j then some o else h.get k:=by
 cases h with | mk n t=>exact Ev.get_set (j + 1) t j k o (Nat.lt_succ_self j)
end Ev
namespace Ev
open PySem L2
inductive RW (ρ:List Addr):W->V->Prop
 | non:RW ρ .non .non
 | bl (b):RW ρ (.bl b) (.bl b)
 | int (i):RW ρ (.int i) (.int i)
 | str (c):RW ρ (.str c) (.str ⟨c.toArray⟩)
 | ref {n a}:ρ[n]? =some a->RW ρ (.ref n) (.ref a)
theorem dJ {ρ ρ':List Addr} (e:ρ <+:ρ') {n:Nat} {a:Addr} (h:ρ[n]? =some a):ρ'[n]? =some a:=by
 obtain ⟨t,rfl⟩:=e
 have hn:n < ρ.length:=(List.getElem?_eq_some_iff.mp h).1
 rw [List.getElem?_append_left hn];exact h
theorem RW.mono {ρ ρ':List Addr} (e:ρ <+:ρ') {w:W} {v:V} (h:RW ρ w v):RW ρ' w v:=by
 cases h with
 | non=>exact .non
 | bl b=>exact .bl b
 | int i=>exact .int i
 | str c=>exact .str c
 | ref h=>exact .ref (dJ e h)
abbrev RWs (ρ:List Addr):List W->List V->Prop:=Paired (RW ρ)
theorem RWs.mono {ρ ρ':List Addr} (e:ρ <+:ρ') {ws:List W} {vs:List V} (h:RWs ρ ws vs):RWs ρ' ws vs:=Paired.mQ h fun _ _ r=>r.mono e
theorem RWs.get {ρ:List Addr}:∀ {ws:List W} {vs:List V} {i:Nat} {w:W},RWs ρ ws vs->ws[i]? =some w->∃ v,vs[i]? =some v/\RW ρ w v
 | _,_,_,_,.nil,e=>by simp at e
 | _,_,0,_,.cons r _,e=>by simp at e;subst e;exact ⟨_,rfl,r⟩
 | _,_,i + 1,w,.cons _ t,e=>by
   obtain ⟨u,h1,h2⟩:=RWs.get (i:=i) (w:=w) t (by simpa using e)
   exact ⟨u,by simpa using h1,h2⟩
theorem RWs.append {ρ:List Addr}:∀ {xs ys:List W} {us ws:List V},RWs ρ xs us->RWs ρ ys ws->RWs ρ (xs ++ ys) (us ++ ws)
 | _,_,_,_,.nil,s=>s
 | _,_,_,_,.cons r t,s=>.cons r (RWs.append t s)
theorem RWs.take {ρ:List Addr}:∀ {xs:List W} {us:List V} (n:Nat),RWs ρ xs us->RWs ρ (xs.take n) (us.take n)
 | _,_,0,_=>.nil
 | _,_,_ + 1,.nil=>.nil
 | _,_,n + 1,.cons r t=>.cons r (RWs.take n t)
theorem RWs.drop {ρ:List Addr}:∀ {xs:List W} {us:List V} (n:Nat),RWs ρ xs us->RWs ρ (xs.drop n) (us.drop n)
 | _,_,0,r=>r
 | _,_,_ + 1,.nil=>.nil
 | _,_,n + 1,.cons _ t=>RWs.drop n t
theorem RWs.length {ρ:List Addr} {ws:List W} {vs:List V} (h:RWs ρ ws vs):ws.length=vs.length:=Paired.length h
def RO (ρ:List Addr):Option W->Option V->Prop
 | none,_=>True
 | some w,some v=>RW ρ w v
 | some _,none=>False
theorem RO.mono {ρ ρ':List Addr} (e:ρ <+:ρ'):∀ {w:Option W} {v:Option V},RO ρ w v->RO ρ' w v
 | none,_,_=>trivial
 | some _,some _,h=>RW.mono e h
abbrev RS (ρ:List Addr):Sg->St->Prop:=Paired (RO ρ)
theorem RS.mono {ρ ρ':List Addr} (e:ρ <+:ρ') {τ:Sg} {σ:St} (h:RS ρ τ σ):RS ρ' τ σ:=Paired.mQ h fun _ _ r=>r.mono e
theorem RS.get {ρ:List Addr}:∀ {τ:Sg} {σ:St} {i:Nat} {w:W},RS ρ τ σ->aP τ i=some w->∃ v,σ[i]? =some (some v)/\RW ρ w v
 | _,_,_,_,.nil,e=>nomatch e
 | some _::_,some v::_,0,_,.cons r _,e=>by cases e;exact ⟨v,rfl,r⟩
 | some _::_,none::_,0,_,.cons r _,e=>r.elim
 | none::_,_,0,_,_,e=>nomatch e
 | _::_,_::_,i + 1,w,.cons _ t,e=>by
   obtain ⟨u,h1,h2⟩:=RS.get (i:=i) (w:=w) t e
   exact ⟨u,by simpa using h1,h2⟩
theorem RS.set {ρ:List Addr} {w:W} {v:V} (r:RW ρ w v):∀ {τ:Sg} {σ:St} (i:Nat),RS ρ τ σ->RS ρ (setAt τ (some w) i) (σ.set i (some v))
 | _,_,_,.nil=>by rw [fU];exact .nil
 | _::_,_::_,0,.cons _ t=>.cons (show RO ρ (some w) (some v) from r) t
 | _::_,_::_,i + 1,.cons q t=>.cons q (RS.set r i t)
def nm (c:List Nat):Str:=⟨c.toArray⟩
theorem Gx {a b:List Nat} (h:nm a=nm b):a=b:=by
 have:=congrArg (fun s:Str=>s.cps.toList) h
 simpa [nm] using this
def FR (ρ:List Addr):Fs->List (Str × V)->Prop:=Paired fun p q=>q.1=nm p.1/\RW ρ p.2 q.2
theorem FR.mono {ρ ρ':List Addr} (e:ρ <+:ρ') {fs:Fs} {gs:List (Str × V)} (h:FR ρ fs gs):FR ρ' fs gs:=Paired.mQ h fun _ _ r=>⟨r.1,r.2.mono e⟩
inductive KW:W->Key->Prop
 | int (i):KW (.int i) (.inl i)
 | str (c):KW (.str c) (.inr ⟨c.toArray⟩)
structure Cn where
 c:Nat->Addr
 P:Addr
 q:Str
 on:Bool
instance:CoeFun Cn (fun _=>Nat->Addr):=⟨Cn.c⟩
section
variable (cl:Cn)
def Tb (H:Hp):Prop:=cl.on=true->∃ ps,H cl.P=some (.tbl ps)/\TriplesOk ps.toList/\∀ pos cv,codeAmong pos ps.toList=some cv->∃ c',cv= .ref c'/\H c'=some (.ext fun h=>h.CodeRec (.ref c') cl.q)
def OA (ρ:List Addr) (H:Hp) (a:Addr):O->Prop
 | .tup xs=>∃ vs,RWs ρ xs vs/\H a=some (.tup vs)
 | .lst xs=>∃ vs,RWs ρ xs vs/\H a=some (.lst vs)
 | .ins C fs=>∃ dx gs,FR ρ fs gs/\H a=some (.ins (cl C) dx gs)
 | .dk kvs=>∃ gs,Paired (fun p q=>KW p.1 q.1/\RW ρ p.2 q.2) kvs gs/\H a=some (.dK gs)
 | .dt kvs=>∃ gs,Paired (fun p q=>Paired KW p.1 q.1/\RW ρ p.2 q.2) kvs gs/\H a=some (.dT gs)
 | .scr ns=>∃ o,H a=some (.frz o (.lst (ns.map V.int)))
structure Sim (ρ:List Addr) (h:Hs) (H:Hp):Prop where
 len:ρ.length=h.n
 nd:ρ.Nodup
 obj:∀ n a,ρ[n]? =some a->∃ o,h.get n=some o/\OA cl ρ H a o
 tb:Tb cl H
end
section
variable {cl:Cn} {ρ ρ':List Addr} {h:Hs} {H H':Hp}
theorem OA.som {a:Addr} {o:O} (x:OA cl ρ H a o):∃ u,H a=some u:=by
 cases o with
 | tup xs=>exact ⟨_,x.choose_spec.2⟩
 | lst xs=>exact ⟨_,x.choose_spec.2⟩
 | ins C fs=>obtain ⟨_,_,_,e⟩:=x;exact ⟨_,e⟩
 | dk kvs=>exact ⟨_,x.choose_spec.2⟩
 | dt kvs=>exact ⟨_,x.choose_spec.2⟩
 | scr ns=>exact ⟨_,x.choose_spec⟩
theorem OA.keep {a:Addr} {o:O} (x:OA cl ρ H a o) (e:ρ <+:ρ') (k:H' a=H a):OA cl ρ' H' a o:=by
 cases o with
 | tup xs=>obtain ⟨vs,r,q⟩:=x;exact ⟨vs,r.mono e,k.trans q⟩
 | lst xs=>obtain ⟨vs,r,q⟩:=x;exact ⟨vs,r.mono e,k.trans q⟩
 | ins C fs=>obtain ⟨dx,gs,r,q⟩:=x;exact ⟨dx,gs,r.mono e,k.trans q⟩
 | dk kvs=>obtain ⟨gs,r,q⟩:=x;exact ⟨gs,Paired.mQ r fun _ _ z=>⟨z.1,z.2.mono e⟩,k.trans q⟩
 | dt kvs=>obtain ⟨gs,r,q⟩:=x;exact ⟨gs,Paired.mQ r fun _ _ z=>⟨z.1,z.2.mono e⟩,k.trans q⟩
 | scr ns=>obtain ⟨o,q⟩:=x;exact ⟨o,k.trans q⟩
def Pl:Option HO->Prop
 | some (.tbl _)=>False
 | some (.ext _)=>False
 | _=>True
theorem Tb.upd {p:Addr} {u:HO} (t:Tb cl H) (n:Pl (H p)):Tb cl (upd H p u):=fun on=>by
 obtain ⟨ps,h1,h2,h3⟩:=t on
 have ne:∀ {b:Addr} {w:HO},H b=some w->¬ Pl (some w)->b ≠ p:=fun {b w} e z q=>by rw [q] at e;rw [e] at n;exact z n
 refine ⟨ps,by rw [aJ (ne h1 (fun z=>z))];exact h1,h2,fun pos cv e=>?_⟩
 obtain ⟨c',e1,e2⟩:=h3 pos cv e
 exact ⟨c',e1,by rw [aJ (ne e2 (fun z=>z))];exact e2⟩
theorem OA.pl {a:Addr} {o:O} (x:OA cl ρ H a o):Pl (H a):=by
 cases o with
 | tup xs=>rw [x.choose_spec.2];trivial
 | lst xs=>rw [x.choose_spec.2];trivial
 | ins C fs=>obtain ⟨_,_,_,e⟩:=x;rw [e];trivial
 | dk kvs=>rw [x.choose_spec.2];trivial
 | dt kvs=>rw [x.choose_spec.2];trivial
 | scr ns=>rw [x.choose_spec];trivial
theorem Sim.som (s:Sim cl ρ h H) {a:Addr} (e:a ∈ ρ):∃ u,H a=some u:=by
 obtain ⟨n,hn⟩:=List.getElem?_of_mem e
 obtain ⟨o,_,x⟩:=s.obj n a hn
 exact x.som
theorem Sim.new (s:Sim cl ρ h H) {p:Addr} (e:H p=none):p ∉ ρ:=fun z=>by
 obtain ⟨u,q⟩:=s.som z
 rw [e] at q;cases q
theorem Sim.at (s:Sim cl ρ h H) {n:Nat} {a:Addr} {o:O} (e:ρ[n]? =some a) (q:h.get n=some o):OA cl ρ H a o:=by
 obtain ⟨o',q',x⟩:=s.obj n a e
 rw [q] at q';cases q';exact x
theorem Sim.push (s:Sim cl ρ h H) {p:Addr} {u:HO} {o:O} (e:H p=none) (x:OA cl (ρ ++ [p]) (upd H p u) p o):Sim cl (ρ ++ [p]) (h.push o) (upd H p u) where
 len:=by rw [List.length_append,Hs.k_,s.len];rfl
 nd:=List.nodup_append.mpr ⟨s.nd,by simp,fun a ha b hb z=>by
  simp only [List.mem_singleton] at hb
  exact s.new e (by rw [<- hb,<- z];exact ha)⟩
 obj:=fun n a hn=>by
  rw [Hs.iz]
  by_cases hlt:n < ρ.length
  · rw [List.getElem?_append_left hlt] at hn
    obtain ⟨o',q,y⟩:=s.obj n a hn
    refine ⟨o',by rw [if_neg (by rw [<- s.len];omega)];exact q,y.keep (List.prefix_append _ _) ?_⟩
    obtain ⟨w,hw⟩:=y.som
    exact aJ (bf hw e)
  · have hn':n=ρ.length:=by
     have:=(List.getElem?_eq_some_iff.mp hn).1
     rw [List.length_append] at this
     simp at this;omega
    subst hn'
    rw [List.getElem?_append_right (Nat.le_refl _),Nat.sub_self] at hn
    simp at hn;subst hn
    exact ⟨o,by rw [if_pos s.len],x⟩
 tb:=s.tb.upd (by rw [e];trivial)
theorem Sim.put (s:Sim cl ρ h H) {n:Nat} {a:Addr} {u:HO} {o:O} (e:ρ[n]? =some a) (x:OA cl ρ (upd H a u) a o):Sim cl ρ (h.set n o) (upd H a u) where
 len:=by rw [Hs.qJ,s.len]
 nd:=s.nd
 obj:=fun m b hm=>by
  rw [Hs.get_set]
  by_cases z:m=n
  · subst z;rw [e] at hm;cases hm
    exact ⟨o,if_pos rfl,x⟩
  · obtain ⟨o',q,y⟩:=s.obj m b hm
    refine ⟨o',by rw [if_neg z];exact q,y.keep (List.prefix_refl _) (aJ fun zz=>z ?_)⟩
    subst zz
    exact (List.getElem?_inj (List.getElem?_eq_some_iff.mp hm).1 s.nd).mp (hm.trans e.symm)
 tb:=by
  obtain ⟨o',_,y⟩:=s.obj n a e
  exact s.tb.upd y.pl
def Bt (cl:Cn) (ρ:List Addr) (H:Hp) (ρ':List Addr) (H':Hp):Prop:=ρ <+:ρ'/\∀ b u,H b=some u->b ∉ ρ->b ∉ ρ'/\((cl.on=true->b ≠ cl.P)->H' b=some u)/\∃ u',H' b=some u'
theorem Bt.refl:Bt cl ρ H ρ H:=⟨List.prefix_refl _,fun _ u q n=>⟨n,fun _=>q,u,q⟩⟩
theorem Bt.trans {Gy:List Addr} {H'':Hp} (x:Bt cl ρ H ρ' H') (y:Bt cl ρ' H' Gy H''):Bt cl ρ H Gy H'':=⟨x.1.trans y.1,fun b u q n=>by
 obtain ⟨n1,q1,u1,q2⟩:=x.2 b u q n
 obtain ⟨n2,q3,u2,q4⟩:=y.2 b u1 q2 n1
 refine ⟨n2,fun c=>?_,u2,q4⟩
 have e:=q1 c
 rw [q2] at e;cases e
 exact q3 c⟩
theorem Bt.new {p:Addr} {u:HO} (e:H p=none):Bt cl ρ H (ρ ++ [p]) (upd H p u):=⟨List.prefix_append _ _,fun b v q n=>by
 have ne:b ≠ p:=bf q e
 have q':upd H p u b=some v:=by rw [aJ ne];exact q
 refine ⟨fun z=>?_,fun _=>q',v,q'⟩
 rcases List.mem_append.mp z with z | z
 · exact n z
 · simp at z;exact ne z⟩
theorem Bt.put {a:Addr} {u:HO} {n:Nat} (e:ρ[n]? =some a):Bt cl ρ H ρ (upd H a u):=⟨List.prefix_refl _,fun b v q nb=>by
 have q':upd H a u b=some v:=by rw [aJ fun z=>nb (by rw [z];exact List.mem_of_getElem? e)];exact q
 exact ⟨nb,fun _=>q',v,q'⟩⟩
end
section
variable (cl:Cn)
def Post (ρ:List Addr) (H:Hp) (E:XK) {α:Type} (r:R α) (P:α->Hs->List Addr->Hp->Prop):Prop:=match r with
 | .ok a h=>∀ ρ' H',Bt cl ρ H ρ' H'->Sim cl ρ' h H'->P a h ρ' H'
 | .ex C fs h=>∀ ρ' H' dx gs,Bt cl ρ H ρ' H'->Sim cl ρ' h H'->FR ρ' fs gs->dx ∉ ρ'->H' dx=some (.xd gs)->E (.ref (cl C)) (some dx) H'
 | .no=>False
end
section
variable {cl:Cn} {ρ ρ':List Addr} {h:Hs} {H H':Hp} {E:XK} {α β:Type}
theorem Post.mono {r:R α} {P P':α->Hs->List Addr->Hp->Prop} (x:Post cl ρ H E r P) (f:∀ a h ρ' H',Bt cl ρ H ρ' H'->Sim cl ρ' h H'->P a h ρ' H'->P' a h ρ' H'):Post cl ρ H E r P':=by
 cases r with
 | ok a h=>exact fun ρ' H' b s=>f a h ρ' H' b s (x ρ' H' b s)
 | ex C fs h=>exact x
 | no=>exact x
theorem Post.later {r:R α} {P:α->Hs->List Addr->Hp->Prop} (x:Post cl ρ H E r P) (b:Bt cl ρ H ρ' H'):Post cl ρ' H' E r P:=by
 cases r with
 | ok a h=>exact fun ρ2 H2 b2 s=>x ρ2 H2 (b.trans b2) s
 | ex C fs h=>exact fun ρ2 H2 dx gs b2 s f n q=>x ρ2 H2 dx gs (b.trans b2) s f n q
 | no=>exact x
theorem Post.bind {r:R α} {f:α->Hs->R β} {P:β->Hs->List Addr->Hp->Prop} (x:Post cl ρ H E (r.bind f) P):Post cl ρ H E r fun a h1 ρ1 H1=>Post cl ρ1 H1 E (f a h1) P:=by
 cases r with
 | ok a h1=>exact fun ρ1 H1 b s1=>Post.later (ρ:=ρ) (H:=H) x b
 | ex C fs h1=>exact x
 | no=>exact x
end
end Ev
namespace Ev
open PySem L2
section
variable (Pg:List Fn) (cl:Cn) (E:XK) (d:Nat)
def VP (Q:VK):A->Hs->List Addr->Hp->Prop:=fun r _ ρ H=>∃ w,r= .w w/\∀ v,RW ρ w v->Q v H
def LP (Q:List V->Hp->Prop):A->Hs->List Addr->Hp->Prop:=fun r _ ρ H=>∃ ws,r= .ws ws/\∀ vs,RWs ρ ws vs->Q vs H
def Ag (σ0:St) (τ:Sg) (σ:St):Prop:=∀ i,aP τ i=none->σ[i]? =σ0[i]?
def FP (σ0:St) (D:Ends) (ρ:List Addr) (H:Hp):Fl->Prop
 | .nx τ=>∀ σ,RS ρ τ σ->Ag σ0 τ σ->D.nx σ H
 | .bk τ=>∀ σ,RS ρ τ σ->Ag σ0 τ σ->D.bk σ H
 | .ct τ=>∀ σ,RS ρ τ σ->Ag σ0 τ σ->D.ct σ H
 | .rt w=>∀ v,RW ρ w v->D.rt v H
def SPo (σ0:St) (D:Ends):A->Hs->List Addr->Hp->Prop:=fun r _ ρ H=>∃ f,r= .fl f/\FP σ0 D ρ H f
def ev (q:Q) (σ:St) (H:Hp) (P:A->Hs->List Addr->Hp->Prop):Prop:=∃ ρ τ h n,Sim cl ρ h H/\RS ρ τ σ/\Post cl ρ H E (evs Pg n d q τ h) P
def tE (a:X):TE:=fun σ H Q=>ev Pg cl E d (.x a) σ H (VP Q)
def tT (a:X):TT:=fun σ H Q=>ev Pg cl E d (.x a) σ H (VP fun v H'=>∃ b,v= .bl b/\Q b H')
def tA (as:List X):TA:=fun σ H Q=>ev Pg cl E d (.a as) σ H (LP Q)
def evS (σ0:St) (q:Q) (σ:St) (H:Hp) (P:A->Hs->List Addr->Hp->Prop):Prop:=∃ ρ τ h n,Sim cl ρ h H/\RS ρ τ σ/\Ag σ0 τ σ/\Post cl ρ H E (evs Pg n d q τ h) P
def tS (σ0:St) (s:S):TS:=fun D σ H=>evS Pg cl E d σ0 (.s s) σ H (SPo σ0 D)
def tSs (σ0:St) (s:List S):TS:=fun D σ H=>evS Pg cl E d σ0 (.ss s) σ H (SPo σ0 D)
end
section
variable {Pg:List Fn} {cl:Cn} {E:XK} {d:Nat} {X:Cx} {σ:St} {H:Hp} {P:A->Hs->List Addr->Hp->Prop}
theorem PE.of {e:Expr} {t t':TE} (h:PE X e t) (f:∀ σ H Q,t' σ H Q->t σ H Q):PE X e t':=fun pins s σ H Q I q=>h pins s σ H Q I (f σ H Q q)
theorem PT.of {e:Expr} {t t':TT} (h:PT X e t) (f:∀ σ H Q,t' σ H Q->t σ H Q):PT X e t':=fun pins s σ H Q I q=>h pins s σ H Q I (f σ H Q q)
theorem PW.of {e:Expr} {t t':TT} (h:PW X e t) (f:∀ σ H Q,t' σ H Q->t σ H Q):PW X e t':=fun wh pins s σ H Q I q=>h wh pins s σ H Q I (f σ H Q q)
theorem PA.of {es:List Expr} {t t':TA} (h:PA X es t) (f:∀ σ H Q,t' σ H Q->t σ H Q):PA X es t':=fun pos pins s σ H Q I q=>h pos pins s σ H Q I (f σ H Q q)
theorem PS.of {e:Stmt} {t t':TS} (h:PS X e t) (f:∀ D σ H,t' D σ H->t D σ H):PS X e t':=fun pins s σ H D I q=>h pins s σ H D I (f D σ H q)
theorem PSs.of {e:List Stmt} {t t':TS} (h:PSs X e t) (f:∀ D σ H,t' D σ H->t D σ H):PSs X e t':=fun pins s σ H D I q=>h pins s σ H D I (f D σ H q)
theorem ev.step {q:Q} (x:ev Pg cl E d q σ H P):∃ ρ τ h n,Sim cl ρ h H/\RS ρ τ σ/\Post cl ρ H E (evs Pg n d q τ h) P:=x
theorem evS.step {q:Q} {σ0:St} (x:evS Pg cl E d σ0 q σ H P):∃ ρ τ h n,Sim cl ρ h H/\RS ρ τ σ/\Ag σ0 τ σ/\Post cl ρ H E (evs Pg n d q τ h) P:=x
theorem ev.then {q:Q} {ρ:List Addr} {τ:Sg} {h:Hs} {n:Nat} {f:A->Hs->R A} {P P':A->Hs->List Addr->Hp->Prop} (s:Sim cl ρ h H) (r:RS ρ τ σ) (p:Post cl ρ H E ((evs Pg n d q τ h).bind f) P)
 (g:∀ a h1 ρ1 H1,Bt cl ρ H ρ1 H1->Sim cl ρ1 h1 H1->Post cl ρ1 H1 E (f a h1) P->P' a h1 ρ1 H1):ev Pg cl E d q σ H P':=⟨ρ,τ,h,n,s,r,p.bind.mono g⟩
theorem evS.then {q:Q} {σ0:St} {ρ:List Addr} {τ:Sg} {h:Hs} {n:Nat} {f:A->Hs->R A} {P P':A->Hs->List Addr->Hp->Prop} (s:Sim cl ρ h H) (r:RS ρ τ σ) (ag:Ag σ0 τ σ) (p:Post cl ρ H E ((evs Pg n d q τ h).bind f) P)
 (g:∀ a h1 ρ1 H1,Bt cl ρ H ρ1 H1->Sim cl ρ1 h1 H1->Post cl ρ1 H1 E (f a h1) P->P' a h1 ρ1 H1):evS Pg cl E d σ0 q σ H P':=⟨ρ,τ,h,n,s,r,ag,p.bind.mono g⟩
theorem aY {ρ:List Addr} {H:Hp} {a:A} {f:W->R A} (p:Post cl ρ H E (a.toW f) P):∃ w,a= .w w/\Post cl ρ H E (f w) P:=by
 cases a with
 | w w=>exact ⟨w,rfl,p⟩
 | _=>exact p.elim
theorem jo {ρ:List Addr} {H:Hp} {a:A} {f:List W->R A} (p:Post cl ρ H E (a.toL f) P):∃ w,a= .ws w/\Post cl ρ H E (f w) P:=by
 cases a with
 | ws w=>exact ⟨w,rfl,p⟩
 | _=>exact p.elim
theorem xF {ρ:List Addr} {H:Hp} {a:A} {f:Iv->R A} (p:Post cl ρ H E (a.toV f) P):∃ w,a= .iv w/\Post cl ρ H E (f w) P:=by
 cases a with
 | iv w=>exact ⟨w,rfl,p⟩
 | _=>exact p.elim
theorem lg {ρ:List Addr} {H:Hp} {a:A} {f:Fl->R A} (p:Post cl ρ H E (a.toF f) P):∃ w,a= .fl w/\Post cl ρ H E (f w) P:=by
 cases a with
 | fl w=>exact ⟨w,rfl,p⟩
 | _=>exact p.elim
theorem cT {ρ:List Addr} {H:Hp} {α β:Type} {o:Option α} {f:α->R β} {P:β->Hs->List Addr->Hp->Prop} (p:Post cl ρ H E (Opt o f) P):∃ w,o=some w/\Post cl ρ H E (f w) P:=by
 cases o with
 | some w=>exact ⟨w,rfl,p⟩
 | none=>exact p.elim
theorem xG {ρ:List Addr} {H:Hp} {β:Type} {w:W} {f:Int->R β} {P:β->Hs->List Addr->Hp->Prop} (p:Post cl ρ H E (w.onI f) P):∃ i,w= .int i/\Post cl ρ H E (f i) P:=by
 cases w with
 | int w=>exact ⟨w,rfl,p⟩
 | _=>exact p.elim
theorem xH {ρ:List Addr} {H:Hp} {β:Type} {w:W} {f:Nat->R β} {P:β->Hs->List Addr->Hp->Prop} (p:Post cl ρ H E (w.onR f) P):∃ i,w= .ref i/\Post cl ρ H E (f i) P:=by
 cases w with
 | ref w=>exact ⟨w,rfl,p⟩
 | _=>exact p.elim
theorem jq {ρ:List Addr} {H:Hp} {β:Type} {w:W} {f t:R β} {P:β->Hs->List Addr->Hp->Prop} (p:Post cl ρ H E (w.onB f t) P):(w= .bl true/\Post cl ρ H E t P)\/(w= .bl false/\Post cl ρ H E f P):=by
 cases w with
 | bl b=>cases b with
   | true=>exact .inl ⟨rfl,p⟩
   | false=>exact .inr ⟨rfl,p⟩
 | _=>exact p.elim
theorem rE {ρ:List Addr} {H:Hp} {β:Type} {b:Bool} {t:R β} {P:β->Hs->List Addr->Hp->Prop} (p:Post cl ρ H E (ifB b t .no) P):b=true/\Post cl ρ H E t P:=by
 cases b with
 | true=>exact ⟨rfl,p⟩
 | false=>exact p.elim
theorem at_of {ρ:List Addr} {H:Hp} {h:Hs} {β:Type} {w:W} {f:Nat->O->R β} {P:β->Hs->List Addr->Hp->Prop} (s:Sim cl ρ h H) {v:V} (r:RW ρ w v) (p:Post cl ρ H E (h.at w f) P):
 ∃ n o a,w= .ref n/\v= .ref a/\ρ[n]? =some a/\h.get n=some o/\OA cl ρ H a o/\Post cl ρ H E (f n o) P:=by
 obtain ⟨n,rfl,p⟩:=xH p
 obtain ⟨o,e,p⟩:=cT p
 cases r with
 | ref q=>exact ⟨n,o,_,rfl,rfl,q,e,s.at q e,p⟩
theorem Gz {ρ:List Addr} {H:Hp} {β:Type} {o:O} {f:List W->R β} {P:β->Hs->List Addr->Hp->Prop} (p:Post cl ρ H E (o.onL f) P):∃ xs,o= .lst xs/\Post cl ρ H E (f xs) P:=by
 cases o with
 | lst xs=>exact ⟨xs,rfl,p⟩
 | _=>exact p.elim
theorem Post.now {ρ:List Addr} {H:Hp} {h:Hs} {α:Type} {a:α} {P:α->Hs->List Addr->Hp->Prop} (s:Sim cl ρ h H) (p:Post cl ρ H E (.ok a h) P):P a h ρ H:=p ρ H Bt.refl s
theorem Post.cH {ρ:List Addr} {H:Hp} {h:Hs} {w:W} {v:V} {Q:VK} (s:Sim cl ρ h H) (p:Post cl ρ H E (.ok (.w w) h) (VP Q)) (r:RW ρ w v):Q v H:=by
 obtain ⟨w',e,q⟩:=p.now s
 cases e;exact q v r
theorem Post.new {ρ:List Addr} {H:Hp} {h:Hs} {o:O} {u:HO} {p:Addr} {Q:VK} (s:Sim cl ρ h H) (x:Post cl ρ H E (ofW (.alloc h o)) (VP Q)) (e:H p=none) (z:OA cl (ρ ++ [p]) (upd H p u) p o):Q (.ref p) (upd H p u):=by
 obtain ⟨w',e',q⟩:=x (ρ ++ [p]) (upd H p u) (Bt.new e) (s.push e z)
 cases e'
 exact q _ (.ref (by rw [<- s.len,List.getElem?_append_right (Nat.le_refl _),Nat.sub_self];rfl))
theorem Post.newL {ρ:List Addr} {H:Hp} {h:Hs} {xs:List W} {vs:List V} {p:Addr} {Q:VK} (s:Sim cl ρ h H) (x:Post cl ρ H E (ofW (.alloc h (.lst xs))) (VP Q)) (e:H p=none) (r:RWs ρ xs vs):Q (.ref p) (upd H p (.lst vs)):=
 x.new s e ⟨vs,r.mono (List.prefix_append _ _),aR⟩
theorem Post.GC {ρ:List Addr} {H:Hp} {h:Hs} {xs:List W} {vs:List V} {p:Addr} {Q:VK} (s:Sim cl ρ h H) (x:Post cl ρ H E (ofW (.alloc h (.tup xs))) (VP Q)) (e:H p=none) (r:RWs ρ xs vs):Q (.ref p) (upd H p (.tup vs)):=
 x.new s e ⟨vs,r.mono (List.prefix_append _ _),aR⟩
theorem GD {i:Nat} {x:Str} {pos:Pos} (hN:X.N[i]? =some x:=by rfl) (hv:Vis X.env.scope x:=by first | exact Or.inl rfl | exact Or.inr (Or.inl rfl) | exact Or.inr (Or.inr rfl)) (hd:(x == ("__debug__":Str))=false:=by decide)
 (hcd:(x == ("__classdict__":Str))=false:=by decide):PE X (.Name x pos) (tE Pg cl E d (.var i)):=PE.of (wL hN hv hd hcd) fun σ H Q x=>by
 obtain ⟨ρ,τ,h,n,s,r,p⟩:=x.step
 obtain ⟨w,e,p⟩:=cT (show Post cl ρ H E (Opt (aP τ i) fun w=>.ok (.w w) h) (VP Q) from p)
 obtain ⟨v,ev,rv⟩:=r.get e
 exact ⟨v,ev,p.cH s rv⟩
theorem xJ {e:Expr} {w:W} {v:V} (h:PE X e (tC v)) (r:RW [] w v):PE X e (tE Pg cl E d (.cst w)):=PE.of h fun σ H Q x=>by
 obtain ⟨ρ,τ,h,n,s,_,p⟩:=x.step
 exact Post.cH s (show Post cl ρ H E (.ok (.w w) h) (VP Q) from p) (r.mono (List.nil_prefix))
theorem aj {i:Int} {j pos}:PE X (.Constant (.int i) j pos) (tE Pg cl E d (.cst (.int i))):=xJ aD (.int i)
theorem lY {b j pos}:PE X (.Constant (.bool b) j pos) (tE Pg cl E d (.cst (.bl b))):=xJ Bb (.bl b)
theorem ao:PA X [] (tA Pg cl E d []):=PA.of bH fun σ H Q x=>by
 obtain ⟨ρ,τ,h,n,s,_,p⟩:=x.step
 obtain ⟨ws,e,q⟩:=Post.now s (show Post cl ρ H E (.ok (.ws []) h) (LP Q) from p)
 cases e;exact q [] .nil
theorem cV {e:Expr} {es:List Expr} {a:Ev.X} {as:List Ev.X} (ha:PE X e (tE Pg cl E d a)) (hr:PA X es (tA Pg cl E d as)) (hs:starEach (e::es) X.env=(false,eval e X.env)::starEach es X.env:=by rfl):PA X (e::es) (tA Pg cl E d (a::as)):=
 PA.of (aC ha hr hs) fun σ H Q x=>by
 obtain ⟨ρ,τ,h,n,s,r,p⟩:=x.step
 refine ev.then s r (show Post cl ρ H E ((evs Pg n d (.x a) τ h).bind fun r h=>r.toW fun w=>(evs Pg n d (.a as) τ h).bind fun r h=>r.toL fun ws=>.ok (.ws (w::ws)) h) (LP Q) from p) fun a1 h1 ρ1 H1 b1 s1 p1=>?_
 obtain ⟨w,rfl,p1⟩:=aY p1
 refine ⟨w,rfl,fun v rv=>?_⟩
 refine ev.then s1 (r.mono b1.1) p1 fun a2 h2 ρ2 H2 b2 s2 p2=>?_
 obtain ⟨ws,rfl,p2⟩:=jo p2
 refine ⟨ws,rfl,fun vs rs=>?_⟩
 obtain ⟨ws',e,q⟩:=p2.now s2
 cases e
 exact q _ (.cons (rv.mono b2.1) rs)
def Op2 (cl:Cn) (p:Pr) (r:R2):Prop:=∀ (E:XK) (ρ:List Addr) (h:Hs) (H:Hp) (w1 w2:W) (v1 v2:V) (Q:VK),Sim cl ρ h H->RW ρ w1 v1->RW ρ w2 v2->Post cl ρ H E (ofW (aU p [w1,w2] h)) (VP Q)->r v1 v2 H Q
def Op1 (cl:Cn) (p:Pr) (r:V->Hp->VK->Prop):Prop:=∀ (E:XK) (ρ:List Addr) (h:Hs) (H:Hp) (w1:W) (v1:V) (Q:VK),Sim cl ρ h H->RW ρ w1 v1->Post cl ρ H E (ofW (aU p [w1] h)) (VP Q)->r v1 H Q
theorem nU {p:Pr} {r:R2} (o:Op2 cl p r) {a b:Ev.X} {Q:VK} (x:tE Pg cl E d (.pr p [a,b]) σ H Q):tOp r (tE Pg cl E d a) (tE Pg cl E d b) σ H Q:=by
 obtain ⟨ρ,τ,h,n,s,rs,q⟩:=x.step
 have q:Post cl ρ H E ((evs Pg n d (.a [a,b]) τ h).bind fun a h=>a.toL fun ws=>ofW (aU p ws h)) (VP Q):=q
 have q1:=q.bind
 refine ev.then s rs (show Post cl ρ H E ((evs Pg n d (.x a) τ h).bind fun r h=>r.toW fun w=>(evs Pg n d (.a [b]) τ h).bind fun r h=>r.toL fun ws=>.ok (.ws (w::ws)) h) _ from q1) fun a1 h1 ρ1 H1 b1 s1 p1=>?_
 obtain ⟨w1,rfl,pz⟩:=aY p1
 clear p1
 refine ⟨w1,rfl,fun v1 rv1=>?_⟩
 have p1':=pz.bind
 refine ev.then s1 (rs.mono b1.1) (show Post cl ρ1 H1 E ((evs Pg n d (.x b) τ h1).bind fun r h=>r.toW fun w=>(evs Pg n d (.a []) τ h).bind fun r h=>r.toL fun ws=>.ok (.ws (w::ws)) h) _ from p1') fun a2 h2 ρ2 H2 b2 s2 p2=>?_
 obtain ⟨w2,rfl,pz⟩:=aY p2
 clear p2
 refine ⟨w2,rfl,fun v2 rv2=>?_⟩
 have p3:=Post.now s2 (show Post cl ρ2 H2 E (.ok (A.ws [w2]) h2) _ from pz)
 have p4:=Post.now s2 (show Post cl ρ2 H2 E (.ok (A.ws [w1,w2]) h2) _ from p3)
 exact o E ρ2 h2 H2 w1 w2 v1 v2 Q s2 (rv1.mono b2.1) rv2 p4
theorem nW {p:Pr} {r:V->Hp->VK->Prop} (o:Op1 cl p r) {a:Ev.X} {Q:VK} (x:tE Pg cl E d (.pr p [a]) σ H Q):tUn r (tE Pg cl E d a) σ H Q:=by
 obtain ⟨ρ,τ,h,n,s,rs,q⟩:=x.step
 have q:Post cl ρ H E ((evs Pg n d (.a [a]) τ h).bind fun a h=>a.toL fun ws=>ofW (aU p ws h)) (VP Q):=q
 have q1:=q.bind
 refine ev.then s rs (show Post cl ρ H E ((evs Pg n d (.x a) τ h).bind fun r h=>r.toW fun w=>(evs Pg n d (.a []) τ h).bind fun r h=>r.toL fun ws=>.ok (.ws (w::ws)) h) _ from q1) fun a1 h1 ρ1 H1 b1 s1 p1=>?_
 obtain ⟨w1,rfl,pz⟩:=aY p1
 clear p1
 refine ⟨w1,rfl,fun v1 rv1=>?_⟩
 have p3:=Post.now s1 (show Post cl ρ1 H1 E (.ok (A.ws [w1]) h1) _ from pz)
 exact o E ρ1 h1 H1 w1 v1 Q s1 rv1 p3
def OpN (cl:Cn) (p:Pr) (r:List V->Hp->VK->Prop):Prop:=∀ (E:XK) (ρ:List Addr) (h:Hs) (H:Hp) (ws:List W) (vs:List V) (Q:VK),Sim cl ρ h H->RWs ρ ws vs->Post cl ρ H E (ofW (aU p ws h)) (VP Q)->r vs H Q
theorem vI {p:Pr} {r:List V->Hp->VK->Prop} (o:OpN cl p r) {as:List Ev.X} {Q:VK} (x:tE Pg cl E d (.pr p as) σ H Q):tCB r (tA Pg cl E d as) σ H Q:=by
 obtain ⟨ρ,τ,h,n,s,rs,q⟩:=x.step
 refine ev.then s rs (show Post cl ρ H E ((evs Pg n d (.a as) τ h).bind fun a h=>a.toL fun ws=>ofW (aU p ws h)) (VP Q) from q) fun a1 h1 ρ1 H1 b1 s1 p1=>?_
 obtain ⟨ws,rfl,p1⟩:=jo p1
 exact ⟨ws,rfl,fun vs rv=>o E ρ1 h1 H1 ws vs Q s1 rv p1⟩
end
end Ev
namespace Ev
open PySem L2
section
variable {cl:Cn} {E:XK} {ρ:List Addr} {H:Hp} {h:Hs} {P:A->Hs->List Addr->Hp->Prop}
theorem oI {w:W} {f:Int->R W} (p:Post cl ρ H E (ofW (w.onI f)) P):∃ i,w= .int i/\Post cl ρ H E (ofW (f i)) P:=by
 cases w with
 | int w=>exact ⟨w,rfl,p⟩
 | _=>exact p.elim
theorem oB {w:W} {f t:R W} (p:Post cl ρ H E (ofW (w.onB f t)) P):∃ b,w= .bl b/\Post cl ρ H E (ofW (ifB b t f)) P:=by
 cases w with
 | bl b=>exact ⟨b,rfl,p⟩
 | _=>exact p.elim
theorem oIf {b:Bool} {t:R W} (p:Post cl ρ H E (ofW (ifB b t .no)) P):b=true/\Post cl ρ H E (ofW t) P:=by
 cases b with
 | true=>exact ⟨rfl,p⟩
 | false=>exact p.elim
theorem jH {α:Type} {o:Option α} {f:α->R W} (p:Post cl ρ H E (ofW (Opt o f)) P):∃ w,o=some w/\Post cl ρ H E (ofW (f w)) P:=by
 cases o with
 | some w=>exact ⟨w,rfl,p⟩
 | none=>exact p.elim
theorem oAt {w:W} {f:Nat->O->R W} (s:Sim cl ρ h H) {v:V} (r:RW ρ w v) (p:Post cl ρ H E (ofW (h.at w f)) P):
 ∃ n o a,w= .ref n/\v= .ref a/\ρ[n]? =some a/\h.get n=some o/\OA cl ρ H a o/\Post cl ρ H E (ofW (f n o)) P:=by
 cases w with
 | ref n=>
   obtain ⟨o,e,p⟩:=jH (show Post cl ρ H E (ofW (Opt (h.get n) (f n))) P from p)
   cases r with
   | ref q=>exact ⟨n,o,_,rfl,rfl,q,e,s.at q e,p⟩
 | _=>exact p.elim
theorem oL {o:O} {f:List W->R W} (p:Post cl ρ H E (ofW (o.onL f)) P):∃ xs,o= .lst xs/\Post cl ρ H E (ofW (f xs)) P:=by
 cases o with
 | lst xs=>exact ⟨xs,rfl,p⟩
 | _=>exact p.elim
theorem oIt {o:O} {f:List W->R W} (p:Post cl ρ H E (ofW (o.items f)) P):∃ xs,(o= .lst xs\/o= .tup xs)/\Post cl ρ H E (ofW (f xs)) P:=by
 cases o with
 | lst xs=>exact ⟨xs,.inl rfl,p⟩
 | tup xs=>exact ⟨xs,.inr rfl,p⟩
 | _=>exact p.elim
theorem vJ {xs:List W} {k:R W} (p:Post cl ρ H E (ofW (size xs k)) P):xs.length <= 16777215/\Post cl ρ H E (ofW k) P:=by
 obtain ⟨e,p⟩:=oIf p
 rw [ble_eq,len_eq] at e
 exact ⟨of_decide_eq_true e,p⟩
theorem jr:sizeLine=16777216:=sizeLine_eq
theorem OA.sq {K:PySem.W.Frag} {a:Addr} {o:O} {xs:List W} (e:o= .lst xs\/o= .tup xs) (x:OA cl ρ H a o):∃ vs,RWs ρ xs vs/\(SqL K H a vs\/SqT K H a vs):=by
 rcases e with rfl | rfl
 · obtain ⟨vs,r,q⟩:=x;exact ⟨vs,r,.inl (SqL.of q)⟩
 · obtain ⟨vs,r,q⟩:=x;exact ⟨vs,r,.inr (SqT.of q)⟩
theorem Post.yes {b c:Bool} {Q:VK} (s:Sim cl ρ h H) (p:Post cl ρ H E (ofW (.yes b h)) (VP Q)) (e:b=c):Q (.bl c) H:=by subst e;exact Post.cH s p (.bl b)
end
section
variable {cl:Cn}
theorem o9 (i j:Int):mU i j=i + j:=by cases i <;> cases j <;> rfl
theorem uw (i j:Int):vG i j=i - j:=by
 cases i with
 | ofNat a=>
   cases j with
   | ofNat b=>
     show (Bool.rec (Int.negSucc (b - a - 1)) (Int.ofNat (a - b)) (Nat.ble b a):Int)=(a:Int) - (b:Int)
     cases z:Nat.ble b a with
     | true=>
       have:=Nat.le_of_ble_eq_true z
       show ((a - b:Nat):Int)=_
       omega
     | false=>
       have:¬ b <= a:=fun q=>by rw [Nat.ble_eq_true_of_le q] at z;cases z
       show Int.negSucc (b - a - 1)=_
       rw [Int.negSucc_eq]
       omega
   | negSucc b=>rfl
 | negSucc a=>
   cases j with
   | ofNat b=>
     show Int.negSucc (a + b)=Int.negSucc a - (b:Int)
     rw [Int.negSucc_eq,Int.negSucc_eq];omega
   | negSucc b=>rfl
theorem fmod_eq (i j:Int):fmod i j=i % j:=by cases i <;> cases j <;> rfl
theorem gm:Op2 cl .sub (rI0 fun i j=>.int (i - j)):=fun E ρ h H w1 w2 v1 v2 Q s r1 r2 p=>by
 obtain ⟨i,rfl,p⟩:=oI (show Post cl ρ H E (ofW (w1.onI fun i=>w2.onI fun j=>Gp h i j)) (VP Q) from p)
 obtain ⟨j,rfl,p⟩:=oI p
 have p:Post cl ρ H E (ofW (.ok (.int (vG i j)) h)) (VP Q):=p
 rw [uw] at p
 cases r1;cases r2
 exact ⟨i,j,rfl,rfl,Post.cH s p (.int _)⟩
theorem rF {i:Int} (h:Sml i=true):L2.Sml i:=by
 unfold L2.Sml
 cases i with
 | ofNat a=>
   have:Nat.ble (a + 1) (2 ^ 4000)=true:=h
   rw [ble_eq] at this
   have:=of_decide_eq_true this
   show a < 2 ^ 4000
   omega
 | negSucc a=>
   have:Nat.ble (a + 2) (2 ^ 4000)=true:=h
   rw [ble_eq] at this
   have:=of_decide_eq_true this
   show a + 1 < 2 ^ 4000
   omega
theorem iQ:Op2 cl .mod (rI (fun _ j=>0 < j) fun i j=>.int (i % j)):=fun E ρ h H w1 w2 v1 v2 Q s r1 r2 p=>by
 obtain ⟨i,rfl,p⟩:=oI (show Post cl ρ H E (ofW (w1.onI fun i=>w2.onI fun j=>Gs h i j)) (VP Q) from p)
 obtain ⟨j,rfl,p⟩:=oI p
 obtain ⟨c,p⟩:=oIf p
 rw [bL] at c
 rw [fmod_eq] at p
 cases r1;cases r2
 exact ⟨i,j,rfl,rfl,of_decide_eq_true c,Post.cH s p (.int _)⟩
theorem nY:Op2 cl .fdiv (rI (fun _ j=>Bg j) fun i j=>.int (i.fdiv j)):=fun E ρ h H w1 w2 v1 v2 Q s r1 r2 p=>by
 obtain ⟨i,rfl,p⟩:=oI (show Post cl ρ H E (ofW (w1.onI fun i=>w2.onI fun j=>Bl h i j)) (VP Q) from p)
 obtain ⟨j,rfl,p⟩:=oI p
 obtain ⟨c,p⟩:=oIf p
 obtain ⟨c2,p⟩:=oIf p
 rw [bL] at c
 have c:=of_decide_eq_true c
 cases r1;cases r2
 exact ⟨i,j,rfl,rfl,⟨by omega,rF c2⟩,Post.cH s p (.int _)⟩
theorem qK:Op1 cl .neg (rU fun i=>.int (-i)):=fun E ρ h H w1 v1 Q s r1 p=>by
 obtain ⟨i,rfl,p⟩:=oI (show Post cl ρ H E (ofW (w1.onI fun i=>.ok (.int (-i)) h)) (VP Q) from p)
 cases r1
 exact ⟨i,rfl,Post.cH s p (.int _)⟩
theorem Bp {p:Pr} {f g:Int->Int->Bool} (hp:∀ h w1 w2,aU p [w1,w2] h=w1.onI fun i=>w2.onI fun j=>.yes (f i j) h) (e:∀ i j,f i j=g i j):Op2 cl p (rI0 fun i j=>.bl (g i j)):=fun E ρ h H w1 w2 v1 v2 Q s r1 r2 p=>by
 rw [hp] at p
 obtain ⟨i,rfl,p1⟩:=oI p
 obtain ⟨j,rfl,p2⟩:=oI p1
 cases r1;cases r2
 exact ⟨i,j,rfl,rfl,Post.yes s p2 (e i j)⟩
theorem oT {E:XK} {ρ:List Addr} {H:Hp} {P:A->Hs->List Addr->Hp->Prop} {o:O} {f:List W->R W} (p:Post cl ρ H E (ofW (o.onT f)) P):∃ xs,o= .tup xs/\Post cl ρ H E (ofW (f xs)) P:=by
 cases o with
 | tup xs=>exact ⟨xs,rfl,p⟩
 | _=>exact p.elim
theorem ints_of {ρ:List Addr}:∀ {xs:List W} {vs:List V},RWs ρ xs vs->lW xs=true->∃ ns:List Int,xs=ns.map W.int/\vs=ns.map V.int
 | _,_,.nil,_=>⟨[],rfl,rfl⟩
 | x::xs,v::vs,.cons r t,e=>by
   cases r with
   | int i=>
     obtain ⟨ns,e1,e2⟩:=ints_of t (show lW xs=true from e)
     exact ⟨i::ns,by rw [e1];rfl,by rw [e2];rfl⟩
   | _=>cases e
theorem ux:∀ (ns ms:List Int),vH (ns.map W.int) (ms.map W.int)=some (HT.lexLt ns ms)
 | [],[]=>rfl
 | [],_::_=>rfl
 | _::_,[]=>rfl
 | i::ns,j::ms=>by
   show ifB (ieq i j) (vH (ns.map W.int) (ms.map W.int)) (some (ilt i j))=_
   rw [fH,ux ns ms,bL]
   by_cases z:i=j
   · rw [decide_eq_true z]
     simp [ifB,HT.lexLt,z]
   · rw [decide_eq_false z]
     simp [ifB,HT.lexLt,z]
def GF (K:PySem.W.Frag):R2:=fun x y H Q=>rI0 (fun i j=>.bl (decide (i < j))) x y H Q\/Fy K x y H Q
theorem GJ {K:PySem.W.Frag}:Op2 cl .lt (GF K):=fun E ρ h H w1 w2 v1 v2 Q s r1 r2 p=>by
 have p:Post cl ρ H E (ofW (pLt h w1 w2)) (VP Q):=p
 cases w1 with
 | int i=>
   obtain ⟨j,rfl,p1⟩:=oI (show Post cl ρ H E (ofW (w2.onI fun j=>.yes (ilt i j) h)) (VP Q) from p)
   cases r1;cases r2
   exact .inl ⟨i,j,rfl,rfl,Post.yes s p1 (bL i j)⟩
 | ref n=>
   obtain ⟨n,o,a,_,rfl,e1,g1,x1,p1⟩:=oAt s r1 (show Post cl ρ H E (ofW (h.at (.ref n) fun _ x=>h.at w2 fun _ y=>x.onT fun xs=>y.onT fun ys=>ifB (lW xs) (ifB (lW ys) (Opt (vH xs ys) fun c=>.yes c h) .no) .no)) (VP Q) from p)
   obtain ⟨m,o2,b,_,rfl,e2,g2,x2,p2⟩:=oAt s r2 p1
   obtain ⟨xs,rfl,p3⟩:=oT p2
   obtain ⟨ys,rfl,p4⟩:=oT p3
   obtain ⟨c1,p5⟩:=oIf p4
   obtain ⟨c2,p6⟩:=oIf p5
   obtain ⟨c,ec,p7⟩:=jH p6
   obtain ⟨vs,rv,q1⟩:=x1
   obtain ⟨us,ru,q2⟩:=x2
   obtain ⟨ns,rfl,rfl⟩:=ints_of rv c1
   obtain ⟨ms,rfl,rfl⟩:=ints_of ru c2
   rw [ux] at ec
   exact .inr ⟨a,b,ns,ms,rfl,rfl,SqT.of q1,SqT.of q2,Post.yes s p7 (Option.some.inj ec).symm⟩
 | _=>exact p.elim
theorem zP:Op2 cl .gt (rI0 fun i j=>.bl (decide (j < i))):=Bp (f:=fun i j=>ilt j i) (fun _ _ _=>rfl) fun i j=>bL j i
theorem not_lt (i j:Int):(!ilt j i)=decide (i <= j):=by
 rw [bL,<- decide_not]
 exact decide_eq_decide.mpr (by omega)
theorem GK:Op2 cl .le (rI0 fun i j=>.bl (decide (i <= j))):=Bp (f:=fun i j=> !ilt j i) (fun _ _ _=>rfl) fun i j=>not_lt i j
theorem GP:Op1 cl .rB (fun x H Q=>∃ c,x= .bl c/\Q (.bl (!c)) H):=fun E ρ h H w1 v1 Q s r1 p=>by
 obtain ⟨b,rfl,p⟩:=oB (show Post cl ρ H E (ofW (w1.onB (.yes true h) (.yes false h))) (VP Q) from p)
 cases r1
 refine ⟨b,rfl,?_⟩
 cases b with
 | true=>exact Post.yes s p rfl
 | false=>exact Post.yes s p rfl
def Dd:R2:=fun x y H Q=>rI0 (fun i j=>.int (i + j)) x y H Q\/Ga x y H Q
theorem gU:Op2 cl .add Dd:=fun E ρ h H w1 w2 v1 v2 Q s r1 r2 p=>by
 have p:Post cl ρ H E (ofW (Gn h w1 w2)) (VP Q):=p
 cases w1 with
 | int i=>
   obtain ⟨j,rfl,p⟩:=oI (show Post cl ρ H E (ofW (w2.onI fun j=>.ok (.int (mU i j)) h)) (VP Q) from p)
   have p:Post cl ρ H E (ofW (.ok (.int (mU i j)) h)) (VP Q):=p
   rw [o9] at p
   cases r1;cases r2
   exact .inl ⟨i,j,rfl,rfl,Post.cH s p (.int _)⟩
 | ref n=>
   obtain ⟨n,o,a,_,rfl,e1,g1,x1,p⟩:=oAt s r1 (show Post cl ρ H E (ofW (Gm h (.ref n) w2)) (VP Q) from p)
   obtain ⟨m,o2,b,_,rfl,e2,g2,x2,p⟩:=oAt s r2 p
   cases o with
   | lst xs=>
     obtain ⟨ys,rfl,p⟩:=oL p
     obtain ⟨z,p⟩:=vJ p
     obtain ⟨vs,rv,q1⟩:=x1
     obtain ⟨us,ru,q2⟩:=x2
     rw [dm] at z p
     have l1:=rv.length
     have l2:=ru.length
     rw [List.length_append] at z
     exact .inr ⟨a,b,vs,us,rfl,rfl,q1,q2,by rw [jr];omega,fun p' hp=>Post.newL s p hp (rv.append ru)⟩
   | _=>exact p.elim
 | _=>exact p.elim
def De:R2:=fun x y H Q=>rI qH (fun i j=>.int (i * j)) x y H Q\/Gb x y H Q
theorem Dg (xs:List W) (k:Nat):zK xs k=(List.replicate k xs).flatten:=by
 induction k with
 | zero=>rfl
 | succ k ih=>
   show app xs (zK xs k)=_
   rw [dm,ih,List.replicate_succ,List.flatten_cons]
theorem RWs.rep {ρ:List Addr} {xs:List W} {vs:List V} (r:RWs ρ xs vs):∀ k:Nat,RWs ρ (List.replicate k xs).flatten (List.replicate k vs).flatten
 | 0=>.nil
 | k + 1=>by rw [List.replicate_succ,List.replicate_succ,List.flatten_cons,List.flatten_cons];exact r.append (RWs.rep r k)
theorem cD:Op2 cl .mul De:=fun E ρ h H w1 w2 v1 v2 Q s r1 r2 p=>by
 obtain ⟨j,rfl,p⟩:=oI (show Post cl ρ H E (ofW (Gr h w1 w2)) (VP Q) from p)
 cases r2
 cases w1 with
 | int i=>
   obtain ⟨c,p⟩:=oIf (show Post cl ρ H E (ofW (ifB (Sml i) (ifB (Sml j) (.ok (.int (i * j)) h) .no) .no)) (VP Q) from p)
   obtain ⟨c2,p⟩:=oIf p
   cases r1
   exact .inl ⟨i,j,rfl,rfl,.inr ⟨rF c,rF c2⟩,Post.cH s p (.int _)⟩
 | ref n=>
   obtain ⟨n,o,a,_,rfl,e1,g1,x1,p⟩:=oAt s r1 (show Post cl ρ H E (ofW (Gq h (.ref n) j)) (VP Q) from p)
   obtain ⟨xs,rfl,p⟩:=oL p
   obtain ⟨c,p⟩:=oIf p
   obtain ⟨c2,p⟩:=oIf p
   obtain ⟨c3,p⟩:=oIf p
   rw [bL] at c c2
   rw [ble_eq,len_eq] at c3
   have c:=of_decide_eq_true c
   have c2:=of_decide_eq_true c2
   have c3:=of_decide_eq_true c3
   obtain ⟨vs,rv,q1⟩:=x1
   have l:=rv.length
   rw [Dg] at p
   refine .inr ⟨a,j,vs,rfl,rfl,q1,by omega,by omega,?_,fun p' hp=>Post.newL s p hp (rv.rep _)⟩
   have:vs.length * j.toNat <= 100 * 100000:=Nat.mul_le_mul (by omega) (by omega)
   rw [jr];omega
 | _=>exact p.elim
theorem GQ {n:Nat} {i:Int} {j:Nat} (h:zL n i=j) (hj:j < n):ixN n i=some j:=by
 unfold ixN
 cases i with
 | ofNat k=>
   have h:k=j:=h
   rw [if_pos (by show (0:Int) <= (k:Int);omega),if_pos (by show (k:Int) < n;omega)]
   exact congrArg some h
 | negSucc k=>
   have h:ifB (Nat.ble (k + 1) n) (n - (k + 1)) n=j:=h
   rw [ble_eq] at h
   by_cases c:k + 1 <= n
   · rw [decide_eq_true c] at h
     have h:n - (k + 1)=j:=h
     rw [if_neg (by omega),if_pos (by omega)]
     exact congrArg some (by omega)
   · rw [decide_eq_false c] at h
     have h:n=j:=h
     omega
theorem xK {vs:List V} {xs:List W} {ρ:List Addr} {i:Int} {w:W} (r:RWs ρ xs vs) (e:nth xs (zL (len xs) i)=some w):∃ v,atI vs i=some v/\RW ρ w v:=by
 rw [dw,len_eq] at e
 obtain ⟨v,ev,rv⟩:=r.get e
 refine ⟨v,?_,rv⟩
 unfold atI
 have hl:=r.length
 have hlt:=(List.getElem?_eq_some_iff.mp ev).1
 rw [hl] at ev hlt
 rw [GQ rfl hlt]
 exact ev
theorem K7 {K:PySem.W.Frag}:Op2 cl .ix (rIx K):=fun E ρ h H w1 w2 v1 v2 Q s r1 r2 p=>by
 obtain ⟨n,o,a,rfl,rfl,e1,g1,x1,p⟩:=oAt s r1 (show Post cl ρ H E (ofW (pIx h w1 w2)) (VP Q) from p)
 obtain ⟨xs,e,p1⟩:=oIt p
 obtain ⟨i,rfl,p2⟩:=oI p1
 obtain ⟨w,ew,p3⟩:=jH p2
 cases r2
 rcases e with rfl | rfl
 · obtain ⟨vs,rv,q⟩:=x1
   obtain ⟨v,ev,rw⟩:=xK rv ew
   exact .inl ⟨a,vs,i,v,rfl,rfl,SqL.of q,ev,Post.cH s p3 rw⟩
 · obtain ⟨vs,rv,q⟩:=x1
   obtain ⟨v,ev,rw⟩:=xK rv ew
   exact .inr (.inl ⟨a,vs,i,v,rfl,rfl,SqT.of q,ev,Post.cH s p3 rw⟩)
theorem nZ {ρ:List Addr} {ws:List W} {vs:List V} {f:W->R W} {P:A->Hs->List Addr->Hp->Prop} {H:Hp} {E:XK} (r:RWs ρ ws vs) (p:Post cl ρ H E (ofW (cj ws f)) P):∃ w v,ws= [w]/\vs= [v]/\RW ρ w v/\Post cl ρ H E (ofW (f w)) P:=by
 cases r with
 | nil=>exact p.elim
 | cons r1 t=>cases t with
   | nil=>exact ⟨_,_,rfl,rfl,r1,p⟩
   | cons _ _=>exact p.elim
theorem Jr {ρ:List Addr} {ws:List W} {vs:List V} {f:W->W->R W} {P:A->Hs->List Addr->Hp->Prop} {H:Hp} {E:XK} (r:RWs ρ ws vs) (p:Post cl ρ H E (ofW (eY ws f)) P):∃ w v w' v',ws= [w,w']/\vs= [v,v']/\RW ρ w v/\RW ρ w' v'/\Post cl ρ H E (ofW (f w w')) P:=by
 cases r with
 | nil=>exact p.elim
 | cons r1 t=>cases t with
   | nil=>exact p.elim
   | cons r2 t=>cases t with
     | nil=>exact ⟨_,_,_,_,rfl,rfl,r1,r2,p⟩
     | cons _ _=>exact p.elim
theorem iR {K:PySem.W.Frag}:OpN cl .len (KQ K):=fun E ρ h H ws vs Q s r p=>by
 obtain ⟨w,v,rfl,rfl,r1,p⟩:=nZ r (show Post cl ρ H E (ofW (cj ws (Gv h))) (VP Q) from p)
 obtain ⟨n,o,a,rfl,rfl,e1,g1,x1,p⟩:=oAt s r1 p
 obtain ⟨xs,e,p⟩:=oIt p
 obtain ⟨us,ru,q⟩:=x1.sq (K:=K) e
 refine ⟨a,us,rfl,q,?_⟩
 rw [len_eq,ru.length] at p
 exact Post.cH s p (.int _)
theorem vK:OpN cl .abs (fun xs H Q=>∃ i,xs= [.int i]/\Q (.int (Int.ofNat i.natAbs)) H):=fun E ρ h H ws vs Q s r p=>by
 obtain ⟨w,v,rfl,rfl,r1,p⟩:=nZ r (show Post cl ρ H E (ofW (cj ws (Gu h))) (VP Q) from p)
 obtain ⟨i,rfl,p⟩:=oI p
 cases r1
 exact ⟨i,rfl,Post.cH s p (.int _)⟩
theorem Js:OpN cl .tup (fun xs H Q=>xs.length <= sizeLine/\∀ p,H p=none->Q (.ref p) (upd H p (.tup xs))):=fun E ρ h H ws vs Q s r p=>by
 obtain ⟨z,p⟩:=vJ (show Post cl ρ H E (ofW (size ws (.alloc h (.tup ws)))) (VP Q) from p)
 have:=r.length
 exact ⟨by rw [jr];omega,fun p' hp=>Post.GC s p hp r⟩
theorem Jt:OpN cl .lst (fun xs H Q=>xs.length <= sizeLine/\∀ p,H p=none->Q (.ref p) (upd H p (.lst xs))):=fun E ρ h H ws vs Q s r p=>by
 obtain ⟨z,p⟩:=vJ (show Post cl ρ H E (ofW (size ws (.alloc h (.lst ws)))) (VP Q) from p)
 have:=r.length
 exact ⟨by rw [jr];omega,fun p' hp=>Post.newL s p hp r⟩
theorem GR {K:PySem.W.Frag}:OpN cl .list (fun xs H Q=>∃ p ys,xs= [.ref p]/\(SqL K H p ys\/SqT K H p ys)/\∀ l,H l=none->Q (.ref l) (upd H l (.lst ys))):=fun E ρ h H ws vs Q s r p=>by
 obtain ⟨w,v,rfl,rfl,r1,p⟩:=nZ r (show Post cl ρ H E (ofW (cj ws (Bm h))) (VP Q) from p)
 obtain ⟨n,o,a,rfl,rfl,e1,g1,x1,p⟩:=oAt s r1 p
 obtain ⟨xs,e,p⟩:=oIt p
 obtain ⟨us,ru,q⟩:=x1.sq (K:=K) e
 exact ⟨a,us,rfl,q,fun l hl=>Post.newL s p hl ru⟩
end
end Ev
namespace Ev
open PySem PySem.Spec PySem.SeqAt PyProof.Rows L2
section
variable {cl:Cn}
theorem rG {ρ:List Addr}:∀ {xs:List W} {vs:List V} {bs:List Bool},RWs ρ xs vs->bools xs=some bs->vs=bs.map V.bl
 | _,_,bs,.nil,e=>by cases e;rfl
 | x::xs,u::us,bs,.cons r t,e=>by
   cases r with
   | bl b=>
     have e:Option.rec none (fun r=>some (b::r)) (bools xs)=some bs:=e
     cases h:bools xs with
     | none=>rw [h] at e;cases e
     | some bs'=>
       rw [h] at e
       have e:some (b::bs')=some bs:=e
       cases e
       rw [List.map_cons,rG t h]
   | _=>cases e
theorem uy (bs:List Bool):allB bs=bs.all id:=by
 induction bs with
 | nil=>rfl
 | cons b bs ih=>
   show ifB b (allB bs) false=_
   rw [ih,List.all_cons]
   cases b <;> rfl
theorem GX {p:Pr} {f g:List Bool->Bool} (hp:∀ h ws,aU p ws h=cj ws (zO f h)) (e:∀ bs,f bs=g bs):OpN cl p (zG g):=fun E ρ h H ws vs Q s r p=>by
 rw [hp] at p
 obtain ⟨w,v,rfl,rfl,r1,p1⟩:=nZ r p
 obtain ⟨n,o,a,rfl,rfl,e1,g1,x1,p2⟩:=oAt s r1 p1
 obtain ⟨xs,rfl,p3⟩:=oL p2
 obtain ⟨bs,hb,p4⟩:=jH p3
 obtain ⟨us,ru,q⟩:=x1
 rw [rG ru hb] at q
 exact ⟨a,bs,rfl,q,Post.yes s p4 (e bs)⟩
theorem Ju:OpN cl .all (zG fun bs=>bs.all id):=GX (fun _ _=>rfl) uy
def OpM (cl:Cn) (p:Pr) (r:V->List V->Hp->VK->Prop):Prop:=∀ (E:XK) (ρ:List Addr) (h:Hs) (H:Hp) (w:W) (v:V) (ws:List W) (vs:List V) (Q:VK),Sim cl ρ h H->RW ρ w v->RWs ρ ws vs->Post cl ρ H E (ofW (aU p (w::ws) h)) (VP Q)->r v vs H Q
theorem Dh {K:PySem.W.Frag} {E:XK} {ρ:List Addr} {h:Hs} {H:Hp} {w:W} {v:V} {Q:VK} (s:Sim cl ρ h H) (r:RW ρ w v) (p:Post cl ρ H E (ofW (aU .truth [w] h)) (VP Q)):∃ k,uX K v H k/\Q (.bl k) H:=by
 have p:Post cl ρ H E (ofW (xx h w)) (VP Q):=p
 cases r with
 | non=>exact ⟨false,rfl,Post.yes s p rfl⟩
 | bl b=>exact ⟨b,rfl,Post.yes s p rfl⟩
 | int i=>
   refine ⟨i != 0,rfl,Post.yes s p ?_⟩
   rw [fH]
   by_cases z:i=0
   · subst z;rfl
   · rw [decide_eq_false z];exact (bne_iff_ne.mpr z).symm
 | str c=>exact p.elim
 | @ref n a q=>
   obtain ⟨n,o,a',e0,e0',e1,g1,x1,p1⟩:=oAt s (.ref q) (show Post cl ρ H E (ofW (h.at (.ref n) fun _ o=>o.items fun xs=>.yes (zM xs) h)) (VP Q) from p)
   cases e0;cases e0'
   obtain ⟨xs,e,p2⟩:=oIt p1
   have ne:∀ {vs:List V},RWs ρ xs vs->zM xs= !vs.isEmpty:=fun r=>by cases r <;> rfl
   rcases e with rfl | rfl
   · obtain ⟨us,ru,q2⟩:=x1
     exact ⟨_,.inl ⟨us,SqL.of q2,rfl⟩,Post.yes s p2 (ne ru)⟩
   · obtain ⟨us,ru,q2⟩:=x1
     exact ⟨_,.inr (.inl ⟨us,SqT.of q2,rfl⟩),Post.yes s p2 (ne ru)⟩
mutual
def pd:D->PyData
 | .non=>.none | .bl b=>.bool b | .int i=>.int i | .str c=>.str ⟨c.toArray⟩ | .lst xs=>.list (pds xs) | .tup xs=>.tuple (pds xs)
def pds:List D->List PyData
 | []=>[]
 | x::xs=>pd x::pds xs
end
theorem vL (i j:Int):(i == j)=ieq i j:=by
 rw [fH]
 by_cases z:i=j
 · subst z;simp
 · rw [decide_eq_false z];exact beq_eq_false_iff_ne.mpr z
theorem Bq (x y:List Nat):(({ cps:=x.toArray }:Str) == { cps:=y.toArray })=codes x y:=by
 cases z:codes x y with
 | true=>rw [lX.mp z];exact beq_self_eq_true _
 | false=>exact beq_eq_false_iff_ne.mpr fun q=>by rw [lX.mpr (Gx q)] at z;cases z
mutual
theorem xM:∀ a b:D,PyData.eqv (pd a) (pd b)=bK a b
 | .non,b=>by cases b <;> simp only [pd,PyData.eqv,bK]
 | .bl x,b=>by cases b <;> simp only [pd,PyData.eqv,bK,vL]
 | .int x,b=>by cases b <;> simp only [pd,PyData.eqv,bK,vL]
 | .str x,b=>by cases b <;> simp only [pd,PyData.eqv,bK,Bq]
 | .lst xs,b=>by
   cases b <;> simp only [pd,PyData.eqv,bK]
   exact o_ xs _
 | .tup xs,b=>by
   cases b <;> simp only [pd,PyData.eqv,bK]
   exact o_ xs _
theorem o_:∀ a b:List D,PyData.eqvAll (pds a) (pds b)=je a b
 | [],b=>by cases b <;> simp only [pds,PyData.eqvAll,je]
 | x::xs,b=>by
   cases b with
   | nil=>simp only [pds,PyData.eqvAll,je]
   | cons y ys=>simp only [pds,PyData.eqvAll,je,xM x y,o_ xs ys]
end
theorem GZ:∀ c:List Nat,okC c=true->PySem.PyData.canLay0 (.str ⟨c.toArray⟩)=true:=fun c h=>by
 have:∀ x ∈ c,x < 1114112:=by
  induction c with
  | nil=>intro x hx;cases hx
  | cons y c ih=>
    have h:ifB (Nat.ble (y + 1) 1114112) (okC c) false=true:=h
    rw [ble_eq] at h
    by_cases z:y + 1 <= 1114112
    · rw [decide_eq_true z] at h
      intro x hx
      rcases List.mem_cons.mp hx with rfl | hx
      · omega
      · exact ih h x hx
    · rw [decide_eq_false z] at h;cases h
 simp only [PyData.canLay0]
 first | (unfold PyData.strOk;simpa using this) | simpa [PySem.strOk] using this
theorem pq {ρ:List Addr} {h:Hs} {H:Hp} (s:Sim cl ρ h H):∀ (n:Nat) {w:W} {v:V} {dd:D},RW ρ w v->toD h n w=some dd->Rep H v (pd dd)/\(pd dd).canLay0=true/\(pd dd).depth <= n
 | 0,_,_,_,_,e=>nomatch e
 | n + 1,w,v,dd,r,e=>by
   have all:∀ {xs:List W} {vs:List V} {ds:List D},RWs ρ xs vs->cZ (toD h n) xs=some ds->bJ H vs (pds ds)/\PyData.canLayAll0 (pds ds)=true/\PyData.depthAll (pds ds) <= n:=by
    intro xs
    induction xs with
    | nil=>
      intro vs ds r e
      cases r;cases e
      exact ⟨.nil,by simp only [pds,PyData.canLayAll0],by simp only [pds,PyData.depthAll];omega⟩
    | cons x xs ih=>
      intro vs ds r e
      cases r with
      | cons r1 t=>
        have e:Option.rec none (fun d=>Option.rec none (fun ds=>some (d::ds)) (cZ (toD h n) xs)) (toD h n x)=some ds:=e
        cases h1:toD h n x with
        | none=>rw [h1] at e;cases e
        | some d1=>
          rw [h1] at e
          cases h2:cZ (toD h n) xs with
          | none=>rw [h2] at e;cases e
          | some ds2=>
            rw [h2] at e
            have e:some (d1::ds2)=some ds:=e
            cases e
            obtain ⟨a1,a2,a3⟩:=pq s n r1 h1
            obtain ⟨b1,b2,b3⟩:=ih t h2
            refine ⟨.cons a1 b1,?_,?_⟩
            · simp only [pds,PyData.canLayAll0,a2,b2];rfl
            · simp only [pds,PyData.depthAll];omega
   cases r with
   | non=>cases e;exact ⟨.non,by simp only [pd,PyData.canLay0],by simp only [pd,PyData.depth];omega⟩
   | bl b=>cases e;exact ⟨.bl b,by simp only [pd,PyData.canLay0],by simp only [pd,PyData.depth];omega⟩
   | int i=>cases e;exact ⟨.int i,by simp only [pd,PyData.canLay0],by simp only [pd,PyData.depth];omega⟩
   | str c=>
     have e:ifB (okC c) (some (D.str c)) none=some dd:=e
     cases z:okC c with
     | false=>rw [z] at e;cases e
     | true=>
       rw [z] at e
       cases e
       exact ⟨.str _,GZ c z,by simp only [pd,PyData.depth];omega⟩
   | @ref k a q=>
     cases hg:h.get k with
     | none=>
       have:toD h (n + 1) (.ref k)=none:=by
        show Option.rec (motive:=fun _=>Option D) none _ (h.get k)=none
        rw [hg]
       rw [this] at e;cases e
     | some o=>
       have x:=s.at q hg
       cases o with
       | tup xs=>
         have:toD h (n + 1) (.ref k)=Option.rec none (fun ds=>some (D.tup ds)) (cZ (toD h n) xs):=by
          show Option.rec (motive:=fun _=>Option D) none _ (h.get k)=_
          rw [hg]
          rfl
         rw [this] at e
         cases h2:cZ (toD h n) xs with
         | none=>rw [h2] at e;cases e
         | some ds=>
           rw [h2] at e
           have e:some (D.tup ds)=some dd:=e
           cases e
           obtain ⟨vs,rv,qq⟩:=x
           obtain ⟨b1,b2,b3⟩:=all rv h2
           exact ⟨.tup qq b1,by simp only [pd,PyData.canLay0];exact b2,by simp only [pd,PyData.depth];omega⟩
       | lst xs=>
         have:toD h (n + 1) (.ref k)=Option.rec none (fun ds=>some (D.lst ds)) (cZ (toD h n) xs):=by
          show Option.rec (motive:=fun _=>Option D) none _ (h.get k)=_
          rw [hg]
          rfl
         rw [this] at e
         cases h2:cZ (toD h n) xs with
         | none=>rw [h2] at e;cases e
         | some ds=>
           rw [h2] at e
           have e:some (D.lst ds)=some dd:=e
           cases e
           obtain ⟨vs,rv,qq⟩:=x
           obtain ⟨b1,b2,b3⟩:=all rv h2
           exact ⟨.lst qq b1,by simp only [pd,PyData.canLay0];exact b2,by simp only [pd,PyData.depth];omega⟩
       | _=>
         have:toD h (n + 1) (.ref k)=none:=by
          show Option.rec (motive:=fun _=>Option D) none _ (h.get k)=none
          rw [hg]
         rw [this] at e;cases e
theorem pX {d:PyData} (h1:d.canLay0=true) (h2:d.depth <= 12):shaped d=true:=by
 unfold shaped
 rw [h1,decide_eq_true (by omega)];rfl
theorem Br {p:Pr} {f:Bool->Bool} (hp:∀ h w1 w2,aU p [w1,w2] h=pEq f h w1 w2):Op2 cl p (fun x y H Q=>∃ dx dy,Rep H x dx/\Rep H y dy/\shaped dx=true/\shaped dy=true/\Q (.bl (f (PyData.eqv dx dy))) H):=fun E ρ h H w1 w2 v1 v2 Q s r1 r2 p=>by
 rw [hp] at p
 obtain ⟨x,ex,p1⟩:=jH p
 obtain ⟨y,ey,p2⟩:=jH p1
 obtain ⟨a1,a2,a3⟩:=pq s 12 r1 ex
 obtain ⟨b1,b2,b3⟩:=pq s 12 r2 ey
 exact ⟨_,_,a1,b1,pX a2 a3,pX b2 b3,Post.yes s p2 (by rw [xM])⟩
theorem zQ:Op2 cl .eq Gd:=Br (f:=id) fun _ _ _=>rfl
theorem pA:Op2 cl .ne Ge:=Br (f:=not) fun _ _ _=>rfl
mutual
theorem Di:∀ a b:D,PySem.Spec.same (pd a) (pd b)=cC a b
 | .non,b=>by cases b <;> simp only [pd,PySem.Spec.same,cC]
 | .bl x,b=>by cases b <;> simp only [pd,PySem.Spec.same,cC]
 | .int x,b=>by cases b <;> simp only [pd,PySem.Spec.same,cC,vL]
 | .str x,b=>by cases b <;> simp only [pd,PySem.Spec.same,cC,Bq]
 | .lst xs,b=>by
   cases b <;> simp only [pd,PySem.Spec.same,cC]
   exact mV xs _
 | .tup xs,b=>by
   cases b <;> simp only [pd,PySem.Spec.same,cC]
   exact mV xs _
theorem mV:∀ a b:List D,PySem.Spec.sameAll (pds a) (pds b)=d_ a b
 | [],b=>by cases b <;> simp only [pds,PySem.Spec.sameAll,d_]
 | x::xs,b=>by
   cases b with
   | nil=>simp only [pds,PySem.Spec.sameAll,d_]
   | cons y ys=>simp only [pds,PySem.Spec.sameAll,d_,Di x y,mV xs ys]
end
end
end Ev
namespace Ev
open PySem PySem.Spec PySem.SeqAt PyProof.Rows L2
section
variable {Pg:List Fn} {cl:Cn} {E:XK} {d:Nat} {X:Cx} {σ:L2.St} {H:Hp}
theorem au {op:Operator} {p:Pr} {r:R2} {a b:Expr} {x y:Ev.X} {pos:Pos} (z:Op2 cl p r) (o:OpR X (binaryOp op) r) (ha:PE X a (tE Pg cl E d x)) (hb:PE X b (tE Pg cl E d y)):PE X (.BinOp a op b pos) (tE Pg cl E d (.pr p [x,y])):=
 PE.of (a_ o ha hb) fun _ _ _ q=>nU z q
theorem qL {op:UnaryOp} {p:Pr} {r:V->Hp->VK->Prop} {a:Expr} {x:Ev.X} {pos:Pos} (z:Op1 cl p r) (o:UnR X (unaryOp op) r) (ha:PE X a (tE Pg cl E d x)):PE X (.UnaryOp op a pos) (tE Pg cl E d (.pr p [x])):=
 PE.of (Je o ha) fun _ _ _ q=>nW z q
theorem rH {op:CmpOp} {p:Pr} {r:R2} {a b:Expr} {x y:Ev.X} {pos:Pos} (z:Op2 cl p r) (o:OpR X (compareOp op) r) (ha:PE X a (tE Pg cl E d x)) (hb:PE X b (tE Pg cl E d y)) (hm:behindInMarks op b=false):PE X (.Compare a [op] [b] pos) (tE Pg cl E d (.pr p [x,y])):=
 PE.of (Cu o ha hb hm) fun _ _ _ q=>nU z q
theorem dz {op:CmpOp} {p:Pr} {r:R2} {a b:Expr} {x y:Ev.X} {pos:Pos} (z:Op2 cl p r) (o:OpR X (compareOp op) r) (ha:PE X a (tE Pg cl E d x)) (hb:PE X b (tE Pg cl E d y)) (hm:behindInMarks op b=false):PT X (.Compare a [op] [b] pos) (tT Pg cl E d (.pr p [x,y])):=
 PT.of (jm o ha hb hm) fun _ _ _ q=>nU z q
theorem G3 {a:Expr} {x:Ev.X} {pos} (ha:PT X a (tT Pg cl E d x)):PT X (.UnaryOp .Not a pos) (tT Pg cl E d (.pr .rB [x])):=PT.of (Eu ha) fun σ H Q q=>by
 obtain ⟨ρ,τ,h,n,s,r,p⟩:=(show tE Pg cl E d x σ H (fun v H1=>∃ c,v= .bl c/\∃ b,V.bl (!c)= .bl b/\Q b H1) from nW GP q)
 refine ⟨ρ,τ,h,n,s,r,p.mono fun a h ρ H _ _ ⟨w,e,g⟩=>⟨w,e,fun v rv=>?_⟩⟩
 obtain ⟨c,ec,b,eb,qb⟩:=g v rv
 cases eb
 exact ⟨c,ec,qb⟩
theorem zR {a:Expr} {x:Ev.X} (ha:PE X a (tE Pg cl E d x)) (he:∀ whole,isTrue a X.env whole=(do let v <- whole;standAt a.pos;holding [v] (truthy v))):PT X a (tT Pg cl E d (.pr .truth [x])):=PT.of (zp ha he) fun σ H Q q=>
 nW (r:=fun v H1 Q'=>∃ k,uX X.K v H1 k/\Q' (.bl k) H1) (fun E ρ h H w v Q s r p=>Dh s r p) q |> fun z=>by
 obtain ⟨ρ,τ,h,n,s,r,p⟩:=z
 refine ⟨ρ,τ,h,n,s,r,p.mono fun a h ρ H _ _ ⟨w,e,g⟩=>⟨w,e,fun v rv=>?_⟩⟩
 obtain ⟨k,t,b,eb,qb⟩:=g v rv
 cases eb
 exact ⟨k,t,qb⟩
theorem xN {a b:Ev.X} {Q:VK} (x:tE Pg cl E d (.and a b) σ H Q):Bc (tE Pg cl E d a) (tE Pg cl E d b) σ H Q:=by
 obtain ⟨ρ,τ,h,n,s,rs,q⟩:=x.step
 refine ev.then s rs (show Post cl ρ H E ((evs Pg n d (.x a) τ h).bind fun r h=>r.toW fun w=>w.onB (.ok (.w (.bl false)) h) (evs Pg n d (.x b) τ h)) (VP Q) from q) fun a1 h1 ρ1 H1 b1 s1 p1=>?_
 obtain ⟨w,rfl,p2⟩:=aY p1
 refine ⟨w,rfl,fun v rv=>?_⟩
 rcases jq p2 with ⟨rfl,p3⟩ | ⟨rfl,p3⟩
 · cases rv
   exact ⟨true,rfl,o6 ⟨ρ1,τ,h1,n,s1,rs.mono b1.1,p3⟩⟩
 · cases rv
   exact ⟨false,rfl,o5 (Post.cH s1 p3 (.bl false))⟩
theorem G4 {a b:Expr} {rest:List Expr} {x y:Ev.X} {pos:Pos} (ha:PE X a (tE Pg cl E d x)) (hb:PE X (.BoolOp .And (b::rest) pos) (tE Pg cl E d y)):PE X (.BoolOp .And (a::b::rest) pos) (tE Pg cl E d (.and x y)):=PE.of (Ex ha hb) fun _ _ _ q=>xN q
theorem Dj {a b:Ev.X} {Q:Bool->Hp->Prop} (x:tT Pg cl E d (.and a b) σ H Q):Et (tT Pg cl E d a) (tT Pg cl E d b) σ H Q:=by
 obtain ⟨ρ,τ,h,n,s,r,p⟩:=(show tE Pg cl E d a σ H (fun v H1=>∃ c,v= .bl c/\if c=true then tT Pg cl E d b σ H1 Q else ∃ b,V.bl false= .bl b/\Q b H1) from xN x)
 refine ⟨ρ,τ,h,n,s,r,p.mono fun a h ρ H _ _ ⟨w,e,g⟩=>⟨w,e,fun v rv=>?_⟩⟩
 obtain ⟨c,ec,q⟩:=g v rv
 refine ⟨c,ec,?_⟩
 cases c with
 | true=>exact q
 | false=>
   obtain ⟨b,eb,q⟩:=(show ∃ b,V.bl false= .bl b/\Q b H from q)
   cases eb;exact q
theorem G5 {a b:Expr} {rest:List Expr} {x y:Ev.X} {pos:Pos} (ha:PT X a (tT Pg cl E d x)) (hb:PW X (.BoolOp .And (b::rest) pos) (tT Pg cl E d y)):PW X (.BoolOp .And (a::b::rest) pos) (tT Pg cl E d (.and x y)):=PW.of (pw_and ha hb) fun _ _ _ q=>Dj q
theorem G6 {c a b:Ev.X} {Q:VK} (x:tE Pg cl E d (.ite c a b) σ H Q):tIf (tT Pg cl E d c) (tE Pg cl E d a) (tE Pg cl E d b) σ H Q:=by
 obtain ⟨ρ,τ,h,n,s,rs,q⟩:=x.step
 refine ev.then s rs (show Post cl ρ H E ((evs Pg n d (.x c) τ h).bind fun r h=>r.toW fun w=>w.onB (evs Pg n d (.x b) τ h) (evs Pg n d (.x a) τ h)) (VP Q) from q) fun a1 h1 ρ1 H1 b1 s1 p1=>?_
 obtain ⟨w,rfl,p2⟩:=aY p1
 refine ⟨w,rfl,fun v rv=>?_⟩
 rcases jq p2 with ⟨rfl,p3⟩ | ⟨rfl,p3⟩
 · cases rv
   exact ⟨true,rfl,o6 ⟨ρ1,τ,h1,n,s1,rs.mono b1.1,p3⟩⟩
 · cases rv
   exact ⟨false,rfl,o5 ⟨ρ1,τ,h1,n,s1,rs.mono b1.1,p3⟩⟩
theorem zT {p q:Pr} {r r':R2} (o:Op2 cl p r) (o':Op2 cl q r') (hr:∀ x y H Q Q',(∀ v,Q v H->Q' v H)->r x y H Q->r x y H Q') {a b c:Ev.X} {Q:VK} (x:tE Pg cl E d (.chain p q a b c) σ H Q)
 (pure:∀ (ρ:List Addr) (h:Hs) (u v:W) (w:A) (h':Hs),ofW (aU p [u,v] h)= .ok w h'->h'=h) (kh:∀ (h:Hs) (u v:W) C f h',ofW (aU p [u,v] h) ≠ .ex C f h'):wU r r' (tE Pg cl E d a) (tE Pg cl E d b) (tE Pg cl E d c) σ H Q:=by
 obtain ⟨ρ,τ,h,n,s,rs,z⟩:=x.step
 refine ev.then s rs (show Post cl ρ H E ((evs Pg n d (.x a) τ h).bind fun r h=>r.toW fun u=>(evs Pg n d (.x b) τ h).bind fun r h=>r.toW fun v=>(ofW (aU p [u,v] h)).bind fun r h=>r.toW fun k=>
  k.onB (.ok (.w (.bl false)) h) ((evs Pg n d (.x c) τ h).bind fun r h=>r.toW fun w=>ofW (aU q [v,w] h))) (VP Q) from z) fun a1 h1 ρ1 H1 b1 s1 p1=>?_
 obtain ⟨u,rfl,p2⟩:=aY p1
 refine ⟨u,rfl,fun uv ru=>?_⟩
 refine ev.then s1 (rs.mono b1.1) p2 fun a2 h2 ρ2 H2 b2 s2 p3=>?_
 obtain ⟨v,rfl,p4⟩:=aY p3
 refine ⟨v,rfl,fun vv rv=>?_⟩
 refine o E ρ2 h2 H2 u v uv vv _ s2 (ru.mono b2.1) rv ?_
 cases e:ofW (aU p [u,v] h2) with
 | no=>rw [e] at p4;exact p4.elim
 | ex C f h'=>exact (kh _ _ _ _ _ _ e).elim
 | ok w h'=>
   have eh:=pure ρ2 h2 u v w h' e
   subst eh
   rw [e] at p4
   have p4:Post cl ρ2 H2 E (w.toW fun k=>k.onB (.ok (.w (.bl false)) h') ((evs Pg n d (.x c) τ h').bind fun r h=>r.toW fun w=>ofW (aU q [v,w] h))) (VP Q):=p4
   obtain ⟨k,rfl,p5⟩:=aY p4
   intro ρ3 H3 b3 s3
   refine ⟨k,rfl,fun kv rk=>?_⟩
   rcases jq (p5.later b3) with ⟨rfl,p6⟩ | ⟨rfl,p6⟩
   · cases rk
     refine ⟨true,rfl,o6 ?_⟩
     refine ev.then s3 ((rs.mono b1.1).mono (b2.1.trans b3.1)) p6 fun a4 h4 ρ4 H4 b4 s4 p7=>?_
     obtain ⟨w,rfl,p8⟩:=aY p7
     exact ⟨w,rfl,fun wv rw=>o' E ρ4 h4 H4 v w vv wv Q s4 (rv.mono (b3.1.trans b4.1)) rw p8⟩
   · cases rk
     exact ⟨false,rfl,o5 (Post.cH s3 p6 (.bl false))⟩
theorem n6 (n d:Nat) (o:Option Int):sIx n d o=HT.sIx n d o:=by
 cases o with
 | none=>rfl
 | some i=>cases i with
   | ofNat k=>
     show ifB (Nat.ble k n) k n=if (Int.ofNat k) < 0 then ((Int.ofNat k) + (n:Int)).toNat else min (Int.ofNat k).toNat n
     rw [if_neg (by show ¬ (k:Int) < 0;omega),ble_eq]
     show _=min k n
     by_cases c:k <= n
     · rw [decide_eq_true c,Nat.min_eq_left c];rfl
     · rw [decide_eq_false c,Nat.min_eq_right (by omega)];rfl
   | negSucc k=>
     show n - (k + 1)=if (Int.negSucc k) < 0 then ((Int.negSucc k) + (n:Int)).toNat else min (Int.negSucc k).toNat n
     rw [if_pos (by omega)]
     omega
def tO (o:Option Ev.X) (Pg:List Fn) (cl:Cn) (E:XK) (d:Nat):TO:=match o with
 | none=>uo
 | some e=>Bf (tE Pg cl E d e)
theorem lZ:PO X none (tO none Pg cl E d):=Cv
theorem l_ {e:Expr} {x:Ev.X} (h:PE X e (tE Pg cl E d x)):PO X (some e) (tO (some x) Pg cl E d):=Cw h
theorem uz {e:Option Ev.X} {ρ:List Addr} {τ:Sg} {h:Hs} {n:Nat} {k:Option Int->Hs->R A} {P:A->Hs->List Addr->Hp->Prop} {Q:Option Int->Hp->Prop} (s:Sim cl ρ h H) (rs:RS ρ τ σ) (p:Post cl ρ H E (jG (aQ Pg d) n e τ h k) P)
 (g:∀ i h1 ρ1 H1,Bt cl ρ H ρ1 H1->Sim cl ρ1 h1 H1->Post cl ρ1 H1 E (k i h1) P->Q i H1):tO e Pg cl E d σ H Q:=by
 cases e with
 | none=>exact g none h ρ H Bt.refl s p
 | some e=>
   refine ev.then s rs (show Post cl ρ H E ((evs Pg n d (.x e) τ h).bind fun a h=>a.toW fun w=>w.onI fun i=>k (some i) h) P from p) fun a1 h1 ρ1 H1 b1 s1 p1=>?_
   obtain ⟨w,rfl,p2⟩:=aY p1
   obtain ⟨i,rfl,p3⟩:=xG p2
   refine ⟨_,rfl,fun v rv=>?_⟩
   cases rv
   exact ⟨i,rfl,g (some i) h1 ρ1 H1 b1 s1 p3⟩
def G7 (K:PySem.W.Frag):V->Option Int->Option Int->Hp->VK->Prop:=fun x lo hi H Q=>FZ K x lo hi H Q\/Fw K x lo hi H Q
theorem zU {K:PySem.W.Frag} {a:Ev.X} {lo hi:Option Ev.X} {Q:VK} (x:tE Pg cl E d (.slice a lo hi) σ H Q):tSl (G7 K) (tE Pg cl E d a) (tO lo Pg cl E d) (tO hi Pg cl E d) σ H Q:=by
 obtain ⟨ρ,τ,h,n,s,rs,z⟩:=x.step
 refine ev.then s rs (show Post cl ρ H E ((evs Pg n d (.x a) τ h).bind fun r h=>r.toW fun w=>jG (aQ Pg d) n lo τ h fun l h=>jG (aQ Pg d) n hi τ h fun u h=>h.at w fun _ o=>
  O.rec (fun xs=>ifB (ifB (Nat.beq (sIx (len xs) 0 l) 0) (Nat.beq (sIx (len xs) (len xs) u) (len xs)) false) .no (ofW (.alloc h (.tup (tak (drp xs (sIx (len xs) 0 l)) (sIx (len xs) (len xs) u - sIx (len xs) 0 l)))))) (fun xs=>ofW (.alloc h (.lst (tak (drp xs (sIx (len xs) 0 l)) (sIx (len xs) (len xs) u - sIx (len xs) 0 l))))) (fun _ _=>.no) (fun _=>.no) (fun _=>.no) (fun _=>.no) o) (VP Q) from z) fun a1 h1 ρ1 H1 b1 s1 p1=>?_
 obtain ⟨w,rfl,p2⟩:=aY p1
 refine ⟨w,rfl,fun v rv=>?_⟩
 refine uz s1 (rs.mono b1.1) p2 fun l h2 ρ2 H2 b2 s2 p3=>?_
 refine uz s2 ((rs.mono b1.1).mono b2.1) p3 fun u h3 ρ3 H3 b3 s3 p4=>?_
 obtain ⟨k,o,ad,_,rfl,e1,g1,x1,p5⟩:=at_of s3 (rv.mono (b2.1.trans b3.1)) p4
 cases o with
 | lst xs=>
   obtain ⟨vs,ru,q⟩:=x1
   have p6:Post cl ρ3 H3 E (ofW (.alloc h3 (.lst (tak (drp xs (sIx (len xs) 0 l)) (sIx (len xs) (len xs) u - sIx (len xs) 0 l))))) (VP Q):=p5
   rw [nT,nR,len_eq,n6,n6,ru.length] at p6
   exact .inl ⟨ad,vs,rfl,SqL.of q,fun p hp=>Post.newL s3 p6 hp ((ru.drop _).take _)⟩
 | tup xs=>
   obtain ⟨vs,ru,q⟩:=x1
   have p6:Post cl ρ3 H3 E (ifB (ifB (Nat.beq (sIx (len xs) 0 l) 0) (Nat.beq (sIx (len xs) (len xs) u) (len xs)) false) .no (ofW (.alloc h3 (.tup (tak (drp xs (sIx (len xs) 0 l)) (sIx (len xs) (len xs) u - sIx (len xs) 0 l)))))) (VP Q):=p5
   rw [nT,nR,len_eq,n6,n6,ru.length] at p6
   refine .inr ⟨ad,vs,rfl,SqT.of q,?_,fun p hp=>?_⟩
   · rintro ⟨c1,c2⟩
     rw [c7.mpr c1,c7.mpr c2] at p6
     exact p6.elim
   · cases c:ifB (Nat.beq (HT.sIx vs.length 0 l) 0) (Nat.beq (HT.sIx vs.length vs.length u) vs.length) false with
     | true=>rw [c] at p6;exact p6.elim
     | false=>rw [c] at p6;exact Post.GC s3 p6 hp ((ru.drop _).take _)
 | _=>exact p5.elim
theorem jJ {e:Expr} {lo hi:Option Expr} {x:Ev.X} {xl xh:Option Ev.X} {pos p2:Pos} (he:PE X e (tE Pg cl E d x)) (hl:PO X lo (tO xl Pg cl E d)) (hh:PO X hi (tO xh Pg cl E d)):PE X (.Subscript e (.Slice lo hi none p2) pos) (tE Pg cl E d (.slice x xl xh)):=
 PE.of (zy (CG.or Fx) he hl hh) fun _ _ _ q=>zU q
theorem bh {a b:Expr} {x y:Ev.X} {pos:Pos} (ha:PE X a (tE Pg cl E d x)) (hb:PE X b (tE Pg cl E d y)) (hs:uq b:=by exact fun _ _=>rfl):PE X (.Subscript a b pos) (tE Pg cl E d (.pr .ix [x,y])):=
 PE.of (vo FW ha hb hs) fun _ _ _ q=>nU K7 q
theorem lq {es:List Expr} {xs:List Ev.X} {x1 pos} (h:PA X es (tA Pg cl E d xs)):PE X (.Tuple es x1 pos) (tE Pg cl E d (.pr .tup xs)):=PE.of (Fo h) fun _ _ _ q=>vI Js q
theorem G8 {es:List Expr} {xs:List Ev.X} {pos} (h:PA X es (tA Pg cl E d xs)):PE X (.List es pos) (tE Pg cl E d (.pr .lst xs)):=PE.of (nG h) fun _ _ _ q=>vI Jt q
theorem Dk {K:PySem.W.Frag} {p:Pr} {r:V->List V->Hp->VK->Prop} (o:OpM cl p r) {a:Ev.X} {as:List Ev.X} {Q:VK} (x:tE Pg cl E d (.lm p a as) σ H Q):tBM K "list" r (tE Pg cl E d a) (tA Pg cl E d as) σ H Q:=by
 obtain ⟨ρ,τ,h,n,s,rs,q⟩:=x.step
 refine ev.then s rs (show Post cl ρ H E ((evs Pg n d (.x a) τ h).bind fun r h=>r.toW fun w=>h.at w fun _ o=>o.onL fun _=>(evs Pg n d (.a as) τ h).bind fun r h=>r.toL fun ws=>ofW (aU p (w::ws) h)) (VP Q) from q) fun a1 h1 ρ1 H1 b1 s1 p1=>?_
 obtain ⟨w1,rfl,p2⟩:=aY p1
 refine ⟨w1,rfl,fun v1 rv1=>?_⟩
 obtain ⟨k,ob,ad,rfl,rfl,e1,g1,x1,p3⟩:=at_of s1 rv1 p2
 obtain ⟨xs,rfl,p4⟩:=Gz p3
 obtain ⟨vs,ru,qh⟩:=x1
 refine ⟨.inl ⟨rfl,_,SqL.of qh⟩,?_⟩
 refine ev.then s1 (rs.mono b1.1) p4 fun a2 h2 ρ2 H2 b2 s2 p5=>?_
 obtain ⟨ws,rfl,p6⟩:=jo p5
 exact ⟨ws,rfl,fun us ru'=>o E ρ2 h2 H2 _ _ ws us Q s2 (rv1.mono b2.1) ru' p6⟩
theorem Jv {p:Pr} {r:V->List V->Hp->VK->Prop} {o e:Expr} {es:List Expr} {x y:Ev.X} {ys:List Ev.X} {name:Str} {id:String} {apos cpos:Pos} (z:OpM cl p r) (slot:Slot "list" name id) (hty:typeOf (.builtin id)=pure (.type "method_descriptor")) (hm:MtM X id r)
 (ho:PE X o (tE Pg cl E d x)) (ha:PA X (e::es) (tA Pg cl E d (y::ys))) (hbase:attributeBase o name X.env (eval o X.env)=eval o X.env:=by rfl)
 (hfew:((backTo cpos (starEach (e::es) X.env)).all (fun x=> !x.1) && (backToKw cpos (keywordEach [] X.env)).all (fun x=>x.1.isSome)
   && decide ((e::es).length + ([]:List Keyword).length + (if ([]:List Keyword).isEmpty then 0 else 1) < 30))=true:=by rfl)
 (hline:(apos.endLine == cpos.line)=true:=by rfl) (hs:starEach (e::es) X.env=(false,eval e X.env)::starEach es X.env:=by rfl) (hplain:(backTo cpos (starEach es X.env)).any (·.1)=false:=by rfl):
 PE X (.Call (.Attribute o name apos) (e::es) [] cpos) (tE Pg cl E d (.lm p x (y::ys))):=PE.of (vp PySem.F.plainAttrs_list slot hty hm ho ha hbase hfew hline hs hplain) fun _ _ _ q=>Dk z q
theorem bz {p:Pr} {r:List V->Hp->VK->Prop} {x:Str} {e:Expr} {es:List Expr} {y:Ev.X} {ys:List Ev.X} {id:String} {pos q:Pos} (z:OpN cl p r) (hc:eO X (.builtin id) r) (hg:Gl X x) (hm:X.mg x=none) (hv:bootBuiltins x=some (.builtin id)) (ha:PA X (e::es) (tA Pg cl E d (y::ys))) (hn:x ≠ "__name__":=by decide) (hdb:(x == ("__debug__":Str))=false:=by decide)
 (he:starEach (e::es) X.env=(false,eval e X.env)::starEach es X.env:=by rfl) (hpl:(backTo pos (starEach es X.env)).any (·.1)=false:=by rfl):PE X (.Call (.Name x q) (e::es) [] pos) (tE Pg cl E d (.pr p (y::ys))):=
 PE.of (eX hc hg hm hv ha hn hdb he hpl) fun _ _ _ q=>vI z q
theorem xO {p:Pr} {r:List V->Hp->VK->Prop} {x:Str} {e:Expr} {es:List Expr} {y:Ev.X} {ys:List Ev.X} {T:String} {pos q:Pos} (z:OpN cl p r) (hc:eO X (.type T) r) (hg:Gl X x) (hm:X.mg x=none) (hv:bootBuiltins x=some (.type T)) (ha:PA X (e::es) (tA Pg cl E d (y::ys))) (hn:x ≠ "__name__":=by decide) (hdb:(x == ("__debug__":Str))=false:=by decide)
 (he:starEach (e::es) X.env=(false,eval e X.env)::starEach es X.env:=by rfl) (hpl:(backTo pos (starEach es X.env)).any (·.1)=false:=by rfl):PE X (.Call (.Name x q) (e::es) [] pos) (tE Pg cl E d (.pr p (y::ys))):=
 PE.of (pU hc hg hm hv ha hn hdb he hpl) fun _ _ _ q=>vI z q
end
end Ev
namespace Ev
open PySem PySem.Spec PySem.SeqAt PyProof.Rows L2
section
mutual
def vars:Tg->List Nat
 | .nm i=>[i]
 | .tup ts=>jK ts
def jK:List Tg->List Nat
 | []=>[]
 | t::ts=>vars t ++ jK ts
end
def Off (vs:List Nat) (σ σ':L2.St):Prop:=σ'.length=σ.length/\∀ i,i ∉ vs->σ'[i]? =σ[i]?
theorem Off.refl {vs:List Nat} {σ:L2.St}:Off vs σ σ:=⟨rfl,fun _ _=>rfl⟩
theorem Off.trans {vs us:List Nat} {σ σ' G9:L2.St} (a:Off vs σ σ') (b:Off us σ' G9):Off (vs ++ us) σ G9:=⟨b.1.trans a.1,fun i hi=>by
 rw [List.mem_append] at hi
 exact (b.2 i fun z=>hi (.inr z)).trans (a.2 i fun z=>hi (.inl z))⟩
def tG (cl:Cn) (t:Tg):TG:=fun v σ H Q=>∃ ρ h w τ n τ',Sim cl ρ h H/\RW ρ w v/\RS ρ τ σ/\aA h n t w τ=some τ'/\∀ σ',RS ρ τ' σ'->Off (vars t) σ σ'->Q σ' H
def tGs (cl:Cn) (ts:List Tg):TGs:=fun vs σ H Q=>∃ ρ h ws τ n τ',Sim cl ρ h H/\RWs ρ ws vs/\RS ρ τ σ/\bindL (aA h n) ts ws τ=some τ'/\∀ σ',RS ρ τ' σ'->Off (jK ts) σ σ'->Q σ' H
variable {Pg:List Fn} {cl:Cn} {E:XK} {d:Nat} {X:Cx} {σ:L2.St} {H:Hp}
theorem PG.of {e:Expr} {t t':TG} (h:PG X e t) (f:∀ v σ H Q,t' v σ H Q->t v σ H Q):PG X e t':=fun pins s σ H v u Q I r q=>h pins s σ H v u Q I r (f v σ H Q q)
theorem PGs.of {e:List Expr} {t t':TGs} (h:PGs X e t) (f:∀ v σ H Q,t' v σ H Q->t v σ H Q):PGs X e t':=fun pins s σ H v u Q I r q=>h pins s σ H v u Q I r (f v σ H Q q)
theorem mW {i:Nat} {v:V} {Q:L2.St->Hp->Prop} (x:tG cl (.nm i) v σ H Q):qD i v σ H Q:=by
 obtain ⟨ρ,h,w,τ,n,τ',s,r,rs,e,q⟩:=x
 cases n with
 | zero=>cases e
 | succ n=>
   have e:some (setAt τ (some w) i)=some τ':=e
   cases e
   refine q _ (rs.set r i) ⟨List.length_set,fun j hj=>?_⟩
   have ne:i ≠ j:=fun z=>hj (by simp [vars,z])
   rw [List.getElem?_set_ne ne]
theorem Dl {i:Nat} {x:Str} {pos:Pos} (hN:X.N.Nodup) (hi:X.N[i]? =some x) (hx:Loc X.env.scope x) (hf:X.fn x=true\/X.env.scope.names.lookup x=some .local:=by first | exact .inl rfl | exact .inr rfl | assumption):PG X (.Name x pos) (tG cl (.nm i)):=PG.of (oV hN hi hx hf) fun _ _ _ _ q=>mW q
theorem uA:PGs X [] (tGs cl []):=PGs.of Cm fun vs σ H Q x=>by
 obtain ⟨ρ,h,ws,τ,n,τ',s,r,rs,e,q⟩:=x
 cases r with
 | nil=>
   have e:some τ=some τ':=e
   cases e
   exact ⟨rfl,q σ rs Off.refl⟩
 | cons _ _=>cases e
theorem jL {e:Expr} {es:List Expr} {t:Tg} {ts:List Tg} (h1:PG X e (tG cl t)) (h2:PGs X es (tGs cl ts)) (hs:(assignEach (e::es) X.env).map (·.2)=assign e X.env::(assignEach es X.env).map (·.2):=by rfl):PGs X (e::es) (tGs cl (t::ts)):=
 PGs.of (yX h1 h2 hs) fun vs σ H Q x=>by
 obtain ⟨ρ,h,ws,τ,n,τ',s,r,rs,e,q⟩:=x
 cases r with
 | nil=>cases e
 | @cons w v ws vs r1 rt=>
   have e:Option.rec none (fun τ=>bindL (aA h n) ts ws τ) (aA h n t w τ)=some τ':=e
   cases e1:aA h n t w τ with
   | none=>rw [e1] at e;cases e
   | some τ1=>
     rw [e1] at e
     refine ⟨v,vs,rfl,ρ,h,w,τ,n,τ1,s,r1,rs,e1,fun σ1 rs1 o1=>?_⟩
     exact ⟨ρ,h,ws,τ1,n,τ',s,rt,rs1,e,fun σ2 rs2 o2=>q σ2 rs2 (by have:=o1.trans o2;simpa [jK] using this)⟩
theorem xP {es:List Expr} {k:Nat} {ts:List Tg} {n:Nat} {pos:Pos} (hc:X.calm=true) (h:PGs X es (tGs cl ts)) (hl:ts.length=n:=by rfl)
 (hn:(assignEach es X.env).length=n:=by rfl) (hst:(assignEach es X.env).findIdx? (·.1)=none:=by rfl):PG X (.Tuple es k pos) (tG cl (.tup ts)):=PG.of (Ey hc h hn hst) fun v σ H Q x=>by
 obtain ⟨ρ,h,w,τ,m,τ',s,r,rs,e,q⟩:=x
 cases m with
 | zero=>cases e
 | succ m=>
   cases r with
   | @ref j a qa=>
     have e:Option.rec none (fun o=>O.rec (fun xs=>bindL (aA h m) ts xs τ) (fun _=>none) (fun _ _=>none) (fun _=>none) (fun _=>none) (fun _=>none) o) (h.get j)=some τ':=e
     cases hg:h.get j with
     | none=>rw [hg] at e;cases e
     | some o=>
       rw [hg] at e
       have x1:=s.at qa hg
       cases o with
       | tup xs=>
         have e:bindL (aA h m) ts xs τ=some τ':=e
         obtain ⟨vs,rv,qh⟩:=x1
         have len:∀ (ts:List Tg) (xs:List W) (τ τ':Sg),bindL (aA h m) ts xs τ=some τ'->xs.length=ts.length:=by
          intro ts
          induction ts with
          | nil=>intro xs τ τ' e;cases xs with
            | nil=>rfl
            | cons _ _=>cases e
          | cons t ts ih=>intro xs τ τ' e;cases xs with
            | nil=>cases e
            | cons y ys=>
              have e:Option.rec none (fun τ=>bindL (aA h m) ts ys τ) (aA h m t y τ)=some τ':=e
              cases e1:aA h m t y τ with
              | none=>rw [e1] at e;cases e
              | some τ1=>rw [e1] at e;exact congrArg (· + 1) (ih ys τ1 τ' e)
         refine ⟨a,vs,rfl,SqT.of qh,by rw [<- rv.length,len ts xs τ τ' e,hl],?_⟩
         exact ⟨ρ,h,xs,τ,m,τ',s,rv,rs,e,fun σ' rs' o'=>q σ' rs' (by simpa [vars] using o')⟩
       | _=>cases e
   | _=>cases e
theorem pY {α:Type} (τ:Sg) (w:W) (i j:Nat):aP (setAt τ (some w) i) j=none->aP τ j=none/\(j=i->τ.length <= j):=by
 rw [fU,fV,fV]
 intro h
 by_cases z:i=j
 · subst z
   by_cases l:i < τ.length
   · rw [List.getElem?_set_self l] at h;cases h
   · refine ⟨?_,fun _=>Nat.not_lt.mp l⟩
     rw [List.getElem?_eq_none (Nat.not_lt.mp l)];rfl
 · rw [List.getElem?_set_ne z] at h
   exact ⟨h,fun q=>absurd q.symm z⟩
theorem bind_none {h:Hs}:∀ (n:Nat) {t:Tg} {w:W} {τ τ':Sg},aA h n t w τ=some τ'->τ'.length=τ.length/\∀ i,aP τ' i=none->aP τ i=none/\(i ∈ vars t->τ.length <= i)
 | 0,_,_,_,_,e=>nomatch e
 | n + 1,t,w,τ,τ',e=>by
   have lst:∀ (ts:List Tg) (ws:List W) (τ τ':Sg),bindL (aA h n) ts ws τ=some τ'->τ'.length=τ.length/\∀ i,aP τ' i=none->aP τ i=none/\(i ∈ jK ts->τ.length <= i):=by
    intro ts
    induction ts with
    | nil=>
      intro ws τ τ' e
      cases ws with
      | nil=>cases e;exact ⟨rfl,fun i hi=>⟨hi,fun z=>by simp [jK] at z⟩⟩
      | cons _ _=>cases e
    | cons t ts ih=>
      intro ws τ τ' e
      cases ws with
      | nil=>cases e
      | cons y ys=>
        have e:Option.rec none (fun τ=>bindL (aA h n) ts ys τ) (aA h n t y τ)=some τ':=e
        cases e1:aA h n t y τ with
        | none=>rw [e1] at e;cases e
        | some τ1=>
          rw [e1] at e
          obtain ⟨l1,a1⟩:=bind_none n e1
          obtain ⟨l2,a2⟩:=ih ys τ1 τ' e
          refine ⟨l2.trans l1,fun i hi=>?_⟩
          obtain ⟨b1,b2⟩:=a2 i hi
          obtain ⟨c1,c2⟩:=a1 i b1
          refine ⟨c1,fun z=>?_⟩
          simp only [jK,List.mem_append] at z
          rcases z with z | z
          · exact c2 z
          · rw [<- l1];exact b2 z
   cases t with
   | nm i=>
     have e:some (setAt τ (some w) i)=some τ':=e
     cases e
     refine ⟨by rw [fU,List.length_set],fun j hj=>?_⟩
     obtain ⟨a,b⟩:=pY (α:=Unit) τ w i j hj
     exact ⟨a,fun z=>b (by simpa [vars] using z)⟩
   | tup ts=>
     cases w with
     | ref k=>
       have e:Option.rec none (fun o=>O.rec (fun xs=>bindL (aA h n) ts xs τ) (fun _=>none) (fun _ _=>none) (fun _=>none) (fun _=>none) (fun _=>none) o) (h.get k)=some τ':=e
       cases hg:h.get k with
       | none=>rw [hg] at e;cases e
       | some o=>
         rw [hg] at e
         cases o with
         | tup xs=>
           obtain ⟨a,b⟩:=lst ts xs τ τ' e
           exact ⟨a,fun i hi=>by simpa [vars] using b i hi⟩
         | _=>cases e
     | _=>cases e
theorem uB {h:Hs} {n:Nat} {t:Tg} {w:W} {τ τ':Sg} {ρ:List Addr} {σ σ' σ0:L2.St} (e:aA h n t w τ=some τ') (rs:RS ρ τ σ) (o:Off (vars t) σ σ') (ag:Ag σ0 τ σ):Ag σ0 τ' σ':=fun i hi=>by
 obtain ⟨l,a⟩:=bind_none n e
 obtain ⟨b1,b2⟩:=a i hi
 have len:τ.length=σ.length:=Paired.length rs
 by_cases z:i ∈ vars t
 · have h1:=b2 z
   rw [<- ag i b1,List.getElem?_eq_none (by rw [o.1];omega),List.getElem?_eq_none (by omega)]
 · rw [o.2 i z];exact ag i b1
section
variable {σ0:L2.St}
theorem rJ {t:Tg} {e:Ev.X} {D:Ends} (x:tS Pg cl E d σ0 (.asg t e) D σ H):uP (tE Pg cl E d e) (tG cl t) D σ H:=by
 obtain ⟨ρ,τ,h,n,s,rs,ag,q⟩:=x.step
 refine ev.then s rs (show Post cl ρ H E ((evs Pg n d (.x e) τ h).bind fun r h=>r.toW fun w=>Opt (aA h 9 t w τ) fun τ=>.ok (.fl (.nx τ)) h) (SPo σ0 D) from q) fun a1 h1 ρ1 H1 b1 s1 p1=>?_
 obtain ⟨w,rfl,p2⟩:=aY p1
 obtain ⟨τ',e1,p3⟩:=cT p2
 refine ⟨w,rfl,fun v rv=>⟨ρ1,h1,w,τ,9,τ',s1,rv,rs.mono b1.1,e1,fun σ' rs' o1=>?_⟩⟩
 obtain ⟨f,ef,qf⟩:=p3.now s1
 cases ef
 exact qf σ' rs' (uB e1 rs o1 ag)
theorem G_ {i:Nat} {x:Str} {e:Expr} {y:Ev.X} {pos pos':Pos} (hN:X.N.Nodup) (hi:X.N[i]? =some x) (hx:Loc X.env.scope x) (he:PE X e (tE Pg cl E d y)) (hs:swapsWith e (some (.Name x pos')) pos.line X.env=pure false:=by rfl) (hf:X.fn x=true\/X.env.scope.names.lookup x=some .local:=by first | exact .inl rfl | exact .inr rfl | assumption):
 PS X (.Assign [.Name x pos'] e pos) (tS Pg cl E d σ0 (.asg (.nm i) y)):=PS.of (gG hN hi hx he hs hf) fun D σ H q=>by
 obtain ⟨ρ,τ,h,n,s,rs,p⟩:=rJ q
 exact ⟨ρ,τ,h,n,s,rs,p.mono fun a h ρ H _ _ ⟨w,e,g⟩=>⟨w,e,fun v rv=>mW (g v rv)⟩⟩
theorem Hf {tg e:Expr} {t:Tg} {y:Ev.X} {pos:Pos} (he:PE X e (tE Pg cl E d y)) (hg:PG X tg (tG cl t)) (hs:swapsWithSole [tg] e pos.line X.env=pure false:=by rfl) (hw:swappedStores [tg] e X.env=pure none:=by rfl)
 (h1:(assignEach [tg] X.env).map (·.2)= [assign tg X.env]:=by rfl):PS X (.Assign [tg] e pos) (tS Pg cl E d σ0 (.asg t y)):=PS.of (Ez he hg hs hw h1) fun _ _ _ q=>rJ q
theorem bM {e:Expr} {y:Ev.X} {pos:Pos} (he:PE X e (tE Pg cl E d y)):PS X (.Return (some e) pos) (tS Pg cl E d σ0 (.ret y)):=PS.of (ig he) fun D σ H x=>by
 obtain ⟨ρ,τ,h,n,s,rs,ag,q⟩:=x.step
 refine ev.then s rs (show Post cl ρ H E ((evs Pg n d (.x y) τ h).bind fun r h=>r.toW fun w=>.ok (.fl (.rt w)) h) (SPo σ0 D) from q) fun a1 h1 ρ1 H1 b1 s1 p1=>?_
 obtain ⟨w,rfl,p2⟩:=aY p1
 obtain ⟨f,ef,qf⟩:=p2.now s1
 cases ef
 exact ⟨w,rfl,qf⟩
theorem iT {c:Expr} {a b:List Stmt} {x:Ev.X} {sa sb:List S} {pos:Pos} (hc:PT X c (tT Pg cl E d x)) (ha:PSs X a (tSs Pg cl E d σ0 sa)) (hb:PSs X b (tSs Pg cl E d σ0 sb)):PS X (.If c a b pos) (tS Pg cl E d σ0 (.ife x sa sb)):=PS.of (qC hc ha hb) fun D σ H z=>by
 obtain ⟨ρ,τ,h,n,s,rs,ag,q⟩:=z.step
 refine ev.then s rs (show Post cl ρ H E ((evs Pg n d (.x x) τ h).bind fun r h=>r.toW fun w=>w.onB (evs Pg n d (.ss sb) τ h) (evs Pg n d (.ss sa) τ h)) (SPo σ0 D) from q) fun a1 h1 ρ1 H1 b1 s1 p1=>?_
 obtain ⟨w,rfl,p2⟩:=aY p1
 refine ⟨w,rfl,fun v rv=>?_⟩
 rcases jq p2 with ⟨rfl,p3⟩ | ⟨rfl,p3⟩
 · cases rv
   exact ⟨true,rfl,o6 ⟨ρ1,τ,h1,n,s1,rs.mono b1.1,ag,p3⟩⟩
 · cases rv
   exact ⟨false,rfl,o5 ⟨ρ1,τ,h1,n,s1,rs.mono b1.1,ag,p3⟩⟩
theorem az:PSs X [] (tSs Pg cl E d σ0 []):=PSs.of lR fun D σ H x=>by
 obtain ⟨ρ,τ,h,n,s,rs,ag,q⟩:=x.step
 obtain ⟨f,ef,qf⟩:=Post.now s (show Post cl ρ H E (.ok (.fl (.nx τ)) h) (SPo σ0 D) from q)
 cases ef
 exact qf σ rs ag
theorem ak {st:Stmt} {rest:List Stmt} {a:S} {as:List S} (h1:PS X st (tS Pg cl E d σ0 a)) (h2:PSs X rest (tSs Pg cl E d σ0 as)):PSs X (st::rest) (tSs Pg cl E d σ0 (a::as)):=PSs.of (bw h1 h2) fun D σ H x=>by
 obtain ⟨ρ,τ,h,n,s,rs,ag,q⟩:=x.step
 refine evS.then s rs ag (show Post cl ρ H E ((evs Pg n d (.s a) τ h).bind fun r h=>r.toF fun f=>Fl.rec (fun τ=>evs Pg n d (.ss as) τ h) (fun w=>.ok (.fl (.rt w)) h) (fun τ=>.ok (.fl (.bk τ)) h) (fun τ=>.ok (.fl (.ct τ)) h) f) (SPo σ0 D) from q) fun a1 h1 ρ1 H1 b1 s1 p1=>?_
 obtain ⟨f,rfl,p2⟩:=lg p1
 refine ⟨f,rfl,?_⟩
 cases f with
 | nx τ1=>exact fun σ1 rs1 ag1=>⟨ρ1,τ1,h1,n,s1,rs1,ag1,p2⟩
 | rt w=>
   obtain ⟨f,ef,qf⟩:=Post.now s1 (show Post cl ρ1 H1 E (.ok (.fl (.rt w)) h1) (SPo σ0 D) from p2)
   cases ef;exact qf
 | bk τ1=>
   obtain ⟨f,ef,qf⟩:=Post.now s1 (show Post cl ρ1 H1 E (.ok (.fl (.bk τ1)) h1) (SPo σ0 D) from p2)
   cases ef;exact qf
 | ct τ1=>
   obtain ⟨f,ef,qf⟩:=Post.now s1 (show Post cl ρ1 H1 E (.ok (.fl (.ct τ1)) h1) (SPo σ0 D) from p2)
   cases ef;exact qf
end
inductive dB (K:PySem.W.Frag) (ρ:List Addr):Iv->It->Prop
 | lst {n a}:ρ[n]? =some a->dB K ρ (.lst n) (Itl K a)
 | tup {n a}:ρ[n]? =some a->dB K ρ (.tup n) (Itt K a)
 | rng (lo n):dB K ρ (.rng lo n) (Itr lo n)
 | zip {n m a b}:ρ[n]? =some a->ρ[m]? =some b->dB K ρ (.zip n m) (Itz K a b)
 | dwn (lo n):dB K ρ (.dwn lo n) (Itd lo n)
 | enu {n a}:ρ[n]? =some a->dB K ρ (.enu n) (Ite K a)
theorem dB.mono {K:PySem.W.Frag} {ρ ρ':List Addr} (e:ρ <+:ρ') {v:Iv} {J:It} (x:dB K ρ v J):dB K ρ' v J:=by
 cases x with
 | lst h=>exact .lst (dJ e h)
 | tup h=>exact .tup (dJ e h)
 | rng lo n=>exact .rng lo n
 | zip h h'=>exact .zip (dJ e h) (dJ e h')
 | dwn lo n=>exact .dwn lo n
 | enu h=>exact .enu (dJ e h)
theorem uC {K:PySem.W.Frag} {ρ:List Addr} {h:Hs} {v:Iv} {J:It} {i:Nat} {fin:R A} {go:W->Hs->R A} {P:A->Hs->List Addr->Hp->Prop} (s:Sim cl ρ h H) (x:dB K ρ v J) (p:Post cl ρ H E (v.next i h fin go) P):
 (J.stop i H/\Post cl ρ H E fin P)\/(J.go i H/\∃ w h',∀ y H',J.yld i H y H'->∃ ρ',Bt cl ρ H ρ' H'/\Sim cl ρ' h' H'/\RW ρ' w y/\Post cl ρ' H' E (go w h') P):=by
 have here:∀ {w:W} {v':V},RW ρ w v'->Post cl ρ H E (go w h) P->(∀ y H',J.yld i H y H'->H'=H/\y=v')->∃ w h',∀ y H',J.yld i H y H'->∃ ρ',Bt cl ρ H ρ' H'/\Sim cl ρ' h' H'/\RW ρ' w y/\Post cl ρ' H' E (go w h') P:=fun {w v'} rw p f=>⟨w,h,fun y H' z=>by
  obtain ⟨rfl,rfl⟩:=f y H' z
  exact ⟨ρ,Bt.refl,s,rw,p⟩⟩
 cases x with
 | @lst n a e=>
   obtain ⟨o,ho,p1⟩:=cT (show Post cl ρ H E (Opt (h.get n) fun o=>o.onS fun xs=>Option.rec fin (fun w=>go w h) (nth xs i)) P from p)
   have x1:=s.at e ho
   cases o with
   | lst xs=>
     obtain ⟨vs,rv,q⟩:=x1
     have p2:Post cl ρ H E (Option.rec fin (fun w=>go w h) (nth xs i)) P:=p1
     rw [dw] at p2
     have hl:=rv.length
     cases hx:xs[i]? with
     | none=>
       rw [hx] at p2
       exact .inl ⟨⟨vs,SqL.of q,by have:=List.getElem?_eq_none_iff.mp hx;omega⟩,p2⟩
     | some w=>
       rw [hx] at p2
       obtain ⟨v',ev,rw⟩:=rv.get hx
       exact .inr ⟨⟨vs,v',SqL.of q,ev⟩,here rw p2 fun y H' z=>⟨z.1,by
        have:=z.2 vs (SqL.of q)
        rw [ev] at this
        exact (Option.some.inj this).symm⟩⟩
   | _=>exact p1.elim
 | @tup n a e=>
   obtain ⟨o,ho,p1⟩:=cT (show Post cl ρ H E (Opt (h.get n) fun o=>o.onT fun xs=>Option.rec fin (fun w=>go w h) (nth xs i)) P from p)
   have x1:=s.at e ho
   cases o with
   | tup xs=>
     obtain ⟨vs,rv,q⟩:=x1
     have p2:Post cl ρ H E (Option.rec fin (fun w=>go w h) (nth xs i)) P:=p1
     rw [dw] at p2
     have hl:=rv.length
     cases hx:xs[i]? with
     | none=>
       rw [hx] at p2
       exact .inl ⟨⟨vs,SqT.of q,by have:=List.getElem?_eq_none_iff.mp hx;omega⟩,p2⟩
     | some w=>
       rw [hx] at p2
       obtain ⟨v',ev,rw⟩:=rv.get hx
       exact .inr ⟨⟨vs,v',SqT.of q,ev⟩,here rw p2 fun y H' z=>⟨z.1,by
        have:=z.2 vs (SqT.of q)
        rw [ev] at this
        exact (Option.some.inj this).symm⟩⟩
   | _=>exact p1.elim
 | rng lo n=>
   have p1:Post cl ρ H E (Bool.rec fin (go (.int (lo + .ofNat i)) h) (Nat.ble (i + 1) n)) P:=p
   rw [ble_eq] at p1
   by_cases c:i + 1 <= n
   · rw [decide_eq_true c] at p1
     exact .inr ⟨c,here (.int _) p1 fun y H' z=>z⟩
   · rw [decide_eq_false c] at p1
     exact .inl ⟨by show n <= i;omega,p1⟩
 | dwn lo n=>
   have p1:Post cl ρ H E (Bool.rec fin (go (.int (lo - .ofNat i)) h) (Nat.ble (i + 1) n)) P:=p
   rw [ble_eq] at p1
   by_cases c:i + 1 <= n
   · rw [decide_eq_true c] at p1
     exact .inr ⟨c,here (.int _) p1 fun y H' z=>z⟩
   · rw [decide_eq_false c] at p1
     exact .inl ⟨by show n <= i;omega,p1⟩
 | @enu n a ea=>
   obtain ⟨o,ho,p1⟩:=cT (show Post cl ρ H E (Opt (h.get n) fun o=>o.onS fun xs=>Option.rec fin (fun x=>go (.ref h.n) (h.push (.tup [.int (.ofNat i),x]))) (nth xs i)) P from p)
   have x1:=s.at ea ho
   cases o with
   | lst xs=>
     obtain ⟨vs,rv,q⟩:=x1
     have p3:Post cl ρ H E (Option.rec fin (fun x=>go (.ref h.n) (h.push (.tup [.int (.ofNat i),x]))) (nth xs i)) P:=p1
     rw [dw] at p3
     have hl:=rv.length
     cases hx:xs[i]? with
     | none=>
       rw [hx] at p3
       exact .inl ⟨⟨vs,SqL.of q,by have:=List.getElem?_eq_none_iff.mp hx;omega⟩,p3⟩
     | some x=>
       rw [hx] at p3
       obtain ⟨x',ex,rx⟩:=rv.get hx
       refine .inr ⟨⟨vs,x',SqL.of q,ex⟩,.ref h.n,h.push (.tup [.int (.ofNat i),x]),fun v H' ⟨T,x2,hT,hv,hH,f1⟩=>?_⟩
       have e1:=f1 vs (SqL.of q)
       rw [ex] at e1
       cases e1
       subst hv hH
       have pe:=List.prefix_append ρ [T]
       have s2:Sim cl (ρ ++ [T]) (h.push (.tup [.int (.ofNat i),x])) (upd H T (.tup [.int i,x'])):=s.push hT ⟨[.int i,x'],.cons (.int _) (.cons (rx.mono pe) .nil),aR⟩
       exact ⟨ρ ++ [T],Bt.new hT,s2,.ref (by rw [<- s.len,List.getElem?_append_right (Nat.le_refl _),Nat.sub_self];rfl),p3.later (Bt.new hT)⟩
   | _=>exact p1.elim
 | @zip n m a b ea eb=>
   obtain ⟨o,ho,p1⟩:=cT (show Post cl ρ H E (Opt (h.get n) fun o=>o.onS fun xs=>Opt (h.get m) fun o=>o.onS fun ys=>Option.rec fin (fun x=>Option.rec fin (fun y=>go (.ref h.n) (h.push (.tup [x,y]))) (nth ys i)) (nth xs i)) P from p)
   have x1:=s.at ea ho
   cases o with
   | lst xs=>
     obtain ⟨vs,rv,q⟩:=x1
     obtain ⟨o2,ho2,p2⟩:=cT (show Post cl ρ H E (Opt (h.get m) fun o=>o.onS fun ys=>Option.rec fin (fun x=>Option.rec fin (fun y=>go (.ref h.n) (h.push (.tup [x,y]))) (nth ys i)) (nth xs i)) P from p1)
     have x2:=s.at eb ho2
     cases o2 with
     | lst ys=>
       obtain ⟨us,ru,q2⟩:=x2
       have p3:Post cl ρ H E (Option.rec fin (fun x=>Option.rec fin (fun y=>go (.ref h.n) (h.push (.tup [x,y]))) (nth ys i)) (nth xs i)) P:=p2
       rw [dw,dw] at p3
       have hl:=rv.length
       have hl2:=ru.length
       cases hx:xs[i]? with
       | none=>
         rw [hx] at p3
         exact .inl ⟨⟨vs,us,SqL.of q,SqL.of q2,.inl (by have:=List.getElem?_eq_none_iff.mp hx;omega)⟩,p3⟩
       | some x=>
         rw [hx] at p3
         cases hy:ys[i]? with
         | none=>
           have p4:Post cl ρ H E (Option.rec fin (fun y=>go (.ref h.n) (h.push (.tup [x,y]))) ys[i]?) P:=p3
           rw [hy] at p4
           exact .inl ⟨⟨vs,us,SqL.of q,SqL.of q2,.inr (by have:=List.getElem?_eq_none_iff.mp hy;omega)⟩,p4⟩
         | some y=>
           have p4:Post cl ρ H E (Option.rec fin (fun y=>go (.ref h.n) (h.push (.tup [x,y]))) ys[i]?) P:=p3
           rw [hy] at p4
           obtain ⟨x',ex,rx⟩:=rv.get hx
           obtain ⟨y',ey,ry⟩:=ru.get hy
           refine .inr ⟨⟨vs,us,x',y',SqL.of q,SqL.of q2,ex,ey⟩,.ref h.n,h.push (.tup [x,y]),fun v H' ⟨T,x2,y2,hT,hv,hH,f1,f2⟩=>?_⟩
           have e1:=f1 vs (SqL.of q)
           have e2:=f2 us (SqL.of q2)
           rw [ex] at e1
           rw [ey] at e2
           cases e1
           cases e2
           subst hv hH
           have pe:=List.prefix_append ρ [T]
           have s2:Sim cl (ρ ++ [T]) (h.push (.tup [x,y])) (upd H T (.tup [x',y'])):=s.push hT ⟨[x',y'],.cons (rx.mono pe) (.cons (ry.mono pe) .nil),aR⟩
           exact ⟨ρ ++ [T],Bt.new hT,s2,.ref (by rw [<- s.len,List.getElem?_append_right (Nat.le_refl _),Nat.sub_self];rfl),p4.later (Bt.new hT)⟩
     | _=>exact p2.elim
   | _=>exact p1.elim
def DI (Pg:List Fn) (cl:Cn) (E:XK) (d:Nat) (K:PySem.W.Frag) (i:I) (wi:TI):Prop:=∀ (σ:L2.St) (H:Hp) (R:It->Hp->Prop),ev Pg cl E d (.i i) σ H (fun r _ ρ1 H1=>∃ v,r= .iv v/\∀ J,dB K ρ1 v J->R J H1)->wi σ H R
theorem PI.or {tg l:Expr} {w w':TI} (h:PI X tg l w) (h':PI X tg l w'):PI X tg l (fun σ H R=>w σ H R\/w' σ H R):=fun pins s σ H R I q=>q.elim (h pins s σ H R I) (h' pins s σ H R I)
theorem iB {K:PySem.W.Frag} {e:Ev.X}:DI Pg cl E d K (.seq e) (fun σ H R=>uU K (tE Pg cl E d e) σ H R\/za K (tE Pg cl E d e) σ H R):=fun σ H R x=>by
 obtain ⟨ρ,τ,h,n,s,rs,q⟩:=x.step
 have q1:Post cl ρ H E ((evs Pg n d (.x e) τ h).bind fun r h=>r.toW fun w=>h.at w fun n o=>(O.casesOn (motive:=fun _=>Ev.R A) o (fun _=>.ok (.iv (.tup n)) h) (fun _=>.ok (.iv (.lst n)) h) (fun _ _=>.no) (fun _=>.no) (fun _=>.no) (fun _=>.no))) (fun r _ ρ1 H1=>∃ v,r= .iv v/\∀ J,dB K ρ1 v J->R J H1):=q
 have q2:=q1.bind
 cases er:evs Pg n d (.x e) τ h with
 | no=>rw [er] at q2;exact q2.elim
 | ex C fs h1=>exact .inl ⟨ρ,τ,h,n,s,rs,by rw [er] at q2 ⊢;exact q2⟩
 | ok a h1=>
   rw [er] at q1
   have q3:Post cl ρ H E (a.toW fun w=>h1.at w fun n o=>(O.casesOn (motive:=fun _=>Ev.R A) o (fun _=>.ok (.iv (.tup n)) h1) (fun _=>.ok (.iv (.lst n)) h1) (fun _ _=>.no) (fun _=>.no) (fun _=>.no) (fun _=>.no))) (fun r _ ρ1 H1=>∃ v,r= .iv v/\∀ J,dB K ρ1 v J->R J H1):=q1
   obtain ⟨w,rfl,q4⟩:=aY q3
   obtain ⟨k,rfl,q5⟩:=xH q4
   obtain ⟨o,ho,q6⟩:=cT q5
   cases o with
   | lst xs=>
     refine .inl ⟨ρ,τ,h,n,s,rs,?_⟩
     rw [er]
     intro ρ1 H1 b1 s1
     refine ⟨_,rfl,fun v rv=>?_⟩
     cases rv with
     | @ref _ a ea=>
       obtain ⟨vs,rv,qh⟩:=s1.at ea ho
       obtain ⟨v,ev,g⟩:=(show Post cl ρ H E (.ok (A.iv (.lst k)) h1) _ from q6) ρ1 H1 b1 s1
       cases ev
       exact ⟨a,rfl,⟨vs,SqL.of qh⟩,g _ (.lst ea)⟩
   | tup xs=>
     refine .inr ⟨ρ,τ,h,n,s,rs,?_⟩
     rw [er]
     intro ρ1 H1 b1 s1
     refine ⟨_,rfl,fun v rv=>?_⟩
     cases rv with
     | @ref _ a ea=>
       obtain ⟨vs,rv,qh⟩:=s1.at ea ho
       obtain ⟨v,ev,g⟩:=(show Post cl ρ H E (.ok (A.iv (.tup k)) h1) _ from q6) ρ1 H1 b1 s1
       cases ev
       exact ⟨a,rfl,⟨vs,SqT.of qh⟩,g _ (.tup ea)⟩
   | _=>exact q6.elim
theorem xQ {ρ:List Addr} {H:Hp} {i:Int} {k:R A} {P:A->Hs->List Addr->Hp->Prop} (p:Post cl ρ H E (within i k) P):(-(2 ^ 62) <= i/\i < 2 ^ 62)/\Post cl ρ H E k P:=by
 obtain ⟨c,p⟩:=rE p
 obtain ⟨c2,p⟩:=rE p
 rw [bL] at c c2
 have c:=of_decide_eq_true c
 have c2:=of_decide_eq_true c2
 exact ⟨⟨by omega,by omega⟩,p⟩
theorem Dm {ρ:List Addr} {H:Hp} {ws:List W} {vs:List V} {f:W->R A} {P:A->Hs->List Addr->Hp->Prop} (r:RWs ρ ws vs) (p:Post cl ρ H E (rC ws f) P):∃ w v,ws= [w]/\vs= [v]/\RW ρ w v/\Post cl ρ H E (f w) P:=by
 cases r with
 | nil=>exact p.elim
 | cons r1 t=>cases t with
   | nil=>exact ⟨_,_,rfl,rfl,r1,p⟩
   | cons _ _=>exact p.elim
theorem pB {K:PySem.W.Frag} {as:List Ev.X}:DI Pg cl E d K (.kY as) (L2.Bd (tA Pg cl E d as)):=fun σ H R x=>by
 obtain ⟨ρ,τ,h,n,s,rs,q⟩:=x.step
 refine ev.then s rs (show Post cl ρ H E ((evs Pg n d (.a as) τ h).bind fun r h=>r.toL fun ws=>rC ws fun w=>w.onI fun j=>within j (.ok (A.iv (.rng 0 j.toNat)) h)) (fun r _ ρ1 H1=>∃ v,r= .iv v/\∀ J,dB K ρ1 v J->R J H1) from q) fun a1 h1 ρ1 H1 b1 s1 p1=>?_
 obtain ⟨ws,rfl,p2⟩:=jo p1
 refine ⟨ws,rfl,fun vs rv=>?_⟩
 obtain ⟨w,v,rfl,rfl,r1,p3⟩:=Dm rv p2
 obtain ⟨j,rfl,p4⟩:=xG p3
 obtain ⟨c,p5⟩:=xQ p4
 cases r1
 obtain ⟨v,ev,g⟩:=p5.now s1
 cases ev
 exact ⟨j,rfl,c.1,c.2,g _ (.rng _ _)⟩
section
variable {σ0:L2.St}
theorem Hg {K:PySem.W.Frag} {i:I} {t:Tg} {b:List S} {wi:TI} {D:Ends} (di:DI Pg cl E d K i wi) (x:tS Pg cl E d σ0 (.for_ i t b) D σ H):zc wi (tG cl t) (tSs Pg cl E d σ0 b) D σ H:=by
 obtain ⟨ρ,τ,h,n,s,rs,ag,q⟩:=x.step
 refine di σ H _ (ev.then s rs (show Post cl ρ H E ((evs Pg n d (.i i) τ h).bind fun r h=>r.toV fun v=>evs Pg n d (.lp v 0 t b) τ h) (SPo σ0 D) from q) fun a1 h1 ρ1 H1 b1 s1 p1=>?_)
 obtain ⟨v,rfl,p2⟩:=xF p1
 refine ⟨v,rfl,fun J hJ=>?_⟩
 refine ⟨fun i m σ H=>∃ ρ τ h,Sim cl ρ h H/\RS ρ τ σ/\Ag σ0 τ σ/\dB K ρ v J/\Post cl ρ H E (evs Pg m d (.lp v i t b) τ h) (SPo σ0 D),⟨n,ρ1,τ,h1,s1,rs.mono b1.1,ag,hJ,p2⟩,?_⟩
 rintro i m σ2 H2 ⟨ρ2,τ2,h2,s2,rs2,ag2,j2,p3⟩
 cases m with
 | zero=>exact p3.elim
 | succ m=>
   have p4:Post cl ρ2 H2 E (v.next i h2 (.ok (.fl (.nx τ2)) h2) fun w h2=>Opt (aA h2 9 t w τ2) fun τ=>(evs Pg m d (.ss b) τ h2).bind fun r h=>r.toF fun f=>gQ h f fun τ=>evs Pg m d (.lp v (i + 1) t b) τ h) (SPo σ0 D):=p3
   rcases uC s2 j2 p4 with ⟨st,p5⟩ | ⟨go,w,h2',yl⟩
   · obtain ⟨f,ef,qf⟩:=p5.now s2
     cases ef
     exact .inl ⟨st,qf σ2 rs2 ag2⟩
   · refine .inr ⟨go,fun σ' H'=>∃ ρ τ h,Sim cl ρ h H'/\RS ρ τ σ'/\Ag σ0 τ σ'/\dB K ρ v J/\Post cl ρ H' E (evs Pg m d (.lp v (i + 1) t b) τ h) (SPo σ0 D),fun σ' H' z=>⟨m,Nat.lt_succ_self m,z⟩,fun y H' yy=>?_⟩
     obtain ⟨rK,bb,s2',rw,p5⟩:=yl y H' yy
     obtain ⟨τ3,e3,p6⟩:=cT p5
     have Hh:=rs2.mono bb.1
     have j2:=j2.mono bb.1
     refine ⟨rK,h2',w,τ2,9,τ3,s2',rw,Hh,e3,fun σ3 rs3 o3=>?_⟩
     refine evS.then s2' rs3 (uB e3 Hh o3 ag2) p6 fun a4 h4 ρ4 H4 b4 s4 p7=>?_
     obtain ⟨f,rfl,p8⟩:=lg p7
     refine ⟨f,rfl,?_⟩
     cases f with
     | nx τ4=>exact fun σ4 rs4 ag4=>⟨ρ4,τ4,h4,s4,rs4,ag4,j2.mono b4.1,p8⟩
     | ct τ4=>exact fun σ4 rs4 ag4=>⟨ρ4,τ4,h4,s4,rs4,ag4,j2.mono b4.1,p8⟩
     | rt w4=>
       obtain ⟨f,ef,qf⟩:=Post.now s4 (show Post cl ρ4 H4 E (.ok (.fl (.rt w4)) h4) (SPo σ0 D) from p8)
       cases ef;exact qf
     | bk τ4=>
       obtain ⟨f,ef,qf⟩:=Post.now s4 (show Post cl ρ4 H4 E (.ok (.fl (.nx τ4)) h4) (SPo σ0 D) from p8)
       cases ef;exact qf
theorem zV {c:Ev.X} {b:List S} {D:Ends} (x:tS Pg cl E d σ0 (.kZ c b) D σ H):wN (tT Pg cl E d c) (tSs Pg cl E d σ0 b) D σ H:=by
 obtain ⟨ρ,τ,h,n,s,rs,ag,q⟩:=x.step
 have q:Post cl ρ H E (evs Pg n d (.wh c b) τ h) (SPo σ0 D):=q
 refine ⟨fun m σ H=>∃ ρ τ h,Sim cl ρ h H/\RS ρ τ σ/\Ag σ0 τ σ/\Post cl ρ H E (evs Pg m d (.wh c b) τ h) (SPo σ0 D),⟨n,ρ,τ,h,s,rs,ag,q⟩,?_⟩
 rintro m σ2 H2 ⟨ρ2,τ2,h2,s2,rs2,ag2,p3⟩
 cases m with
 | zero=>exact p3.elim
 | succ m=>
   refine ev.then s2 rs2 (show Post cl ρ2 H2 E ((evs Pg m d (.x c) τ2 h2).bind fun r h=>r.toW fun w=>w.onB (.ok (.fl (.nx τ2)) h) ((evs Pg m d (.ss b) τ2 h).bind fun r h=>r.toF fun f=>gQ h f fun τ=>evs Pg m d (.wh c b) τ h)) (SPo σ0 D) from p3) fun a1 h1 ρ1 H1 b1 s1 p1=>?_
   obtain ⟨w,rfl,p2⟩:=aY p1
   refine ⟨w,rfl,fun v rv=>?_⟩
   rcases jq p2 with ⟨rfl,p4⟩ | ⟨rfl,p4⟩
   · cases rv
     refine ⟨true,rfl,o6 ?_⟩
     refine ⟨fun σ' H'=>∃ ρ τ h,Sim cl ρ h H'/\RS ρ τ σ'/\Ag σ0 τ σ'/\Post cl ρ H' E (evs Pg m d (.wh c b) τ h) (SPo σ0 D),fun σ' H' z=>⟨m,Nat.lt_succ_self m,z⟩,?_⟩
     refine evS.then s1 (rs2.mono b1.1) ag2 p4 fun a4 h4 ρ4 H4 b4 s4 p7=>?_
     obtain ⟨f,rfl,p8⟩:=lg p7
     refine ⟨f,rfl,?_⟩
     cases f with
     | nx τ4=>exact fun σ4 rs4 ag4=>⟨ρ4,τ4,h4,s4,rs4,ag4,p8⟩
     | ct τ4=>exact fun σ4 rs4 ag4=>⟨ρ4,τ4,h4,s4,rs4,ag4,p8⟩
     | rt w4=>
       obtain ⟨f,ef,qf⟩:=Post.now s4 (show Post cl ρ4 H4 E (.ok (.fl (.rt w4)) h4) (SPo σ0 D) from p8)
       cases ef;exact qf
     | bk τ4=>
       obtain ⟨f,ef,qf⟩:=Post.now s4 (show Post cl ρ4 H4 E (.ok (.fl (.nx τ4)) h4) (SPo σ0 D) from p8)
       cases ef;exact qf
   · cases rv
     refine ⟨false,rfl,o5 ?_⟩
     obtain ⟨f,ef,qf⟩:=p4.now s1
     cases ef
     exact qf σ2 (rs2.mono b1.1) ag2
theorem rM {iter tg:Expr} {body:List Stmt} {wi:TI} {i:I} {t:Tg} {b:List S} {pos:Pos} (hp:PassesOwn (model X.prog X.w) X.A X.env X.xe) (hc:X.calm=true) (di:DI Pg cl E d X.K i wi) (hi:PI X tg iter wi) (hg:PG X tg (tG cl t)) (hb:PSs X body (tSs Pg cl E d σ0 b))
 (hs:∀ x,foldedSetIterable iter X.env x=pure x:=by intro _;rfl):PS X (.For tg iter body [] pos) (tS Pg cl E d σ0 (.for_ i t b)):=PS.of (qT hp hc hi hg hb hs) fun _ _ _ q=>Hg di q
theorem rN {c:Expr} {body:List Stmt} {x:Ev.X} {b:List S} {pos:Pos} (hp:PassesOwn (model X.prog X.w) X.A X.env X.xe) (hc:PT X c (tT Pg cl E d x)) (hb:PSs X body (tSs Pg cl E d σ0 b)):PS X (.While c body [] pos) (tS Pg cl E d σ0 (.kZ x b)):=PS.of (yZ hp hc hb) fun _ _ _ q=>zV q
end
end
end Ev
namespace Ev
open PySem PySem.Spec PySem.SeqAt PyProof.Rows L2
section
variable {Pg:List Fn} {cl:Cn} {E:XK} {d:Nat} {X:Cx} {σ:L2.St} {H:Hp}
def tCd (Pg:List Fn) (cl:Cn) (d:Nat):Option Ev.X->TT
 | none=>Bj
 | some c=>tT Pg cl E0 d c
theorem vM:∀ {σ σ':L2.St},σ'.length=σ.length->(∀ (i:Nat) (v:V),σ[i]? =some (some v)->σ'[i]? =some (some v))->Wk σ σ'
 | [],[],_,_=>trivial
 | [],_::_,h,_=>by simp at h
 | _::_,[],h,_=>by simp at h
 | none::r,b::r',h,f=>by
   show Wk r r'
   exact vM (by simpa using h) fun i v e=>by simpa using f (i + 1) v (by simpa using e)
 | some a::r,b::r',h,f=>by
   have hb:=f 0 a rfl
   refine ⟨by simpa using hb,vM (by simpa using h) fun i v e=>by simpa using f (i + 1) v (by simpa using e)⟩
theorem Off.wk {vs:List Nat} {σ σ':L2.St} (o:Off vs σ σ') (h:∀ i ∈ vs,σ[i]? =some none):Wk σ σ':=vM o.1 fun i v e=>by
 by_cases hi:i ∈ vs
 · rw [h i hi] at e;cases e
 · rw [o.2 i hi];exact e
def Inn (Pg:List Fn) (cl:Cn) (d:Nat) (e:Ev.X) (D0:Nat) (D:Addr) (m:Option G) (C:L2.St->Prop) (tin:TN):Prop:=∀ (σ1:L2.St) (τ1:Sg) (h:Hs) (ρ:List Addr) (H:Hp) (n:Nat) (k:Hs->R A) (P:A->Hs->List Addr->Hp->Prop) (N:Hp->Prop),Sim cl ρ h H->RS ρ τ1 σ1->ρ[D0]? =some D->C σ1->
 Post cl ρ H E0 (inner (aQ Pg d) n τ1 h e D0 m k) P->(∀ h' ρ' H',Bt cl ρ H ρ' H'->Sim cl ρ' h' H'->Post cl ρ' H' E0 (k h') P->N H')->tin σ1 H N
theorem Dq {K:PySem.W.Frag} {v:Iv} {J:It} {t:Tg} {c:Option Ev.X} {m:Option G} {e:Ev.X} {D0:Nat} {D:Addr} {C:L2.St->Prop} {tin:TN} (hin:Inn Pg cl d e D0 D m C tin) {ρ:List Addr} {h:Hs} {τ:Sg} {n:Nat} {P:A->Hs->List Addr->Hp->Prop} {Q:Hp->Prop}
 (s:Sim cl ρ h H) (rs:RS ρ τ σ) (hJ:dB K ρ v J) (hD:ρ[D0]? =some D) (hv:∀ i ∈ vars t,σ[i]? =some none) (hC:∀ σ1,Off (vars t) σ σ1->C σ1) (p:Post cl ρ H E0 (evs Pg n d (.cl v 0 t c m e D0) τ h) P)
 (hQ:∀ r h' ρ' H',Bt cl ρ H ρ' H'->Sim cl ρ' h' H'->P r h' ρ' H'->Q H'):vB J (tG cl t) (tCd Pg cl d c) tin σ H Q:=by
 refine ⟨fun i m' H'=>∃ ρ' h',Bt cl ρ H ρ' H'/\Sim cl ρ' h' H'/\Post cl ρ' H' E0 (evs Pg m' d (.cl v i t c m e D0) τ h') P,⟨n,ρ,h,Bt.refl,s,p⟩,?_⟩
 rintro i m' H2 ⟨ρ2,h20,b2,s20,p2⟩
 cases m' with
 | zero=>exact p2.elim
 | succ m'=>
   have p3:Post cl ρ2 H2 E0 (v.next i h20 (.ok .u h20) fun w h2=>Opt (aA h2 9 t w τ) fun τ1=>
    test (aQ Pg d) m' τ1 h2 c (fun h=>evs Pg m' d (.cl v (i + 1) t c m e D0) τ h) (fun h=>inner (aQ Pg d) m' τ1 h e D0 m fun h=>evs Pg m' d (.cl v (i + 1) t c m e D0) τ h)) P:=p2
   rcases uC s20 (hJ.mono b2.1) p3 with ⟨st,p4⟩ | ⟨go,w,h2,yl⟩
   · exact .inl ⟨st,hQ _ _ _ _ b2 s20 (p4.now s20)⟩
   · refine .inr ⟨go,fun H'=>∃ ρ' h',Bt cl ρ H ρ' H'/\Sim cl ρ' h' H'/\Post cl ρ' H' E0 (evs Pg m' d (.cl v (i + 1) t c m e D0) τ h') P,fun H' z=>⟨m',Nat.lt_succ_self m',z⟩,fun y H' yy=>?_⟩
     obtain ⟨rK,bb,s2,rw,p4⟩:=yl y H' yy
     obtain ⟨τ1,e1,p5⟩:=cT p4
     have b2:=b2.trans bb
     refine ⟨rK,h2,w,τ,9,τ1,s2,rw,rs.mono b2.1,e1,fun σ1 rs1 o1=>⟨o1.wk hv,?_⟩⟩
     have fin:∀ {ρ3:List Addr} {h3:Hs} {H3:Hp},Bt cl rK H' ρ3 H3->Sim cl ρ3 h3 H3->Post cl ρ3 H3 E0 (inner (aQ Pg d) m' τ1 h3 e D0 m fun h=>evs Pg m' d (.cl v (i + 1) t c m e D0) τ h) P->
      tin σ1 H3 fun H'=>∃ ρ' h',Bt cl ρ H ρ' H'/\Sim cl ρ' h' H'/\Post cl ρ' H' E0 (evs Pg m' d (.cl v (i + 1) t c m e D0) τ h') P:=fun {ρ3 h3 H3} b3 s3 q3=>
      hin σ1 τ1 h3 ρ3 H3 m' _ P _ s3 (rs1.mono b3.1) (dJ (b2.1.trans b3.1) hD) (hC σ1 o1) q3 fun h' ρ' H' b' s' q'=>⟨ρ',h',(b2.trans b3).trans b',s',q'⟩
     cases c with
     | none=>exact fin Bt.refl s2 p5
     | some c=>
       refine ev.then s2 rs1 (show Post cl rK H' E0 ((evs Pg m' d (.x c) τ1 h2).bind fun r h=>r.toW fun w=>w.onB (evs Pg m' d (.cl v (i + 1) t (some c) m e D0) τ h) (inner (aQ Pg d) m' τ1 h e D0 m fun h=>evs Pg m' d (.cl v (i + 1) t (some c) m e D0) τ h)) P from p5) fun a3 h3 ρ3 H3 b3 s3 p6=>?_
       obtain ⟨w3,rfl,p7⟩:=aY p6
       refine ⟨w3,rfl,fun v3 rv3=>?_⟩
       rcases jq p7 with ⟨rfl,p8⟩ | ⟨rfl,p8⟩
       · cases rv3
         exact ⟨true,rfl,o6 (fin b3 s3 p8)⟩
       · cases rv3
         exact ⟨false,rfl,o5 ⟨ρ3,h3,b2.trans b3,s3,p8⟩⟩
theorem rO {e:Ev.X} {D0:Nat} {D:Addr} {C:L2.St->Prop}:Inn Pg cl d e D0 D none C (vC D (tE Pg cl E0 d e)):=fun σ1 τ1 h ρ H n k P N s rs hD _ p hN=>by
 refine ev.then s rs (show Post cl ρ H E0 ((evs Pg n d (.x e) τ1 h).bind fun r h=>r.toW fun w=>(lV h (.ref D0) w).bind fun _ h=>k h) P from p) fun a1 h1 ρ1 H1 b1 s1 p1=>?_
 obtain ⟨w,rfl,p2⟩:=aY p1
 refine ⟨w,rfl,fun v rv=>?_⟩
 have hD1:=dJ b1.1 hD
 obtain ⟨o,ho,x1⟩:=s1.obj D0 D hD1
 have e1:lV h1 (.ref D0) w=Opt (h1.get D0) fun o=>o.onL fun xs=>size xs (.ok .non (h1.set D0 (.lst (app xs [w])))):=rfl
 rw [e1,ho] at p2
 cases o with
 | lst xs=>
   have p3:Post cl ρ1 H1 E0 ((size xs (.ok .non (h1.set D0 (.lst (app xs [w]))))).bind fun _ h=>k h) P:=p2
   unfold size at p3
   rw [ble_eq,len_eq] at p3
   by_cases z:xs.length <= 16777215
   · rw [decide_eq_true z] at p3
     obtain ⟨vs,rvs,q⟩:=x1
     have hl:=rvs.length
     refine ⟨vs,q,by rw [jr];omega,?_⟩
     have s2:Sim cl ρ1 (h1.set D0 (.lst (app xs [w]))) (upd H1 D (.lst (vs ++ [v]))):=s1.put hD1 ⟨_,by rw [dm];exact rvs.append (.cons rv .nil),aR⟩
     refine hN _ ρ1 _ (b1.trans (Bt.put hD1)) s2 ?_
     exact (show Post cl ρ1 H1 E0 (k (h1.set D0 (.lst (app xs [w])))) P from p3).later (Bt.put hD1)
   · rw [decide_eq_false z] at p3
     exact p3.elim
 | _=>exact p2.elim
theorem Hi {ρ:List Addr} {H:Hp} {α:Type} {r:R α} {P:α->Hs->List Addr->Hp->Prop} (p:Post cl ρ H E r.nox P):Post cl ρ H E0 r P:=by
 cases r with
 | ok a h=>exact p
 | ex C fs h=>exact p.elim
 | no=>exact p
theorem Hj {ρ:List Addr} {τ:Sg} (rs:RS ρ τ σ) (nt:Nat) (idx:List Nat):RS ρ (kO nt idx τ) (sgb nt idx σ):=by
 have base:RS ρ (List.rec (motive:=fun _=>Sg) [] (fun i _ r=>aP τ i::r) idx) (idx.map fun j=>(σ[j]?).getD none):=by
  induction idx with
  | nil=>exact .nil
  | cons i idx ih=>
    refine .cons ?_ ih
    show RO ρ (aP τ i) ((σ[i]?).getD none)
    cases e:aP τ i with
    | none=>exact trivial
    | some w=>
      obtain ⟨v,ev,rv⟩:=rs.get e
      rw [ev];exact rv
 unfold sgb
 induction nt with
 | zero=>exact base
 | succ nt ih=>exact .cons trivial ih
theorem zW {nt:Nat} {idx:List Nat} {i:Nat} (h:i < nt):(sgb nt idx σ)[i]? =some none:=by
 unfold sgb
 rw [List.getElem?_append_left (by simpa using h),List.getElem?_replicate,if_pos h]
theorem uD {K:PySem.W.Frag} {nt:Nat} {idx:List Nat} {it:I} {t:Tg} {c:Option Ev.X} {m:Option G} {e:Ev.X} {wi:TI} {tin:Addr->TN} {Q:VK} (di:DI Pg cl E d K it wi) {C:L2.St->Prop} (hin:∀ D0 D,Inn Pg cl d e D0 D m C (tin D)) (hv:∀ i ∈ vars t,i < nt)
 (hC:∀ σ σ1,Off (vars t) (sgb nt idx σ) σ1->C σ1) (x:tE Pg cl E d (.comp nt idx it t c m e) σ H Q):qI nt idx wi (tG cl t) (tCd Pg cl d c) tin σ H Q:=by
 obtain ⟨ρ,τ,h,n,s,rs,q⟩:=x.step
 refine di σ H _ (ev.then s rs (show Post cl ρ H E ((evs Pg n d (.i it) τ h).bind fun r h=>r.toV fun v=>(evs Pg n d (.cl v 0 t c m e h.n) (kO nt idx τ) (h.push (.lst []))).nox.bind fun _ h'=>.ok (.w (.ref h.n)) h') (VP Q) from q) fun a1 h1 ρ1 H1 b1 s1 p1=>?_)
 obtain ⟨v,rfl,p2⟩:=xF p1
 refine ⟨v,rfl,fun J hJ D hD=>?_⟩
 have s2:Sim cl (ρ1 ++ [D]) (h1.push (.lst [])) (upd H1 D (.lst [])):=s1.push hD ⟨[],.nil,aR⟩
 have gD:(ρ1 ++ [D])[h1.n]? =some D:=by rw [<- s1.len,List.getElem?_append_right (Nat.le_refl _),Nat.sub_self];rfl
 refine Dq (hin h1.n D) s2 ((Hj rs nt idx).mono (b1.1.trans (List.prefix_append _ _))) (hJ.mono (List.prefix_append _ _)) gD (fun i hi=>zW (hv i hi)) (fun σ1 o=>hC σ σ1 o) (Hi (p2.later (Bt.new hD)).bind) fun r h' ρ' H' b' s' q'=>?_
 exact Post.cH s' q' (.ref (dJ b'.1 gD))
theorem fW:PTs X [] (tCd Pg cl d none):=CP
variable {N':List Str} {sc:Scope} {nt:Nat} {idx:List Nat} {elt tg iter tg2 Jw:Expr} {ifs K8:List Expr} {gs:List Comprehension} {pos:Pos} {wi wi2:TI} {it it2:I} {t t2:Tg} {c c2:Option Ev.X} {e:Ev.X}
theorem iC (B:jE X N' sc nt idx) (hc:X.calm=true) (di:DI Pg cl E d X.K it wi) (hi:PI X tg iter wi) (hg:∀ C s₀ H₀ fp,PG (blk X N' sc C s₀ H₀ fp) tg (tG cl t)) (hif:∀ C s₀ H₀ fp,PTs (blk X N' sc C s₀ H₀ fp) ifs (tCd Pg cl d c)) (he:∀ C s₀ H₀ fp,PE (blk X N' sc C s₀ H₀ fp) elt (tE Pg cl E0 d e)) (hv:∀ i ∈ vars t,i < nt)
 (hs:∀ x,foldedSetIterable iter X.env x=pure x:=by intro _;rfl):PE X (.ListComp elt [⟨tg,iter,ifs,0⟩] sc pos) (tE Pg cl E d (.comp nt idx it t c none e)):=
 PE.of (CW B hc hi (Bk hg hif he) hs) fun _ _ _ q=>uD di (C:=fun _=>True) (fun _ _=>rO) hv (fun _ _ _=>trivial) q
theorem rP {σ0:L2.St} {i:Nat} {y:Str} {py spos:Pos} (hN:X.N.Nodup) (hi':X.N[i]? =some y) (hy:Loc X.env.scope y) (B:jE X N' sc nt idx) (hc:X.calm=true) (di:DI Pg cl E d X.K it wi) (hi:PI X tg iter wi) (hg:∀ C s₀ H₀ fp,PG (blk X N' sc C s₀ H₀ fp) tg (tG cl t)) (hif:∀ C s₀ H₀ fp,PTs (blk X N' sc C s₀ H₀ fp) ifs (tCd Pg cl d c)) (he:∀ C s₀ H₀ fp,PE (blk X N' sc C s₀ H₀ fp) elt (tE Pg cl E0 d e)) (hv:∀ i ∈ vars t,i < nt)
 (hsw:swapsWith (.ListComp elt [⟨tg,iter,ifs,0⟩] sc pos) (some (.Name y py)) spos.line X.env=pure true:=by rfl) (hs:∀ x,foldedSetIterable iter X.env x=pure x:=by intro _;rfl)
 (hf:X.fn y=true\/X.env.scope.names.lookup y=some .local:=by first | exact .inl rfl | exact .inr rfl | assumption):
 PS X (.Assign [.Name y py] (.ListComp elt [⟨tg,iter,ifs,0⟩] sc pos) spos) (tS Pg cl E d σ0 (.asg (.nm i) (.comp nt idx it t c none e))):=
 PS.of (CZ hN hi' hy B hc hi (Bk hg hif he) hsw hs hf) fun D σ H q=>by
 obtain ⟨ρ,τ,h,n,s,rs,p⟩:=rJ q
 exact uD di (C:=fun _=>True) (fun _ _=>rO) hv (fun _ _ _=>trivial) ⟨ρ,τ,h,n,s,rs,p.mono fun a h ρ H _ _ ⟨w,e,g⟩=>⟨w,e,fun v rv=>mW (g v rv)⟩⟩
end
section
variable {Pg:List Fn} {cl:Cn} {E:XK} {d:Nat} {X:Cx} {σ:L2.St} {H:Hp}
def spF (Pg:List Fn) (cl:Cn) (d f:Nat):Sp:=fun vs H Q E=>∃ ρ ws h n,Sim cl ρ h H/\RWs ρ ws vs/\Post cl ρ H E (evs Pg n d (.call f ws) [] h) (VP Q)
theorem call_of {f:Nat} {as:List Ev.X} {Q:VK} (x:tE Pg cl E d (.call f as) σ H Q):u_ (spF Pg cl d f) [] E (tA Pg cl E d as) σ H Q:=by
 obtain ⟨ρ,τ,h,n,s,rs,q⟩:=x.step
 refine ev.then s rs (show Post cl ρ H E ((evs Pg n d (.a as) τ h).bind fun a h=>a.toL fun ws=>evs Pg n d (.call f ws) [] h) (VP Q) from q) fun a1 h1 ρ1 H1 b1 s1 p1=>?_
 obtain ⟨ws,rfl,p2⟩:=jo p1
 exact ⟨ws,rfl,fun vs rv=>⟨ρ1,ws,h1,n,s1,by rw [List.append_nil];exact rv,p2⟩⟩
theorem mY {f:Nat} {ws:List W} {h:Hs} {n:Nat} {ρ:List Addr} {P:A->Hs->List Addr->Hp->Prop} (p:Post cl ρ H E (evs Pg n d (.call f ws) [] h) P):∃ n' d' F,d=d' + 1/\Pg[f]? =some F/\Post cl ρ H E (body (evs Pg n') d' h ws F) P:=by
 cases n with
 | zero=>exact p.elim
 | succ n=>
   cases d with
   | zero=>exact p.elim
   | succ d=>
     obtain ⟨F,e,q⟩:=cT (show Post cl ρ H E (Opt (nth Pg f) (body (evs Pg n) d h ws)) P from p)
     rw [dw] at e
     exact ⟨n,d,F,rfl,e,q⟩
theorem uE {np nn:Nat} {b:List S} {ws:List W} {h:Hs} {n:Nat} {ρ:List Addr} {P:A->Hs->List Addr->Hp->Prop} (p:Post cl ρ H E (body (evs Pg n) d h ws (.mk np nn b)) P):ws.length=np/\Post cl ρ H E ((evs Pg n d (.ss b) (frame nn ws) h).bind fun r h=>r.toF fun f=>nP h f) P:=by
 obtain ⟨e,q⟩:=rE (show Post cl ρ H E (ifB (Nat.beq (len ws) np) ((evs Pg n d (.ss b) (frame nn ws) h).bind fun r h=>r.toF fun f=>nP h f) .no) P from p)
 rw [len_eq] at e
 exact ⟨c7.mp e,q⟩
theorem zX {ρ:List Addr} {ws:List W} {vs:List V} (r:RWs ρ ws vs) (N:List Str):RS ρ (frame N.length ws) (L2.start N vs):=by
 unfold frame L2.start
 rw [dm,len_eq,r.length]
 have rep:∀ k:Nat,RS ρ (Nat.rec (motive:=fun _=>Sg) [] (fun _ r=>none::r) k) (List.replicate k none):=fun k=>by
  induction k with
  | zero=>exact .nil
  | succ k ih=>exact .cons trivial ih
 have app':∀ {a b:Sg} {u w:L2.St},RS ρ a u->RS ρ b w->RS ρ (a ++ b) (u ++ w):=by
  intro a b u w r1 r2
  induction r1 with
  | nil=>exact r2
  | cons x _ ih=>exact .cons x ih
 refine app' ?_ (rep _)
 have go:∀ {ws:List W} {vs:List V},RWs ρ ws vs->RS ρ (List.rec (motive:=fun _=>Sg) [] (fun w _ r=>some w::r) ws) (vs.map some):=by
  intro ws vs r
  induction r with
  | nil=>exact .nil
  | cons r1 _ ih=>exact .cons r1 ih
 exact go r
theorem gn {P:Program} {w:World} {K:PySem.W.Frag} {mg:Str->Option Value} {base:Heap} {k i:Nat} {x qual:Str} {st:Stmt} {f:Addr} {fd:FuncData} {N ps:List Str} {b:List S} (F:Fun K x qual st f fd) (Sc:aN N ps (aa st)) (hp:Pg[i]? =some (.mk ps.length N.length b))
 (hbody:∀ (σ0:L2.St) (cdv:Value) (A:Around) (outer:List Env) (s:Shared) (H:Hp) (E:XK),bR k (A.deeper (envOfC qual (aa st) s.heap.objs.size f cdv))->Passes (CXE P w) (jd (CXE P w) P w K mg base N qual (aa st) f cdv A outer s H E) E->
   PSs (jd (CXE P w) P w K mg base N qual (aa st) f cdv A outer s H E) (bQ st) (tSs Pg cl E d σ0 b)):b8 P w K mg base (CXE P w) (k + 1) f fd ps (spF Pg cl (d + 1) i):=by
 obtain ⟨oc,od,kV,doc,pm,an,cdv,ct,osl,rfl,lk,hcd⟩:=F.ex
 have K9:∀ vs H Q E,spF Pg cl (d + 1) i vs H Q E->vs.length=ps.length:=fun vs H Q E ⟨ρ,ws,h,n,s,r,p⟩=>by
  obtain ⟨n',d',F',e1,e2,q⟩:=mY p
  rw [hp] at e2;cases e2
  rw [<- r.length];exact (uE q).1
 refine vd lk hcd Sc K9 fun A outer s H vs Q E hr hsp=>?_
 obtain ⟨ρ,ws,h,n,s1,r,p⟩:=hsp
 obtain ⟨n',d',F',e1,e2,q⟩:=mY p
 rw [hp] at e2;cases e2
 cases e1
 obtain ⟨_,q2⟩:=uE q
 refine ⟨_,hbody (L2.start N vs) cdv A outer s H E hr (rA ⟨rfl,rfl,rfl⟩ rfl (fun _ _ _ z=>z)),ρ,frame N.length ws,h,n',s1,zX r N,fun _ _=>rfl,q2.bind.mono fun a h1 ρ1 H1 b1 s2 p2=>?_⟩
 obtain ⟨fl,rfl,p3⟩:=lg p2
 refine ⟨fl,rfl,?_⟩
 cases fl with
 | nx τ=>exact fun σ' _ _=>Post.cH s2 (show Post cl ρ1 H1 E (.ok (.w .non) h1) (VP Q) from p3) .non
 | rt w=>exact fun v rv=>Post.cH s2 (show Post cl ρ1 H1 E (.ok (.w w) h1) (VP Q) from p3) rv
 | bk τ=>exact p3.elim
 | ct τ=>exact p3.elim
theorem jt {k f:Nat} {fa:Addr} {fd:FuncData} {ps:List Str} {x:Str} {e:Expr} {es:List Expr} {y:Ev.X} {ys:List Ev.X} {p pos:Pos} (F:b8 X.prog X.w X.K X.mg X.base (CXE X.prog X.w) k fa fd ps (spF Pg cl d f)) (hr:bR k X.A) (hg:Gl X x) (hm:X.mg x=some (.ref fa)) (hk:PySem.W.keepIn X.K (.ref fa)=true) (hb:Binds X.K fd ps [])
 (hx:Passes (CXE X.prog X.w) X E) (ha:PA X (e::es) (tA Pg cl E d (y::ys))) (hdb:(x == ("__debug__":Str))=false:=by decide) (he:starEach (e::es) X.env=(false,eval e X.env)::starEach es X.env:=by rfl) (hpl:(backTo pos (starEach es X.env)).any (·.1)=false:=by rfl):
 PE X (.Call (.Name x p) (e::es) [] pos) (tE Pg cl E d (.call f (y::ys))):=PE.of (uh F hr hg hm hk hb .nil hx ha hdb he hpl) fun _ _ _ q=>call_of q
theorem Sim.other {ρ:List Addr} {h:Hs} {p:Addr} {u:HO} (s:Sim cl ρ h H) (e:H p=none):Sim cl ρ h (upd H p u) where
 len:=s.len
 nd:=s.nd
 obj:=fun n a hn=>by
  obtain ⟨o,q,y⟩:=s.obj n a hn
  refine ⟨o,q,y.keep (List.prefix_refl _) ?_⟩
  obtain ⟨w,hw⟩:=y.som
  exact aJ (bf hw e)
 tb:=s.tb.upd (by rw [e];trivial)
theorem Bt.other {ρ:List Addr} {p:Addr} {u:HO} (e:H p=none):Bt cl ρ H ρ (upd H p u):=⟨List.prefix_refl _,fun b v q nb=>by
 have q':upd H p u b=some v:=by rw [aJ (bf q e)];exact q
 exact ⟨nb,fun _=>q',v,q'⟩⟩
end
end Ev
namespace Ev
open PySem PySem.Spec PySem.SeqAt PyProof.Rows L2
section
variable {Pg:List Fn} {cl:Cn} {E:XK} {d:Nat} {X:Cx} {σ:L2.St} {H:Hp} {pins:List (Addr × Obj)} {s:Shared}
structure Mg (cl:Cn) (X:Cx) (c:Addr):Prop where
 on:cl.on=true
 code:X.env.code= .ref c
 hd:PySem.W.CodeHd X.base c cl.P
 bm:X.base.BuiltinsAt X.mg cl.P
 q:X.env.qual ++ "<lambda>" =cl.q
end
end Ev
namespace Ev
open PySem PySem.Spec PySem.SeqAt PyProof.Rows L2
section
variable {Pg:List Fn} {cl:Cn} {E:XK} {d:Nat} {X:Cx} {σ:L2.St} {H:Hp} {pins:List (Addr × Obj)} {s:Shared}
structure Mh (N':List Str) (sc:Scope):Prop where
 kind:sc.kind= .function
 co:sc.isCoroutine=false
 gen:sc.isGenerator=false
 free:∀ y ∈ sc.names,y.2 ≠ .cell
 isf:∀ x ∈ N',sc.names.lookup x=some .free
end
end Ev
namespace Ev
open PySem PySem.Spec PySem.SeqAt PyProof.Rows L2
section
variable {Pg:List Fn} {cl:Cn} {E:XK} {d:Nat} {X:Cx} {σ:L2.St} {H:Hp} {pins:List (Addr × Obj)} {s:Shared}
end
end Ev
namespace Ev
open PySem PySem.Spec PySem.SeqAt PyProof.Rows L2
section
variable {Pg:List Fn} {cl:Cn} {E:XK} {d:Nat} {X:Cx} {σ:L2.St} {H:Hp}
theorem fX {K:PySem.W.Frag} {tg l:Expr} {e:Ev.X} (hK:X.K=K) (he:PE X l (tE Pg cl E d e)):PI X tg l (fun σ H R=>uU K (tE Pg cl E d e) σ H R\/za K (tE Pg cl E d e) σ H R):=by
 subst hK;exact PI.or (ug he) (Fb he)
theorem zY {c a b:Expr} {x y z:Ev.X} {pos} (hc:PT X c (tT Pg cl E d x)) (ha:PE X a (tE Pg cl E d y)) (hb:PE X b (tE Pg cl E d z)):PE X (.IfExp c a b pos) (tE Pg cl E d (.ite x y z)):=PE.of (qR hc ha hb) fun _ _ _ q=>G6 q
theorem cW {P:Program} {w:World} {K:PySem.W.Frag} {mg:Str->Option Value} {base:Heap} {k i:Nat} {f:Addr} {fd:FuncData} {ps:List Str}:b8 P w K mg base (CXE P w) k f fd ps (spF Pg cl 0 i):=by
 have no:∀ vs H Q E,¬ spF Pg cl 0 i vs H Q E:=fun vs H Q E ⟨ρ,ws,h,n,s,r,p⟩=>by
  obtain ⟨_,_,_,e,_⟩:=mY p
  cases e
 exact ⟨fun vs H Q E z=>(no vs H Q E z).elim,fun _ _ _ _ _ _ _ _ _ _ _ _ _ z=>(no _ _ _ _ z).elim⟩
theorem jM {N':List Str} {sc:Scope} {C:Addr} {s₀:Shared} {H₀:Hp} {fp:List Addr}:Passes (CXE X.prog X.w) (blk X N' sc C s₀ H₀ fp) E0:=fun _ _ _ _ _ _ _ h=>(rz h).elim
end
end Ev
namespace Ev
open PySem PySem.Spec PySem.SeqAt PyProof.Rows L2
section
variable {Pg:List Fn} {cl:Cn} {E:XK} {d:Nat} {X:Cx} {σ:L2.St} {H:Hp}
def KTup (K:PySem.W.Frag) (a:Addr) (ns:List Int):Prop:=∀ H,SqT K H a (ns.map V.int)
inductive vN (K:PySem.W.Frag):List DictEntry->List (List Nat × List Int)->Prop
 | nil:vN K [] []
 | cons {hs c t a ns es tb}:KTup K a ns->vN K es tb->vN K (⟨hs,.str (nm c) t,.ref a⟩::es) ((c,ns)::tb)
structure Mu (K:PySem.W.Frag) (w:World) (da:Addr) (tb:List (List Nat × List Int)):Prop where
 ex:∃ (es:List DictEntry) (n:Nat),K.lookup da=some ⟨.type "dict",none,.dict es.toArray n,#[]⟩/\PySem.W.KeysLit w.params es/\vN K es tb
 ns:(da == sysModules)=false
end
end Ev
namespace Ev
open PySem PySem.Spec PySem.SeqAt PyProof.Rows L2
section
variable {Pg:List Fn} {cl:Cn} {E:XK} {d:Nat} {X:Cx} {σ:L2.St} {H:Hp}
theorem Sim.same {ρ:List Addr} {h:Hs} {H':Hp} (s:Sim cl ρ h H) (e:dW H H'):Sim cl ρ h H'/\Bt cl ρ H ρ H':=by
 refine ⟨⟨s.len,s.nd,fun n a q=>?_,fun on=>?_⟩,List.prefix_refl _,fun b u q nb=>⟨nb,fun _=>e b u q,u,e b u q⟩⟩
 · obtain ⟨o,ho,x⟩:=s.obj n a q
   obtain ⟨u,hu⟩:=x.som
   exact ⟨o,ho,x.keep (List.prefix_refl _) ((e a u hu).trans hu.symm)⟩
 · obtain ⟨ps,h1,h2,h3⟩:=s.tb on
   refine ⟨ps,e _ _ h1,h2,fun pos cv z=>?_⟩
   obtain ⟨c',e1,e2⟩:=h3 pos cv z
   exact ⟨c',e1,e _ _ e2⟩
end
end Ev
namespace Ev
open PySem L2
section
variable {Pg:List Fn} {cl:Cn} {E:XK} {d:Nat} {X:Cx} {σ σ0:L2.St} {H:Hp}
noncomputable def never:S:=.expr (.pr .neg [])
theorem Hl {a:S} {as:List S} {D:Ends} (x:tSs Pg cl E d σ0 (a::as) D σ H):yW (tS Pg cl E d σ0 a) (tSs Pg cl E d σ0 as) D σ H:=by
 obtain ⟨ρ,τ,h,n,s,rs,ag,q⟩:=x.step
 refine evS.then s rs ag (show Post cl ρ H E ((evs Pg n d (.s a) τ h).bind fun r h=>r.toF fun f=>Fl.rec (fun τ=>evs Pg n d (.ss as) τ h) (fun w=>.ok (.fl (.rt w)) h) (fun τ=>.ok (.fl (.bk τ)) h) (fun τ=>.ok (.fl (.ct τ)) h) f) (SPo σ0 D) from q) fun a1 h1 ρ1 H1 b1 s1 p1=>?_
 obtain ⟨f,rfl,p2⟩:=lg p1
 refine ⟨f,rfl,?_⟩
 cases f with
 | nx τ1=>exact fun σ1 rs1 ag1=>⟨ρ1,τ1,h1,n,s1,rs1,ag1,p2⟩
 | rt w=>
   obtain ⟨f,ef,qf⟩:=Post.now s1 (show Post cl ρ1 H1 E (.ok (.fl (.rt w)) h1) (SPo σ0 D) from p2)
   cases ef;exact qf
 | bk τ1=>
   obtain ⟨f,ef,qf⟩:=Post.now s1 (show Post cl ρ1 H1 E (.ok (.fl (.bk τ1)) h1) (SPo σ0 D) from p2)
   cases ef;exact qf
 | ct τ1=>
   obtain ⟨f,ef,qf⟩:=Post.now s1 (show Post cl ρ1 H1 E (.ok (.fl (.ct τ1)) h1) (SPo σ0 D) from p2)
   cases ef;exact qf
theorem nil_of {D:Ends} (x:tSs Pg cl E d σ0 [] D σ H):D.nx σ H:=by
 obtain ⟨ρ,τ,h,n,s,rs,ag,q⟩:=x.step
 obtain ⟨f,ef,qf⟩:=Post.now s (show Post cl ρ H E (.ok (.fl (.nx τ)) h) (SPo σ0 D) from q)
 cases ef
 exact qf σ rs ag
def tSx (Pg:List Fn) (cl:Cn) (E:XK) (d:Nat) (σ0:L2.St) (as:List S) (u:TS):TS:=fun D σ H=>tSs Pg cl E d σ0 as { D with nx:=u D } σ H
theorem zZ {st:Stmt} {rest:List Stmt} {a:S} {as:List S} {u:TS} (h1:PS X st (tS Pg cl E d σ0 a)) (h2:PSs X rest (tSx Pg cl E d σ0 as u)):PSs X (st::rest) (tSx Pg cl E d σ0 (a::as) u):=
 PSs.of (bw h1 h2) fun D σ H x=>Hl (D:={ D with nx:=u D }) x
theorem Dr {rest:List Stmt} {u:TS} (h2:PSs X rest u):PSs X rest (tSx Pg cl E d σ0 [] u):=PSs.of h2 fun D σ H x=>nil_of (D:={ D with nx:=u D }) x
def tSt (Pg:List Fn) (cl:Cn) (E:XK) (d:Nat) (as:List S) (u:TS):TS:=fun D σ H=>tSx Pg cl E d σ as u D σ H
theorem Ho {b:List Stmt} {a:List S} {u:TS} (h:∀ σ0,PSs X b (tSx Pg cl E d σ0 a u)):PSs X b (tSt Pg cl E d a u):=fun pins s σ H D I q=>h σ pins s σ H D I q
theorem RS.of {ρ:List Addr}:∀ {τ:Sg} {σ:L2.St},τ.length=σ.length->(∀ i w,aP τ i=some w->∃ v,σ[i]? =some (some v)/\RW ρ w v)->RS ρ τ σ
 | [],[],_,_=>.nil
 | [],_::_,e,_=>by simp at e
 | _::_,[],e,_=>by simp at e
 | o::τ,p::σ,e,h=>by
   refine .cons ?_ (RS.of (by simpa using e) fun i w q=>by simpa using h (i + 1) w q)
   cases o with
   | none=>cases p <;> trivial
   | some w=>
     obtain ⟨v,e1,r⟩:=h 0 w rfl
     simp at e1;subst e1
     exact r
theorem RS.len {ρ:List Addr} {τ:Sg} {σ:L2.St} (h:RS ρ τ σ):τ.length=σ.length:=Paired.length h
theorem Sim.none (t:Tb cl H):Sim cl [] (.mk 0 .lf) H:=⟨rfl,by simp,fun n a h=>by simp at h,t⟩
theorem Sim.adopt {ρ:List Addr} {h:Hs} {p:Addr} {o:O} (s:Sim cl ρ h H) (e:p ∉ ρ) (x:OA cl (ρ ++ [p]) H p o):Sim cl (ρ ++ [p]) (h.push o) H where
 len:=by rw [List.length_append,Hs.k_,s.len];rfl
 nd:=List.nodup_append.mpr ⟨s.nd,by simp,fun a ha b hb z=>by
  simp only [List.mem_singleton] at hb
  exact e (by rw [<- hb,<- z];exact ha)⟩
 obj:=fun n a hn=>by
  rw [Hs.iz]
  by_cases hlt:n < ρ.length
  · rw [List.getElem?_append_left hlt] at hn
    obtain ⟨o',q,y⟩:=s.obj n a hn
    exact ⟨o',by rw [if_neg (by rw [<- s.len];omega)];exact q,y.keep (List.prefix_append _ _) rfl⟩
  · have hn':n=ρ.length:=by
     have:=(List.getElem?_eq_some_iff.mp hn).1
     rw [List.length_append] at this
     simp at this;omega
    subst hn'
    rw [List.getElem?_append_right (Nat.le_refl _),Nat.sub_self] at hn
    simp at hn;subst hn
    exact ⟨o,by rw [if_pos s.len],x⟩
 tb:=s.tb
theorem Ds {a:Addr} {u:HO} (t:Tb cl H) (e:H a=some u) (n:∀ ps,u ≠ .tbl ps):cl.on=true->a ≠ cl.P:=fun on z=>by
 obtain ⟨ps,q,_⟩:=t on
 rw [<- z,e] at q
 exact n ps (Option.some.inj q)
theorem SqL.kept {K:PySem.W.Frag} {H':Hp} {a:Addr} {xs:List V} (h:SqL K H a xs) (f:∀ u,(∀ ps,u ≠ .tbl ps)->H a=some u->H' a=some u):SqL K H' a xs:=by
 rcases h with (e | ⟨o,e⟩) | h
 · exact .inl (.inl (f _ (fun _ z=>by cases z) e))
 · exact .inl (.inr ⟨o,f _ (fun _ z=>by cases z) e⟩)
 · exact .inr h
theorem Bt.kept {ρ ρ':List Addr} {H':Hp} {a:Addr} {u:HO} (b:Bt cl ρ H ρ' H') (t:Tb cl H) (n:∀ ps,u ≠ .tbl ps) (h:a ∉ ρ) (e:H a=some u):H' a=some u:=(b.2 a u e h).2.1 (Ds t e n)
theorem z6 {α:Type} {xs:List α} {i:Nat} {x:α} (h:xs[i]? =some x):xs.set i x=xs:=by
 apply List.ext_getElem?
 intro j
 rw [List.getElem?_set]
 by_cases e:i=j
 · subst e
   rw [if_pos rfl,h,if_pos (List.getElem?_eq_some_iff.mp h).1]
 · rw [if_neg e]
theorem rw_ints (ρ:List Addr):∀ ns:List Int,RWs ρ (ns.map W.int) (ns.map V.int)
 | []=>.nil
 | n::ns=>.cons (.int n) (rw_ints ρ ns)
theorem aq {x p} {es:List Expr} {a:Ev.X} {as:List Ev.X} (ha:PE X (.Name x p) (tE Pg cl E d a)) (hr:PA X es (tA Pg cl E d as)):PA X (.Name x p::es) (tA Pg cl E d (a::as)):=cV ha hr rfl
theorem cu {x k p} {es:List Expr} {a:Ev.X} {as:List Ev.X} (ha:PE X (.Constant x k p) (tE Pg cl E d a)) (hr:PA X es (tA Pg cl E d as)):PA X (.Constant x k p::es) (tA Pg cl E d (a::as)):=cV ha hr rfl
theorem z7 {x k p} {es:List Expr} {a:Ev.X} {as:List Ev.X} (ha:PE X (.Tuple x k p) (tE Pg cl E d a)) (hr:PA X es (tA Pg cl E d as)):PA X (.Tuple x k p::es) (tA Pg cl E d (a::as)):=cV ha hr rfl
theorem aM {x o y p} {es:List Expr} {a:Ev.X} {as:List Ev.X} (ha:PE X (.BinOp x o y p) (tE Pg cl E d a)) (hr:PA X es (tA Pg cl E d as)):PA X (.BinOp x o y p::es) (tA Pg cl E d (a::as)):=cV ha hr rfl
theorem gZ {f x k p} {es:List Expr} {a:Ev.X} {as:List Ev.X} (ha:PE X (.Call f x k p) (tE Pg cl E d a)) (hr:PA X es (tA Pg cl E d as)):PA X (.Call f x k p::es) (tA Pg cl E d (a::as)):=cV ha hr rfl
theorem fJ {x i p} {es:List Expr} {a:Ev.X} {as:List Ev.X} (ha:PE X (.Subscript x i p) (tE Pg cl E d a)) (hr:PA X es (tA Pg cl E d as)):PA X (.Subscript x i p::es) (tA Pg cl E d (a::as)):=cV ha hr rfl
theorem n8 {o x p} {es:List Expr} {a:Ev.X} {as:List Ev.X} (ha:PE X (.UnaryOp o x p) (tE Pg cl E d a)) (hr:PA X es (tA Pg cl E d as)):PA X (.UnaryOp o x p::es) (tA Pg cl E d (a::as)):=cV ha hr rfl
end
end Ev
namespace Ev
open PySem L2
structure QE (X:Cx) (e:Expr) (t:TE):Prop where
 h:PE X e t
structure QA (X:Cx) (e:List Expr) (t:TA):Prop where
 h:PA X e t
structure QS (X:Cx) (e:Stmt) (t:TS):Prop where
 h:PS X e t
structure QSs (X:Cx) (e:List Stmt) (t:TS):Prop where
 h:PSs X e t
section
variable {Pg:List Fn} {cl:Cn} {E:XK} {d:Nat} {X:Cx} {σ0:L2.St}
theorem bA {st:Stmt} {rest:List Stmt} {a:S} {as:List S} {u:TS} (h1:QS X st (tS Pg cl E d σ0 a)) (h2:QSs X rest (tSx Pg cl E d σ0 as u)):QSs X (st::rest) (tSx Pg cl E d σ0 (a::as) u):=⟨zZ h1.h h2.h⟩
theorem Dt {rest:List Stmt} {u:TS} (h2:QSs X rest u):QSs X rest (tSx Pg cl E d σ0 [] u):=⟨Dr h2.h⟩
theorem Du:QSs X [] qz:=⟨lR⟩
theorem Hq {b:List Stmt} {a:List S} {u:TS} (h:∀ σ0,QSs X b (tSx Pg cl E d σ0 a u)):QSs X b (tSt Pg cl E d a u):=⟨Ho fun σ0=>(h σ0).h⟩
theorem z8 {st:Stmt} {rest:List Stmt} {t u:TS} (h1:PS X st t) (h2:QSs X rest u):QSs X (st::rest) (yW t u):=⟨bw h1 h2.h⟩
theorem Hr {tg iter:Expr} {body:List Stmt} {wi:TI} {g:TG} {tb:TS} {pos:Pos} (hp:PassesOwn (model X.prog X.w) X.A X.env X.xe) (hc:X.calm=true) (hi:PI X tg iter wi) (hg:PG X tg g) (hb:QSs X body tb)
 (hs:∀ x,foldedSetIterable iter X.env x=pure x:=by intro _;rfl):PS X (.For tg iter body [] pos) (zc wi g tb):=qT hp hc hi hg hb.h hs
end
end Ev
namespace Ev
open PySem PyProof.Rows L2
theorem iU:∀ {ns:List Int} {us:List Value},Vals (ns.map V.int) us->IntsAre us ns
 | [],[],_=>.nil
 | [],_::_,h=>by cases h
 | _::_,[],h=>by cases h
 | n::ns,u::us,h=>by
   cases h with
   | cons h1 h2=>
     obtain ⟨t,rfl⟩:=h1
     exact .cons n t (iU h2)
section
variable {X:Cx}
variable {Pg:List Fn} {cl:Cn} {E:XK} {d:Nat}
theorem jN {ρ:List Addr}:∀ {xs:List W} {vs:List V} {ns:List Int},RWs ρ xs vs->cO xs=some ns->vs=ns.map V.int
 | [],_,_,.nil,e=>by cases e;rfl
 | x::xs,_,ns,.cons r rs,e=>by
   have e:W.elim x none (fun _=>none) (fun i=>Option.rec none (fun r=>some (i::r)) (cO xs)) (fun _=>none) (fun _=>none)=some ns:=e
   cases r with
   | int i=>
     cases z:cO xs with
     | none=>rw [z] at e;cases e
     | some r=>rw [z] at e;cases e;rw [jN rs z];rfl
   | non=>cases e
   | bl b=>cases e
   | str c=>cases e
   | ref h=>cases e
theorem iD (x:Int):∀ acc:List Int,dj x acc=acc.any (· == x)
 | []=>rfl
 | y::acc=>by
   show ifB (ieq y x) true (dj x acc)=((y == x) || acc.any (· == x))
   rw [fH,iD x acc]
   by_cases z:y=x
   · subst z;simp [ifB]
   · have:(y == x)=false:=by simpa using z
     rw [decide_eq_false z,this];rfl
theorem Bs:∀ (l acc:List Int),dd l acc=l.foldl step_dedup acc
 | [],_=>rfl
 | x::l,acc=>by
   show dd l (ifB (dj x acc) acc (app acc [x]))=l.foldl step_dedup (step_dedup acc x)
   rw [Bs l,iD,dm]
   unfold step_dedup
   cases acc.any (· == x) <;> rfl
end
end Ev
namespace Ev
open PySem PyProof.Rows L2
section
variable {X:Cx}
variable {Pg:List Fn} {cl:Cn} {E:XK} {d:Nat}
end
end Ev
namespace Ev
open PySem PySem.Spec PySem.SeqAt PyProof.Rows L2
section
variable {Pg:List Fn} {cl:Cn} {E:XK} {d:Nat} {X:Cx} {σ σ0:L2.St} {H:Hp}
theorem z9 {ρ:List Addr} {H:Hp} {ws:List W} {f:W->W->R A} {P:A->Hs->List Addr->Hp->Prop} (p:Post cl ρ H E (rD ws f) P):∃ a b,ws= [a,b]/\Post cl ρ H E (f a b) P:=by
 match ws,p with
 | [],p=>exact p.elim
 | [_],p=>exact p.elim
 | [a,b],p=>exact ⟨a,b,rfl,p⟩
 | _::_::_::_,p=>exact p.elim
theorem xR {τ:Sg} {ρ:List Addr} {w:W} {v:V} {i:Nat} (rs:RS ρ τ σ) (ag:Ag σ0 τ σ):Ag σ0 (setAt τ (some w) i) (σ.set i (some v)):=fun j hj=>by
 obtain ⟨b1,b2⟩:=pY (α:=Nat) τ w i j hj
 have len:τ.length=σ.length:=Paired.length rs
 by_cases z:j=i
 · have h1:=b2 z
   rw [<- ag j b1,List.getElem?_eq_none (by rw [List.length_set];omega),List.getElem?_eq_none (by omega)]
 · rw [List.getElem?_set_ne (Ne.symm z)];exact ag j b1
theorem Ht {i j:Nat} {a b:Ev.X} {D:Ends} (x:tS Pg cl E d σ0 (.par i j a b) D σ H):EY i j (tA Pg cl E d [a,b]) D σ H:=by
 obtain ⟨ρ,τ,h,n,s,rs,ag,q⟩:=x.step
 refine ev.then s rs (show Post cl ρ H E ((evs Pg n d (.a [a,b]) τ h).bind fun r h=>r.toL fun ws=>rD ws fun u w=>.ok (.fl (.nx (setAt (setAt τ (some u) i) (some w) j))) h) (SPo σ0 D) from q) fun a1 h1 ρ1 H1 b1 s1 p1=>?_
 obtain ⟨ws,rfl,p2⟩:=jo p1
 obtain ⟨u,w,rfl,p3⟩:=z9 p2
 refine ⟨_,rfl,fun vs rv=>?_⟩
 obtain ⟨f,ef,qf⟩:=p3.now s1
 cases ef
 cases rv with
 | cons r1 rt=>
   cases rt with
   | cons r2 rt=>
     cases rt
     have rs1:=rs.mono b1.1
     exact ⟨_,_,rfl,qf _ ((rs1.set r1 i).set r2 j) (xR (rs1.set r1 i) (xR rs1 ag))⟩
theorem ju {i j:Nat} {x y:Str} {a b:Expr} {ea eb:Ev.X} {px py pt:Pos} {kt k2 pt2} {pos:Pos} (hc:X.calm=true) (hN:X.N.Nodup) (hi:X.N[i]? =some x) (hj:X.N[j]? =some y) (ha:PA X [a,b] (tA Pg cl E d [ea,eb])) (hij:i ≠ j:=by decide)
 (hx:X.env.scope.names.lookup x=some .local:=by rfl) (hy:X.env.scope.names.lookup y=some .local:=by rfl)
 (hw:swappedStores [.Tuple [.Name x px,.Name y py] kt pt] (.Tuple [a,b] k2 pt2) X.env=pure (some [x,y]):=by rfl)
 (hs:swapsWithSole [.Tuple [.Name x px,.Name y py] kt pt] (.Tuple [a,b] k2 pt2) pos.line X.env=pure false:=by rfl):
 PS X (.Assign [.Tuple [.Name x px,.Name y py] kt pt] (.Tuple [a,b] k2 pt2) pos) (tS Pg cl E d σ0 (.par i j ea eb)):=
 PS.of (E_ hc hN hi hj hij hx hy ha hw hs) fun _ _ _ q=>Ht q
noncomputable def frm (n:Nat) (kv:List (Nat × W)):Sg:=kv.foldr (fun p τ=>setAt τ (some p.2) p.1) (List.replicate n none)
theorem uF {n:Nat}:∀ {kv:List (Nat × W)},(frm n kv).length=n
 | []=>List.length_replicate
 | p::kv=>by
   show (setAt (frm n kv) (some p.2) p.1).length=n
   rw [fU,List.length_set];exact uF
theorem uG {n i:Nat} {w:W}:∀ {kv:List (Nat × W)},aP (frm n kv) i=some w->∃ p ∈ kv,p=(i,w)
 | [],e=>by
   exfalso
   rw [fV] at e
   rw [show frm n [] =List.replicate n none from rfl,List.getElem?_replicate] at e
   split at e <;> cases e
 | p::kv,e=>by
   have e':aP (setAt (frm n kv) (some p.2) p.1) i=some w:=e
   by_cases z:p.1=i
   · refine ⟨p,by simp,?_⟩
     rw [fU,fV,z,List.getElem?_set] at e'
     rw [if_pos rfl] at e'
     split at e'
     · have:p.2=w:=by simpa using e'
       rw [<- z,<- this]
     · cases e'
   · rw [fU,fV,List.getElem?_set_ne z,<- fV] at e'
     obtain ⟨q,hq,e2⟩:=uG e'
     exact ⟨q,List.mem_cons_of_mem _ hq,e2⟩
theorem Hu {n:Nat} {kv:List (Nat × W)} {ρ:List Addr} (hn:σ.length=n) (hk:∀ i w,(i,w) ∈ kv->∃ v,σ[i]? =some (some v)/\RW ρ w v):RS ρ (frm n kv) σ:=RS.of (by rw [uF,hn]) fun i w e=>by
 obtain ⟨p,hp,rfl⟩:=uG e
 exact hk i w hp
end
end Ev
namespace Ev
open PySem PySem.Spec PySem.SeqAt PyProof.Rows L2
section
variable {P:Program} {w:World} {K:PySem.W.Frag} {mg:Str->Option Value} {base:Heap}
theorem okE {CX:CXT} {x qual:Str} {st:Stmt} {f:Addr} {fd:FuncData} {N ps:List Str} {k:Nat} {sp:Sp} (F:Fun K x qual st f fd) (S:aN N ps (aa st)) (len:∀ vs H Q E,sp vs H Q E->vs.length=ps.length)
 (hbody:∀ (cdv:Value) (A:Around) (outer:List Env) (s:Shared) (H:Hp) (vs:List V) (Q:VK) (E:XK),bR k (A.deeper (envOfC qual (aa st) s.heap.objs.size f cdv))->sp vs H Q E->
   ∃ t,PSs (jd CX P w K mg base N qual (aa st) f cdv A outer s H E) (bQ st) t/\t { nx:=fun _ H'=>Q .non H',rt:=Q } (L2.start N vs) H):b8 P w K mg base CX (k + 1) f fd ps sp:=by
 obtain ⟨oc,od,kV,doc,pm,an,cdv,ct,osl,rfl,lk,hcd⟩:=F.ex
 exact vd lk hcd S len fun A outer s H vs Q E hr hsp=>hbody cdv A outer s H vs Q E hr hsp
def qM (K:PySem.W.Frag):Sp:=fun vs H Q _=>∃ (a:Addr) (ns:List Int),vs= [.ref a]/\SqL K H a (ns.map V.int)/\ns.length <= 63/\∀ H',Q (.bl true) H'
theorem Hv {cl:Cn} {H:Hp} (h:cl.on=false):Tb cl H:=fun on=>by rw [h] at on;cases on
theorem xT {i:Int} (h1: -(2 ^ 20) < i) (h2:i < 2 ^ 20):L2.Sml i:=by
 unfold L2.Sml
 exact Nat.lt_of_lt_of_le (show i.natAbs < 2 ^ 20 by omega) (Nat.pow_le_pow_right (by decide) (by decide))
def below (n:Nat):List Int:=(List.range n).map Int.ofNat
end
section
variable {Pg:List Fn} {cl:Cn} {E:XK} {d:Nat} {X:Cx} {σ σ0:L2.St} {H:Hp}
noncomputable def rQ (row:List Int):Hs:=(Hs.mk 0 .lf).push (.lst (row.map W.int))
def Kept (cl:Cn) (n:Nat) (r:Addr) (σ:L2.St) (H:Hp) (σ':L2.St) (H':Hp):Prop:=σ'.length=n/\σ'[0]? =σ[0]?/\Tb cl H'/\∀ a u,a ≠ r->(∀ ps,u ≠ .tbl ps)->H a=some u->H' a=some u
noncomputable def again (Pg:List Fn) (m d i:Nat) (tl:List S) (row:List Int) (τ:Sg) (h:Hs):R A:=evs Pg m d (.ss tl) (setAt τ (some (.ref h.n)) i) (h.push (.lst (row.map W.int)))
end
end Ev
namespace Ev
open L2
end Ev
namespace Ev
open PySem L2
theorem abs_eq (i:Int):(if i < 0 then -i else i)=Int.ofNat i.natAbs:=by
 show _=((i.natAbs:Nat):Int)
 split <;> omega
theorem lu {X:Cx}:eO X (Value.builtin "abs") (fun xs H Q=>∃ i,xs= [V.int i]/\Q (V.int (Int.ofNat i.natAbs)) H):=by
 have h:=qU (X:=X)
 simp only [abs_eq] at h
 exact h
end Ev
namespace Ev
open PySem PySem.Spec PySem.SeqAt PyProof.Rows L2
section
variable {Pg:List Fn} {cl:Cn} {E:XK} {d:Nat} {X:Cx} {σ σ0:L2.St} {H:Hp}
noncomputable def post (i:Nat) (r:R A):Option (Nat × Option W × Option O):=R.rec (fun a h=>A.rec (fun _=>none) (fun _=>none) (fun _=>none) (fun f=>Fl.rec (fun τ=>some (len τ,aP τ i,h.get 0)) (fun _=>none) (fun _=>none) (fun _=>none) f) none a) (fun _ _ _=>none) none r
end
end Ev
namespace Ev
open PySem PySem.Spec PySem.SeqAt PyProof.Rows L2
section
variable {ρ:List Addr}
end
section
variable {Pg:List Fn} {cl:Cn} {E:XK} {d:Nat} {X:Cx} {σ σ0:L2.St} {H:Hp}
end
end Ev
namespace L2
end L2
namespace Ev
open PySem PySem.Spec PySem.SeqAt PyProof.Rows L2
section
variable {Pg:List Fn} {cl:Cn} {E:XK} {d:Nat} {X:Cx} {σ0:L2.St}
end
end Ev
namespace Ev
open PySem PySem.Spec PySem.SeqAt PyProof.Rows L2
noncomputable section
def heapOf (os:List O):Hs:=os.foldl (fun h o=>h.push o) (.mk 0 .lf)
def Jq (n:Nat) (ns:List Nat):Bool:=List.rec true (fun x _ r=>ifB (Nat.beq x n) false r) ns
end
section
variable {Pg:List Fn} {cl:Cn} {E:XK} {d:Nat} {X:Cx} {σ σ0:L2.St} {H:Hp} {ρ:List Addr} {h:Hs} {m:List Nat}
theorem Jx {b c:Bool} (e:ifB b c false=true):b=true/\c=true:=by cases b with | true=>exact ⟨rfl,e⟩ | false=>cases e
theorem mL (os:List O) (o:O):heapOf (os ++ [o])=(heapOf os).push o:=by unfold heapOf;rw [List.foldl_append];rfl
theorem t_:∀ (os:List O),(heapOf os).n=os.length/\∀ k,(heapOf os).get k=os[k]?:=by
 intro os
 generalize e:os.length=n
 induction n generalizing os with
 | zero=>
   have:os= []:=List.length_eq_zero_iff.mp e
   subst this
   exact ⟨rfl,fun k=>by cases k <;> rfl⟩
 | succ n ih=>
   obtain ⟨xs,x,rfl⟩:∃ xs x,os=xs ++ [x]:=⟨os.dropLast,os.getLast (by intro z;rw [z] at e;cases e),(List.dropLast_concat_getLast _).symm⟩
   have l:xs.length=n:=by simpa using e
   obtain ⟨h1,h2⟩:=ih xs l
   rw [mL]
   refine ⟨by rw [Hs.k_,h1],fun k=>?_⟩
   rw [Hs.iz,h1]
   by_cases z:k=n
   · subst z
     rw [if_pos rfl,List.getElem?_append_right (by omega),l,Nat.sub_self];rfl
   · rw [if_neg z,h2]
     by_cases q:k < n
     · rw [List.getElem?_append_left (by omega)]
     · rw [List.getElem?_eq_none (by omega),List.getElem?_eq_none (by rw [List.length_append,l];simp;omega)]
structure CS (cl:Cn) (n i:Nat) (kv:List (Nat × W)) (os:List O) (r:Addr) (row:List V) (σ:L2.St) (H:Hp):Prop where
 len:σ.length=n
 at_:σ[i]? =some (some (.ref r))
 row:H r=some (.lst row)
 sim:∃ ρ,Sim cl ρ (heapOf os) H/\RS ρ (frm n kv) σ/\r ∉ ρ
end
end Ev
namespace Ev
open PySem PySem.Spec PySem.SeqAt PyProof.Rows L2
section
variable {Pg:List Fn} {cl:Cn} {E:XK} {d:Nat} {X:Cx} {σ σ0:L2.St} {H:Hp} {ρ:List Addr} {h:Hs}
end
end Ev
namespace Ev
open PySem PySem.Spec PySem.SeqAt PyProof.Rows L2
section
variable {Pg:List Fn} {cl:Cn} {E:XK} {d:Nat} {X:Cx} {H H' H'':Hp} {ρ:List Addr}
end
end Ev
namespace Ev
open PySem PySem.Spec PySem.SeqAt PyProof.Rows L2
section
variable {Pg:List Fn} {cl:Cn} {E:XK} {d:Nat} {X:Cx} {H H' H'':Hp} {ρ:List Addr}
end
end Ev
namespace Ev
open PySem PySem.Spec PySem.SeqAt PyProof.Rows L2
end Ev
namespace Ev
open PySem PySem.Spec PySem.SeqAt PyProof.Rows L2
variable {Pg:List Fn} {cl:Cn} {E:XK} {d:Nat} {X:Cx}
end Ev
namespace Ev
open PySem L2
section
variable {Pg:List Fn} {cl:Cn} {E:XK} {d:Nat} {X:Cx} {σ0:L2.St}
theorem fsc {N P:List Str} {sc:Scope} (h4:N.Nodup) (h6:∀ x ∈ P,sc.names.lookup x=some .local\/sc.names.lookup x=some .cell) (h7:∀ y ∈ sc.names,y.2 ≠ .free) (h1:sc.kind= .function:=by rfl) (h2:sc.isCoroutine=false:=by rfl) (h3:sc.isGenerator=false:=by rfl) (h5:N.take P.length=P:=by rfl):aN N P sc:=⟨h1,h2,h3,h4,h5,h6,h7⟩
theorem dv (i:Nat) {x:Str} {pos:Pos} (hN:X.N[i]? =some x:=by rfl) (hv:Vis X.env.scope x:=by first | exact Or.inl rfl | exact Or.inr (Or.inl rfl) | exact Or.inr (Or.inr rfl)) (hd:(x == ("__debug__":Str))=false:=by decide)
 (hcd:(x == ("__classdict__":Str))=false:=by decide):PE X (.Name x pos) (tE Pg cl E d (.var i)):=GD hN hv hd hcd
theorem dM (i:Nat) {x:Str} {pos:Pos} (hN:X.N.Nodup) (hi:X.N[i]? =some x:=by rfl) (hx:Loc X.env.scope x:=by first | exact Or.inl rfl | exact Or.inr rfl) (hf:X.fn x=true\/X.env.scope.names.lookup x=some .local:=by first | exact .inl rfl | exact .inr rfl | assumption):PG X (.Name x pos) (tG cl (.nm i)):=Dl hN hi hx hf
theorem iV (i:Nat) {x:Str} {e:Expr} {y:Ev.X} {pos pos':Pos} (hN:X.N.Nodup) (he:PE X e (tE Pg cl E d y)) (hi:X.N[i]? =some x:=by rfl) (hx:Loc X.env.scope x:=by first | exact Or.inl rfl | exact Or.inr rfl) (hs:swapsWith e (some (.Name x pos')) pos.line X.env=pure false:=by rfl) (hf:X.fn x=true\/X.env.scope.names.lookup x=some .local:=by first | exact .inl rfl | exact .inr rfl | assumption):
 PS X (.Assign [.Name x pos'] e pos) (tS Pg cl E d σ0 (.asg (.nm i) y)):=G_ hN hi hx he hs hf
theorem gw {k k' f:Nat} {fa:Addr} {fd:FuncData} {ps:List Str} {x:Str} {st:Stmt} {e:Expr} {es:List Expr} {y:Ev.X} {ys:List Ev.X} {p pos:Pos} (F:b8 X.prog X.w X.K X.mg X.base (CXE X.prog X.w) k fa fd ps (spF Pg cl d f)) (D:Df X.K X.mg x st ps fa fd) (hr:bR k' X.A)
 (hx:Passes (CXE X.prog X.w) X E) (ha:PA X (e::es) (tA Pg cl E d (y::ys))) (hk:k <= k':=by omega) (hg:Gl X x:=by rfl) (hdb:(x == ("__debug__":Str))=false:=by decide) (he:starEach (e::es) X.env=(false,eval e X.env)::starEach es X.env:=by rfl) (hpl:(backTo pos (starEach es X.env)).any (·.1)=false:=by rfl):
 PE X (.Call (.Name x p) (e::es) [] pos) (tE Pg cl E d (.call f (y::ys))):=jt F (hr.mono hk) hg D.mg D.fn.kp D.bd hx ha hdb he hpl
end
end Ev
namespace Ev
open PySem L2
def Qn (ps:List Str) (P:List Value->Prop):Prop:=match ps with
 | []=>P []
 | _::ps=>∀ v,Qn ps fun us=>P (v::us)
theorem xU:∀ {ps:List Str} {P:List Value->Prop},Qn ps P->∀ us:List Value,us.length=ps.length->P us
 | [],_,h,[],_=>h
 | [],_,_,_::_,e=>by simp at e
 | _::_,_,_,[],e=>by simp at e
 | _::_,_,h,v::us,e=>xU (h v) us (by simpa using e)
section
variable {K:PySem.W.Frag} {x q m:Str} {st:Stmt} {f C:Addr} {fd:FuncData} {ps:List Str} {h:Heap} {mg:Str->Option Value}
theorem fbn (F:Fun K x q st f fd) (b:∀ kV doc pm an cdv ct,Qn ps fun us=>bindArgs (PySem.W.fnOf x q (dH st) (bQ st) (aa st) .none kV doc pm an cdv ct) ⟨us,[]⟩ =pure (ps.zip us):=by (repeat intro _);exact rfl):Binds K fd ps []:=
 F.binds fun kV doc pm an cdv ct us hl=>xU (b kV doc pm an cdv ct) us hl
structure DK (K:PySem.W.Frag) (x:Str) (st:Stmt) (f:Addr) (fd:FuncData):Prop where
 F:Fun K x x st f fd
 a:PySem.W.nsIn K mainGlobals x=some (some (.ref f))
theorem DK.df (D:DK K x st f fd) (X:K.In h) (G:h.Ns mainGlobals mg) (b:∀ kV doc pm an cdv ct,Qn ps fun us=>bindArgs (PySem.W.fnOf x x (dH st) (bQ st) (aa st) .none kV doc pm an cdv ct) ⟨us,[]⟩ =pure (ps.zip us):=by (repeat intro _);exact rfl):Df K mg x st ps f fd:=⟨D.F,fbn D.F b,PySem.W.mg_of X G D.a⟩
theorem dN {oc:Value} {od an:Option Addr} {osl:Array (Option Value)} {kV doc pm cdv ct:Value} (a:PySem.W.nsIn K mainGlobals x=some (some (.ref f))) (l:K.lookup f=some ⟨oc,od,.func (PySem.W.fnOf x x (dH st) (bQ st) (aa st) .none kV doc pm an cdv ct),osl⟩)
 (c:PySem.W.codeIn K cdv x=true) (k:PySem.W.keepIn K (.ref f)=true):∃ fd,DK K x st f fd:=⟨_,w5 l c k,a⟩
structure MK (K:PySem.W.Frag) (C:Addr) (m q:Str) (st:Stmt) (f:Addr) (fd:FuncData):Prop where
 F:Fun K m q st f fd
 a:PySem.W.findIn K (.ref C) m=some (some (.ref f))
 n:PySem.W.isFn K (.ref f)=true
structure IK (K:PySem.W.Frag) (C:Addr) (m q:Str) (st:Stmt) (f:Addr) (fd:FuncData):Prop where
 F:Fun K m q st f fd
 a:PySem.W.findIn K (.ref C) m=some (some (.ref f))
 n:PySem.W.typeIn K (.ref f)=some (.type "function")
section
variable {n q':Str} {N S:Addr} {bs sub:List Value} {sn:List Str} {ab:Bool} {col:Option Bool} {dd:Option Addr} {k0 k1 k2 k3 k5:Option Value}
structure XK1 (K:PySem.W.Frag) (C S:Addr):Prop where
 X:Gk K C
 k:PySem.W.keepIn K (.ref C)=true
 w:Fj K C "word"
 s:KR K C S
end
end
end Ev
namespace Ev
open PySem PyProof.Rows L2
noncomputable section
end
section
variable {X:Cx}
variable {cl:Cn}
end
end Ev
namespace Ev
open PySem PyProof.Rows L2
section
variable {Pg:List Fn} {cl:Cn} {E:XK} {d:Nat} {X:Cx}
theorem uH (h:Hs) (u v:W):(∃ b,aU .le [u,v] h= .ok (.bl b) h)\/aU .le [u,v] h= .no:=by
 cases u <;> cases v <;> first | exact .inr rfl | exact .inl ⟨_,rfl⟩
end
end Ev
namespace Ev
open PySem PySem.Spec PySem.SeqAt PyProof.Rows L2
section
variable {Pg:List Fn} {cl:Cn} {E:XK} {d:Nat} {X:Cx} {σ σ0:L2.St} {H H0:Hp} {ρ:List Addr} {h:Hs}
def Far (r:Addr) (H0 H:Hp) (ρ:List Addr):Prop:=∀ a u,a ≠ r->(∀ ps,u ≠ .tbl ps)->H0 a=some u->a ∉ ρ/\H a=some u
theorem Far.bt {r:Addr} {H':Hp} {ρ':List Addr} (f:Far r H0 H ρ) (b:Bt cl ρ H ρ' H') (t:Tb cl H):Far r H0 H' ρ':=fun a u na nu e=>by
 obtain ⟨n,q⟩:=f a u na nu e
 exact ⟨(b.2 a u q n).1,b.kept t nu n q⟩
structure CT (cl:Cn) (n i:Nat) (kv:List (Nat × W)) (os:List O) (r:Addr) (row:List V) (σ0:L2.St) (H0:Hp) (σ:L2.St) (H:Hp):Prop where
 len:σ.length=n
 z:σ[0]? =σ0[0]?
 at_:σ[i]? =some (some (.ref r))
 row:H r=some (.lst row)
 sim:∃ ρ,Sim cl ρ (heapOf os) H/\RS ρ (frm n kv) σ/\r ∉ ρ/\Far r H0 H ρ
noncomputable def off (τ:Sg) (i:Nat):Bool:=Option.rec true (fun _=>false) (aP τ i)
theorem Hw {τ:Sg} {i:Nat} (e:off τ i=true):aP τ i=none:=by
 unfold off at e
 cases z:aP τ i with
 | none=>rfl
 | some _=>rw [z] at e;cases e
theorem CT.in {n i:Nat} {kv:List (Nat × W)} {os:List O} {r:Addr} {row:List Int} (c:CT cl n i kv os r (row.map V.int) σ0 H0 σ H):∃ ρ,Sim cl (ρ ++ [r]) (heapOf (os ++ [.lst (row.map W.int)])) H/\RS (ρ ++ [r]) (frm n ((i,.ref os.length)::kv)) σ/\(ρ ++ [r])[os.length]? =some r/\Far r H0 H (ρ ++ [r]):=by
 obtain ⟨ρ,s,rs,nr,fa⟩:=c.sim
 have s2:=s.adopt (o:=.lst (row.map W.int)) nr ⟨_,rw_ints _ row,c.row⟩
 rw [<- mL] at s2
 have hl:ρ.length=os.length:=by rw [s.len,(t_ os).1]
 have g:(ρ ++ [r])[os.length]? =some r:=by rw [<- hl,List.getElem?_append_right (Nat.le_refl _),Nat.sub_self];rfl
 have z:=(rs.mono (List.prefix_append ρ [r])).set (w:=.ref os.length) (v:=.ref r) (.ref g) i
 rw [z6 c.at_] at z
 refine ⟨ρ,s2,z,g,fun a u na nu eu=>?_⟩
 obtain ⟨n1,q⟩:=fa a u na nu eu
 exact ⟨fun y=>(List.mem_append.mp y).elim n1 fun y=>na (by simpa using y),q⟩
noncomputable def z_ (n:Nat) (r:R A):Bool:=R.rec (fun a _=>A.rec (fun _=>false) (fun _=>false) (fun _=>false) (fun fl=>Fl.rec (fun τ=>ifB (Nat.beq (len τ) n) (off τ 0) false) (fun _=>false) (fun _=>false) (fun τ=>ifB (Nat.beq (len τ) n) (off τ 0) false) fl) false a) (fun _ _ _=>false) false r
theorem Hx {n i m:Nat} {kv:List (Nat × W)} {os:List O} {tl:List S} {D:Ends} {r:Addr} {row:List Int} (c:CT cl n i kv os r (row.map V.int) σ0 H0 σ H)
 (run:z_ n (evs Pg m d (.ss tl) (frm n ((i,.ref os.length)::kv)) (heapOf (os ++ [.lst (row.map W.int)])))=true) (k:∀ σ' H',Kept cl n r σ0 H0 σ' H'->D.nx σ' H'/\D.ct σ' H'):tSt Pg cl E d tl qz D σ H:=by
 obtain ⟨ρ,s,rs,g,fa⟩:=c.in
 have key:∀ ρ' H' σ' τ' h',Bt cl (ρ ++ [r]) H ρ' H'->Sim cl ρ' h' H'->RS ρ' τ' σ'->Ag σ τ' σ'->ifB (Nat.beq (Ev.len τ') n) (off τ' 0) false=true->D.nx σ' H'/\D.ct σ' H':=fun ρ' H' σ' τ' h' b s' rs' ag e=>by
  obtain ⟨e1,e2⟩:=Jx e
  rw [len_eq] at e1
  have fa':=fa.bt b s.tb
  exact k σ' H' ⟨by rw [<- rs'.len];exact Nat.eq_of_beq_eq_true e1,(ag 0 (Hw e2)).trans c.z,s'.tb,fun a u na nu eu=>(fa' a u na nu eu).2⟩
 refine ⟨_,_,_,m,s,rs,fun _ _=>rfl,?_⟩
 generalize evs Pg m d (.ss tl) (frm n ((i,.ref os.length)::kv)) (heapOf (os ++ [.lst (row.map W.int)]))=rr at run
 cases rr with
 | ok a h'=>
   cases a with
   | fl fl=>
     cases fl with
     | nx τ'=>exact fun ρ' H' bt s'=>⟨_,rfl,fun σ' rs' ag=>(key ρ' H' σ' τ' h' bt s' rs' ag run).1⟩
     | ct τ'=>exact fun ρ' H' bt s'=>⟨_,rfl,fun σ' rs' ag=>(key ρ' H' σ' τ' h' bt s' rs' ag run).2⟩
     | _=>cases run
   | _=>cases run
 | _=>cases run
end
end Ev
namespace Ev
open PySem PySem.Spec PySem.SeqAt PyProof.Rows L2
section
variable {Pg:List Fn} {cl:Cn} {E:XK} {d:Nat} {X:Cx} {σ σ0:L2.St} {H H':Hp} {ρ ρ' ρ2:List Addr} {h h2:Hs}
def KVs (ρ:List Addr) (kv:List (Nat × W)) (σ:L2.St):Prop:=∀ j w,(j,w) ∈ kv->∃ v,σ[j]? =some (some v)/\RW ρ w v
structure C2 (cl:Cn) (n i:Nat) (kv:List (Nat × W)) (os:List O) (kw:List (Nat × W)) (ot:List O) (r:Addr) (row:List V) (σ:L2.St) (H:Hp):Prop where
 len:σ.length=n
 at_:σ[i]? =some (some (.ref r))
 row:H r=some (.lst row)
 sim:∃ ρ ρ2,Sim cl ρ (heapOf os) H/\KVs ρ kv σ/\r ∉ ρ/\Sim cl ρ2 (heapOf ot) H/\KVs ρ2 kw σ/\r ∉ ρ2/\∀ a ∈ ρ2,a ∉ ρ
end
end Ev
namespace Ev
open PySem PySem.Spec PySem.SeqAt PyProof.Rows L2
noncomputable section
end
section
variable {Pg:List Fn} {cl:Cn} {E:XK} {d:Nat} {X:Cx} {σ:L2.St} {H:Hp}
end
end Ev
namespace Ev
open PySem PySem.Spec PySem.SeqAt PyProof.Rows L2
noncomputable section
end
section
variable {Pg:List Fn} {cl:Cn} {E:XK} {d:Nat} {X:Cx} {σ:L2.St} {H:Hp} {ρ:List Addr}
abbrev K_ (Pg:List Fn) (cl:Cn) (E:XK) (d:Nat) (cs:List (List Nat)) (es:List Ev.X):List (TE × TE):=List.zipWith (fun c e=>(tE Pg cl E d (.cst (.str c)),tE Pg cl E d e)) cs es
end
end Ev
namespace Ev
open PySem L2
noncomputable section
end
section
variable {Pg:List Fn} {cl:Cn} {E:XK} {d:Nat} {X:Cx}
end
end Ev
namespace Ev
open PySem L2
section
variable {Pg:List Fn} {cl:Cn} {E:XK} {d:Nat} {X:Cx}
structure QPs (X:Cx) (pos:Pos) (keys:List (Option Expr)) (values:List Expr) (Pg:List Fn) (cl:Cn) (E:XK) (d:Nat) (cs:List (List Nat)) (es:List Ev.X):Prop where
 h:PPs X pos keys values (K_ Pg cl E d cs es)
end
end Ev
namespace Ev
open PySem L2
section
variable {Pg:List Fn} {cl:Cn} {E:XK} {d:Nat} {X:Cx}
end
end Ev
namespace Ev
open PySem L2
section
variable {cl:Cn}
end
end Ev
namespace Ev
open PySem PyProof.Rows L2
noncomputable section
def rR (i:Int) (xs:List Int):List Int:=List.rec [i] (fun x xs r=>ifB (ilt x i) (x::r) (i::x::xs)) xs
def jO (xs:List Int):List W:=List.rec [] (fun x _ r=>W.int x::r) xs
def bZ (xs:List Int):List Int:=List.rec [] (fun x _ r=>rR x r) xs
def Dv (h:Hs) (a:W):R W:=h.at a fun _ o=>o.onL fun xs=>ifB (Nat.ble (len xs) 60) (Opt (cO xs) fun ns=>.alloc h (.lst (jO (bZ ns)))) .no
def Pr.sorted:Pr:=⟨fun ws h=>cj ws (Dv h)⟩
end
section
variable {X:Cx}
theorem gH:∀ {ns:List Int} {us:List Value},IntsAre us ns->Vals (ns.map V.int) us
 | [],_,.nil=>.nil
 | _::_,_,.cons n t h=>.cons ⟨t,rfl⟩ (gH h)
theorem lz (i:Int):∀ xs:List Int,(rR i xs).Perm (i::xs)
 | []=>.refl _
 | x::xs=>by
   show (ifB (ilt x i) (x::rR i xs) (i::x::xs)).Perm (i::x::xs)
   cases ilt x i with
   | false=>exact .refl _
   | true=>exact ((lz i xs).cons x).trans (.swap i x xs)
theorem gJ:∀ xs:List Int,(bZ xs).Perm xs
 | []=>.refl _
 | x::xs=>(lz x (bZ xs)).trans ((gJ xs).cons x)
theorem mO (i:Int):∀ xs:List Int,xs.Pairwise (· <= ·)->(rR i xs).Pairwise (· <= ·)
 | [],_=>List.pairwise_singleton _ _
 | x::xs,h=>by
   show (ifB (ilt x i) (x::rR i xs) (i::x::xs)).Pairwise (· <= ·)
   have h':=List.pairwise_cons.mp h
   rw [bL]
   by_cases z:x < i
   · rw [decide_eq_true z]
     refine List.pairwise_cons.mpr ⟨fun y hy=>?_,mO i xs h'.2⟩
     rcases List.mem_cons.mp ((lz i xs).mem_iff.mp hy) with e | e
     · subst e;omega
     · exact h'.1 y e
   · rw [decide_eq_false z]
     refine List.pairwise_cons.mpr ⟨fun y hy=>?_,h⟩
     rcases List.mem_cons.mp hy with e | e
     · subst e;omega
     · have:=h'.1 y e;omega
theorem jf:∀ xs:List Int,(bZ xs).Pairwise (· <= ·)
 | []=>.nil
 | x::xs=>mO x _ (jf xs)
theorem n_:∀ {xs ys:List Int},xs.Perm ys->xs.Pairwise (· <= ·)->ys.Pairwise (· <= ·)->xs=ys
 | [],ys,p,_,_=>by rw [p.symm.eq_nil]
 | x::xs,[],p,_,_=>by rw [p.eq_nil]
 | x::xs,y::ys,p,h,g=>by
   have h':=List.pairwise_cons.mp h
   have g':=List.pairwise_cons.mp g
   have e:x=y:=by
    have a:x <= y:=by
     rcases List.mem_cons.mp (p.mem_iff.mpr (List.mem_cons_self ..)) with e | e
     · omega
     · exact h'.1 y e
    have b:y <= x:=by
     rcases List.mem_cons.mp (p.mem_iff.mp (List.mem_cons_self ..)) with e | e
     · omega
     · exact g'.1 x e
    omega
   subst e
   rw [n_ (List.perm_cons _ |>.mp p) h'.2 g'.2]
theorem rW {ρ:List Addr}:∀ xs:List Int,RWs ρ (jO xs) (xs.map V.int)
 | []=>.nil
 | x::xs=>.cons (.int x) (rW xs)
variable {cl:Cn}
end
end Ev
namespace L2
open PySem PySem.Spec PySem.SeqAt PyProof.Rows
def rY (X:Cx) (N':List Str) (sc:Scope) (y:Str) (C:Addr) (s₀:Shared) (H₀:Hp) (fp:List Addr):Cx:=
 { X with N:=N',s₀:=s₀,H₀:=H₀,env:=compEnvC sc ((y,C + 1)::dX X.env.cells sc.names []) C X.env,outer:=X.stack,ex:=fp,fn:=fun x=>x == y,pn:=[],xe:=fun _ _=>False }
structure LQ (X:Cx) (N':List Str) (sc:Scope) (nt:Nat) (idx:List Nat) (y:Str):Prop where
 kind:sc.kind= .function
 cf:∀ n acc,cellsFrom n sc.names acc=(y,n)::acc
 pc:∀ h,pushCells h sc.names=h.push { cls:=.type "cell",data:=.cell none }
 nc:∀ z ∈ sc.names,z.2= .cell->z.1=y
 nf:∀ z ∈ sc.names,z.2= .free->z.1 ≠ y
 loc:∀ y ∈ sc.names,y.2= .local->sc.names.lookup y.1=some .local
 fr:∀ y ∈ sc.names,y.2= .free->X.env.kindOf y.1=some .cell\/X.env.kindOf y.1=some .free
 len:nt + idx.length=N'.length
 ix:∀ p ∈ idx.zip (N'.drop nt),X.N[p.1]? =some p.2/\sc.names.lookup p.2=some .free
section
variable {X:Cx} {N':List Str} {sc:Scope} {yc:Str} {nt:Nat} {idx:List Nat} {elt tg iter:Expr} {ifs:List Expr} {gs:List Comprehension} {pos:Pos} {wi:TI} {g:TG} {tif:TT} {tin:Addr->TN}
structure Ls (X:Cx) (N':List Str) (sc:Scope) (yc:Str) (elt tg iter:Expr) (ifs:List Expr) (gs:List Comprehension) (pos:Pos) (g:TG) (tif:TT) (tin:Addr->TN):Prop where
 ok:∀ (C:Addr) (s₀:Shared) (H₀:Hp) (fp:List Addr) (D it:Addr),∃ inner:Sem Unit,
  compTurn (.ListComp elt (⟨tg,iter,ifs,0⟩::gs) sc pos) 0 (.ref it) (.ref D) (rY X N' sc yc C s₀ H₀ fp).env=iw (.ListComp elt (⟨tg,iter,ifs,0⟩::gs) sc pos) 0 (.ref it) (.ref D) (rY X N' sc yc C s₀ H₀ fp).env tg ifs iter.pos inner/\
  PG (rY X N' sc yc C s₀ H₀ fp) tg g/\PTs (rY X N' sc yc C s₀ H₀ fp) ifs tif/\PN (rY X N' sc yc C s₀ H₀ fp) inner (tin D)
end
end L2
namespace L2
open PySem PySem.Spec PySem.SeqAt PyProof.Rows
end L2
namespace Ev
open PySem PyProof.Rows L2
section
variable {Pg:List Fn} {cl:Cn} {E:XK} {d:Nat} {X:Cx} {σ:L2.St} {H:Hp} {yc:Str}
variable {N':List Str} {sc:Scope} {nt:Nat} {idx:List Nat} {elt tg iter tg2 Jw:Expr} {ifs K8:List Expr} {gs:List Comprehension} {pos:Pos} {wi wi2:TI} {it it2:I} {t t2:Tg} {c c2:Option Ev.X} {e:Ev.X}
end
end Ev
namespace Ev
open PySem PyProof.Rows L2 PySem.W
section
variable {X:Cx}
end
section
variable {cl:Cn}
end
end Ev
namespace Ev
open PySem PyProof.Rows L2 PySem.W
section
variable {X:Cx}
end
section
variable {cl:Cn}
end
end Ev
namespace Ev
noncomputable section
def okQ {α:Type} (r:R α) (Q:α->Hs->Prop):Prop:=R.rec Q (fun _ _ _=>False) False r
def aW (Q:W->Hs->Prop) (a:A) (h:Hs):Prop:=A.rec (fun w=>Q w h) (fun _=>False) (fun _=>False) (fun _=>False) False a
def aL (Q:List W->Hs->Prop) (a:A) (h:Hs):Prop:=A.rec (fun _=>False) (fun w=>Q w h) (fun _=>False) (fun _=>False) False a
def aV (Q:Iv->Hs->Prop) (a:A) (h:Hs):Prop:=A.rec (fun _=>False) (fun _=>False) (fun w=>Q w h) (fun _=>False) False a
def aF (Q:Fl->Hs->Prop) (a:A) (h:Hs):Prop:=A.rec (fun _=>False) (fun _=>False) (fun _=>False) (fun w=>Q w h) False a
def wX (e:X) (K:Ks) (n:Nat) (τ:Sg) (h:Hs) (Q:W->Hs->Prop):Prop:=okQ (e.f K n τ h) (aW Q)
def wA (es:List X) (K:Ks) (n:Nat) (τ:Sg) (h:Hs) (Q:List W->Hs->Prop):Prop:=okQ (goA es K n τ h) (aL Q)
def wI (e:I) (K:Ks) (n:Nat) (τ:Sg) (h:Hs) (Q:Iv->Hs->Prop):Prop:=okQ (e.f K n τ h) (aV Q)
def w1 (s:S) (K:Ks) (n:Nat) (τ:Sg) (h:Hs) (Q:Fl->Hs->Prop):Prop:=okQ (s.f K n τ h) (aF Q)
def wS (s:List S) (K:Ks) (n:Nat) (τ:Sg) (h:Hs) (Q:Fl->Hs->Prop):Prop:=okQ (cG s K n τ h) (aF Q)
def wP (p:Pr) (ws:List W) (h:Hs) (Q:W->Hs->Prop):Prop:=okQ (p.f ws h) Q
def wC (f:Nat) (ws:List W) (K:Ks) (n:Nat) (h:Hs) (Q:W->Hs->Prop):Prop:=okQ (nQ f ws K n h) (aW Q)
def vO (ss:List S) (K:Ks) (n:Nat) (h:Hs) (Q:Fl->Hs->Prop) (f:Fl):Prop:=Fl.rec (fun τ=>wS ss K n τ h Q) (fun w=>Q (.rt w) h) (fun τ=>Q (.bk τ) h) (fun τ=>Q (.ct τ) h) f
def Hy (Q:W->Hs->Prop) (f:Fl) (h:Hs):Prop:=Fl.rec (fun _=>Q .non h) (fun w=>Q w h) (fun _=>False) (fun _=>False) f
def bW (w:W) (t f:Prop):Prop:=W.rec False (fun b=>Bool.rec f t b) (fun _=>False) (fun _=>False) (fun _=>False) w
end
section
variable {K:Ks} {n:Nat} {τ:Sg} {h:Hs}
theorem mZ {α:Type} {r:R α} {Q Q':α->Hs->Prop} (x:okQ r Q) (f:∀ a h,Q a h->Q' a h):okQ r Q':=by
 cases r with
 | ok a h=>exact f a h x
 | _=>exact x
theorem Dw {Q Q':W->Hs->Prop} (f:∀ w h,Q w h->Q' w h):∀ a h,aW Q a h->aW Q' a h:=fun a h x=>by
 cases a with
 | w w=>exact f w h x
 | _=>exact x
theorem Dy {Q Q':Fl->Hs->Prop} (f:∀ w h,Q w h->Q' w h):∀ a h,aF Q a h->aF Q' a h:=fun a h x=>by
 cases a with
 | fl w=>exact f w h x
 | _=>exact x
theorem Dz {e:X} {Q Q':W->Hs->Prop} (x:wX e K n τ h Q) (f:∀ w h,Q w h->Q' w h):wX e K n τ h Q':=mZ x (Dw f)
theorem cP {e:X} {Q:W->Hs->Prop} (x:wX e K n τ h Q):∃ w h',e.f K n τ h= .ok (.w w) h'/\Q w h':=by
 unfold wX at x
 generalize e.f K n τ h=r at x
 cases r with
 | ok a h'=>cases a with
   | w w=>exact ⟨w,h',rfl,x⟩
   | _=>exact x.elim
 | _=>exact x.elim
theorem Bu {s:List S} {Q:Fl->Hs->Prop} (x:wS s K n τ h Q):∃ w h',cG s K n τ h= .ok (.fl w) h'/\Q w h':=by
 unfold wS at x
 generalize cG s K n τ h=r at x
 cases r with
 | ok a h'=>cases a with
   | fl w=>exact ⟨w,h',rfl,x⟩
   | _=>exact x.elim
 | _=>exact x.elim
theorem Hz {i:Nat} {w:W} {Q:W->Hs->Prop} (e:aP τ i=some w):wX (.var i) K n τ h Q ↔ Q w h:=by
 show okQ (Option.rec (motive:=fun _=>R A) .no (fun w=>.ok (.w w) h) (aP τ i)) _ ↔ _
 rw [e];exact Iff.rfl
theorem xV {w:W} {Q:W->Hs->Prop}:wX (.cst w) K n τ h Q ↔ Q w h:=Iff.rfl
theorem oh {Q:List W->Hs->Prop}:wA [] K n τ h Q ↔ Q [] h:=Iff.rfl
theorem fu {e:X} {es:List X} {Q:List W->Hs->Prop}:wA (e::es) K n τ h Q ↔ wX e K n τ h fun w h=>wA es K n τ h fun ws h=>Q (w::ws) h:=by
 show okQ (R.rec (motive:=fun _=>R A) (fun r h=>A.rec (motive:=fun _=>R A) (fun w=>R.rec (motive:=fun _=>R A) (fun r h=>A.rec (motive:=fun _=>R A) (fun _=>.no) (fun ws=>.ok (.ws (w::ws)) h) (fun _=>.no) (fun _=>.no) .no r) (fun C fs h=>.ex C fs h) .no (goA es K n τ h)) (fun _=>.no) (fun _=>.no) (fun _=>.no) .no r) (fun C fs h=>.ex C fs h) .no (e.f K n τ h)) _ ↔ okQ (e.f K n τ h) _
 generalize e.f K n τ h=r
 cases r with
 | ok a h1=>cases a with
   | w w=>
     show okQ (R.rec (motive:=fun _=>R A) (fun r h=>A.rec (motive:=fun _=>R A) (fun _=>.no) (fun ws=>.ok (.ws (w::ws)) h) (fun _=>.no) (fun _=>.no) .no r) (fun C fs h=>.ex C fs h) .no (goA es K n τ h1)) _ ↔ okQ (goA es K n τ h1) _
     generalize goA es K n τ h1=r
     cases r with
     | ok a h2=>cases a <;> exact Iff.rfl
     | _=>exact Iff.rfl
   | _=>exact Iff.rfl
 | _=>exact Iff.rfl
theorem ou {p:Pr} {es:List X} {Q:W->Hs->Prop}:wX (.pr p es) K n τ h Q ↔ wA es K n τ h fun ws h=>wP p ws h Q:=by
 show okQ (R.rec (motive:=fun _=>R A) (fun r h=>A.rec (motive:=fun _=>R A) (fun _=>.no) (fun ws=>R.rec (motive:=fun _=>R A) (fun w h=>.ok (.w w) h) (fun C f h=>.ex C f h) .no (p.f ws h)) (fun _=>.no) (fun _=>.no) .no r) (fun C fs h=>.ex C fs h) .no (goA es K n τ h)) _ ↔ okQ (goA es K n τ h) _
 generalize goA es K n τ h=r
 cases r with
 | ok a h1=>cases a with
   | ws ws=>
     show okQ (R.rec (motive:=fun _=>R A) (fun w h=>.ok (.w w) h) (fun C f h=>.ex C f h) .no (p.f ws h1)) _ ↔ okQ (p.f ws h1) Q
     generalize p.f ws h1=r
     cases r <;> exact Iff.rfl
   | _=>exact Iff.rfl
 | _=>exact Iff.rfl
theorem DG {f:Nat} {es:List X} {Q:W->Hs->Prop}:wX (.call f es) K n τ h Q ↔ wA es K n τ h fun ws h=>wC f ws K n h Q:=by
 show okQ ((goA es K n τ h).bind fun a h=>a.toL fun ws=>nQ f ws K n h) _ ↔ okQ (goA es K n τ h) _
 generalize goA es K n τ h=r
 cases r with
 | ok a h1=>cases a <;> exact Iff.rfl
 | _=>exact Iff.rfl
theorem HB {c a b:X} {Q:W->Hs->Prop}:wX (.ite c a b) K n τ h Q ↔ wX c K n τ h fun w h=>bW w (wX a K n τ h Q) (wX b K n τ h Q):=by
 show okQ ((c.f K n τ h).bind fun r h=>r.toW fun w=>w.onB (b.f K n τ h) (a.f K n τ h)) _ ↔ okQ (c.f K n τ h) _
 generalize c.f K n τ h=r
 cases r with
 | ok x h1=>cases x with
   | w w=>cases w with
     | bl k=>cases k <;> exact Iff.rfl
     | _=>exact Iff.rfl
   | _=>exact Iff.rfl
 | _=>exact Iff.rfl
theorem rZ {a b:X} {Q:W->Hs->Prop}:wX (.and a b) K n τ h Q ↔ wX a K n τ h fun w h=>bW w (wX b K n τ h Q) (Q (.bl false) h):=by
 show okQ ((a.f K n τ h).bind fun r h=>r.toW fun w=>w.onB (.ok (.w (.bl false)) h) (b.f K n τ h)) _ ↔ okQ (a.f K n τ h) _
 generalize a.f K n τ h=r
 cases r with
 | ok x h1=>cases x with
   | w w=>cases w with
     | bl k=>cases k <;> exact Iff.rfl
     | _=>exact Iff.rfl
   | _=>exact Iff.rfl
 | _=>exact Iff.rfl
theorem sr {Q:Fl->Hs->Prop}:wS [] K n τ h Q ↔ Q (.nx τ) h:=Iff.rfl
theorem dO {s:S} {ss:List S} {Q:Fl->Hs->Prop}:wS (s::ss) K n τ h Q ↔ w1 s K n τ h fun f h=>vO ss K n h Q f:=by
 show okQ ((s.f K n τ h).bind fun r h=>r.toF fun f=>Fl.rec (motive:=fun _=>R A) (fun τ=>cG ss K n τ h) (fun w=>.ok (.fl (.rt w)) h) (fun τ=>.ok (.fl (.bk τ)) h) (fun τ=>.ok (.fl (.ct τ)) h) f) _ ↔ okQ (s.f K n τ h) _
 generalize s.f K n τ h=r
 cases r with
 | ok x h1=>cases x with
   | fl f=>cases f <;> exact Iff.rfl
   | _=>exact Iff.rfl
 | _=>exact Iff.rfl
theorem HD {i:Nat} {e:X} {Q:Fl->Hs->Prop}:w1 (.asg (.nm i) e) K n τ h Q ↔ wX e K n τ h fun w h=>Q (.nx (setAt τ (some w) i)) h:=by
 show okQ ((e.f K n τ h).bind fun r h=>r.toW fun w=>R.ok (A.fl (.nx (setAt τ (some w) i))) h) (aF Q) ↔ okQ (e.f K n τ h) _
 generalize e.f K n τ h=r
 cases r with
 | ok x h1=>cases x <;> exact Iff.rfl
 | _=>exact Iff.rfl
theorem HF {e:X} {Q:Fl->Hs->Prop}:w1 (.ret e) K n τ h Q ↔ wX e K n τ h fun w h=>Q (.rt w) h:=by
 show okQ ((e.f K n τ h).bind fun r h=>r.toW fun w=>R.ok (A.fl (.rt w)) h) (aF Q) ↔ okQ (e.f K n τ h) _
 generalize e.f K n τ h=r
 cases r with
 | ok x h1=>cases x <;> exact Iff.rfl
 | _=>exact Iff.rfl
theorem su {c:X} {a b:List S} {Q:Fl->Hs->Prop}:w1 (.ife c a b) K n τ h Q ↔ wX c K n τ h fun w h=>bW w (wS a K n τ h Q) (wS b K n τ h Q):=by
 show okQ ((c.f K n τ h).bind fun r h=>r.toW fun w=>w.onB (cG b K n τ h) (cG a K n τ h)) _ ↔ okQ (c.f K n τ h) _
 generalize c.f K n τ h=r
 cases r with
 | ok x h1=>cases x with
   | w w=>cases w with
     | bl k=>cases k <;> exact Iff.rfl
     | _=>exact Iff.rfl
   | _=>exact Iff.rfl
 | _=>exact Iff.rfl
theorem eE {Pg:List Fn} {d f np k:Nat} {b:List S} {ws:List W} {Q:W->Hs->Prop} (e:nth Pg f=some (.mk np k b)) (l:Nat.beq (len ws) np=true):wC f ws (aQ Pg (d + 1)) (n + 1) h Q ↔ wS b (aQ Pg d) n (frame k ws) h (Hy Q):=by
 show okQ (Opt (nth Pg f) (Bo (aQ Pg d) n h ws)) _ ↔ _
 rw [e]
 show okQ (ifB (Nat.beq (len ws) np) ((cG b (aQ Pg d) n (frame k ws) h).bind fun r h=>r.toF fun f=>nP h f) .no) _ ↔ okQ (cG b (aQ Pg d) n (frame k ws) h) _
 rw [l]
 generalize cG b (aQ Pg d) n (frame k ws) h=r
 cases r with
 | ok x h1=>cases x with
   | fl f=>cases f <;> exact Iff.rfl
   | _=>exact Iff.rfl
 | _=>exact Iff.rfl
end
end Ev
namespace Ev
def Ext (h h':Hs):Prop:=h.n <= h'.n/\∀ k,k < h.n->h'.get k=h.get k
theorem Ext.refl {h:Hs}:Ext h h:=⟨Nat.le_refl _,fun _ _=>rfl⟩
theorem Ext.trans {a b c:Hs} (x:Ext a b) (y:Ext b c):Ext a c:=⟨Nat.le_trans x.1 y.1,fun k l=>(y.2 k (Nat.lt_of_lt_of_le l x.1)).trans (x.2 k l)⟩
theorem Ext.push {h:Hs} {o:O}:Ext h (h.push o):=⟨by rw [Hs.k_];omega,fun k l=>by rw [Hs.iz,if_neg (by omega)]⟩
theorem Ext.set {h h':Hs} {k:Nat} {o:O} (x:Ext h h') (l:h.n <= k):Ext h (h'.set k o):=⟨by rw [Hs.qJ];exact x.1,fun j g=>by rw [Hs.get_set,if_neg (by omega)];exact x.2 j g⟩
theorem Ext.get {h h':Hs} {k:Nat} {o:O} (x:Ext h h') (l:k < h.n) (e:h.get k=some o):h'.get k=some o:=(x.2 k l).trans e
theorem aG {h:Hs} {o:O}:(h.push o).get h.n=some o:=by rw [Hs.iz,if_pos rfl]
theorem bT {h:Hs} {o:O}:h.n < (h.push o).n:=by rw [Hs.k_];omega
mutual
def Rd (h:Hs) (A:Nat->Prop):D->W->Prop
 | .non,w=>w= .non
 | .bl b,w=>w= .bl b
 | .int i,w=>w= .int i
 | .str c,w=>w= .str c
 | .lst ds,w=>∃ p ws,w= .ref p/\p < h.n/\A p/\h.get p=some (.lst ws)/\Rds h A ds ws
 | .tup ds,w=>∃ p ws,w= .ref p/\p < h.n/\A p/\h.get p=some (.tup ws)/\Rds h A ds ws
def Rds (h:Hs) (A:Nat->Prop):List D->List W->Prop
 | [],ws=>ws= []
 | d::ds,ws=>∃ w r,ws=w::r/\Rd h A d w/\Rds h A ds r
end
mutual
theorem Rd.to {h h':Hs} {A A':Nat->Prop} (n:h.n <= h'.n) (x:∀ k,k < h.n->A k->h'.get k=h.get k/\A' k):∀ (d:D) (w:W),Rd h A d w->Rd h' A' d w
 | .non,_,z | .bl _,_,z | .int _,_,z | .str _,_,z=>by simpa [Rd] using z
 | .lst ds,w,z=>by
   simp only [Rd] at z ⊢
   obtain ⟨p,ws,e,l,a,g,r⟩:=z
   exact ⟨p,ws,e,Nat.lt_of_lt_of_le l n,(x p l a).2,(x p l a).1.trans g,Rds.to n x ds ws r⟩
 | .tup ds,w,z=>by
   simp only [Rd] at z ⊢
   obtain ⟨p,ws,e,l,a,g,r⟩:=z
   exact ⟨p,ws,e,Nat.lt_of_lt_of_le l n,(x p l a).2,(x p l a).1.trans g,Rds.to n x ds ws r⟩
theorem Rds.to {h h':Hs} {A A':Nat->Prop} (n:h.n <= h'.n) (x:∀ k,k < h.n->A k->h'.get k=h.get k/\A' k):∀ (ds:List D) (ws:List W),Rds h A ds ws->Rds h' A' ds ws
 | [],_,z=>by simpa [Rds] using z
 | d::ds,ws,z=>by
   simp only [Rds] at z ⊢
   obtain ⟨w,r,e,a,b⟩:=z
   exact ⟨w,r,e,Rd.to n x d w a,Rds.to n x ds r b⟩
end
theorem Rd.ext {h h':Hs} {A:Nat->Prop} {d:D} {w:W} (z:Rd h A d w) (x:Ext h h'):Rd h' A d w:=Rd.to x.1 (fun k l a=>⟨x.2 k l,a⟩) d w z
theorem Rds.ext {h h':Hs} {A:Nat->Prop} {d:List D} {w:List W} (z:Rds h A d w) (x:Ext h h'):Rds h' A d w:=Rds.to x.1 (fun k l a=>⟨x.2 k l,a⟩) d w z
theorem Rd.imp {h:Hs} {A A':Nat->Prop} {d:D} {w:W} (z:Rd h A d w) (x:∀ k,k < h.n->A k->A' k):Rd h A' d w:=Rd.to (Nat.le_refl _) (fun k l a=>⟨rfl,x k l a⟩) d w z
theorem Rds.imp {h:Hs} {A A':Nat->Prop} {d:List D} {w:List W} (z:Rds h A d w) (x:∀ k,k < h.n->A k->A' k):Rds h A' d w:=Rds.to (Nat.le_refl _) (fun k l a=>⟨rfl,x k l a⟩) d w z
theorem Rds.length {h:Hs} {A:Nat->Prop}:∀ {ds:List D} {ws:List W},Rds h A ds ws->ws.length=ds.length
 | [],_,z=>by simp only [Rds] at z;subst z;rfl
 | d::ds,ws,z=>by
   simp only [Rds] at z
   obtain ⟨w,r,rfl,a,b⟩:=z
   simp [Rds.length b]
theorem Rds.get {h:Hs} {A:Nat->Prop}:∀ {ds:List D} {ws:List W} {i:Nat} {d:D},Rds h A ds ws->ds[i]? =some d->∃ w,ws[i]? =some w/\Rd h A d w
 | [],_,i,d,z,e=>by simp at e
 | d::ds,ws,i,d',z,e=>by
   simp only [Rds] at z
   obtain ⟨w,r,rfl,a,b⟩:=z
   cases i with
   | zero=>simp at e;subst e;exact ⟨w,rfl,a⟩
   | succ i=>simpa using Rds.get b (by simpa using e)
theorem Rds.snoc {h:Hs} {A:Nat->Prop}:∀ {ds:List D} {ws:List W} {d:D} {w:W},Rds h A ds ws->Rd h A d w->Rds h A (ds ++ [d]) (ws ++ [w])
 | [],_,d,w,z,e=>by simp only [Rds] at z;subst z;simp only [List.nil_append,Rds];exact ⟨w,[],rfl,e,rfl⟩
 | d::ds,ws,d',w',z,e=>by
   simp only [Rds] at z
   obtain ⟨w,r,rfl,a,b⟩:=z
   simp only [List.cons_append,Rds]
   exact ⟨w,r ++ [w'],rfl,a,b.snoc e⟩
theorem Rds.append {h:Hs} {A:Nat->Prop}:∀ {ds:List D} {ws:List W} {ds':List D} {ws':List W},Rds h A ds ws->Rds h A ds' ws'->Rds h A (ds ++ ds') (ws ++ ws')
 | [],_,ds',ws',z,e=>by simp only [Rds] at z;subst z;exact e
 | d::ds,ws,ds',ws',z,e=>by
   simp only [Rds] at z
   obtain ⟨w,r,rfl,a,b⟩:=z
   simp only [List.cons_append,Rds]
   exact ⟨w,r ++ ws',rfl,a,b.append e⟩
theorem Rds.ints {h:Hs} {A:Nat->Prop}:∀ {ns:List Int} {ws:List W},Rds h A (ns.map D.int) ws ↔ ws=ns.map W.int
 | [],ws=>by simp only [List.map_nil,Rds]
 | n::ns,ws=>by
   simp only [List.map_cons,Rds,Rd]
   constructor
   · rintro ⟨w,r,rfl,rfl,b⟩;rw [Rds.ints.mp b]
   · rintro rfl;exact ⟨_,_,rfl,rfl,Rds.ints.mpr rfl⟩
abbrev Dis (ns:List Int):D:=.lst (ns.map D.int)
theorem mj {h:Hs} {A:Nat->Prop} {ns:List Int} {w:W}:Rd h A (Dis ns) w ↔ ∃ p,w= .ref p/\p < h.n/\A p/\h.get p=some (.lst (ns.map W.int)):=by
 simp only [Dis,Rd,Rds.ints]
 constructor
 · rintro ⟨p,ws,e,l,a,g,rfl⟩;exact ⟨p,e,l,a,g⟩
 · rintro ⟨p,e,l,a,g⟩;exact ⟨p,_,e,l,a,g,rfl⟩
mutual
def dZ:D->Nat
 | .lst ds | .tup ds=>gW ds + 1
 | _=>1
def gW:List D->Nat
 | []=>0
 | d::ds=>max (dZ d) (gW ds)
end
noncomputable section
mutual
def okD:D->Bool
 | .str c=>okC c
 | .lst ds | .tup ds=>jP ds
 | _=>true
def jP:List D->Bool
 | []=>true
 | d::ds=>okD d && jP ds
end
end
mutual
theorem xW {h:Hs} {A:Nat->Prop}:∀ (d:D) (w:W) (k:Nat),Rd h A d w->dZ d <= k->okD d=true->toD h k w=some d
 | .non,w,0,z,l,_ | .bl _,w,0,z,l,_ | .int _,w,0,z,l,_ | .str _,w,0,z,l,_=>by simp [dZ] at l
 | .lst _,w,0,z,l,_ | .tup _,w,0,z,l,_=>by simp [dZ] at l
 | .non,w,k + 1,z,_,_=>by simp only [Rd] at z;subst z;rfl
 | .bl _,w,k + 1,z,_,_=>by simp only [Rd] at z;subst z;rfl
 | .int _,w,k + 1,z,_,_=>by simp only [Rd] at z;subst z;rfl
 | .str c,w,k + 1,z,_,o=>by
   simp only [Rd] at z;subst z
   have o:okC c=true:=by simpa [okD] using o
   show ifB (okC c) (some (D.str c)) none=_
   rw [o];rfl
 | .lst ds,w,k + 1,z,l,o=>by
   simp only [Rd] at z
   obtain ⟨p,ws,rfl,_,_,g,r⟩:=z
   have e:=pD ds ws k r (by simpa [dZ] using l) (by simpa [okD] using o)
   show Option.rec (motive:=fun _=>Option D) none (fun o=>O.rec (motive:=fun _=>Option D) (fun xs=>Option.rec (motive:=fun _=>Option D) none (fun ds=>some (D.tup ds)) (cZ (toD h k) xs)) (fun xs=>Option.rec (motive:=fun _=>Option D) none (fun ds=>some (D.lst ds)) (cZ (toD h k) xs)) (fun _ _=>none) (fun _=>none) (fun _=>none) (fun _=>none) o) (h.get p)=_
   rw [g]
   show Option.rec (motive:=fun _=>Option D) none (fun ds=>some (D.lst ds)) (cZ (toD h k) ws)=_
   rw [e]
 | .tup ds,w,k + 1,z,l,o=>by
   simp only [Rd] at z
   obtain ⟨p,ws,rfl,_,_,g,r⟩:=z
   have e:=pD ds ws k r (by simpa [dZ] using l) (by simpa [okD] using o)
   show Option.rec (motive:=fun _=>Option D) none (fun o=>O.rec (motive:=fun _=>Option D) (fun xs=>Option.rec (motive:=fun _=>Option D) none (fun ds=>some (D.tup ds)) (cZ (toD h k) xs)) (fun xs=>Option.rec (motive:=fun _=>Option D) none (fun ds=>some (D.lst ds)) (cZ (toD h k) xs)) (fun _ _=>none) (fun _=>none) (fun _=>none) (fun _=>none) o) (h.get p)=_
   rw [g]
   show Option.rec (motive:=fun _=>Option D) none (fun ds=>some (D.tup ds)) (cZ (toD h k) ws)=_
   rw [e]
theorem pD {h:Hs} {A:Nat->Prop}:∀ (ds:List D) (ws:List W) (k:Nat),Rds h A ds ws->gW ds <= k->jP ds=true->cZ (toD h k) ws=some ds
 | [],ws,k,z,_,_=>by simp only [Rds] at z;subst z;rfl
 | d::ds,ws,k,z,l,o=>by
   simp only [Rds] at z
   obtain ⟨w,r,rfl,a,b⟩:=z
   simp only [gW,jP,Bool.and_eq_true] at l o
   have e1:=xW d w k a (by omega) o.1
   have e2:=pD ds r k b (by omega) o.2
   show Option.rec (motive:=fun _=>Option (List D)) none (fun d=>Option.rec (motive:=fun _=>Option (List D)) none (fun ds=>some (d::ds)) (cZ (toD h k) r)) (toD h k w)=_
   rw [e1]
   show Option.rec (motive:=fun _=>Option (List D)) none (fun ds=>some (d::ds)) (cZ (toD h k) r)=_
   rw [e2]
end
mutual
theorem gK:∀ d:D,bK d d=true
 | .non=>by simp [bK]
 | .bl b=>by simp [bK]
 | .int i=>by simp [bK,fH]
 | .str c=>by simp [bK,lX.mpr]
 | .lst ds=>by simp [bK,lA ds]
 | .tup ds=>by simp [bK,lA ds]
theorem lA:∀ ds:List D,je ds ds=true
 | []=>by simp [je]
 | d::ds=>by simp [je,gK d,lA ds]
end
mutual
theorem vP:∀ d:D,cC d d=true
 | .non=>by simp [cC]
 | .bl b=>by simp [cC]
 | .int i=>by simp [cC,fH]
 | .str c=>by simp [cC,lX.mpr]
 | .lst ds=>by simp [cC,jg ds]
 | .tup ds=>by simp [cC,jg ds]
theorem jg:∀ ds:List D,d_ ds ds=true
 | []=>by simp [d_]
 | d::ds=>by simp [d_,vP d,jg ds]
end
end Ev
namespace Ev
section
variable {K:Ks} {n:Nat} {τ:Sg} {h:Hs}
def Its (v:Iv) (ws:List W) (h:Hs):Prop:=(∃ p,v= .lst p/\h.get p=some (.lst ws))\/(∃ p,v= .tup p/\h.get p=some (.tup ws))\/(∃ lo:Int,v= .rng lo ws.length/\∀ i,i < ws.length->ws[i]? =some (.int (lo + Int.ofNat i)))
theorem Its.next {v:Iv} {ws:List W} {β:Type} {i:Nat} {fin:R β} {go:W->Hs->R β} (x:Its v ws h):v.next i h fin go=Option.rec fin (fun w=>go w h) (ws[i]?):=by
 rcases x with ⟨p,rfl,g⟩ | ⟨p,rfl,g⟩ | ⟨lo,rfl,g⟩
 · show Opt (h.get p) (fun o=>o.onS fun xs=>Option.rec fin (fun w=>go w h) (nth xs i))=_
   rw [g,<- dw];rfl
 · show Opt (h.get p) (fun o=>o.onT fun xs=>Option.rec fin (fun w=>go w h) (nth xs i))=_
   rw [g,<- dw];rfl
 · show Bool.rec (motive:=fun _=>R β) fin (go (.int (lo + .ofNat i)) h) (Nat.ble (i + 1) ws.length)=_
   by_cases l:i < ws.length
   · rw [g i l,ble_eq,decide_eq_true (show i + 1 <= ws.length from l)]
   · rw [List.getElem?_eq_none (by omega),ble_eq,decide_eq_false (show ¬ i + 1 <= ws.length from by omega)]
def lpQ (I:Sg->Hs->Prop) (Q:Fl->Hs->Prop) (f:Fl) (h:Hs):Prop:=Fl.rec (fun τ=>I τ h) (fun w=>Q (.rt w) h) (fun τ=>Q (.nx τ) h) (fun τ=>I τ h) f
theorem vQ {v:Iv} {t:Tg} {b:List S} {ws:List W} {Q:Fl->Hs->Prop} (I:Nat->Sg->Hs->Prop) (its:∀ i τ h,I i τ h->Its v ws h)
 (turn:∀ i w τ h m,ws[i]? =some w->n <= m + ws.length->I i τ h->∃ τ1,aA h 9 t w τ=some τ1/\wS b K m τ1 h (lpQ (I (i + 1)) Q)) (fin:∀ τ h,I ws.length τ h->Q (.nx τ) h):
 ∀ (k i m:Nat) (τ:Sg) (h:Hs),i + k=ws.length->k < m->n + i <= m + ws.length + i->n <= m + i->I i τ h->okQ (kW v t b K m i τ h) (aF Q)
 | k,i,0,τ,h,e,l,_,_,x=>absurd l (by omega)
 | k,i,m + 1,τ,h,e,l,l1,l2,x=>by
   have u:kW v t b K (m + 1) i τ h=v.next i h (.ok (.fl (.nx τ)) h) fun w h=>Opt (aA h 9 t w τ) fun τ=>(cG b K m τ h).bind fun r h=>r.toF fun f=>gQ h f fun τ=>kW v t b K m (i + 1) τ h:=rfl
   rw [u,(its i τ h x).next]
   cases k with
   | zero=>
     rw [List.getElem?_eq_none (by omega)]
     rw [Nat.add_zero] at e;subst e
     exact fin τ h x
   | succ k=>
     have li:i < ws.length:=by omega
     rw [List.getElem?_eq_getElem li]
     obtain ⟨τ1,e1,y⟩:=turn i ws[i] τ h m (List.getElem?_eq_getElem li) (by omega) x
     show okQ (Opt (aA h 9 t ws[i] τ) fun τ=>(cG b K m τ h).bind fun r h=>r.toF fun f=>gQ h f fun τ=>kW v t b K m (i + 1) τ h) (aF Q)
     rw [e1]
     show okQ ((cG b K m τ1 h).bind fun r h=>r.toF fun f=>gQ h f fun τ=>kW v t b K m (i + 1) τ h) (aF Q)
     obtain ⟨f,h',z,q⟩:=Bu y
     rw [z]
     cases f with
     | nx τ2=>exact vQ I its turn fin k (i + 1) m τ2 h' (by omega) (by omega) (by omega) (by omega) q
     | ct τ2=>exact vQ I its turn fin k (i + 1) m τ2 h' (by omega) (by omega) (by omega) (by omega) q
     | rt w=>exact q
     | bk τ2=>exact q
theorem sE {i:I} {t:Tg} {b:List S} {Q:Fl->Hs->Prop} (x:wI i K n τ h fun v h1=>∃ (ws:List W) (J:Nat->Sg->Hs->Prop),(∀ i τ h,J i τ h->Its v ws h)/\ws.length < n/\J 0 τ h1/\
 (∀ i w τ h m,ws[i]? =some w->n <= m + ws.length->J i τ h->∃ τ1,aA h 9 t w τ=some τ1/\wS b K m τ1 h (lpQ (J (i + 1)) Q))/\∀ τ h,J ws.length τ h->Q (.nx τ) h):w1 (.for_ i t b) K n τ h Q:=by
 show okQ ((i.f K n τ h).bind fun r h=>r.toV fun v=>kW v t b K n 0 τ h) (aF Q)
 unfold wI at x
 generalize i.f K n τ h=r at x
 cases r with
 | ok a h1=>cases a with
   | iv v=>
     obtain ⟨ws,J,its,l,s,turn,fin⟩:=x
     exact vQ J its turn fin ws.length 0 n τ h1 (by omega) l (by omega) (by omega) s
   | _=>exact x.elim
 | _=>exact x.elim
theorem vR {c:X} {b:List S} {Q:Fl->Hs->Prop} (I:Nat->Sg->Hs->Prop)
 (turn:∀ k τ h m,I k τ h->wX c K m τ h fun w h=>bW w (wS b K m τ h (lpQ (fun τ h=>∃ k',k' < k/\I k' τ h) Q)) (Q (.nx τ) h)):
 ∀ (m k:Nat) (τ:Sg) (h:Hs),k < m->I k τ h->okQ (o8 c b K m τ h) (aF Q)
 | 0,k,τ,h,l,x=>absurd l (by omega)
 | m + 1,k,τ,h,l,x=>by
   have u:o8 c b K (m + 1) τ h=(c.f K m τ h).bind fun r h=>r.toW fun w=>w.onB (.ok (.fl (.nx τ)) h) ((cG b K m τ h).bind fun r h=>r.toF fun f=>gQ h f fun τ=>o8 c b K m τ h):=rfl
   rw [u]
   obtain ⟨w,h1,e,q⟩:=cP (turn k τ h m x)
   rw [e]
   cases w with
   | bl bb=>
     cases bb with
     | false=>exact q
     | true=>
       obtain ⟨f,h',z,q⟩:=Bu (show wS b K m τ h1 _ from q)
       show okQ ((cG b K m τ h1).bind fun r h=>r.toF fun f=>gQ h f fun τ=>o8 c b K m τ h) (aF Q)
       rw [z]
       cases f with
       | nx τ2=>obtain ⟨k',lk,y⟩:=q;exact vR I turn m k' τ2 h' (by omega) y
       | ct τ2=>obtain ⟨k',lk,y⟩:=q;exact vR I turn m k' τ2 h' (by omega) y
       | rt w=>exact q
       | bk τ2=>exact q
   | _=>exact q.elim
theorem sG {c:X} {b:List S} {Q:Fl->Hs->Prop} (I:Nat->Sg->Hs->Prop) (k:Nat) (l:k < n) (s:I k τ h)
 (turn:∀ k τ h m,I k τ h->wX c K m τ h fun w h=>bW w (wS b K m τ h (lpQ (fun τ h=>∃ k',k' < k/\I k' τ h) Q)) (Q (.nx τ) h)):w1 (.kZ c b) K n τ h Q:=
 vR I turn n k τ h l s
theorem DN {D:Nat} {w:W} {acc:List W} {k:Hs->R A} (g:h.get D=some (.lst acc)) (l:acc.length <= 16777215):emit h D w k=k (h.set D (.lst (acc ++ [w]))):=by
 show R.bind (Opt (h.get D) fun o=>o.onL fun xs=>size xs (.ok W.non (h.set D (.lst (app xs [w]))))) (fun _ h=>k h)=_
 rw [g]
 show R.bind (ifB (Nat.ble (len acc) 16777215) (.ok W.non (h.set D (.lst (app acc [w])))) .no) (fun _ h=>k h)=_
 rw [len_eq,ble_eq,decide_eq_true l,dm];rfl
def Bv (c:Option X) (e:X) (K:Ks) (m:Nat) (τ:Sg) (h:Hs) (no:Hs->Prop) (yes:W->Hs->Prop):Prop:=Option.rec (wX e K m τ h yes) (fun c=>wX c K m τ h fun w h=>bW w (wX e K m τ h yes) (no h)) c
theorem vU {v:Iv} {t:Tg} {c:Option X} {e:X} {D:Nat} {ws:List W} {Q:A->Hs->Prop} (b:Nat) (J:Nat->List W->Hs->Prop) (its:∀ i acc h,J i acc h->Its v ws h/\h.get D=some (.lst acc)/\acc.length <= b + i) (lw:b + ws.length <= 16777215)
 (turn:∀ i w acc h m,ws[i]? =some w->n <= m + ws.length->J i acc h->∃ τ1,aA h 9 t w τ=some τ1/\Bv c e K m τ1 h (fun h=>J (i + 1) acc h) (fun w h=>h.get D=some (.lst acc)/\J (i + 1) (acc ++ [w]) (h.set D (.lst (acc ++ [w]))))) (fin:∀ acc h,J ws.length acc h->Q .u h):
 ∀ (k i m:Nat) (acc:List W) (h:Hs),i + k=ws.length->k < m->n <= m + i->J i acc h->okQ (dY v t c none e D K m i τ h) Q
 | k,i,0,acc,h,_,l,_,_=>absurd l (by omega)
 | k,i,m + 1,acc,h,ek,l,l2,x=>by
   have u:dY v t c none e D K (m + 1) i τ h=v.next i h (.ok .u h) fun w h=>Opt (aA h 9 t w τ) fun τ1=>test K m τ1 h c (fun h=>dY v t c none e D K m (i + 1) τ h) (fun h=>inner K m τ1 h e D none fun h=>dY v t c none e D K m (i + 1) τ h):=rfl
   obtain ⟨it,gD,la⟩:=its i acc h x
   rw [u,it.next]
   cases k with
   | zero=>
     rw [List.getElem?_eq_none (by omega)]
     rw [Nat.add_zero] at ek;subst ek
     exact fin acc h x
   | succ k=>
     have li:i < ws.length:=by omega
     rw [List.getElem?_eq_getElem li]
     obtain ⟨τ1,e1,y⟩:=turn i ws[i] acc h m (List.getElem?_eq_getElem li) (by omega) x
     show okQ (Opt (aA h 9 t ws[i] τ) fun τ1=>test K m τ1 h c (fun h=>dY v t c none e D K m (i + 1) τ h) (fun h=>inner K m τ1 h e D none fun h=>dY v t c none e D K m (i + 1) τ h)) Q
     rw [e1]
     have yes:∀ h2,wX e K m τ1 h2 (fun w h=>h.get D=some (.lst acc)/\J (i + 1) (acc ++ [w]) (h.set D (.lst (acc ++ [w]))))->okQ (inner K m τ1 h2 e D none fun h=>dY v t c none e D K m (i + 1) τ h) Q:=fun h2 z=>by
      obtain ⟨w,h3,ez,g3,j3⟩:=cP z
      show okQ ((e.f K m τ1 h2).bind fun r h=>r.toW fun w=>emit h D w fun h=>dY v t c none e D K m (i + 1) τ h) Q
      rw [ez]
      show okQ (emit h3 D w fun h=>dY v t c none e D K m (i + 1) τ h) Q
      rw [DN g3 (by omega)]
      exact vU b J its lw turn fin k (i + 1) m (acc ++ [w]) _ (by omega) (by omega) (by omega) j3
     cases c with
     | none=>exact yes h y
     | some c=>
       obtain ⟨w,h2,ez,q⟩:=cP (show wX c K m τ1 h _ from y)
       show okQ ((c.f K m τ1 h).bind fun r h=>r.toW fun w=>w.onB (dY v t (some c) none e D K m (i + 1) τ h) (inner K m τ1 h e D none fun h=>dY v t (some c) none e D K m (i + 1) τ h)) Q
       rw [ez]
       cases w with
       | bl bb=>cases bb with
         | false=>exact vU b J its lw turn fin k (i + 1) m acc h2 (by omega) (by omega) (by omega) q
         | true=>exact yes h2 q
       | _=>exact q.elim
theorem DP {nt:Nat} {idx:List Nat} {it:I} {t:Tg} {c:Option X} {e:X} {Q:W->Hs->Prop} (x:wI it K n τ h fun v h1=>∃ (ws:List W) (J:Nat->List W->Hs->Prop),(∀ i acc h,J i acc h->Its v ws h/\h.get h1.n=some (.lst acc)/\acc.length <= i)/\ws.length <= 16777215/\ws.length < n/\J 0 [] (h1.push (.lst []))/\
 (∀ i w acc h m,ws[i]? =some w->n <= m + ws.length->J i acc h->∃ τ1,aA h 9 t w (kO nt idx τ)=some τ1/\Bv c e K m τ1 h (fun h=>J (i + 1) acc h) (fun w h=>h.get h1.n=some (.lst acc)/\J (i + 1) (acc ++ [w]) (h.set h1.n (.lst (acc ++ [w])))))/\∀ acc h,J ws.length acc h->Q (.ref h1.n) h):wX (.comp nt idx it t c none e) K n τ h Q:=by
 show okQ ((it.f K n τ h).bind fun r h=>r.toV fun v=>(dY v t c none e h.n K n 0 (kO nt idx τ) (h.push (.lst []))).nox.bind fun _ h'=>.ok (.w (.ref h.n)) h') (aW Q)
 unfold wI at x
 generalize it.f K n τ h=r at x
 cases r with
 | ok a h1=>cases a with
   | iv v=>
     obtain ⟨ws,J,its,lw,l,s,turn,fin⟩:=x
     have z:=vU (Q:=fun a h=>a= .u/\Q (.ref h1.n) h) 0 J (fun i acc h j=>by rw [Nat.zero_add];exact its i acc h j) (by rw [Nat.zero_add];exact lw) turn (fun acc h j=>⟨rfl,fin acc h j⟩) ws.length 0 n [] (h1.push (.lst [])) (by omega) l (by omega) s
     show okQ ((dY v t c none e h1.n K n 0 (kO nt idx τ) (h1.push (.lst []))).nox.bind fun _ h'=>.ok (.w (.ref h1.n)) h') (aW Q)
     generalize dY v t c none e h1.n K n 0 (kO nt idx τ) (h1.push (.lst []))=r at z
     cases r with
     | ok a h'=>exact z.2
     | _=>exact z.elim
   | _=>exact x.elim
 | _=>exact x.elim
theorem comp_map {nt:Nat} {idx:List Nat} {it:I} {t:Tg} {e:X} {Q:W->Hs->Prop} (x:wI it K n τ h fun v h1=>Ext h h1/\∃ (ws:List W) (ds:List D) (B:Nat->Prop),(∀ h2,Ext h1 h2->Its v ws h2)/\(∀ p,B p->p < h1.n)/\ws.length=ds.length/\ws.length <= 16777215/\ws.length < n/\
 (∀ (i:Nat) w d h2 m,ws[i]? =some w->ds[i]? =some d->n <= m + ws.length->Ext h1 h2->h1.n < h2.n->∃ τ1,aA h2 9 t w (kO nt idx τ)=some τ1/\wX e K m τ1 h2 (fun w h3=>Ext h2 h3/\Rd h3 (fun p=>B p\/h2.n <= p) d w))/\
 ∀ h3,Ext h1 h3->Rd h3 (fun p=>B p\/h1.n <= p) (.lst ds) (.ref h1.n)->Q (.ref h1.n) h3):wX (.comp nt idx it t none none e) K n τ h Q:=by
 refine DP ?_
 refine mZ x fun a h1 z=>?_
 cases a with
 | iv v=>
   obtain ⟨x1,ws,ds,B,its,hB,le,l1,l2,turn,fin⟩:=z
   refine ⟨ws,fun i acc h2=>Ext h1 h2/\h1.n < h2.n/\h2.get h1.n=some (.lst acc)/\acc.length=i/\Rds h2 (fun p=>p ≠ h1.n/\(B p\/h1.n <= p)) (ds.take i) acc,fun i acc h2 j=>⟨its h2 j.1,j.2.2.1,by omega⟩,l1,l2,⟨.push,bT,aG,rfl,by simp [Rds]⟩,?_,?_⟩
   · rintro i w acc h2 m ei lm ⟨j1,j2,j3,j4,j5⟩
     have li:i < ws.length:=(List.getElem?_eq_some_iff.mp ei).1
     have ed:ds[i]? =some (ds[i]'(by omega)):=List.getElem?_eq_getElem (by omega)
     obtain ⟨τ1,eb,y⟩:=turn i w _ h2 m ei ed lm j1 j2
     refine ⟨τ1,eb,?_⟩
     refine Dz y fun w' h3 ⟨y1,y2⟩=>?_
     have g3:h3.get h1.n=some (.lst acc):=y1.get j2 j3
     refine ⟨g3,(j1.trans y1).set (Nat.le_refl _),by rw [Hs.qJ];exact Nat.lt_of_lt_of_le j2 y1.1,by rw [Hs.get_set,if_pos rfl],by simp [j4],?_⟩
     rw [List.take_add_one,ed]
     have z1:Rds h3 (fun p=>p ≠ h1.n/\(B p\/h1.n <= p)) (ds.take i ++ (some (ds[i]'(by omega))).toList) (acc ++ [w']):=(j5.ext y1).snoc (y2.imp fun p _ q=>by
      rcases q with q | q
      · have:=hB p q;exact ⟨by omega,.inl q⟩
      · exact ⟨by omega,.inr (by omega)⟩)
     exact Rds.to (by rw [Hs.qJ];exact Nat.le_refl _) (fun k _ a=>⟨by rw [Hs.get_set,if_neg a.1],a⟩) _ _ z1
   · rintro acc h2 ⟨j1,j2,j3,j4,j5⟩
     refine fin h2 j1 ?_
     rw [le,List.take_length] at j5
     simp only [Rd]
     exact ⟨_,acc,rfl,j2,.inr (Nat.le_refl _),j3,j5.imp fun p _ q=>q.2⟩
 | _=>exact z.elim
end
end Ev
namespace Ev
open PySem PySem.Spec PySem.SeqAt PyProof.Rows L2
noncomputable section
def sumZ (xs:List Int):Int:=List.rec 0 (fun x _ r=>mU x r) xs
def HH (h:Hs) (a:W):R W:=h.at a fun _ o=>o.onL fun xs=>Opt (cO xs) fun ns=>.ok (.int (sumZ ns)) h
def Pr.sum:Pr:=⟨fun ws h=>cj ws (HH h)⟩
end
section
variable {X:Cx}
theorem xX (hc:X.calm=true):eO X (.builtin "sum") (fun xs H Q=>∃ (p:Addr) (ns:List Int),xs= [.ref p]/\SqL X.K H p (ns.map V.int)/\Q (.int ns.sum) H):=by
 intro pins s σ H xs us Q I r h
 obtain ⟨p,ns,rfl,hq,q⟩:=h
 obtain ⟨u,rfl,rx⟩:=vals1 r
 cases rx
 obtain ⟨its,r',pl,hz⟩:=I.list hq
 have hi:=iU r'
 obtain ⟨xs,hx⟩:=hi.allInts.items
 have hl':s.heap.IsList p (intItems xs):=hx ▸ pl.isList
 refine sum_intListG (I.ok.hd hc) hl' fun h' tk t' hk=>?_
 have e1:ns=xs.toList.map (·.1):=by
  rw [<- nums_intItems,<- hx]
  exact (show numsOf its.toArray.toList=ns from hi.numsOf).symm
 have e2:preSum (numAt xs) xs.size=ns.sum:=by rw [preSum_eq,List.take_of_length_le (by simp),e1]
 rw [e2]
 exact ⟨.int ns.sum,H,I.kept (h':=h') (t':=tk) hk,⟨t',rfl⟩,q⟩
theorem pF:∀ xs:List Int,sumZ xs=xs.sum
 | []=>rfl
 | x::xs=>by
   show mU x (sumZ xs)=_
   rw [o9,pF xs,List.sum_cons]
variable {Pg:List Fn} {cl:Cn} {E:XK} {d:Nat} {σ:L2.St} {H:Hp}
theorem Jy {K:PySem.W.Frag}:OpN cl .sum (fun xs H Q=>∃ (p:Addr) (ns:List Int),xs= [.ref p]/\SqL K H p (ns.map V.int)/\Q (.int ns.sum) H):=fun E ρ h H ws vs Q s r p=>by
 obtain ⟨w,v,rfl,rfl,r1,p⟩:=nZ r (show Post cl ρ H E (ofW (cj ws (HH h))) (VP Q) from p)
 obtain ⟨n,o,a,rfl,rfl,e1,g1,x1,p⟩:=oAt s r1 p
 obtain ⟨xs,rfl,p2⟩:=oL p
 obtain ⟨ns,hn,p3⟩:=jH p2
 obtain ⟨us,ru,q⟩:=x1
 rw [jN ru hn] at q
 rw [pF] at p3
 exact ⟨a,ns,rfl,SqL.of q,Post.cH s p3 (.int _)⟩
end
end Ev
namespace Ev
section
variable {K:Ks} {n:Nat} {τ:Sg} {h:Hs} {Q:W->Hs->Prop} {i j:Int} {p q:Nat} {xs ys:List W} {ns:List Int} {A B:Nat->Prop} {d d':D} {w w':W}
theorem p_add (z:Q (.int (i + j)) h):wP .add [.int i,.int j] h Q:=by show Q (.int (mU i j)) h;rw [o9];exact z
theorem Jz (z:Q (.int (i - j)) h):wP .sub [.int i,.int j] h Q:=by show Q (.int (vG i j)) h;rw [uw];exact z
theorem JB (z:Q (.int (-i)) h):wP .neg [.int i] h Q:=z
theorem JC (z:Q (.int (Int.ofNat i.natAbs)) h):wP .abs [.int i] h Q:=z
theorem bB {β:Type} {b:Bool} {t f:β} (e:b=true):ifB b t f=t:=by subst e;rfl
theorem sH (l:i.natAbs < 2 ^ 64):Sml i=true:=by
 have b:(2:Nat) ^ 64 <= 2 ^ 4000:=Nat.pow_le_pow_right (by decide) (by decide)
 cases i with
 | ofNat a=>
   show Nat.ble (a + 1) (2 ^ 4000)=true
   have:a < 2 ^ 64:=l
   exact Nat.ble_eq_true_of_le (Nat.le_trans this b)
 | negSucc a=>
   show Nat.ble (a + 2) (2 ^ 4000)=true
   have:a + 1 < 2 ^ 64:=l
   exact Nat.ble_eq_true_of_le (Nat.le_trans (by omega) b)
theorem Bw (a:i.natAbs < 2 ^ 64) (b:j.natAbs < 2 ^ 64) (z:Q (.int (i * j)) h):wP .mul [.int i,.int j] h Q:=by
 show okQ (ifB (Sml i) (ifB (Sml j) (.ok (.int (i * j)) h) .no) .no) Q
 rw [bB (sH a),bB (sH b)];exact z
theorem JD (a:0 < j) (z:Q (.int (i % j)) h):wP .mod [.int i,.int j] h Q:=by
 show okQ (ifB (ilt 0 j) (.ok (.int (fmod i j)) h) .no) Q
 rw [bB (by rw [bL];exact decide_eq_true a),fmod_eq];exact z
theorem oE (a:0 < j) (b:j.natAbs < 2 ^ 64) (z:Q (.int (i.fdiv j)) h):wP .fdiv [.int i,.int j] h Q:=by
 show okQ (ifB (ilt 0 j) (ifB (Sml j) (.ok (.int (i.fdiv j)) h) .no) .no) Q
 rw [bB (by rw [bL];exact decide_eq_true a),bB (sH b)];exact z
theorem La (z:Q (.bl (decide (i < j))) h):wP .lt [.int i,.int j] h Q:=by show Q (.bl (ilt i j)) h;rw [bL];exact z
theorem Lb (z:Q (.bl (decide (j < i))) h):wP .gt [.int i,.int j] h Q:=by show Q (.bl (ilt j i)) h;rw [bL];exact z
theorem JF (z:Q (.bl (decide (i=j))) h):wP .eq [.int i,.int j] h Q:=by
 show Q (.bl (bK (.int i) (.int j))) h
 rw [show bK (.int i) (.int j)=decide (i=j) by simp [bK,fH]];exact z
theorem JG (z:Q (.bl (!decide (i=j))) h):wP .ne [.int i,.int j] h Q:=by
 show Q (.bl (!bK (.int i) (.int j))) h
 rw [show bK (.int i) (.int j)=decide (i=j) by simp [bK,fH]];exact z
theorem Bx {f:D->R W} (a:Rd h A d w) (l:dZ d <= 12:=by decide) (o:okD d=true:=by rfl):wD h w f=f d:=by
 show Opt (toD h 12 w) f=_
 rw [xW d w 12 a l o];rfl
theorem oF (a:Rd h A d w) (b:Rd h B d' w') (l:dZ d <= 12) (l':dZ d' <= 12) (o:okD d=true) (o':okD d'=true) (z:Q (.bl (!bK d d')) h):wP .ne [w,w'] h Q:=by
 show okQ (wD h w fun x=>wD h w' fun y=>.yes (not (bK x y)) h) Q
 rw [Bx a l o,Bx b l' o'];exact z
theorem dg {β:Type} {f:Nat->O->R β} {o:O} (e:h.get p=some o):h.at (.ref p) f=f p o:=by
 show Opt (h.get p) (f p)=_
 rw [e];rfl
theorem iW (e:h.get p=some (.lst xs)) (z:Q (.int xs.length) h):wP .len [.ref p] h Q:=by
 show okQ (h.at (.ref p) fun _ o=>o.items fun xs=>.ok (.int (.ofNat (len xs))) h) Q
 rw [dg e,show len=List.length from funext fun _=>len_eq _] at *;exact z
theorem Aa (e:h.get p=some (.lst xs)) (e2:xs[q]? =some w) (z:Q w h):wP .ix [.ref p,.int (Int.ofNat q)] h Q:=by
 show okQ (h.at (.ref p) fun _ o=>o.items fun xs=>Opt (nth xs q) fun w=>.ok w h) Q
 rw [dg e]
 show okQ (Opt (nth xs q) fun w=>.ok w h) Q
 rw [dw,e2];exact z
theorem By (e:h.get p=some (.lst xs)) (l:0 <= i) (e2:xs[i.toNat]? =some w) (z:Q w h):wP .ix [.ref p,.int i] h Q:=by
 rw [show i=Int.ofNat i.toNat by show i=((i.toNat:Nat):Int);omega];exact Aa e e2 z
theorem eU (e:h.get p=some (.tup xs)) (e2:xs[q]? =some w) (z:Q w h):wP .ix [.ref p,.int (Int.ofNat q)] h Q:=by
 show okQ (h.at (.ref p) fun _ o=>o.items fun xs=>Opt (nth xs q) fun w=>.ok w h) Q
 rw [dg e]
 show okQ (Opt (nth xs q) fun w=>.ok w h) Q
 rw [dw,e2];exact z
theorem JH (l:xs.length <= 16777215) (z:Q (.ref h.n) (h.push (.lst xs))):wP .lst xs h Q:=by
 show okQ (ifB (Nat.ble (len xs) 16777215) (.alloc h (.lst xs)) .no) Q
 rw [len_eq,ble_eq,bB (decide_eq_true l)];exact z
theorem JK (l:xs.length <= 16777215) (z:Q (.ref h.n) (h.push (.tup xs))):wP .tup xs h Q:=by
 show okQ (ifB (Nat.ble (len xs) 16777215) (.alloc h (.tup xs)) .no) Q
 rw [len_eq,ble_eq,bB (decide_eq_true l)];exact z
theorem HJ (e:h.get p=some (.lst xs)) (z:Q (.ref h.n) (h.push (.lst xs))):wP .list [.ref p] h Q:=by
 show okQ (h.at (.ref p) fun _ o=>o.items fun xs=>.alloc h (.lst xs)) Q
 rw [dg e];exact z
theorem BJ (e:h.get p=some (.lst xs)) (e2:h.get q=some (.lst ys)) (l:xs.length + ys.length <= 16777215) (z:Q (.ref h.n) (h.push (.lst (xs ++ ys)))):wP .add [.ref p,.ref q] h Q:=by
 show okQ (h.at (.ref p) fun _ x=>h.at (.ref q) fun _ y=>O.casesOn x (fun _=>.no) (fun xs=>y.onL fun ys=>size (app xs ys) (.alloc h (.lst (app xs ys)))) (fun _ _=>.no) (fun _=>.no) (fun _=>.no) (fun _=>.no)) Q
 rw [dg e,dg e2]
 show okQ (ifB (Nat.ble (len (app xs ys)) 16777215) (.alloc h (.lst (app xs ys))) .no) Q
 rw [len_eq,dm,ble_eq,bB (decide_eq_true (by rw [List.length_append];exact l))];exact z
theorem iY:∀ ns:List Int,cO (ns.map W.int)=some ns
 | []=>rfl
 | n::ns=>by
   show Option.rec (motive:=fun _=>Option (List Int)) none (fun r=>some (n::r)) (cO (ns.map W.int))=_
   rw [iY ns]
theorem JL (e:h.get p=some (.lst (ns.map W.int))) (z:Q (.int ns.sum) h):wP .sum [.ref p] h Q:=by
 show okQ (h.at (.ref p) fun _ o=>o.onL fun xs=>Opt (cO xs) fun ns=>.ok (.int (sumZ ns)) h) Q
 rw [dg e]
 show okQ (Opt (cO (ns.map W.int)) fun ns=>.ok (.int (sumZ ns)) h) Q
 rw [iY]
 show Q (.int (sumZ ns)) h
 rw [pF];exact z
theorem HN {b:Bool} (z:Q (.bl (!b)) h):wP .rB [.bl b] h Q:=by cases b <;> exact z
theorem Ab {b:Bool} (z:Q (.bl b) h):wP .truth [.bl b] h Q:=z
theorem jQ {e:X} {Q:Iv->Hs->Prop} (x:wX e K n τ h fun w h1=>∃ p ws,w= .ref p/\((h1.get p=some (.lst ws)/\Q (.lst p) h1)\/(h1.get p=some (.tup ws)/\Q (.tup p) h1))):wI (.seq e) K n τ h Q:=by
 show okQ ((e.f K n τ h).bind fun r h=>r.toW fun w=>h.at w fun n o=>O.casesOn o (fun _=>.ok (.iv (.tup n)) h) (fun _=>.ok (.iv (.lst n)) h) (fun _ _=>.no) (fun _=>.no) (fun _=>.no) (fun _=>.no)) (aV Q)
 obtain ⟨w,h1,ea,p,ws,rfl,g⟩:=cP x
 rw [ea]
 show okQ (h1.at (.ref p) fun n o=>O.casesOn o (fun _=>.ok (.iv (.tup n)) h1) (fun _=>.ok (.iv (.lst n)) h1) (fun _ _=>.no) (fun _=>.no) (fun _=>.no) (fun _=>.no)) (aV Q)
 rcases g with ⟨g,q⟩ | ⟨g,q⟩ <;> rw [dg g] <;> exact q
theorem xY {k:R Ev.A} (a:j < 1000000000) (b: -1000000000 < j):within j k=k:=by
 show ifB (ilt j 1000000000) (ifB (ilt (-1000000000) j) k .no) .no=_
 rw [bL,bL,bB (decide_eq_true a),bB (decide_eq_true b)]
theorem sI {e:X} {Q:Iv->Hs->Prop} (x:wX e K n τ h fun w h1=>∃ j:Int,w= .int j/\j < 1000000000/\-1000000000 < j/\Q (.rng 0 j.toNat) h1):wI (.kY [e]) K n τ h Q:=by
 show okQ ((goA [e] K n τ h).bind fun r h=>r.toL fun ws=>rC ws fun w=>w.onI fun j=>within j (.ok (.iv (.rng 0 j.toNat)) h)) (aV Q)
 obtain ⟨w,h1,ea,j,rfl,l1,l2,q⟩:=cP x
 have:goA [e] K n τ h= .ok (.ws [.int j]) h1:=by
  show R.rec (motive:=fun _=>R Ev.A) (fun r h=>A.rec (motive:=fun _=>R Ev.A) (fun w=>R.rec (motive:=fun _=>R Ev.A) (fun r h=>A.rec (motive:=fun _=>R Ev.A) (fun _=>.no) (fun ws=>.ok (.ws (w::ws)) h) (fun _=>.no) (fun _=>.no) .no r) (fun C fs h=>.ex C fs h) .no (goA [] K n τ h)) (fun _=>.no) (fun _=>.no) (fun _=>.no) .no r) (fun C fs h=>.ex C fs h) .no (e.f K n τ h)=_
  rw [ea];rfl
 rw [this]
 show okQ (within j (.ok (.iv (.rng 0 j.toNat)) h1)) (aV Q)
 rw [xY l1 l2];exact q
def lD (lo:Int) (m:Nat):List W:=(List.range m).map fun k=>.int (lo + Int.ofNat k)
theorem bC {lo:Int} {m:Nat}:(lD lo m).length=m:=by simp [lD]
theorem jR {lo:Int} {m k:Nat} (l:k < m):(lD lo m)[k]? =some (.int (lo + Int.ofNat k)):=by simp [lD,l]
theorem pG {lo:Int} {m:Nat} {h:Hs}:Its (.rng lo m) (lD lo m) h:=.inr (.inr ⟨lo,by rw [bC],fun i l=>jR (by rw [bC] at l;exact l)⟩)
theorem g8 {h1 h2:Hs} (e:h1.get p=some (.lst xs)) (l:p < h1.n) (x:Ext h1 h2):Its (.lst p) xs h2:=.inl ⟨p,rfl,x.get l e⟩
end
end Ev
namespace Ev
section
variable {K:Ks} {n:Nat} {τ:Sg} {h:Hs} {ss:List S}
theorem cF {i:Nat} {w:W} {Q:W->Hs->Prop} (e:aP τ i=some w) (q:Q w h):wX (.var i) K n τ h Q:=(Hz e).mpr q
theorem oG {A:Nat->Prop} {i:Int}:Rd h A (.int i) (.int i):=by simp only [Rd]
theorem jw {Q:Fl->Hs->Prop} (x:wS ss K n τ h Q):vO ss K n h Q (.nx τ):=x
theorem DQ {w:W} {Q:Fl->Hs->Prop} (x:Q (.rt w) h):vO ss K n h Q (.rt w):=x
theorem HQ {w:W} {Q:W->Hs->Prop} (x:Q w h):Hy Q (.rt w) h:=x
theorem BK {J:Sg->Hs->Prop} {Q:Fl->Hs->Prop} (x:J τ h):lpQ J Q (.nx τ) h:=x
theorem HR {t f:Prop} (x:f):bW (.bl false) t f:=x
theorem JM {t f:Prop} (x:f):bW (.bl (!true)) t f:=x
theorem vV {c:Prop} [Decidable c] {t f:Prop} (x:c->t) (y:¬ c->f):bW (.bl (decide c)) t f:=by
 by_cases z:c
 · rw [decide_eq_true z];exact x z
 · rw [decide_eq_false z];exact y z
theorem JN {b:Bool} {t f:Prop} (e:b=false) (y:f):bW (.bl b) t f:=by subst e;exact y
theorem HS {b:Bool} {t f:Prop} (e:b=true) (y:t):bW (.bl b) t f:=by subst e;exact y
theorem uI {l:List Int} {k:Nat} (z:k < l.length):(l.map W.int)[k]? =some (.int (l.getD k 0)):=by
 rw [List.getElem?_map,List.getElem?_eq_getElem z];simp [List.getD,List.getElem?_eq_getElem z]
theorem pZ:∀ {row ls:List Int},L2.Drawn row ls->row.length=ls.length
 | _,_,.nil=>rfl
 | _,_,.cons _ t=>by simp [pZ t]
theorem iG:∀ {row ls:List Int} {k:Nat},L2.Drawn row ls->k < ls.length->0 <= row.getD k 0/\row.getD k 0 < ls.getD k 0
 | _,_,k,.nil,l=>by simp at l
 | _,_,0,.cons a _,_=>by simpa using a
 | _,_,k + 1,.cons _ t,l=>by simpa using iG (k:=k) t (by simpa using l)
theorem HW {n:Nat} {r:R A} (x:okQ r (aF fun f _=>∃ τ,(f= .nx τ\/f= .ct τ)/\τ.length=n/\aP τ 0=none)):z_ n r=true:=by
 cases r with
 | ok a h=>cases a with
   | fl f=>
     obtain ⟨τ,e,l,g⟩:=x
     have z:ifB (Nat.beq (len τ) n) (off τ 0) false=true:=by
      rw [len_eq,c7.mpr l]
      show Option.rec (motive:=fun _=>Bool) true (fun _=>false) (aP τ 0)=true
      rw [g]
     rcases e with rfl | rfl <;> exact z
   | _=>exact x.elim
 | _=>exact x.elim
end
end Ev
namespace Ev
section
variable {K:Ks} {n:Nat} {τ:Sg} {h:Hs} {Q:W->Hs->Prop} {i j:Int} {p q:Nat} {xs ys:List W} {A B:Nat->Prop}
theorem HX {i j:Nat} {a b:X} {Q:Fl->Hs->Prop}:w1 (.par i j a b) K n τ h Q ↔ wA [a,b] K n τ h fun ws h=>∃ u w,ws= [u,w]/\Q (.nx (setAt (setAt τ (some u) i) (some w) j)) h:=by
 show okQ ((goA [a,b] K n τ h).bind fun r h=>r.toL fun ws=>rD ws fun u w=>R.ok (A.fl (.nx (setAt (setAt τ (some u) i) (some w) j))) h) (aF Q) ↔ okQ (goA [a,b] K n τ h) _
 generalize goA [a,b] K n τ h=r
 cases r with
 | ok x h1=>cases x with
   | ws ws=>
     match ws with
     | []=>exact ⟨fun z=>z.elim,fun ⟨_,_,e,_⟩=>by cases e⟩
     | [u]=>exact ⟨fun z=>z.elim,fun ⟨_,_,e,_⟩=>by cases e⟩
     | [u,w]=>exact ⟨fun z=>⟨u,w,rfl,z⟩,fun ⟨_,_,e,q⟩=>by cases e;exact q⟩
     | _::_::_::_=>exact ⟨fun z=>z.elim,fun ⟨_,_,e,_⟩=>by cases e⟩
   | _=>exact Iff.rfl
 | _=>exact Iff.rfl
theorem Ld {c:Prop} [Decidable c] {t f:Prop} (x:¬ c->t) (y:c->f):bW (.bl (!decide c)) t f:=by
 by_cases z:c
 · rw [decide_eq_true z];exact y z
 · rw [decide_eq_false z];exact x z
theorem p_:∀ bs:List Bool,bools (bs.map W.bl)=some bs
 | []=>rfl
 | b::bs=>by
   show Option.rec (motive:=fun _=>Option (List Bool)) none (fun r=>some (b::r)) (bools (bs.map W.bl))=_
   rw [p_ bs]
theorem JP {bs:List Bool} (e:h.get p=some (.lst (bs.map W.bl))) (z:Q (.bl (bs.all id)) h):wP .all [.ref p] h Q:=by
 show okQ (h.at (.ref p) fun _ o=>o.onL fun xs=>Opt (bools xs) fun bs=>.yes (allB bs) h) Q
 rw [dg e]
 show okQ (Opt (bools (bs.map W.bl)) fun bs=>.yes (allB bs) h) Q
 rw [p_]
 show Q (.bl (allB bs)) h
 rw [uy];exact z
theorem Rds.bls:∀ {ns:List Bool} {ws:List W},Rds h A (ns.map D.bl) ws ↔ ws=ns.map W.bl
 | [],ws=>by simp only [List.map_nil,Rds]
 | n::ns,ws=>by
   simp only [List.map_cons,Rds,Rd]
   constructor
   · rintro ⟨w,r,rfl,rfl,b⟩;rw [Rds.bls.mp b]
   · rintro rfl;exact ⟨_,_,rfl,rfl,Rds.bls.mpr rfl⟩
theorem HY {ns:List Bool} {w:W}:Rd h A (.lst (ns.map D.bl)) w ↔ ∃ p,w= .ref p/\p < h.n/\A p/\h.get p=some (.lst (ns.map W.bl)):=by
 simp only [Rd,Rds.bls]
 constructor
 · rintro ⟨p,ws,e,l,a,g,rfl⟩;exact ⟨p,e,l,a,g⟩
 · rintro ⟨p,e,l,a,g⟩;exact ⟨p,_,e,l,a,g,rfl⟩
abbrev Dp (a b:Int):D:=.tup [.int a,.int b]
theorem lF {a b:Int} {w:W}:Rd h A (Dp a b) w ↔ ∃ p,w= .ref p/\p < h.n/\A p/\h.get p=some (.tup [.int a,.int b]):=by
 have e:[D.int a,D.int b] = [a,b].map D.int:=rfl
 simp only [Dp,Rd,e,Rds.ints]
 constructor
 · rintro ⟨p,ws,e,l,a,g,rfl⟩;exact ⟨p,e,l,a,g⟩
 · rintro ⟨p,e,l,a,g⟩;exact ⟨p,_,e,l,a,g,rfl⟩
theorem Ac {ds:List D} {w:W}:Rd h A (.lst ds) w ↔ ∃ p ws,w= .ref p/\p < h.n/\A p/\h.get p=some (.lst ws)/\Rds h A ds ws:=by simp only [Rd]
theorem xZ {α:Type} (f g:α->Int):∀ l:List α,gW (l.map fun x=>Dp (f x) (g x)) <= 2
 | []=>by simp [gW]
 | n::ns=>by simp only [List.map_cons,gW,dZ];have:=xZ f g ns;omega
theorem BL {α:Type} (f g:α->Int):∀ l:List α,jP (l.map fun x=>Dp (f x) (g x))=true
 | []=>by simp [jP]
 | n::ns=>by simp [jP,okD,BL f g ns]
theorem jx {α:Type} (f g:α->Int) (l:List α):dZ (.lst (l.map fun x=>Dp (f x) (g x))) <= 12:=by simp only [dZ];have:=xZ f g l;omega
theorem mq {α:Type} (f g:α->Int) (l:List α):okD (.lst (l.map fun x=>Dp (f x) (g x)))=true:=by simp only [okD];exact BL f g l
end
end Ev
namespace Ev
open PySem PySem.Spec PySem.SeqAt PyProof.Rows L2
noncomputable section
end
section
variable {Pg:List Fn} {cl:Cn} {E:XK} {d:Nat} {X:Cx} {σ σ0:L2.St} {H:Hp}
end
end Ev
namespace Ev
open PySem PyProof.Rows L2 PySem.W
section
variable {X:Cx}
end
section
variable {cl:Cn}
end
end Ev
namespace Ev
section
variable {K:Ks} {n:Nat} {τ:Sg} {h:Hs} {Q:W->Hs->Prop} {i j:Int} {p q:Nat} {xs ys:List W} {ns:List Int} {A B:Nat->Prop}
end
end Ev
namespace Ev
section
variable {K:Ks} {n:Nat} {τ:Sg} {h:Hs} {Q:W->Hs->Prop}
theorem DR {i j:Nat} {e:X} {Q:Fl->Hs->Prop} (x:wX e K n τ h fun w h1=>∃ p u v,w= .ref p/\h1.get p=some (.tup [u,v])/\Q (.nx (setAt (setAt τ (some u) i) (some v) j)) h1):w1 (.asg (.tup [.nm i,.nm j]) e) K n τ h Q:=by
 obtain ⟨w,h1,e1,p,u,v,rfl,g,q⟩:=cP x
 show okQ ((e.f K n τ h).bind fun r h=>r.toW fun w=>Opt (aA h 9 (.tup [.nm i,.nm j]) w τ) fun τ=>.ok (.fl (.nx τ)) h) (aF Q)
 rw [e1]
 show okQ (Opt (Option.rec (motive:=fun _=>Option Sg) none (fun o=>O.rec (motive:=fun _=>Option Sg) (fun xs=>bindL (aA h1 8) [.nm i,.nm j] xs τ) (fun _=>none) (fun _ _=>none) (fun _=>none) (fun _=>none) (fun _=>none) o) (h1.get p)) fun τ=>.ok (.fl (.nx τ)) h1) (aF Q)
 rw [g];exact q
end
end Ev
namespace Ev
section
variable {K:Ks} {n:Nat} {τ:Sg} {h:Hs} {Q:W->Hs->Prop} {i j:Int} {p q:Nat} {xs ys:List W} {ns:List Int} {A B:Nat->Prop}
end
end Ev
namespace Ev
open PySem PySem.W
section
variable {ps:List (Int × Int)}
end
end Ev
namespace Ev
section
variable {K:Ks} {n:Nat} {τ:Sg} {h:Hs} {Q:W->Hs->Prop} {p q:Nat} {xs ys:List W} {A B:Nat->Prop}
theorem sJ {a lo:X} (x:wX a K n τ h fun w h1=>wX lo K n τ h1 fun l h3=>∃ (p:Nat) (xs:List W) (i:Nat),w= .ref p/\l= .int (Int.ofNat i)/\i <= xs.length/\h3.get p=some (.lst xs)/\Q (.ref h3.n) (h3.push (.lst (xs.drop i)))):wX (.slice a (some lo) none) K n τ h Q:=by
 obtain ⟨w,h1,e1,x⟩:=cP x
 obtain ⟨l,h3,e2,p,xs,i,rfl,rfl,li,g,q⟩:=cP x
 have si:sIx (len xs) 0 (some (Int.ofNat i))=i:=by
  show ifB (Nat.ble i (len xs)) i (len xs)=i
  rw [len_eq,ble_eq,bB (decide_eq_true li)]
 show okQ ((a.f K n τ h).bind fun r h=>r.toW fun w=>jG K n (some lo) τ h fun l h=>jG K n none τ h fun u h=>h.at w fun _ o=>
  O.rec (fun xs=>ifB (ifB (Nat.beq (sIx (len xs) 0 l) 0) (Nat.beq (sIx (len xs) (len xs) u) (len xs)) false) .no (ofW (.alloc h (.tup (tak (drp xs (sIx (len xs) 0 l)) (sIx (len xs) (len xs) u - sIx (len xs) 0 l)))))) (fun xs=>ofW (.alloc h (.lst (tak (drp xs (sIx (len xs) 0 l)) (sIx (len xs) (len xs) u - sIx (len xs) 0 l))))) (fun _ _=>.no) (fun _=>.no) (fun _=>.no) (fun _=>.no) o) (aW Q)
 rw [e1]
 show okQ ((lo.f K n τ h1).bind fun r h=>r.toW fun w=>w.onI fun l=>h.at (.ref p) fun _ o=>
  O.rec (fun xs=>ifB (ifB (Nat.beq (sIx (len xs) 0 (some l)) 0) (Nat.beq (sIx (len xs) (len xs) none) (len xs)) false) .no (ofW (.alloc h (.tup (tak (drp xs (sIx (len xs) 0 (some l))) (sIx (len xs) (len xs) none - sIx (len xs) 0 (some l))))))) (fun xs=>ofW (.alloc h (.lst (tak (drp xs (sIx (len xs) 0 (some l))) (sIx (len xs) (len xs) none - sIx (len xs) 0 (some l)))))) (fun _ _=>.no) (fun _=>.no) (fun _=>.no) (fun _=>.no) o) (aW Q)
 rw [e2]
 show okQ (h3.at (.ref p) fun _ o=>O.rec (fun xs=>ifB (ifB (Nat.beq (sIx (len xs) 0 (some (Int.ofNat i))) 0) (Nat.beq (sIx (len xs) (len xs) none) (len xs)) false) .no (ofW (.alloc h3 (.tup (tak (drp xs (sIx (len xs) 0 (some (Int.ofNat i)))) (sIx (len xs) (len xs) none - sIx (len xs) 0 (some (Int.ofNat i)))))))) (fun xs=>ofW (.alloc h3 (.lst (tak (drp xs (sIx (len xs) 0 (some (Int.ofNat i)))) (sIx (len xs) (len xs) none - sIx (len xs) 0 (some (Int.ofNat i))))))) (fun _ _=>.no) (fun _=>.no) (fun _=>.no) (fun _=>.no) o) (aW Q)
 rw [dg g]
 show Q (.ref h3.n) (h3.push (.lst (tak (drp xs (sIx (len xs) 0 (some (Int.ofNat i)))) (len xs - sIx (len xs) 0 (some (Int.ofNat i))))))
 rw [si,nT,nR,len_eq,List.take_of_length_le (by rw [List.length_drop];omega)];exact q
theorem Rds.at {ds:List D} {ws:List W} {i:Nat} {w:W} (r:Rds h A ds ws) (e:ws[i]? =some w):∃ d,ds[i]? =some d/\Rd h A d w:=by
 have l:i < ds.length:=by have:=(List.getElem?_eq_some_iff.mp e).1;rw [r.length] at this;exact this
 obtain ⟨w',e',x⟩:=r.get (List.getElem?_eq_getElem l)
 rw [e] at e';cases e'
 exact ⟨_,List.getElem?_eq_getElem l,x⟩
end
end Ev
namespace L2
open PySem PySem.Spec PySem.SeqAt PyProof.Rows
section
variable {X:Cx}
end
end L2
namespace Ev
open PySem PySem.Spec PySem.SeqAt PyProof.Rows L2
noncomputable section
end
section
variable {ρ:List Addr}
end
section
variable {Pg:List Fn} {cl:Cn} {E:XK} {d:Nat} {X:Cx} {σ σ0:L2.St} {H:Hp}
end
end Ev
namespace L2
open PySem
end L2
namespace Ev
open PySem PySem.Spec PySem.SeqAt PyProof.Rows L2
noncomputable section
end
section
variable {X:Cx}
variable {Pg:List Fn} {cl:Cn} {E:XK} {d:Nat}
end
end Ev
namespace L2
open PySem PySem.Spec PySem.SeqAt PyProof.Rows
section
variable {X:Cx}
end
end L2
namespace Ev
open PySem PySem.Spec PySem.SeqAt PyProof.Rows L2
noncomputable section
end
section
variable {X:Cx} {Pg:List Fn} {cl:Cn} {E:XK} {d:Nat}
end
end Ev
namespace L2
open PySem PySem.Spec PySem.SeqAt PyProof.Rows
section
variable {X:Cx}
end
end L2
namespace Ev
open PySem PySem.Spec PySem.SeqAt PyProof.Rows L2
noncomputable section
def W.onS {β:Type} (w:W) (f:List Nat->R β):R β:=W.rec .no (fun _=>.no) (fun _=>.no) f (fun _=>.no) w
def JQ (xs:List W):Option (List (List Nat)):=List.rec (some []) (fun x _ r=>W.elim x none (fun _=>none) (fun _=>none) (fun c=>Option.rec none (fun cs=>some (c::cs)) r) (fun _=>none)) xs
def H9 (cs:List (List Nat)):Nat:=List.rec 0 (fun c _ r=>len c + r) cs
def JR (z:List Nat) (cs:List (List Nat)):List Nat:=(PySem.Txt.join (nm z) (cs.map nm)).cps.toList
def JS (z:List Nat) (h:Hs) (a:W):R W:=h.at a fun _ o=>o.onL fun xs=>Opt (JQ xs) fun cs=>ifB (Nat.ble (H9 cs + len cs * len z) 16777216) (.ok (.str (JR z cs)) h) .no
def Pr.join (z:List Nat):Pr:=⟨fun ws h=>cj ws (JS z h)⟩
end
section
variable {X:Cx} {Pg:List Fn} {cl:Cn} {E:XK} {d:Nat} {ρ:List Addr} {H:Hp} {P:A->Hs->List Addr->Hp->Prop}
end
end Ev
namespace Ev
open PySem PySem.Spec PySem.SeqAt PyProof.Rows L2
section
variable {h:Hs} {Q:W->Hs->Prop} {K:Ks} {n:Nat} {τ:Sg} {A:Nat->Prop}
theorem sO {a hi:X} (x:wX a K n τ h fun w h1=>wX hi K n τ h1 fun u h3=>∃ (p:Nat) (xs:List W) (j:Nat),w= .ref p/\u= .int (Int.ofNat j)/\j <= xs.length/\h3.get p=some (.lst xs)/\Q (.ref h3.n) (h3.push (.lst (xs.take j)))):wX (.slice a none (some hi)) K n τ h Q:=by
 obtain ⟨w,h1,e1,x⟩:=cP x
 obtain ⟨u,h3,e2,p,xs,j,rfl,rfl,lj,g,q⟩:=cP x
 have si:sIx (len xs) (len xs) (some (Int.ofNat j))=j:=by
  show ifB (Nat.ble j (len xs)) j (len xs)=j
  rw [len_eq,ble_eq,bB (decide_eq_true lj)]
 show okQ ((a.f K n τ h).bind fun r h=>r.toW fun w=>jG K n none τ h fun l h=>jG K n (some hi) τ h fun u h=>h.at w fun _ o=>
  O.rec (fun xs=>ifB (ifB (Nat.beq (sIx (len xs) 0 l) 0) (Nat.beq (sIx (len xs) (len xs) u) (len xs)) false) .no (ofW (.alloc h (.tup (tak (drp xs (sIx (len xs) 0 l)) (sIx (len xs) (len xs) u - sIx (len xs) 0 l)))))) (fun xs=>ofW (.alloc h (.lst (tak (drp xs (sIx (len xs) 0 l)) (sIx (len xs) (len xs) u - sIx (len xs) 0 l))))) (fun _ _=>.no) (fun _=>.no) (fun _=>.no) (fun _=>.no) o) (aW Q)
 rw [e1]
 show okQ ((hi.f K n τ h1).bind fun r h=>r.toW fun w=>w.onI fun u=>h.at (.ref p) fun _ o=>
  O.rec (fun xs=>ifB (ifB (Nat.beq (sIx (len xs) 0 none) 0) (Nat.beq (sIx (len xs) (len xs) (some u)) (len xs)) false) .no (ofW (.alloc h (.tup (tak (drp xs (sIx (len xs) 0 none)) (sIx (len xs) (len xs) (some u) - sIx (len xs) 0 none)))))) (fun xs=>ofW (.alloc h (.lst (tak (drp xs (sIx (len xs) 0 none)) (sIx (len xs) (len xs) (some u) - sIx (len xs) 0 none))))) (fun _ _=>.no) (fun _=>.no) (fun _=>.no) (fun _=>.no) o) (aW Q)
 rw [e2]
 show okQ (h3.at (.ref p) fun _ o=>O.rec (fun xs=>ifB (ifB (Nat.beq (sIx (len xs) 0 none) 0) (Nat.beq (sIx (len xs) (len xs) (some (Int.ofNat j))) (len xs)) false) .no (ofW (.alloc h3 (.tup (tak (drp xs (sIx (len xs) 0 none)) (sIx (len xs) (len xs) (some (Int.ofNat j)) - sIx (len xs) 0 none)))))) (fun xs=>ofW (.alloc h3 (.lst (tak (drp xs (sIx (len xs) 0 none)) (sIx (len xs) (len xs) (some (Int.ofNat j)) - sIx (len xs) 0 none))))) (fun _ _=>.no) (fun _=>.no) (fun _=>.no) (fun _=>.no) o) (aW Q)
 rw [dg g]
 show Q (.ref h3.n) (h3.push (.lst (tak (drp xs 0) (sIx (len xs) (len xs) (some (Int.ofNat j)) - 0))))
 rw [si,nT,nR,List.drop_zero,Nat.sub_zero];exact q
end
end Ev
namespace Ev
open PySem PySem.Spec PySem.SeqAt PyProof.Rows L2
noncomputable section
end
section
variable {Pg:List Fn} {cl:Cn} {E:XK} {d:Nat} {X:Cx} {σ σ0:L2.St} {H:Hp}
end
section
variable {K:Ks} {n:Nat} {τ:Sg} {h:Hs} {Q:W->Hs->Prop} {p q:Nat} {xs ys:List W} {A B:Nat->Prop}
variable {kvs:List (List W × W)} {ks:List W}
end
end Ev
namespace Ev
open PySem PySem.Spec PySem.SeqAt PyProof.Rows L2
section
variable {h:Hs} {Q:W->Hs->Prop} {K:Ks} {n:Nat} {τ:Sg} {A:Nat->Prop}
end
end Ev
namespace Ev
open PySem PySem.Spec PySem.SeqAt PyProof.Rows L2
noncomputable section
def O.onC {β:Type} (o:O) (f:List Int->R β):R β:=O.rec (fun _=>.no) (fun _=>.no) (fun _ _=>.no) (fun _=>.no) (fun _=>.no) f o
def JT (ns:List Int) (k:Int):Int:=if k < (ns.length:Int) then ns.getD k.toNat 0 else if ns.length=0 then 7919 * k else ns.getD (k % (ns.length:Int)).toNat 0 + 104729 * k
def JV (h:Hs) (a b:W):R W:=h.at a fun _ o=>o.onC fun ns=>b.onI fun k=>ifB (ilt (-1) k) (ifB (Nat.ble (len ns) 63) (.ok (.int (JT ns k)) h) .no) .no
def Pr.cell:Pr:=⟨fun ws h=>eY ws (JV h)⟩
end
section
variable {Pg:List Fn} {cl:Cn} {E:XK} {d:Nat} {X:Cx} {σ:L2.St} {H:Hp}
end
section
variable {K:Ks} {n:Nat} {τ:Sg} {h:Hs} {Q:W->Hs->Prop} {p:Nat}
end
end Ev
namespace Ev
open PySem PySem.Spec PySem.SeqAt PyProof.Rows L2
noncomputable section
end
section
variable {Pg:List Fn} {cl:Cn} {E:XK} {d:Nat} {X:Cx} {σ:L2.St} {H:Hp}
end
section
variable {K:Ks} {n:Nat} {τ:Sg} {h:Hs} {Q:W->Hs->Prop}
end
noncomputable section
end
end Ev
namespace Ev
open PySem PySem.Spec PySem.SeqAt PyProof.Rows L2
section
variable {prog:Program} {w:World} {A:Around} {E:Value->Shared->Prop} {s:Shared}
end
section
variable {X:Cx}
end
noncomputable section
end
section
variable {Pg:List Fn} {cl:Cn} {E:XK} {d:Nat} {X:Cx} {σ:L2.St} {H:Hp}
end
section
variable {K:Ks} {n:Nat} {τ:Sg} {h:Hs} {Q:W->Hs->Prop}
end
end Ev
namespace Ev
open PySem PySem.Spec PySem.SeqAt PyProof.Rows L2
noncomputable section
end
section
variable {Pg:List Fn} {cl:Cn} {E:XK} {d:Nat} {X:Cx} {σ:L2.St} {H:Hp}
end
section
variable {K:Ks} {n:Nat} {τ:Sg} {h:Hs} {Q:W->Hs->Prop}
end
end Ev
namespace Ev
open PySem PySem.Spec PySem.SeqAt PyProof.Rows L2
section
variable {Pg:List Fn} {cl:Cn} {d:Nat}
end
end Ev
namespace Ev
section
variable {K:Ks} {n:Nat} {τ:Sg} {h:Hs} {Q:W->Hs->Prop}
end
end Ev
namespace Ev
section
variable {K:Ks} {n:Nat} {τ:Sg} {h h':Hs} {C:Nat} {fs:Fs}
end
end Ev
namespace Ev
open PySem PySem.Spec PySem.SeqAt PyProof.Rows L2
noncomputable section
end
section
variable {Pg:List Fn} {cl:Cn} {E:XK} {d:Nat} {X:Cx} {σ σ0:L2.St} {H:Hp}
end
noncomputable section
end
section
variable {Pg:List Fn} {cl:Cn} {E:XK} {d:Nat} {X:Cx} {σ:L2.St} {ρ:List Addr}
end
section
variable {K:Ks} {n:Nat} {τ:Sg} {h:Hs} {Q:W->Hs->Prop}
end
end Ev
namespace Ev
open PySem PySem.Spec PySem.SeqAt PyProof.Rows L2
noncomputable section
end
section
variable {X:Cx}
variable {cl:Cn}
end
section
variable {K:Ks} {n:Nat} {τ:Sg} {h:Hs} {Q:W->Hs->Prop}
end
section
variable {X:Cx} {Pg:List Fn} {cl:Cn} {E:XK} {d:Nat}
end
end Ev
namespace Ev
open PySem PySem.Spec PySem.SeqAt PyProof.Rows L2
def Up (xs:Array Nat):Prop:=xs.toList.Pairwise (· < ·)
theorem getD_at {xs:Array Nat} {i d:Nat} (l:i < xs.size):xs.getD i d=xs.toList[i]'(by simpa using l):=by
 simp [Array.getD,l]
theorem qN {xs:Array Nat} (u:Up xs) {i j:Nat} (l:i < j) (lj:j < xs.size):xs.toList[i]'(by simp;omega) < xs.toList[j]'(by simpa using lj):=List.pairwise_iff_getElem.mp u i j _ _ l
theorem bgo {xs:Array Nat} (u:Up xs) (j:Nat):∀ (fuel lo hi:Nat),lo <= hi->hi <= xs.size->hi <= lo + fuel->(∀ i (l:i < xs.size),i < lo->xs.toList[i]'(by simpa using l) < j)->(∀ i (l:i < xs.size),hi <= i->j <= xs.toList[i]'(by simpa using l))->
 SetTable.below.go xs j fuel lo hi <= xs.size/\(∀ i (l:i < xs.size),i < SetTable.below.go xs j fuel lo hi->xs.toList[i]'(by simpa using l) < j)/\(∀ i (l:i < xs.size),SetTable.below.go xs j fuel lo hi <= i->j <= xs.toList[i]'(by simpa using l))
 | 0,lo,hi,a,b,c,d,e=>by
   have:lo=hi:=by omega
   subst this
   exact ⟨b,d,e⟩
 | fuel + 1,lo,hi,a,b,c,d,e=>by
   unfold SetTable.below.go
   by_cases z:lo < hi
   · rw [if_pos z]
     have lm:(lo + hi) / 2 < xs.size:=by omega
     dsimp only
     rw [getD_at lm]
     by_cases y:xs.toList[(lo + hi) / 2]'(by simpa using lm) < j
     · rw [if_pos y]
       refine bgo u j fuel _ hi (by omega) b (by omega) (fun i l li=>?_) e
       by_cases q:i=(lo + hi) / 2
       · subst q;exact y
       · exact Nat.lt_trans (qN u (show i < (lo + hi) / 2 by omega) lm) y
     · rw [if_neg y]
       refine bgo u j fuel lo _ (by omega) (by omega) (by omega) d fun i l li=>?_
       by_cases q:i=(lo + hi) / 2
       · subst q;omega
       · have:=qN u (show (lo + hi) / 2 < i by omega) l;omega
   · rw [if_neg z]
     have:lo=hi:=by omega
     subst this
     exact ⟨b,d,e⟩
theorem Ad {xs:Array Nat} (u:Up xs) (j:Nat):SetTable.below xs j <= xs.size/\(∀ a ∈ xs.toList.take (SetTable.below xs j),a < j)/\∀ a ∈ xs.toList.drop (SetTable.below xs j),j <= a:=by
 have z:=bgo u j xs.size 0 xs.size (by omega) (by omega) (by omega) (fun i l h=>absurd h (by omega)) (fun i l h=>absurd h (by omega))
 refine ⟨z.1,fun a m=>?_,fun a m=>?_⟩
 · obtain ⟨i,hi,rfl⟩:=List.mem_iff_getElem.mp m
   rw [List.length_take] at hi
   have hi1:i < SetTable.below xs j:=by omega
   have hi2:i < xs.size:=by have:=hi;simp at this;omega
   rw [List.getElem_take]
   exact z.2.1 i hi2 hi1
 · obtain ⟨i,hi,rfl⟩:=List.mem_iff_getElem.mp m
   rw [List.length_drop] at hi
   have hi2:SetTable.below xs j + i < xs.size:=by simp at hi;omega
   rw [List.getElem_drop]
   exact z.2.2 _ hi2 (Nat.le_add_right _ _)
theorem Ae {α:Type} (xs:Array α) (p:Nat) (x:α):(SetTable.insertAt xs p x).toList=xs.toList.take p ++ x::xs.toList.drop p:=by
 unfold SetTable.insertAt
 simp [List.take_of_length_le]
theorem H_ {t:SetTable} {j:Nat} (u:Up t.place) (n:t.place[SetTable.below t.place j]? ≠ some j):Up (t.put j).1.place:=by
 show Up (SetTable.insertAt t.place (SetTable.below t.place j) j)
 obtain ⟨a,b,c⟩:=Ad u j
 unfold Up
 rw [Ae]
 have u':(t.place.toList.take (SetTable.below t.place j) ++ t.place.toList.drop (SetTable.below t.place j)).Pairwise (· < ·):=by rw [List.take_append_drop];exact u
 obtain ⟨u1,u2,u3⟩:=List.pairwise_append.mp u'
 have c':∀ y ∈ t.place.toList.drop (SetTable.below t.place j),j < y:=fun y m=>by
  have h1:=c y m
  refine Nat.lt_of_le_of_ne h1 fun e=>?_
  subst e
  cases hd:t.place.toList.drop (SetTable.below t.place j) with
  | nil=>rw [hd] at m;cases m
  | cons z zs=>
    have hz:t.place[SetTable.below t.place j]? =some z:=by
     rw [<- Array.getElem?_toList,<- List.head?_drop,hd];rfl
    rw [hd] at m u2
    rcases List.mem_cons.mp m with e | e
    · subst e;exact n hz
    · have h2:=(List.pairwise_cons.mp u2).1 _ e
      have h3:=c z (by rw [hd];exact List.mem_cons_self ..)
      omega
 refine List.pairwise_append.mpr ⟨u1,List.pairwise_cons.mpr ⟨c',u2⟩,fun x mx y my=>?_⟩
 rcases List.mem_cons.mp my with e | e
 · subst e;exact b x mx
 · exact u3 x mx y e
theorem jT (n:Nat):Up (Array.range n):=by
 unfold Up
 rw [Array.toList_range]
 exact List.pairwise_lt_range
theorem Af {t:SetTable} {j:Nat} (h:∀ i,t.slot j ≠ .live i):t.place[SetTable.below t.place j]? ≠ some j:=fun e=>by
 unfold SetTable.slot at h
 dsimp only at h
 rw [e] at h
 simp at h
theorem pH {t:SetTable} {h:Int}:∀ (fuel:Nat) (p:SetTable.Probe) (j:Nat) (d:Option Nat),(∀ x,p.dummy=some x->∀ i,t.slot x ≠ .live i)->SetTable.probe.go t (fun _=>h + 1) h fuel p=some (.empty j d)->∀ i,t.slot (d.getD j) ≠ .live i
 | 0,p,j,d,hp,e=>by cases e
 | fuel + 1,p,j,d,hp,e=>by
   unfold SetTable.probe.go at e
   cases hs:t.slot p.j with
   | empty=>
     rw [hs] at e
     injection e with e
     injection e with e1 e2
     subst e1 e2
     cases hd:p.dummy with
     | none=>intro i;show t.slot p.j ≠ _;rw [hs];exact fun z=>by cases z
     | some x=>exact hp x hd
   | dummy=>
     rw [hs] at e
     refine pH fuel _ j d (fun x ex=>?_) e
     have:(t.advance { p with dummy:=some p.j }).dummy=some p.j:=by unfold SetTable.advance;split <;> rfl
     rw [this] at ex
     cases ex
     intro i;rw [hs];exact fun z=>by cases z
   | live k=>
     rw [hs] at e
     have hne:((h + 1 == h):Bool)=false:=beq_false_of_ne (by omega)
     dsimp only at e
     rw [hne] at e
     refine pH fuel _ j d (fun x ex=>?_) e
     have:(t.advance p).dummy=p.dummy:=by unfold SetTable.advance;split <;> rfl
     rw [this] at ex
     exact hp x ex
theorem Ah {t:SetTable} {h:Int} {slot:Nat} {b:Bool} (e:t.freeSlot h=some (slot,b)):∀ i,t.slot slot ≠ .live i:=by
 unfold SetTable.freeSlot at e
 split at e
 · rename_i j d z
   cases e
   exact pH _ _ j d (fun x ex=>by cases ex) z
 · cases e
theorem x_ {t:SetTable} (u:Up t.place) (es:Array (Int × Value)) (h:Int) (x:Value):Up (layNew t es h x).2.1.place/\(layNew t es h x).2.1.led=t.led:=by
 unfold layNew
 split
 · rename_i slot b z
   dsimp only
   unfold SetTable.orStandIn
   split
   · exact ⟨H_ u (Af (Ah z)),rfl⟩
   · exact ⟨jT _,rfl⟩
 · exact ⟨jT _,rfl⟩
theorem Ai {t:SetTable} (u:Up t.place) (es:Array (Int × Value)) (n:Nat):Up (relayAll t es n).2.1.place/\(relayAll t es n).2.1.led=t.led:=by
 unfold relayAll
 split
 · rename_i t' order z
   dsimp only
   split
   · unfold SetTable.relaid SetTable.laid at z
     obtain ⟨ow,_,z⟩:=Option.bind_eq_some_iff.mp z
     cases z
     refine ⟨?_,rfl⟩
     show ((List.filterMap _ _).map _).Pairwise _
     rw [List.pairwise_map]
     refine List.Pairwise.filterMap _ ?_ (List.pairwise_lt_range (n:=_))
     intro a b l x hx y hy
     obtain ⟨_,_,rfl⟩:=Option.map_eq_some_iff.mp hx
     obtain ⟨_,_,rfl⟩:=Option.map_eq_some_iff.mp hy
     exact l
   · exact ⟨jT _,rfl⟩
 · exact ⟨jT _,rfl⟩
end Ev
namespace Ev
open PySem PySem.Spec PySem.SeqAt PyProof.Rows L2
def byT (w:World):Bool:=w.params.followText "set-order"
def d7 (prog:Program) (w:World) (h:Heap) (a:Addr) (ks:List Int):Prop:=∃ (o:Obj) (es:Array (Int × Value)) (ep:Nat) (t:SetTable) (ms:List Int),h.get? a=some o/\o.ExactSet/\o.data= .set es ep t/\ElemsOf (intKind prog w) es.toList/\es.size < scanBound/\t.fits es.size=true/\Up t.place/\t.led= !byT w/\IntsAre (es.toList.map (·.2)) ms/\ms.Perm ks
theorem lG {us vs:List Value} (p:us.Perm vs):∀ {ms:List Int},IntsAre us ms->∃ ns,IntsAre vs ns/\ns.Perm ms:=by
 induction p with
 | nil=>intro ms h;exact ⟨ms,h,.refl _⟩
 | cons x _ ih=>
   intro ms h
   cases h with
   | cons n t r=>obtain ⟨ns,a,b⟩:=ih r;exact ⟨n::ns,.cons n t a,b.cons n⟩
 | swap x y l=>
   intro ms h
   cases h with
   | cons n t r=>cases r with
     | cons n2 t2 r2=>exact ⟨n2::n::_,.cons n2 t2 (.cons n t r2),.swap ..⟩
 | trans _ _ i1 i2=>
   intro ms h
   obtain ⟨n1,a1,b1⟩:=i1 h
   obtain ⟨n2,a2,b2⟩:=i2 a1
   exact ⟨n2,a2,b2.trans b1⟩
theorem sS {k:Int}:∀ {vs:List Value} {ms:List Int},IntsAre vs ms->(k ∈ ms ↔ ∃ v ∈ vs,Value.isInt k v=true)
 | _,_,.nil=>by simp
 | _,_,.cons n t r=>by
   have e:Value.isInt k (.int n t)=true ↔ k=n:=by simp [Value.isInt];exact eq_comm
   simp only [List.mem_cons,exists_eq_or_imp,sS r,e]
theorem ints_snoc {k:Int} {t:Tok}:∀ {vs:List Value} {ms:List Int},IntsAre vs ms->IntsAre (vs ++ [.int k t]) (ms ++ [k])
 | _,_,.nil=>.cons k t .nil
 | _,_,.cons n u r=>.cons n u (ints_snoc r)
section
variable {prog:Program} {w:World} {A:Around} {E:Value->Shared->Prop} {s:Shared}
theorem sU {es:Array (Int × Value)} {ms ks:List Int} {k:Int} (hi:IntsAre (es.toList.map (·.2)) ms) (hp:ms.Perm ks):(es.toList.findIdx? fun e=>(intKind prog w).is k e.2)=none ↔ k ∉ ks:=by
 rw [List.findIdx?_eq_none_iff,<- hp.mem_iff,sS hi]
 constructor
 · rintro h ⟨v,mv,hv⟩
   obtain ⟨e,me,rfl⟩:=List.mem_map.mp mv
   have h1:Value.isInt k e.2=false:=h e me
   rw [h1] at hv;cases hv
 · intro h e me
   show Value.isInt k e.2=false
   cases c:Value.isInt k e.2 with
   | false=>rfl
   | true=>exact absurd ⟨e.2,List.mem_map.mpr ⟨e,me,rfl⟩,c⟩ h
theorem uJ {a:Addr} {o:Obj} {es es':Array (Int × Value)} {ep:Nat} {t t':SetTable} {h:Heap} (ho:h.get? a=some o) (hx:o.ExactSet) (hd:o.data= .set es ep t) {ms ks:List Int} (hel:ElemsOf (intKind prog w) es'.toList) (hb:es'.size < scanBound) (hf:t'.fits es'.size=true) (u:Up t'.place) (hl:t'.led= !byT w) (hi:IntsAre (es'.toList.map (·.2)) ms) (hp:ms.Perm ks):
 (h.update a (Obj.putSet es' t')).get? a=some { o with data:=.set es' (ep + 1) t' }/\d7 prog w (h.update a (Obj.putSet es' t')) a ks:=by
 have hg:=(SetOf_store (knd:=intKind prog w) (S':=fun k=>es'.toList.any fun e=>(intKind prog w).is k e.2) ho hx hd hel (fun k=>by rw [List.any_eq_true]) hb hf).1
 exact ⟨hg,_,es',ep + 1,t',ms,hg,hx,rfl,hel,hb,hf,u,hl,hi,hp⟩
theorem Aj {a:Addr} {ks:List Int} {k:Int} {tok:Tok} {Q:Bool->Shared->Prop} (hS:d7 prog w s.heap a ks) (room:ks.length + 1 < scanBound) (h:∀ b h',Heap.SameBut a s.heap h'->d7 prog w h' a (step_dedup ks k)->Q b { s with heap:=h' }):
 wpAny (model prog w) A (setAddHashed a (.int k tok) ((intKind prog w).hash k)) Q E s:=by
 obtain ⟨o,es,ep,t,ms,ho,hx,hd,hel,hb,hf,u,hl,hi,hp⟩:=id hS
 have hkey:=intKind_is prog w k tok
 have hn:es.size=ks.length:=by rw [<- hp.length_eq,<- hi.length,List.length_map,Array.length_toList]
 unfold setAddHashed setAddHashedIn
 refine wpAny_holding (wpAny_bind (wpAny_setState_of ho hd hf ?_))
 dsimp only;rw [byScan_of (knd:=intKind prog w) (x:=.int k tok) rfl hb hel]
 simp only [↓reduceIte]
 unfold setAddByScan
 refine wpAny_bind (wpAny_bind (wpAny_rule (wpAny_bind (wpAny_setScan_of hkey ho hd hf hel ?_))))
 cases hr:es.toList.findIdx? fun e=>(intKind prog w).is k e.2 with
 | some j=>
   have hk:k ∈ ks:=by
    by_cases c:k ∈ ks
    · exact c
    · rw [(sU hi hp).mpr c] at hr;cases hr
   have e:step_dedup ks k=ks:=by unfold step_dedup;rw [if_pos (List.any_eq_true.mpr ⟨k,hk,by simp⟩)]
   rw [e] at h
   refine wpAny_pure (wpAny_pure ?_)
   exact h false s.heap (Heap.SameBut.refl a s.heap) hS
 | none=>
   have hk:=(sU hi hp).mp hr
   have e:step_dedup ks k=ks ++ [k]:=by
    unfold step_dedup;rw [if_neg fun z=>hk (by obtain ⟨y,my,ey⟩:=List.any_eq_true.mp z;rw [<- eq_of_beq ey];exact my)]
   rw [e] at h
   dsimp only
   have gv:∀ (b:Bool) (s₁:Shared) (Q':Unit->Shared->Prop),Q' () s₁->wpAny (model prog w) A (match b with | true=>rule "set.scan.the-table-gave-way" | false=>pure ()) Q' E s₁:=fun b s₁ Q' q=>by
    cases b
    · exact wpAny_pure q
    · exact wpAny_rule q
   have p1:=layNew_perm t es ((intKind prog w).hash k) (.int k tok)
   have f1:=layNew_fits t es ((intKind prog w).hash k) (.int k tok)
   have u1:=x_ u es ((intKind prog w).hash k) (.int k tok)
   generalize layNew t es ((intKind prog w).hash k) (.int k tok)=L at p1 f1 u1 ⊢
   obtain ⟨es1,t1,wd,gave⟩:=L
   dsimp only at p1 f1 u1 ⊢
   rw [Array.toList_push] at p1
   have hel1:ElemsOf (intKind prog w) es1.toList:=(hel.push hkey rfl).perm p1
   obtain ⟨m1,i1,q1⟩:=lG (p1.symm.map (·.2)) (by rw [List.map_append];exact ints_snoc (k:=k) (t:=tok) hi)
   have q1:m1.Perm (ks ++ [k]):=q1.trans (hp.append_right [k])
   have z1:es1.size < scanBound:=by rw [<- Array.length_toList,p1.length_eq,List.length_append,Array.length_toList,hn];simpa using room
   have l1:t1.led= !byT w:=u1.2.trans hl
   refine wpAny_bind (gv _ _ _ ?_)
   have body:∀ (g:Bool->Sem Unit),(∀ (b:Bool) (s₁:Shared) (Q':Unit->Shared->Prop),Q' () s₁->wpAny (model prog w) A (g b) Q' E s₁)->∀ (t2:SetTable) (R:Option Bool->Shared->Prop),t2=t1->(∀ h',Heap.SameBut a s.heap h'->d7 prog w h' a (ks ++ [k])->R (some true) { s with heap:=h' })->wpAny (model prog w) A (do
    storeSet a es1 t2
    if (!wd && t2.tooFull)=true then do
        g (relayAll t2 es1 (SetTable.grown es1.size)).2.2
        storeSet a (relayAll t2 es1 (SetTable.grown es1.size)).1 (relayAll t2 es1 (SetTable.grown es1.size)).2.1
        pure (some true)
     else pure (some true)) R E s:=by
    rintro g hg t2 R rfl fin
    refine wpAny_bind (wpAny_storeSet_of ho hd ?_ (fits_of_scanBound z1))
    obtain ⟨g1,X1⟩:=uJ ho hx hd hel1 z1 f1 u1.1 l1 i1 q1
    have b1:=Heap.SameBut.update s.heap a (Obj.putSet es1 t2)
    split
    · have p2:=relayAll_perm t2 es1 (SetTable.grown es1.size)
      have f2:=relayAll_fits t2 es1 (SetTable.grown es1.size)
      have u2:=Ai u1.1 es1 (SetTable.grown es1.size)
      generalize relayAll t2 es1 (SetTable.grown es1.size)=R at p2 f2 u2 ⊢
      obtain ⟨es2,t3,g2⟩:=R
      dsimp only at p2 f2 u2 ⊢
      obtain ⟨m2,i2,q2⟩:=lG (p2.symm.map (·.2)) i1
      have z2:es2.size < scanBound:=by rw [<- Array.length_toList,p2.length_eq,Array.length_toList];exact z1
      refine wpAny_bind (hg _ _ _ (wpAny_bind (wpAny_storeSet_of g1 rfl ?_ (fits_of_scanBound z2))))
      exact wpAny_pure (fin _ (b1.trans (Heap.SameBut.update _ a _)) (uJ g1 hx rfl (hel1.perm p2) z2 f2 u2.1 (u2.2.trans l1) i2 (q2.trans q1)).2)
    · exact wpAny_pure (fin _ b1 X1)
   split
   · refine wpAny_bind ?_
     rw [hashByValue_scannable 8 (x:=.int k tok) rfl]
     refine wpAny_pure (body _ ?_ _ _ rfl fun h' b X=>wpAny_pure (h true h' b X))
     intro b s₁ Q' q
     cases b
     · exact wpAny_pure q
     · exact wpAny_rule q
   · refine wpAny_bind (wpAny_pure (body _ ?_ _ _ rfl fun h' b X=>wpAny_pure (h true h' b X)))
     intro b s₁ Q' q
     cases b
     · exact wpAny_pure q
     · exact wpAny_rule q
end
end Ev
namespace Ev
open PySem PySem.Spec PySem.SeqAt PyProof.Rows L2
theorem d7.keep {prog:Program} {w:World} {h h':Heap} {a:Addr} {ks:List Int} (x:d7 prog w h a ks) (k:∀ o,h.get? a=some o->h'.get? a=some o):d7 prog w h' a ks:=by
 obtain ⟨o,es,ep,t,ms,ho,r⟩:=x
 exact ⟨o,es,ep,t,ms,k o ho,r⟩
section
variable {prog:Program} {w:World} {A:Around} {R:Result->Shared->Prop} {I:Addr} {fp wr:List Addr} {G:Array GenState->Array GenState->Prop} {n:Nat} {P:Nat->Value->Prop} {St:Nat->Shared->Prop}
theorem yd (W:WalksS prog w A.in1 I fp wr G n P St) (S:Addr) (nS:S ∉ fp) (val:Nat->Int) (hv:∀ i v,P i v->∃ t,v= .int (val i) t) (hb:n + 1 < scanBound):
 ∀ (k i:Nat) (s:Shared),n=i + k->St i s->d7 prog w s.heap S (firstMet val i)->(∀ s',Moved (S::wr) G s s'->d7 prog w s'.heap S (firstMet val n)->R (.ok (.ret .none)) s')->codeAny (model prog w) A (.builtin "set.update.loop" ⟨[.ref S,.ref I],[]⟩) R s:=by
 have nw:S ∉ wr:=fun z=>nS (W.sub _ z)
 intro k
 induction k with
 | zero=>
   intro i s e st X q
   have e:i=n:=by omega
   subst e
   refine codeAny_builtin F.entry_set_update_loop ?_;rw [Around.under_plainId F.plain_set_update_loop _]
   show wpAny _ A.in1 (pyNext (.ref I) >>= _) _ _ s
   refine wpAny_bind (W.done s _ _ st fun s' m=>?_)
   exact wpAny_pure (q s' (m.mono fun b z=>List.mem_cons_of_mem _ z) (X.keep fun o e=>m.heap S _ nw e))
 | succ k ih=>
   intro i s e st X q
   have li:i < n:=by omega
   refine codeAny_builtin F.entry_set_update_loop ?_;rw [Around.under_plainId F.plain_set_update_loop _]
   show wpAny _ A.in1 (pyNext (.ref I) >>= _) _ _ s
   refine wpAny_bind (W.item i s _ _ li st fun v s' hP st' m=>?_)
   obtain ⟨t,rfl⟩:=hv i v hP
   have X':d7 prog w s'.heap S (firstMet val i):=X.keep fun o e=>m.heap S _ nw e
   show wpAny _ A.in1 (holding [Value.int (val i) t] (setAdd S (.int (val i) t)) >>= _) _ _ s'
   refine wpAny_bind (wpAny_holding ?_)
   unfold setAdd
   refine wpAny_holding (wpAny_bind ((intKind prog w).pyHash (k:=val i) (intKind_is _ _ _ _) ?_))
   refine Aj (s:={ s' with toks:=s'.toks + 1 }) X' (by have:=firstMet_length_le val i;omega) fun b h' sb X2=>?_
   rw [<- firstMet_succ] at X2
   refine wpAny_pure ⟨plainId_quiet F.plain_set_update_loop _,ih (i + 1) _ (by omega) (W.frame _ s' _ _ st' (Nat.le_succ _) fun b hb o e=>?_) X2 fun s'' m2 X3=>?_⟩
   · rw [sb.2 b fun z:b=S=>nS (z ▸ hb)];exact e
   · refine q s'' (Moved.trans W.gtrans ((m.mono fun b z=>List.mem_cons_of_mem _ z).then_heap (Nat.le_succ _) fun b o hb e=>?_) m2) X3
     rw [sb.2 b fun z:b=S=>hb (z ▸ List.mem_cons_self ..)];exact e
end
abbrev eF (w:World):Obj:={ cls:=.type "set",dict:=none,data:=.set #[] 0 (.fresh 0 0 (!byT w)) }
section
variable {prog:Program} {w:World} {A:Around} {E:Value->Shared->Prop} {s:Shared}
theorem Ak (a:Value) {Q:Value->Shared->Prop} (h:Q (.ref s.heap.objs.size) { s with heap:=s.heap.push (eF w) }):codeAny (model prog w) A (PySem.Code.call (PySem.Value.builtin "set.__new__") ⟨[.type "set",a],[]⟩) (PySem.wants Q E) s:=by
 refine codeAny_of_tree ?_
 show wpAny _ A.in1 (do checkBuiltinCall "set.__new__" ⟨[.type "set",a],[]⟩;PySem.again (.builtin "set.__new__" ⟨[.type "set",a],[]⟩)) _ _ s
 refine wpAny_bind (wpAny_of_eq (F.newCall_set_1 a) (wpAny_pure ⟨plainId_quiet F.plain_set_new _,codeAny_builtin F.entry_set_new ?_⟩))
 rw [Around.under_plainId F.plain_set_new _]
 unfold Builtin.«set.__new__» Builtin.Frozenset.newClass
 have hsub:=sub_set_self
 obtain ⟨hp,g,d,tk,os⟩:=s
 dsimp only
 wp_walk
 refine wpAny_askSetting (wpAny_pure ?_)
 dsimp only;simp only [newObj]
 exact wpAny_bind (wpAny_alloc (wpAny_pure (wpAny_pure h)))
theorem vW {h:Heap} {a:Addr} (e:h.get? a=some (eF w)):d7 prog w h a []:=
 ⟨_,#[],0,_,[],e,⟨rfl,rfl,rfl⟩,rfl,fun e m=>(by cases m),by unfold scanBound;decide,rfl,.nil,rfl,.nil,.refl _⟩
end
end Ev
namespace Ev
open PySem PySem.Spec PySem.SeqAt PyProof.Rows L2
section
variable {prog:Program} {w:World} {A:Around} {E:Value->Shared->Prop} {s:Shared}
theorem ye {l:Addr} {items:Array Value} {ns:List Int} {Q:Value->Shared->Prop} (hh:A.handled=none) (hl:s.heap.IsList l items) (hi:IntsAre items.toList ns) (hb:items.size + 1 < scanBound)
 (h:∀ (h':Heap) (tk:Nat),d7 prog w h' s.heap.objs.size (firstMet (fun i=>ns.getD i 0) items.size)->(∀ b o,b < s.heap.objs.size->s.heap.get? b=some o->h'.get? b=some o)->Q (.ref s.heap.objs.size) { s with heap:=h',toks:=tk }):
 wpAny (model prog w) A (PySem.call (.type "set") [.ref l]) Q E s:=by
 obtain ⟨c,tl,hmro⟩:=F.called_set.mro
 have hmade:=F.called_set.made;have hsub:=F.called_set.sub
 refine wpAny_call (codeAny_of_tree ?_)
 show wpAny _ _ (callAny (.type "set") _) _ _ _
 refine wpAny_pure ⟨Code.quiet_builtin _ (by decide +kernel),codeAny_builtin F.entry_type_call ?_⟩;rw [Around.under_plain (weight_type_call_type "set" [.ref l] []) rfl]
 have h1:=F.called_set.notType;have h2:=F.called_set.canCreate
 have hct:=F.typeCall_set_1 (.ref l)
 repeat (any_goals (first | assumption | wp_step))
 refine codeAny_mono (Ak (.ref l) (E:=E) (Q:=fun ob s₁=>ob= .ref s.heap.objs.size/\s₁= { s with heap:=s.heap.push (eF w) }) ⟨rfl,rfl⟩) fun r s₁ hr=>?_
 cases r with
 | error e=>exact hr
 | ok fl=>
   cases fl with
   | ret ob=>
     obtain ⟨rfl,rfl⟩:=hr
     have gS:(s.heap.push (eF w)).get? s.heap.objs.size=some (eF w):=Heap.get?_push_size _ rfl
     have hT:Shared.TypeIs { s with heap:=s.heap.push (eF w) } (.ref s.heap.objs.size) "set":=⟨_,gS,rfl⟩
     have hli:=F.called_set.init.lookup;have hbi:=F.called_set.init.bind (.ref s.heap.objs.size)
     repeat (any_goals (first | assumption | wp_step))
     refine codeAny_mono (codeAny_call_builtin (R:=PySem.wants (fun r s₂=>r= .none/\∃ h' tk,s₂= { s with heap:=h',toks:=tk }/\d7 prog w h' s.heap.objs.size (firstMet (fun i=>ns.getD i 0) items.size)/\(∀ b o,b < s.heap.objs.size->s.heap.get? b=some o->h'.get? b=some o)) E) F.called_set.init.plain F.entry_set_init (check_set_init_1 hT ?_)) fun r₂ s₂ hr₂=>?_
     · obtain ⟨ol,hol,hcl,nl,hdl⟩:=hl
       obtain ⟨ocls,odict,odata,oslots⟩:=ol
       simp only at hcl hdl;subst hcl;subst hdl
       have hol':(s.heap.push (eF w)).get? l=some { cls:=.type "list",dict:=odict,data:=.seq items nl,slots:=oslots }:=Heap.get?_push_of_some _ hol
       have hsls:=F.sub_list_set;have hslf:=F.sub_list_frozenset
       have hne:(Value.type "list" == Value.type "dict")=false:=by decide
       have hl1:(s.heap.push (eF w)).IsList l items:=⟨_,hol',rfl,nl,rfl⟩
       unfold Builtin.«set.__init__» noKeywords Builtin.Frozenset.updateFrom
       generalize hPI:pyIter=PI
       wp_walk
       subst hPI
       refine wpAny_pyIter_list hl1 (wpAny_bind (wpAny_runValue ?_))
       have hlS:l < s.heap.objs.size:=Heap.lt_size hol
       have h3:A.in1.in1.in1.handled=none:=by simp [hh]
       have nI:l ≠ (s.heap.push (eF w)).objs.size:=by rw [Heap.size_push];exact Nat.ne_of_lt (Nat.lt_succ_of_lt hlS)
       have nS:s.heap.objs.size ∉ [(s.heap.push (eF w)).objs.size,l]:=by rw [Heap.size_push];simp;exact Nat.ne_of_gt hlS
       refine yd ((Walks.list h3 _ l nI items).toS) s.heap.objs.size nS (fun i=>ns.getD i 0) (fun i v hv=>IntsAre.int_at hi i v (by rw [Array.getElem?_toList];exact hv)) hb items.size 0 _ (by omega) ⟨⟨_,Heap.get?_push_size _ rfl,rfl,rfl⟩,hl1.push _⟩ (vW (Heap.get?_push_of_some _ gS)) fun s' hm X'=>?_
       obtain ⟨h',g',d',tk',os'⟩:=s'
       have eg:g'=s.gens:=hm.gens
       have ed:d'=s.drawn:=hm.drawn
       have eo:os'=s.os:=hm.os
       subst eg;subst ed;subst eo
       show wpAny _ _ _ _ _ _
       refine wpAny_pure ?_
       show wpAny _ _ (ret Value.none) _ _ _
       refine wpAny_pure ⟨rfl,h',tk',rfl,X',fun b o hb e=>?_⟩
       refine hm.heap b o ?_ (Heap.get?_push_of_some _ (Heap.get?_push_of_some _ e))
       rw [Heap.size_push];simp;exact ⟨Nat.ne_of_lt hb,Nat.ne_of_lt (Nat.lt_succ_of_lt hb)⟩
     · cases r₂ with
       | error e=>exact hr₂
       | ok fl₂=>
         cases fl₂ with
         | ret r=>
           obtain ⟨rfl,h',tk,rfl,X',hk'⟩:=hr₂
           repeat (any_goals (first | assumption | wp_step))
           exact h _ _ X' hk'
         | _=>exact hr₂.elim
   | _=>exact hr.elim
end
end Ev
namespace Ev
open PySem PySem.Spec PySem.SeqAt PyProof.Rows L2
theorem yf:Manifest.owners.lookup (String.ofList ['r','o','t','a','r','e','t','i','_','t','e','s'].reverse)=some Manifest.sig_set_iterator:=by kernel_rfl
theorem cI:Slot "set_iterator" "__next__" "set_iterator.__next__":=
 .of (owner:="set_iterator") (n:="__next__") (by rw [typeLookup_type,builtinLookup_eq_fast];kernel_rfl) (by decide +kernel) (by decide +kernel) (by decide +kernel) (by first | exact .inl (by decide +kernel) | exact .inr (by decide +kernel)) (by rw [isSubtype_type];kernel_rfl)
theorem jU:entryFor table "set_iterator.__next__" =some Builtin.«set_iterator.__next__»:=entryFor_of_tree (by kernel_rfl)
theorem jV (a:Value):argsOk "set_iterator.__next__" ⟨[a],[]⟩:=by
 unfold argsOk;rw [signature?_of (id:="set_iterator.__next__") (n:=['_','_','t','x','e','n','_','_']) (o:=['r','o','t','a','r','e','t','i','_','t','e','s']) (by kernel_rfl) yf];kernel_rfl
theorem uK:Slot "set_iterator" "__iter__" "set_iterator.__iter__":=
 .of (owner:="set_iterator") (n:="__iter__") (by rw [typeLookup_type,builtinLookup_eq_fast];kernel_rfl) (by decide +kernel) (by decide +kernel) (by decide +kernel) (by first | exact .inl (by decide +kernel) | exact .inr (by decide +kernel)) (by rw [isSubtype_type];kernel_rfl)
theorem Al (a:Value):argsOk "set_iterator.__iter__" ⟨[a],[]⟩:=by
 unfold argsOk;rw [signature?_of (id:="set_iterator.__iter__") (n:=['_','_','r','e','t','i','_','_']) (o:=['r','o','t','a','r','e','t','i','_','t','e','s']) (by kernel_rfl) yf];kernel_rfl
theorem Am:entryFor table "set_iterator.__iter__" =some Builtin.«dict_keyiterator.__iter__»:=
 entryFor_alias (id':="dict_keyiterator.__iter__") (by kernel_rfl) (by first | rfl | decide +kernel | (unfold String.splitOn;simp +decide [String.splitOnAux])) (by decide +kernel) (by kernel_rfl)
theorem yg:entryFor table "set.__iter__" =some Builtin.«frozenset.__iter__»:=
 entryFor_alias (id':="frozenset.__iter__") (by kernel_rfl) (by first | rfl | decide +kernel | (unfold String.splitOn;simp +decide [String.splitOnAux])) (by decide +kernel) (by kernel_rfl)
def dD (h:Heap) (I:Addr) (f:Value) (i:Nat) (S:Addr) (n ep:Nat):Prop:=∃ o,h.get? I=some o/\o.cls= .type "set_iterator"/\o.data= .fields #[f,.int i 0,.ref S,.int n 0,.int ep 0]
theorem dD.at {h h':Heap} {I:Addr} {f:Value} {i:Nat} {S:Addr} {n ep:Nat} (x:dD h I f i S n ep) (e:∀ o,h.get? I=some o->h'.get? I=some o):dD h' I f i S n ep:=let ⟨o,a,r⟩:=x;⟨o,e _ a,r⟩
def eZ (h:Heap) (S:Addr) (es:Array (Int × Value)) (ep:Nat) (t:SetTable):Prop:=∃ o,h.get? S=some o/\o.data= .set es ep t/\t.fits es.size=true
theorem eZ.at {h h':Heap} {S:Addr} {es:Array (Int × Value)} {ep:Nat} {t:SetTable} (x:eZ h S es ep t) (e:∀ o,h.get? S=some o->h'.get? S=some o):eZ h' S es ep t:=let ⟨o,a,r⟩:=x;⟨o,e _ a,r⟩
section
variable {prog:Program} {w:World} {A:Around} {E:Value->Shared->Prop} {s:Shared} {I S:Addr} {i n ep:Nat} {es:Array (Int × Value)} {t:SetTable} {f x:Value}
theorem dD.ty (x:dD s.heap I f i S n ep):s.TypeIs (.ref I) "set_iterator":=let ⟨o,a,b,_⟩:=x;⟨o,a,b⟩
theorem gY {Q:Array (Int × Value)->Shared->Prop} (hS:eZ s.heap S es ep t) (h:Q es s):wpAny (model prog w) A (setEntries S) Q E s:=by
 obtain ⟨o,ho,hd,hf⟩:=hS
 unfold setEntries
 exact wpAny_bind (wpAny_setState_of ho hd hf (wpAny_pure h))
theorem sV {sl nx:Nat} {Q:Option Value->Shared->Prop} (hit:dD s.heap I (.int sl 0) i S n ep) (hS:eZ s.heap S es ep t) (hn:es.size=n)
 (hx:∀ (A:Around) (Q:Option (Value × Nat)->Shared->Prop) (E:Value->Shared->Prop),Q (some (x,nx)) s->wpAny (model prog w) A (setNext S sl i ep) Q E s)
 (q:∀ h',dD h' I (.int nx 0) (i + 1) S n ep->Heap.SameBut I s.heap h'->Q (some x) { s with heap:=h' }):wpAny (model prog w) A (pyNext (.ref I)) Q E s:=by
 obtain ⟨o,ho,hc,hd⟩:=id hit
 unfold pyNext
 refine wpAny_bind (wpAny_attempt (wpAny_callSpecial?_slot (name:=Str.ofString "__next__") hit.ty cI (wpAny_call_entry cI hit.ty jU ?_ (jV _))))
 unfold Builtin.«set_iterator.__next__»
 refine wpAny_bind (wpAny_of_eq (a:=(Value.ref I,[])) rfl ?_)
 try dsimp only
 refine wpAny_bind (wpAny_fieldsOf ho hd ?_)
 show wpAny _ _ (setEntries S >>= _) _ _ s
 refine wpAny_bind (gY hS ?_)
 rw [if_neg (by rw [hn];simp)]
 show wpAny _ _ (setNext S sl i ep >>= _) _ _ s
 refine wpAny_bind (hx _ _ _ ?_)
 dsimp only
 refine wpAny_bind (wpAny_setField ho hd (by simp) ?_)
 have g1:=Heap.get?_update_self (Obj.mapFields (·.setIfInBounds 0 (rawInt (nx:Int)))) ho (Obj.isFreed_of_fields (Obj.data_mapFields hd _))
 have d1:(Obj.mapFields (·.setIfInBounds 0 (rawInt (nx:Int))) o).data= .fields #[rawInt (nx:Int),.int i 0,.ref S,.int n 0,.int ep 0]:=by rw [Obj.data_mapFields hd];simp
 refine wpAny_bind (wpAny_setField (s:={ s with heap:=_ }) g1 d1 (by simp) (wpAny_pure ⟨x,rfl,wpAny_pure (q _ ?_ ((Heap.SameBut.update ..).trans (Heap.SameBut.update ..)))⟩))
 exact ⟨_,Heap.get?_update_self _ g1 (Obj.isFreed_of_fields (Obj.data_mapFields d1 _)),(Obj.cls_mapFields ..).trans ((Obj.cls_mapFields ..).trans hc),by rw [Obj.data_mapFields d1];simp [rawInt]⟩
theorem vX {tp:Addr} {ps:Array Value} {k m:Nat} {tok:Tok} {Q:Option Value->Shared->Prop} (hit:dD s.heap I (.ref tp) i S n ep) (hS:eZ s.heap S es ep t) (hn:es.size=n) (hp:s.heap.IsTuple tp ps) (hk:ps[i]? =some (.int (k:Int) tok)) (hx:∃ h0,es[k]? =some (h0,x))
 (q:∀ h',dD h' I (.ref tp) (i + 1) S n ep->Heap.SameBut I s.heap h'->Q (some x) { s with heap:=h' }):wpAny (model prog w) A (pyNext (.ref I)) Q E s:=by
 obtain ⟨o,ho,hc,hd⟩:=id hit
 obtain ⟨ot,hot,_,nt,hdt⟩:=hp
 obtain ⟨h0,hx⟩:=hx
 unfold pyNext
 refine wpAny_bind (wpAny_attempt (wpAny_callSpecial?_slot (name:=Str.ofString "__next__") hit.ty cI (wpAny_call_entry cI hit.ty jU ?_ (jV _))))
 unfold Builtin.«set_iterator.__next__»
 refine wpAny_bind (wpAny_of_eq (a:=(Value.ref I,[])) rfl ?_)
 try dsimp only
 refine wpAny_bind (wpAny_fieldsOf ho hd ?_)
 show wpAny _ _ (setEntries S >>= _) _ _ s
 refine wpAny_bind (gY hS ?_)
 rw [if_neg (by rw [hn];simp)]
 show wpAny _ _ (seqItems? (.ref tp) >>= _) _ _ s
 refine wpAny_bind (wpAny_seqItems hot hdt ?_)
 simp only [Int.toNat_natCast,hk]
 unfold setNextDrawn
 obtain ⟨oS,hoS,hdS,hfS⟩:=hS
 refine wpAny_bind (wpAny_bind (wpAny_setState_of hoS hdS hfS ?_))
 dsimp only
 rw [if_neg (by simp),hx]
 refine wpAny_pure ?_
 refine wpAny_bind (wpAny_setField ho hd (by simp) (wpAny_pure ⟨x,rfl,wpAny_pure (q _ ?_ (Heap.SameBut.update ..))⟩))
 exact ⟨_,Heap.get?_update_self _ ho (Obj.isFreed_of_fields (Obj.data_mapFields hd _)),(Obj.cls_mapFields ..).trans hc,by rw [Obj.data_mapFields hd];simp [rawInt]⟩
theorem uL {B:Around} {Q:Option Value->Shared->Prop} (hh:B.handled=none) {h1:Heap} (e1:Heap.ExtBut I s.heap h1) (q:∀ h',Heap.ExtBut I s.heap h'->Q none { s with heap:=h' }):
 wpAny (model prog w) B (do raiseNew (<- newExc (Value.type "StopIteration") [])) (fun fin s'=>∃ v,fin=Fin.done (Flow.ret v)/\wpAny (model prog w) A (pure (some v)) Q E s') (fun e s'=>wpAny (model prog w) A (do
       let __do_lift <- isInstance e (Value.type "StopIteration")
       if __do_lift=true then pure none else throw e) Q E s') { s with heap:=h1 }:=by
 refine wpAny_bind ?_
 simp only [newExc,newTuple]
 refine wpAny_bind (wpAny_newObj_type ?_ (by size_fits))
 refine wpAny_bind (m:=firstArgMember _ _) (wpAny_of_eq (a:=Value.none) (by first | rfl | (simp only [firstArgMember];rfl)) ?_)
 refine wpAny_newObj_type ?_ (by size_fits)
 simp only [raiseNew]
 refine wpAny_bind (wpAny_handled ?_)
 rw [hh]
 refine wpAny_bind (wpAny_pure (wpAny_throw ?_))
 refine wpAny_bind (wpAny_isInstance (T:="StopIteration") (b:=true) ⟨_,Heap.get?_push_size _ rfl,rfl⟩ isSubtype_stop ?_)
 exact wpAny_pure (q _ ((e1.push _).push _))
theorem end_int {sl:Nat} {Q:Option Value->Shared->Prop} (hh:A.handled=none) (hit:dD s.heap I (.int sl 0) i S n ep) (hS:eZ s.heap S es ep t) (hn:es.size=n)
 (hx:∀ (A:Around) (Q:Option (Value × Nat)->Shared->Prop) (E:Value->Shared->Prop),Q none s->wpAny (model prog w) A (setNext S sl i ep) Q E s)
 (q:∀ h',Heap.ExtBut I s.heap h'->Q none { s with heap:=h' }):wpAny (model prog w) A (pyNext (.ref I)) Q E s:=by
 obtain ⟨o,ho,hc,hd⟩:=id hit
 unfold pyNext
 refine wpAny_bind (wpAny_attempt (wpAny_callSpecial?_slot (name:=Str.ofString "__next__") hit.ty cI (wpAny_call_entry cI hit.ty jU ?_ (jV _))))
 unfold Builtin.«set_iterator.__next__»
 refine wpAny_bind (wpAny_of_eq (a:=(Value.ref I,[])) rfl ?_)
 try dsimp only
 refine wpAny_bind (wpAny_fieldsOf ho hd ?_)
 show wpAny _ _ (setEntries S >>= _) _ _ s
 refine wpAny_bind (gY hS ?_)
 rw [if_neg (by rw [hn];simp)]
 show wpAny _ _ (setNext S sl i ep >>= _) _ _ s
 refine wpAny_bind (hx _ _ _ ?_)
 dsimp only
 refine wpAny_bind (wpAny_setField ho hd (by simp) ?_)
 exact uL (B:=A.in1) (show A.in1.handled=none from hh) (Heap.SameBut.update ..).extBut q
theorem yh {tp:Addr} {ps:Array Value} {Q:Option Value->Shared->Prop} (hh:A.handled=none) (hit:dD s.heap I (.ref tp) i S n ep) (hS:eZ s.heap S es ep t) (hn:es.size=n) (hp:s.heap.IsTuple tp ps) (hk:ps[i]? =none)
 (q:∀ h',Heap.ExtBut I s.heap h'->Q none { s with heap:=h' }):wpAny (model prog w) A (pyNext (.ref I)) Q E s:=by
 obtain ⟨o,ho,hc,hd⟩:=id hit
 obtain ⟨ot,hot,_,nt,hdt⟩:=hp
 unfold pyNext
 refine wpAny_bind (wpAny_attempt (wpAny_callSpecial?_slot (name:=Str.ofString "__next__") hit.ty cI (wpAny_call_entry cI hit.ty jU ?_ (jV _))))
 unfold Builtin.«set_iterator.__next__»
 refine wpAny_bind (wpAny_of_eq (a:=(Value.ref I,[])) rfl ?_)
 try dsimp only
 refine wpAny_bind (wpAny_fieldsOf ho hd ?_)
 show wpAny _ _ (setEntries S >>= _) _ _ s
 refine wpAny_bind (gY hS ?_)
 rw [if_neg (by rw [hn];simp)]
 show wpAny _ _ (seqItems? (.ref tp) >>= _) _ _ s
 refine wpAny_bind (wpAny_seqItems hot hdt ?_)
 simp only [Int.toNat_natCast,hk]
 refine wpAny_bind (wpAny_setField ho hd (by simp) ?_)
 have g1:=Heap.get?_update_self (Obj.mapFields (·.setIfInBounds 0 (rawInt 0))) ho (Obj.isFreed_of_fields (Obj.data_mapFields hd _))
 have d1:(Obj.mapFields (·.setIfInBounds 0 (rawInt 0)) o).data= .fields #[rawInt 0,.int i 0,.ref S,.int n 0,.int ep 0]:=by rw [Obj.data_mapFields hd];simp
 refine wpAny_bind (wpAny_setField (s:={ s with heap:=_ }) g1 d1 (by simp) ?_)
 have e2:Heap.ExtBut I s.heap ((s.heap.update I (Obj.mapFields (·.setIfInBounds 0 (rawInt 0)))).update I (Obj.mapFields (·.setIfInBounds 2 .none))):=((Heap.SameBut.update ..).trans (Heap.SameBut.update ..)).extBut
 exact uL (s:=s) (I:=I) (B:=A.in1) (h1:=(s.heap.update I (Obj.mapFields (·.setIfInBounds 0 (rawInt 0)))).update I (Obj.mapFields (·.setIfInBounds 2 .none))) (show A.in1.handled=none from hh) e2 q
end
end Ev
namespace Ev
open PySem PySem.Spec PySem.SeqAt PyProof.Rows L2
theorem pI {α:Type}:∀ (l:List α) (i:Nat) (h:i < l.length),(l[i]::l.eraseIdx i).Perm l
 | x::l,0,_=>.refl _
 | x::l,i + 1,h=>(List.Perm.swap x _ _).trans ((pI l i (by simpa using h)).cons x)
theorem uM {α:Type} (nx:Nat->Nat):∀ (fuel k:Nat) (left:List α) (out:Array α),left.length=fuel->(pickOrder.go nx fuel k left out).toList.Perm (out.toList ++ left)
 | 0,k,left,out,e=>by
   rw [List.length_eq_zero_iff.mp e,List.append_nil];exact .refl _
 | fuel + 1,k,left,out,e=>by
   unfold pickOrder.go
   have l:nx k % left.length < left.length:=Nat.mod_lt _ (by omega)
   rw [List.getElem?_eq_getElem l]
   dsimp only
   refine (uM nx fuel (k + 1) _ _ (by rw [List.length_eraseIdx_of_lt l];omega)).trans ?_
   rw [Array.toList_push,List.append_assoc]
   refine List.Perm.append_left _ ?_
   exact pI left _ l
theorem iZ {α:Type} (nx:Nat->Nat) (xs:Array α):(pickOrder nx xs).toList.Perm xs.toList:=by
 have:=uM nx xs.size 0 xs.toList #[] (by simp)
 simpa [pickOrder] using this
section
variable {prog:Program} {w:World} {A:Around} {E:Value->Shared->Prop} {s:Shared}
theorem uN:∀ (n:Nat) (xs:List Nat) (s:Shared) (Q:List Nat->Shared->Prop),xs.length=n->(∀ ys d',ys.Perm xs->Q ys { s with drawn:=d' })->wpAny (model prog w) A (drawOrder n xs) Q E s
 | 0,xs,s,Q,e,q=>by
   have:xs= []:=List.length_eq_zero_iff.mp e
   subst this
   unfold drawOrder
   exact wpAny_pure (q [] s.drawn (.refl _))
 | n + 1,[],s,Q,e,q=>by cases e
 | n + 1,x::xs,s,Q,e,q=>by
   unfold drawOrder
   refine wpAny_bind (show wpAny _ _ (choose .order (x::xs).length) _ _ _ from ?_)
   intro Γ p hΓ
   show Sem.wp _ Γ (.choose .order (x::xs).length .pure) _ _ p s
   rw [Sem.wp_choose]
   refine ⟨by simp,?_⟩
   show _
   generalize hi:(model prog w).w.draws .order (s.drawn.get .order) % (x::xs).length=i
   have li:i < (x::xs).length:=by rw [<- hi];exact Nat.mod_lt _ (by simp)
   rw [Sem.wp_pure]
   dsimp only
   rw [List.getElem?_eq_getElem li]
   refine wpAny_bind (uN n ((x::xs).eraseIdx i) _ _ (by rw [List.length_eraseIdx_of_lt li];omega) fun ys d' py=>wpAny_pure ?_)
   exact q _ d' ((py.cons _).trans (pI _ _ li))
theorem oH {Q:Bool->Shared->Prop} (h:Q (byT w) s):wpAny (model prog w) A setsByText Q E s:=wpAny_bind (wpAny_askSetting (wpAny_pure h))
variable {S:Addr} {es:Array (Int × Value)} {ep sl i:Nat} {t:SetTable}
theorem qd {Q:Option (Value × Nat)->Shared->Prop} (hS:eZ s.heap S es ep t) (hb:byT w=true) (h:Q (((pickOrder (w.params.setOrder S ep) es)[i]?).map fun e=>(e.2,sl)) s):wpAny (model prog w) A (setNext S sl i ep) Q E s:=by
 obtain ⟨o,ho,hd,hf⟩:=hS
 unfold setNext
 refine wpAny_bind (wpAny_setState_of ho hd hf (wpAny_bind (oH ?_)))
 rw [hb]
 simp only [↓reduceIte,bne_self_eq_false,Bool.false_eq_true]
 unfold setWalk
 refine wpAny_bind (wpAny_bind (wpAny_setState_of ho hd hf (wpAny_bind (oH ?_))))
 rw [hb]
 simp only [↓reduceIte]
 exact wpAny_bind (wpAny_askSetting (wpAny_pure (wpAny_pure h)))
theorem oJ {Q:Option (Value × Nat)->Shared->Prop} (hS:eZ s.heap S es ep t) (hb:byT w=false) (hd':(!t.plain && decide (es.size > 1))=false) (hl:t.led=true)
 (h:Q (match es[SetTable.below t.place sl]?,t.place[SetTable.below t.place sl]? with | some (_,x),some j=>some (x,j + 1) | _,_=>none) s):wpAny (model prog w) A (setNext S sl i ep) Q E s:=by
 obtain ⟨o,ho,hd,hf⟩:=hS
 unfold setNext
 refine wpAny_bind (wpAny_setState_of ho hd hf (wpAny_bind (oH ?_)))
 rw [hb]
 simp only [Bool.false_eq_true,↓reduceIte]
 show wpAny _ _ (if (!t.plain && decide (es.size > 1))=true then _ else _) _ _ _
 rw [hd',if_neg (by decide)]
 show wpAny _ _ ((if (!t.led && !es.isEmpty)=true then unsupported "set:maker-not-led" else pure ()) >>= _) _ _ _
 rw [hl]
 refine wpAny_bind ?_
 rw [if_neg (by simp)]
 exact wpAny_pure (wpAny_pure h)
end
end Ev
namespace Ev
open PySem PySem.Spec PySem.SeqAt PyProof.Rows L2
def itO (f:Value) (S:Addr) (n ep:Nat):Obj:={ cls:=.type "set_iterator",data:=.fields #[f,.int 0 0,.ref S,.int n 0,.int ep 0] }
def tpO (ys:List Nat):Obj:={ cls:=.type "tuple",data:=.seq (ys.map fun (i:Nat)=>rawInt (i:Int)).toArray }
section
variable {prog:Program} {w:World} {A:Around} {E:Value->Shared->Prop} {s:Shared} {S:Addr} {es:Array (Int × Value)} {ep:Nat} {t:SetTable}
theorem An {Q:Value->Shared->Prop} (hT:s.TypeIs (.ref S) "set") (hS:eZ s.heap S es ep t) (hz:es.size <= 1000)
 (q0:(!byT w && (!t.plain && decide (es.size > 1)))=false->Q (.ref s.heap.objs.size) { s with heap:=s.heap.push (itO (.int 0 0) S es.size ep) })
 (q1:(!byT w && (!t.plain && decide (es.size > 1)))=true->∀ ys d',ys.Perm (List.range es.size)->Q (.ref (s.heap.objs.size + 1)) { s with heap:=(s.heap.push (tpO ys)).push (itO (.ref s.heap.objs.size) S es.size ep),drawn:=d' }):
 wpAny (model prog w) A (pyIter (.ref S)) Q E s:=by
 obtain ⟨o,ho,hd,hf⟩:=hS
 refine wpAny_pyIter_slot hT F.slot_set_iter (wpAny_call_entry F.slot_set_iter hT yg ?_ (F.args_set_iter_1 _))
 unfold Builtin.«frozenset.__iter__»
 refine wpAny_bind (wpAny_of_eq (a:=S) rfl ?_)
 unfold Builtin.Frozenset.sizeOf
 refine wpAny_bind (wpAny_bind (wpAny_setEntries_of ho hd hf (wpAny_pure ?_)))
 unfold setDrawn
 refine wpAny_bind (wpAny_bind (wpAny_setState_of ho hd hf (wpAny_bind (oH (wpAny_pure ?_)))))
 show wpAny _ _ (if (!byT w && (!t.plain && decide (es.size > 1)))=true then _ else _) _ _ _
 cases c:(!byT w && (!t.plain && decide (es.size > 1))) with
 | false=>
   rw [if_neg (by decide)]
   refine wpAny_bind (wpAny_pure ?_)
   refine wpAny_bind (wpAny_setEpoch_of ho hd hf ?_)
   refine wpAny_bind (wpAny_newObj_type (wpAny_pure ⟨_,rfl,"set_iterator",_,⟨_,Heap.get?_push_size _ rfl,rfl⟩,cI.lookup,?_⟩))
   exact q0 c
 | true=>
   rw [if_pos rfl]
   refine wpAny_bind (uN es.size (List.range es.size) _ _ (by simp) fun ys d' py=>?_)
   have hl:ys.length=es.size:=by rw [py.length_eq,List.length_range]
   refine wpAny_bind ?_
   simp only [newTuple]
   refine wpAny_newObj_type ?_ (show (List.map (fun (i:Nat)=>rawInt (i:Int)) ys).toArray.size <= sizeLine by rw [List.size_toArray,List.length_map,hl,sizeLine_eq];omega)
   have ho2:(s.heap.push (tpO ys)).get? S=some o:=Heap.get?_push_of_some _ ho
   refine wpAny_bind (wpAny_setEpoch_of (s:={ s with heap:=s.heap.push (tpO ys),drawn:=d' }) ho2 hd hf ?_)
   refine wpAny_bind (wpAny_newObj_type (wpAny_pure ⟨_,rfl,"set_iterator",_,⟨_,Heap.get?_push_size _ rfl,rfl⟩,cI.lookup,?_⟩))
   have e:(s.heap.push (tpO ys)).objs.size=s.heap.objs.size + 1:=Heap.size_push ..
   have z:=q1 c ys d' py
   rw [<- e] at z
   exact z
end
theorem sW {xs:Array Nat} (u:Up xs) {j i:Nat} (hi:i <= xs.size) (h1:∀ k (l:k < xs.size),k < i->xs.toList[k]'(by simpa using l) < j) (h2:∀ k (l:k < xs.size),i <= k->j <= xs.toList[k]'(by simpa using l)):SetTable.below xs j=i:=by
 have z:=bgo u j xs.size 0 xs.size (by omega) (by omega) (by omega) (fun i l h=>absurd h (by omega)) (fun i l h=>absurd h (by omega))
 have e:SetTable.below xs j=SetTable.below.go xs j xs.size 0 xs.size:=rfl
 rw [e]
 generalize SetTable.below.go xs j xs.size 0 xs.size=b at z
 rcases Nat.lt_trichotomy b i with c | c | c
 · have a1:=h1 b (by omega) c
   have a2:=z.2.2 b (by omega) (Nat.le_refl _)
   omega
 · exact c
 · have a1:=h2 i (by omega) (Nat.le_refl _)
   have a2:=z.2.1 i (by omega) c
   omega
def slt (t:SetTable):Nat->Nat
 | 0=>0
 | i + 1=>t.place.getD i 0 + 1
theorem qe {t:SetTable} (u:Up t.place):∀ {i:Nat},i <= t.place.size->SetTable.below t.place (slt t i)=i
 | 0,_=>sW u (Nat.zero_le _) (fun k l h=>absurd h (by omega)) fun k l _=>Nat.zero_le _
 | i + 1,l=>sW u l (fun k lk h=>by
     show _ < t.place.getD i 0 + 1
     rw [getD_at (show i < t.place.size by omega)]
     by_cases c:k=i
     · subst c;omega
     · have:=qN u (show k < i by omega) (show i < t.place.size by omega);omega) fun k lk h=>by
     show t.place.getD i 0 + 1 <= _
     rw [getD_at (show i < t.place.size by omega)]
     exact qN u (show i < k by omega) lk
section
variable {prog:Program} {w:World} {A:Around} {I S:Addr} {es:Array (Int × Value)} {ep:Nat} {t:SetTable}
theorem pJ {E:Value->Shared->Prop} {s:Shared} {f:Value} {i n:Nat} {Q:Value->Shared->Prop} (hit:dD s.heap I f i S n ep) (h:Q (.ref I) s):wpAny (model prog w) A (pyIter (.ref I)) Q E s:=by
 refine wpAny_pyIter_slot hit.ty uK (wpAny_call_entry uK hit.ty Am ?_ (Al _))
 show wpAny _ _ (ret (.ref I)) _ _ s
 exact wpAny_pure ⟨_,rfl,"set_iterator",_,hit.ty,cI.lookup,h⟩
theorem yj (hh:A.handled=none) (ne:S ≠ I) (hb:byT w=true):Walks prog w A I [I,S] [I] es.size (fun i v=>((pickOrder (w.params.setOrder S ep) es).toList.map (·.2))[i]? =some v) (fun i h=>i <= es.size/\dD h I (.int (0:Nat) 0) i S es.size ep/\eZ h S es ep t) where
 sub:=fun b hb=>by simp at hb;simp [hb]
 frame:=fun _ _ _ x hk=>⟨x.1,x.2.1.at fun o e=>hk I (by simp) o e,x.2.2.at fun o e=>hk S (by simp) o e⟩
 item:=fun i s Q E hi x hQ=>by
  have hl:(pickOrder (w.params.setOrder S ep) es).toList.length=es.size:=by rw [(iZ _ es).length_eq];simp
  have hx:(pickOrder (w.params.setOrder S ep) es)[i]? =some (pickOrder (w.params.setOrder S ep) es).toList[i]:=by rw [<- Array.getElem?_toList];exact List.getElem?_eq_getElem (by omega)
  refine sV (nx:=0) (x:=((pickOrder (w.params.setOrder S ep) es).toList[i]'(by omega)).2) x.2.1 x.2.2 rfl (fun A Q E q=>qd x.2.2 hb (by rw [hx];exact q)) fun h' h1 h2=>?_
  exact hQ _ h' s.toks (by rw [List.getElem?_map,List.getElem?_eq_getElem (by omega)];rfl) ⟨hi,h1,x.2.2.at fun o e=>(h2.2 S ne).trans e⟩ fun b o hb eo=>h2.extBut b o (fun h=>hb (by simp [h])) eo
 done:=fun s Q E x hQ=>by
  have hl:(pickOrder (w.params.setOrder S ep) es).toList.length=es.size:=by rw [(iZ _ es).length_eq];simp
  have hx:(pickOrder (w.params.setOrder S ep) es)[es.size]? =none:=by rw [<- Array.getElem?_toList];exact List.getElem?_eq_none (by omega)
  exact end_int hh x.2.1 x.2.2 rfl (fun A Q E q=>qd x.2.2 hb (by rw [hx];exact q)) fun h' he=>hQ h' s.toks fun b o hb eo=>he b o (fun h=>hb (by simp [h])) eo
 self:=fun _ _ _ _ x hQ=>pJ x.2.1 hQ
theorem vY (hh:A.handled=none) (ne:S ≠ I) (hb:byT w=false) (hd:(!t.plain && decide (es.size > 1))=false) (hl:t.led=true) (u:Up t.place) (hf:t.fits es.size=true):Walks prog w A I [I,S] [I] es.size (fun i v=>(es.toList.map (·.2))[i]? =some v) (fun i h=>i <= es.size/\dD h I (.int (slt t i) 0) i S es.size ep/\eZ h S es ep t) where
 sub:=fun b hb=>by simp at hb;simp [hb]
 frame:=fun _ _ _ x hk=>⟨x.1,x.2.1.at fun o e=>hk I (by simp) o e,x.2.2.at fun o e=>hk S (by simp) o e⟩
 item:=fun i s Q E hi x hQ=>by
  have hp:t.place.size=es.size:=by simp only [SetTable.fits,Bool.and_eq_true,beq_iff_eq] at hf;exact hf.1
  refine sV (nx:=slt t (i + 1)) (x:=es[i].2) x.2.1 x.2.2 rfl (fun A Q E q=>oJ x.2.2 hb hd hl ?_) fun h' h1 h2=>?_
  · rw [qe u (by omega),Array.getElem?_eq_getElem hi,Array.getElem?_eq_getElem (by omega)]
    have e:slt t (i + 1)=t.place[i]'(by omega) + 1:=by show t.place.getD i 0 + 1=_;rw [getD_at (by omega)];rfl
    rw [e] at q
    exact q
  · exact hQ _ h' s.toks (by rw [List.getElem?_map,Array.getElem?_toList,Array.getElem?_eq_getElem hi];rfl) ⟨hi,h1,x.2.2.at fun o e=>(h2.2 S ne).trans e⟩ fun b o hb eo=>h2.extBut b o (fun h=>hb (by simp [h])) eo
 done:=fun s Q E x hQ=>by
  have hp:t.place.size=es.size:=by simp only [SetTable.fits,Bool.and_eq_true,beq_iff_eq] at hf;exact hf.1
  refine end_int hh x.2.1 x.2.2 rfl (fun A Q E q=>oJ x.2.2 hb hd hl ?_) fun h' he=>hQ h' s.toks fun b o hb eo=>he b o (fun h=>hb (by simp [h])) eo
  rw [qe u (by omega),Array.getElem?_eq_none (by omega)]
  exact q
 self:=fun _ _ _ _ x hQ=>pJ x.2.1 hQ
theorem vZ {tp:Addr} {ys:List Nat} (hh:A.handled=none) (ne:S ≠ I) (ne2:tp ≠ I) (hy:ys.Perm (List.range es.size)):Walks prog w A I [I,S,tp] [I] es.size (fun i v=>(ys.map fun k=>(es.toList.map (·.2)).getD k .none)[i]? =some v) (fun i h=>i <= es.size/\dD h I (.ref tp) i S es.size ep/\eZ h S es ep t/\h.IsTuple tp (ys.map fun (i:Nat)=>rawInt (i:Int)).toArray) where
 sub:=fun b hb=>by simp at hb;simp [hb]
 frame:=fun _ _ _ x hk=>⟨x.1,x.2.1.at fun o e=>hk I (by simp) o e,x.2.2.1.at fun o e=>hk S (by simp) o e,let ⟨o,a,r⟩:=x.2.2.2;⟨o,hk tp (by simp) o a,r⟩⟩
 item:=fun i s Q E hi x hQ=>by
  have hl:ys.length=es.size:=by rw [hy.length_eq,List.length_range]
  have ey:ys[i]? =some ys[i]:=List.getElem?_eq_getElem (by omega)
  have ly:ys[i] < es.size:=by have:=hy.mem_iff.mp (List.getElem_mem (l:=ys) (n:=i) (by omega));exact List.mem_range.mp this
  generalize hk:ys[i] =k at *
  refine vX (k:=k) (tok:=0) (x:=es[k].2) (m:=0) x.2.1 x.2.2.1 rfl x.2.2.2 (by rw [List.getElem?_toArray,List.getElem?_map,ey];rfl) ⟨es[k].1,Array.getElem?_eq_getElem ly⟩ fun h' h1 h2=>?_
  refine hQ _ h' s.toks ?_ ⟨hi,h1,x.2.2.1.at fun o e=>(h2.2 S ne).trans e,let ⟨o,a,r⟩:=x.2.2.2;⟨o,(h2.2 tp ne2).trans a,r⟩⟩ fun b o hb eo=>h2.extBut b o (fun h=>hb (by simp [h])) eo
  rw [List.getElem?_map,ey]
  simp [List.getD,ly]
 done:=fun s Q E x hQ=>by
  have hl:ys.length=es.size:=by rw [hy.length_eq,List.length_range]
  exact yh hh x.2.1 x.2.2.1 rfl x.2.2.2 (by rw [List.getElem?_toArray,List.getElem?_map,List.getElem?_eq_none (by omega)];rfl) fun h' he=>hQ h' s.toks fun b o hb eo=>he b o (fun h=>hb (by simp [h])) eo
 self:=fun _ _ _ _ x hQ=>pJ x.2.1 hQ
end
end Ev
namespace Ev
open PySem PySem.Spec PySem.SeqAt PyProof.Rows L2
section
variable {prog:Program} {w:World} {A:Around} {E:Value->Shared->Prop} {s:Shared} {S:Addr} {es:Array (Int × Value)} {ep:Nat} {t:SetTable}
theorem DW {Q:Bool->Shared->Prop} (hT:s.TypeIs (.ref S) "set") (q:Q false s):wpAny (model prog w) A (Builtin.List.listLengthHint (.ref S)) Q E s:=by
 unfold Builtin.List.listLengthHint
 refine wpAny_bind (wpAny_specialOf hT F.slot_set_len.lookup ?_)
 (generalize hid:("set.__len__":String)=id0;(fail_if_success (clear hid id0));wp_delta;rw [show splitId id0=some ("set","__len__") from by subst hid;decide +kernel];subst hid)
 refine wpAny_bind (wpAny_isInstance (b:=true) hT (by rw [isSubtype_type];kernel_rfl) ?_)
 show wpAny _ _ (typeOf (.ref S) >>= _) _ _ _
 refine wpAny_bind (wpAny_typeOf hT ?_)
 exact wpAny_pure q
abbrev ltO (c:Nat):Obj:={ cls:=.type "list",dict:=none,data:=.seq #[] c,slots:=#[] }
theorem Ao {ord:List Value} {acc:Array Value} {n:Nat} (h:ItemsOf (fun i v=>ord[i]? =some v) acc n) (e:ord.length=n):acc.toList=ord:=by
 apply List.ext_getElem?
 intro k
 rw [Array.getElem?_toList]
 by_cases l:k < acc.size
 · rw [Array.getElem?_eq_getElem l]
   exact (h.2 k _ (Array.getElem?_eq_getElem l)).symm
 · rw [Array.getElem?_eq_none (by omega),List.getElem?_eq_none (by rw [e,<- h.1];omega)]
theorem uc {Q:List Value->Shared->Prop} (hh:A.handled=none) (hT:s.TypeIs (.ref S) "set") (hS:eZ s.heap S es ep t) (hz:es.size <= 1000) (u:Up t.place) (hl:t.led= !byT w)
 (q:∀ us s',us.Perm (es.toList.map (·.2))->(∀ b o,s.heap.get? b=some o->s'.heap.get? b=some o)->s.heap.objs.size < s'.heap.objs.size->s'.gens=s.gens->s'.os=s.os->Q us s'):wpAny (model prog w) A (collect (.ref S)) Q E s:=by
 have lS:S < s.heap.objs.size:=let ⟨o,e,_⟩:=hS;Heap.lt_size e
 unfold collect
 refine wpAny_bind (wpAny_runValue (codeAny_builtin F.entry_proto_collect ?_));rw [Around.under_plainId F.plain_proto_collect _]
 show wpAny _ A.in1 (newList [] >>= fun l=>PySem.again (.builtin "list.__iadd__" ⟨[l,.ref S],[]⟩)) _ _ s
 refine wpAny_bind (wpAny_newObj_type (wpAny_pure ⟨plainId_quiet F.plain_list_iadd _,codeAny_builtin F.entry_list_iadd ?_⟩));rw [Around.under_plainId F.plain_list_iadd _]
 show wpAny _ A.in1 (Builtin.List.listExtendWith (.ref s.heap.objs.size) (.ref S) (.ref s.heap.objs.size)) _ _ { s with heap:=s.heap.push (ltO 0) }
 have k1:∀ b o,s.heap.get? b=some o->(s.heap.push (ltO 0)).get? b=some o:=fun b o e=>Heap.get?_push_of_some _ e
 have g1:(s.heap.push (ltO 0)).get? s.heap.objs.size=some (ltO 0):=Heap.get?_push_size _ rfl
 have hT1:Shared.TypeIs { s with heap:=s.heap.push (ltO 0) } (.ref S) "set":=let ⟨o,a,b⟩:=hT;⟨o,k1 _ _ a,b⟩
 have hS1:=hS.at (h':=s.heap.push (ltO 0)) fun o e=>k1 _ _ e
 have n1:(s.heap.push (ltO 0)).objs.size=s.heap.objs.size + 1:=Heap.size_push ..
 have ns:Builtin.List.listSameRef (.ref s.heap.objs.size) (.ref S)=false:=by simp [Builtin.List.listSameRef,Nat.ne_of_gt lS]
 unfold Builtin.List.listExtendWith
 refine wpAny_bind (wpAny_typeOf hT1 ?_)
 rw [if_neg (by rw [ns];decide)]
 have tail:∀ (I:Addr) (d':PySem.Drawn) (h2:Heap) (fp:List Addr) (n:Nat) (ord:List Value) (St:Nat->Heap->Prop) (R1:Fin->Shared->Prop) (R2:Value->Shared->Prop),Walks prog w A.in1 I fp [I] n (fun i v=>ord[i]? =some v) St->ord.length=n->n <= 1000->s.heap.objs.size ∉ fp->s.heap.objs.size < I->St 0 h2->h2.get? s.heap.objs.size=some (ltO 0)->(∀ b o,s.heap.get? b=some o->h2.get? b=some o)->
  (∀ c' s',R1 (.again c') s'=(c'.quiet=true/\codeAny (model prog w) A c' (fun r s'=>match r with
    | Except.ok (Flow.ret v)=>wpAny (model prog w) A (match v with
      | Value.ref a=>do
        let ob <- load a
        match ob.data with
         | Data.seq xs _=>pure xs.toList
         | _=>unsupported "internal:collect"
      | _=>unsupported "internal:collect") Q E s'
    | Except.ok a=>False
    | Except.error e=>E e s') s'))->ord.Perm (es.toList.map (·.2))->
  wpAny (model prog w) A.in1 (do
   let room <- holding [.ref I] (Builtin.List.listLengthHint (.ref S))
   if (room || true)=true then do
       rule "list.extend.makes-room"
       Builtin.List.listTouch (.ref s.heap.objs.size)
       PySem.again (Code.builtin "list.extend.loop" ⟨[.ref s.heap.objs.size,.ref I,.ref s.heap.objs.size],[]⟩)
    else PySem.again (Code.builtin "list.extend.loop" ⟨[.ref s.heap.objs.size,.ref I,.ref s.heap.objs.size],[]⟩)) R1 R2 { s with heap:=h2,drawn:=d' }:=by
  intro I d' h2 fp n ord St R1 R2 W eo hn nL lI st g2 k2 eR pm
  have hT2:Shared.TypeIs { s with heap:=h2,drawn:=d' } (.ref S) "set":=let ⟨o,a,b⟩:=hT;⟨o,k2 _ _ a,b⟩
  refine wpAny_bind (wpAny_holding (DW hT2 ?_))
  rw [if_pos (by decide)]
  refine wpAny_bind (wpAny_rule ?_)
  unfold Builtin.List.listTouch
  refine wpAny_bind (wpAny_bind (listUpdate_at g2 rfl ?_ (by simp) (by simp)))
  have g3:=get?_update_seq g2 (·.push Value.none)
  refine listUpdate_at (s:={ s with heap:=h2.update s.heap.objs.size (Obj.mapSeq (·.push Value.none)),drawn:=d' }) g3 rfl ?_ (by simp [sizeLine_eq]) (by simp)
  have g4:∃ c,((h2.update s.heap.objs.size (Obj.mapSeq (·.push Value.none))).update s.heap.objs.size (Obj.mapSeq (·.pop))).get? s.heap.objs.size=some (ltO c):=⟨_,get?_update_seq g3 (·.pop)⟩
  have k4:∀ b o,b ≠ s.heap.objs.size->h2.get? b=some o->((h2.update s.heap.objs.size (Obj.mapSeq (·.push Value.none))).update s.heap.objs.size (Obj.mapSeq (·.pop))).get? b=some o:=fun b o ne e=>by
   rw [Heap.get?_update_other _ _ (Ne.symm ne),Heap.get?_update_other _ _ (Ne.symm ne)];exact e
  obtain ⟨c4,g4⟩:=g4
  have st4:=W.frame 0 h2 _ st fun b hb o e=>k4 b o (fun z=>nL (z ▸ hb)) e
  refine wpAny_pure ?_
  rw [eR]
  refine ⟨plainId_quiet F.plain_extend_loop _,codeAny_extend_loopS W.toS (by rw [sizeLine_eq];omega) _ nL _ n 0 _ #[] _ (by omega) (Nat.zero_le _) st4 g4 (ItemsOf.nil _) fun s' acc' c' hm hS' hacc=>?_⟩
  show wpAny _ A (load s.heap.objs.size >>= _) _ _ s'
  refine wpAny_bind (wpAny_load hS' (wpAny_pure ?_))
  rw [Ao hacc eo]
  refine q ord s' pm (fun b o e=>hm.heap b o ?_ (k4 b o (Nat.ne_of_lt (Heap.lt_size e)) (k2 b o e))) (Heap.lt_size hS') hm.gens hm.os
  have:=Heap.lt_size e
  simp only [List.mem_cons,List.not_mem_nil,or_false,not_or]
  exact ⟨Nat.ne_of_lt this,Nat.ne_of_lt (Nat.lt_trans this lI)⟩
 have hA:A.in1.handled=none:=hh
 refine wpAny_bind (An hT1 hS1 hz (fun c=>?_) fun c ys d' py=>?_)
 · have k2:∀ b o,s.heap.get? b=some o->((s.heap.push (ltO 0)).push (itO (.int 0 0) S es.size ep)).get? b=some o:=fun b o e=>Heap.get?_push_of_some _ (k1 b o e)
   have gI:dD ((s.heap.push (ltO 0)).push (itO (.int 0 0) S es.size ep)) (s.heap.push (ltO 0)).objs.size (.int (0:Nat) 0) 0 S es.size ep:=⟨_,Heap.get?_push_size _ rfl,rfl,rfl⟩
   have hS2:=hS1.at (h':=(s.heap.push (ltO 0)).push (itO (.int 0 0) S es.size ep)) fun o e=>Heap.get?_push_of_some _ e
   have nI:S ≠ (s.heap.push (ltO 0)).objs.size:=by rw [n1];exact Nat.ne_of_lt (Nat.lt_succ_of_lt lS)
   have nL:s.heap.objs.size ∉ [(s.heap.push (ltO 0)).objs.size,S]:=by rw [n1];simp;exact Nat.ne_of_gt lS
   have lI:s.heap.objs.size < (s.heap.push (ltO 0)).objs.size:=by rw [n1];exact Nat.lt_succ_self _
   cases hb:byT w with
   | true=>exact tail _ s.drawn _ _ es.size _ _ _ _ (yj (t:=t) (ep:=ep) hA nI hb) (by rw [List.length_map,(iZ _ es).length_eq];simp) hz nL lI ⟨Nat.zero_le _,gI,hS2⟩ (Heap.get?_push_of_some _ g1) k2 (fun _ _=>rfl) ((iZ _ es).map _)
   | false=>
     rw [hb] at c hl
     have hf:=let ⟨_,_,_,f⟩:=hS;f
     exact tail _ s.drawn _ _ es.size _ _ _ _ (vY (ep:=ep) hA nI hb (by simpa using c) hl u hf) (by simp) hz nL lI ⟨Nat.zero_le _,gI,hS2⟩ (Heap.get?_push_of_some _ g1) k2 (fun _ _=>rfl) (.refl _)
 · have n2:((s.heap.push (ltO 0)).push (tpO ys)).objs.size=s.heap.objs.size + 2:=by rw [Heap.size_push,n1]
   have k2:∀ b o,s.heap.get? b=some o->(((s.heap.push (ltO 0)).push (tpO ys)).push (itO (.ref (s.heap.push (ltO 0)).objs.size) S es.size ep)).get? b=some o:=fun b o e=>Heap.get?_push_of_some _ (Heap.get?_push_of_some _ (k1 b o e))
   have gI:dD (((s.heap.push (ltO 0)).push (tpO ys)).push (itO (.ref (s.heap.push (ltO 0)).objs.size) S es.size ep)) ((s.heap.push (ltO 0)).objs.size + 1) (.ref (s.heap.push (ltO 0)).objs.size) 0 S es.size ep:=by
    have z:=Heap.get?_push_size ((s.heap.push (ltO 0)).push (tpO ys)) (o:=itO (.ref (s.heap.push (ltO 0)).objs.size) S es.size ep) rfl
    rw [show ((s.heap.push (ltO 0)).push (tpO ys)).objs.size=(s.heap.push (ltO 0)).objs.size + 1 from Heap.size_push ..] at z
    exact ⟨_,z,rfl,rfl⟩
   have hS2:=hS1.at (h':=((s.heap.push (ltO 0)).push (tpO ys)).push (itO (.ref (s.heap.push (ltO 0)).objs.size) S es.size ep)) fun o e=>Heap.get?_push_of_some _ (Heap.get?_push_of_some _ e)
   have gt:Heap.IsTuple (((s.heap.push (ltO 0)).push (tpO ys)).push (itO (.ref (s.heap.push (ltO 0)).objs.size) S es.size ep)) (s.heap.push (ltO 0)).objs.size (ys.map fun (i:Nat)=>rawInt (i:Int)).toArray:=⟨_,Heap.get?_push_of_some _ (Heap.get?_push_size _ rfl),rfl,_,rfl⟩
   have nI:S ≠ (s.heap.push (ltO 0)).objs.size + 1:=by rw [n1];exact Nat.ne_of_lt (Nat.lt_succ_of_lt (Nat.lt_succ_of_lt lS))
   have nL:s.heap.objs.size ∉ [(s.heap.push (ltO 0)).objs.size + 1,S,(s.heap.push (ltO 0)).objs.size]:=by
    rw [n1]
    simp only [List.mem_cons,List.not_mem_nil,or_false,not_or]
    exact ⟨Nat.ne_of_lt (Nat.lt_succ_of_lt (Nat.lt_succ_self _)),Nat.ne_of_gt lS,Nat.ne_of_lt (Nat.lt_succ_self _)⟩
   have lI:s.heap.objs.size < (s.heap.push (ltO 0)).objs.size + 1:=by rw [n1];exact Nat.lt_succ_of_lt (Nat.lt_succ_self _)
   have pm:(ys.map fun k=>(es.toList.map (·.2)).getD k .none).Perm (es.toList.map (·.2)):=by
    have e:(List.range es.size).map (fun k=>(es.toList.map (·.2)).getD k .none)=es.toList.map (·.2):=by
     apply List.ext_getElem?
     intro k
     by_cases l:k < es.size
     · simp [l]
     · simp [l]
    have z:=py.map fun k=>(es.toList.map (·.2)).getD k .none
    rw [e] at z
    exact z
   exact tail _ d' _ _ es.size _ _ _ _ (vZ (t:=t) (ep:=ep) hA nI (Nat.ne_of_lt (Nat.lt_succ_self _)) py) (by rw [List.length_map,py.length_eq,List.length_range]) hz nL lI ⟨Nat.zero_le _,gI,hS2,gt⟩ (Heap.get?_push_of_some _ (Heap.get?_push_of_some _ g1)) k2 (fun _ _=>rfl) pm
theorem v5 {ks:List Int} {Q:Value->Shared->Prop} (hh:A.handled=none) (X:d7 prog w s.heap S ks) (hz:ks.length <= 60)
 (q:∀ (a:Addr) (n:Nat) (out:Array Value) (ns:List Int) (s':Shared),IntsAre out.toList ns->ns.Perm ks->ns.Pairwise (· <= ·)->(∀ b o,s.heap.get? b=some o->s'.heap.get? b=some o)->s.heap.objs.size <= a->s'.heap.get? a=some (seqObj "list" out n)->s'.gens=s.gens->s'.os=s.os->Q (.ref a) s'):
 wpAny (model prog w) A (PySem.call (.builtin "sorted") [.ref S]) Q E s:=by
 obtain ⟨o,es,ep,t,ms,ho,hx,hd,hel,hb,hf,u,hl,hi,hp⟩:=X
 have hn:es.size=ks.length:=by rw [<- hp.length_eq,<- hi.length,List.length_map,Array.length_toList]
 refine Calls.call_function_entry kind_sorted plain_sorted entry_sorted (args_sorted1 _) ?_
 unfold Builtin.«sorted»
 refine wpAny_bind (m:=checkCount "sorted" 1 1 _) (wpAny_pure ?_)
 refine wpAny_bind (uc hh ⟨o,ho,hx.1⟩ ⟨o,ho,hd,hf⟩ (by omega) u hl fun us s' pm k lt eg eo=>?_)
 obtain ⟨m1,i1,p1⟩:=lG pm.symm hi
 have l1:us.length=ks.length:=by rw [pm.length_eq,List.length_map,Array.length_toList,hn]
 refine wpAny_bind (wpAny_newList ?_)
 have g:(s'.heap.push (seqObj "list" us.toArray 0)).get? s'.heap.objs.size=some (seqObj "list" us.toArray 0):=Heap.get?_push_size _ rfl
 refine wpAny_bind (wpAny_holding (wpAny_call_entry slot_list_sort ⟨_,g,rfl⟩ entry_list_sort (list_sort_tree (s:={ s' with heap:=s'.heap.push (seqObj "list" us.toArray 0) }) g i1 (by omega) fun out ns' a1 a2 a3=>⟨_,rfl,?_⟩) (args_list_sort _)))
 obtain ⟨e,ge⟩:=sortedHeap_at (out:=out) g
 refine wpAny_pure ⟨_,rfl,q s'.heap.objs.size e out ns' _ a1 (a2.trans (p1.trans hp)) a3 (fun b o eb=>?_) (Nat.le_of_lt lt) ge eg eo⟩
 have lb:=Heap.lt_size (k b o eb)
 show (sortedHeap _ _ us out).get? b=_
 rw [sortedHeap_old (Nat.ne_of_lt lb) (by rw [Heap.size_push];exact Nat.lt_succ_of_lt lb)]
 exact Heap.get?_push_of_some _ (k b o eb)
end
end Ev
namespace Ev
open PySem PySem.Spec PySem.SeqAt PyProof.Rows L2
noncomputable section
def sX (h:Hs) (a:W):R W:=h.at a fun _ o=>o.onL fun xs=>ifB (Nat.ble (len xs) 60) (Opt (cO xs) fun ns=>.alloc h (.lst (jO (bZ (dd ns []))))) .no
def Pr.jy:Pr:=⟨fun ws h=>cj ws (sX h)⟩
def ixZ (i:Int) (xs:List Int):Nat:=List.rec 0 (fun x _ r=>ifB (ieq x i) 0 (r + 1)) xs
def ym (h:Hs) (a b:W):R W:=h.at a fun _ o=>o.onL fun xs=>ifB (Nat.ble (len xs) 1000) (Opt (cO xs) fun ns=>b.onI fun i=>ifB (dj i ns) (.ok (.int (.ofNat (ixZ i ns))) h) .no) .no
def Pr.index:Pr:=⟨fun ws h=>eY ws (ym h)⟩
end
def yo:V->List V->Hp->VK->Prop:=fun x vs H Q=>∃ (l:Addr) (ns:List Int) (k:Int),x= .ref l/\vs= [.int k]/\H l=some (.lst (ns.map V.int))/\k ∈ ns/\ns.length <= 1000/\Q (.int (ns.idxOf k:Nat)) H
abbrev mz (P:Program) (w:World) (a:Addr) (ks:List Int):Heap->Prop:=fun h=>d7 P w h a ks
theorem JW (ns:List Int):firstMet (fun i=>ns.getD i 0) ns.length=dd ns []:=by
 unfold firstMet
 rw [Bs]
 have:(List.range ns.length).map (fun i=>ns.getD i 0)=ns:=by
  apply List.ext_getElem?
  intro i
  by_cases h:i < ns.length
  · simp [h]
  · simp [h]
 rw [this]
theorem oK:∀ (l acc:List Int),(dd l acc).length <= l.length + acc.length
 | [],acc=>by show acc.length <= _;omega
 | x::l,acc=>by
   show (dd l (ifB (dj x acc) acc (app acc [x]))).length <= _
   cases dj x acc with
   | true=>have:=oK l acc;show (dd l acc).length <= _;rw [List.length_cons];omega
   | false=>have:=oK l (app acc [x]);rw [dm] at this;show (dd l (app acc [x])).length <= _;rw [dm,List.length_cons];simp at this;omega
section
variable {X:Cx}
theorem Aq:MtM X "list.index" yo:=by
 intro pins s σ H x vs v us Q I rx rv h
 obtain ⟨l,ns,k,rfl,rfl,hH,hk,hn,q⟩:=h
 cases rx
 obtain ⟨u,rfl,ru⟩:=rv.one
 obtain ⟨t,rfl⟩:=ru
 obtain ⟨its,r',pl,hz⟩:=I.list (SqL.of hH)
 have hi:=iU r'
 have hl:=hi.length
 obtain ⟨⟨cls,dd,data,sl⟩,ho,hc,n,hd⟩:=id pl.isList
 simp only at hc hd
 subst hc hd
 have hj:ns.idxOf k < ns.length:=List.idxOf_lt_length_iff.mpr hk
 refine call_meets F.slot_list_index ⟨_,ho,rfl⟩ F.entry_list_index (F.args_list_index_2 _ _) (list_indexAt l its.toArray n dd sl (.int k t) (isInt k) (ns.idxOf k) (by simpa [hl] using hj) (by omega) ?_ ?_) ⟨ho,fun y hy=>(eq_isInt k t hi y (by simpa using hy)).at _ _,⟨.int (ns.idxOf k:Nat),H,I.tok _,⟨s.toks,rfl⟩,q⟩⟩
 · show isInt k its[ns.idxOf k] =true
   rw [isInt_at k hi _ (by omega) hj]
   simpa using List.getElem_idxOf hj
 · intro j hj1 hj2
   show isInt k its[j] =false
   rw [isInt_at k hi j (by simpa using hj1) (by omega)]
   exact ne_of_lt_idxOf hj2 _
theorem yp (hh:X.A.handled=none):eO X (.type "set") (fun xs H Q=>∃ p ns,xs= [.ref p]/\SqL X.K H p (ns.map V.int)/\ns.length <= 1000/\∀ l,H l=none->Q (.ref l) (upd H l (.ext (mz X.prog X.w l (dd ns []))))):=by
 intro pins s σ H xs us Q I r h
 obtain ⟨p,ns,rfl,hq,hn,q⟩:=h
 obtain ⟨u,rfl,rx⟩:=vals1 r
 cases rx
 obtain ⟨its,r',pl,hz⟩:=I.list hq
 have hlen:=r'.length
 rw [List.length_map] at hlen
 refine ye (items:=its.toArray) (ns:=ns) hh pl.isList (by simpa using iU r') (by simp;unfold scanBound;omega) fun h' tk hS kp=>?_
 have e:its.toArray.size=ns.length:=by simp [hlen]
 rw [e,JW] at hS
 have ho:∃ o,h'.get? s.heap.objs.size=some o:=let ⟨o,_,_,_,_,e,_⟩:=hS;⟨o,e⟩
 exact ⟨.ref s.heap.objs.size,_,I.laid (t':=tk) (fun b o e=>kp b o (Heap.lt_size e) e) (Nat.le_refl _) (show bO X.prog X.w _ h' _ (.ext (mz X.prog X.w s.heap.objs.size (dd ns []))) from ⟨hS,ho,fun h1 h2 z k=>d7.keep z k⟩),rfl,q _ (I.hok.fresh (Nat.le_refl _))⟩
theorem v7 (hh:X.A.handled=none):eO X (.builtin "sorted") (fun xs H Q=>∃ a ks ms,xs= [.ref a]/\H a=some (.ext (mz X.prog X.w a ks))/\ks.length <= 60/\(∀ ns':List Int,ns'.Perm ks->ns'.Pairwise (· <= ·)->ns'=ms)/\∀ l,H l=none->Q (.ref l) (upd H l (.lst (ms.map V.int)))):=by
 intro pins s σ H xs us Q I r h
 obtain ⟨a,ks,ms,rfl,he,hn,hu,q⟩:=h
 obtain ⟨u,rfl,rx⟩:=vals1 r
 cases rx
 obtain ⟨hX,_⟩:=I.hok a _ he
 refine v5 hh hX hn fun b n out ns' s' h1 h2 h3 kp le ge eg eo=>?_
 have z:=hu ns' h2 h3
 subst z
 have hl:=h2.length_eq
 obtain ⟨h',g',d',tk',os'⟩:=s'
 have eg:g'=s.gens:=eg
 have eo:os'=s.os:=eo
 subst eg eo
 have J:L2.Inv X pins σ H { s with drawn:=d' }:=⟨I.ok,I.os,I.bare,I.base,I.loc,I.cell,I.free,I.eN,I.pin,I.hok,I.len⟩
 exact ⟨.ref b,_,J.laid (t':=tk') (fun b o e=>kp b o e) le (show bO X.prog X.w _ h' _ (.lst (ns'.map V.int)) from ⟨by rw [List.length_map,sizeLine_eq];omega,out.toList,n,gH h1,by simpa using ge⟩),rfl,q _ (I.hok.fresh le)⟩
variable {Pg:List Fn} {cl:Cn} {E:XK} {d:Nat}
theorem yq {K:PySem.W.Frag} {P:Program} {w:World}:Op1 cl .jy (fun x H Q=>∃ p ns,x= .ref p/\SqL K H p (ns.map V.int)/\ns.length <= 60/\∀ l,H l=none->∀ l2,upd H l (.ext (mz P w l (dd ns []))) l2=none->Q (.ref l2) (upd (upd H l (.ext (mz P w l (dd ns [])))) l2 (.lst ((bZ (dd ns [])).map V.int)))):=fun E ρ h H w1 v1 Q s r1 p=>by
 have p:Post cl ρ H E (ofW (sX h w1)) (VP Q):=p
 obtain ⟨n,o,a,rfl,rfl,e1,g1,x1,p⟩:=oAt s r1 p
 obtain ⟨xs,rfl,p⟩:=oL p
 obtain ⟨hl,p⟩:=oIf p
 obtain ⟨ns,hn,p⟩:=jH p
 obtain ⟨us,ru,q⟩:=x1
 have hlen:=ru.length
 rw [jN ru hn] at q hlen
 rw [List.length_map] at hlen
 have hl':xs.length <= 60:=by rw [len_eq] at hl;exact Nat.le_of_ble_eq_true hl
 refine ⟨a,ns,rfl,SqL.of q,by omega,fun l hl l2 hl2=>?_⟩
 exact Post.newL (s.other (u:=.ext (mz P w l (dd ns []))) hl) (p.later (Bt.other hl)) hl2 (rW _)
theorem v8 {a:Expr} {x:Ev.X} {p q pos1 pos:Pos} (hh:X.A.handled=none) (hg:Gl X "sorted") (hm:X.mg "sorted" =none) (hg2:Gl X "set") (hm2:X.mg "set" =none) (ha:PE X a (tE Pg cl E d x)) (he:starEach [a] X.env=(false,eval a X.env)::starEach [] X.env:=by rfl):
 PE X (.Call (.Name "sorted" p) [.Call (.Name "set" q) [a] [] pos1] [] pos) (tE Pg cl E d (.pr .jy [x])):=by
 refine PE.of (eX (v7 hh) hg hm boot_sorted (aC (pU (yp hh) hg2 hm2 rfl (aC ha bH he) (by decide) (by decide) he rfl) bH rfl) (by decide) (by decide) rfl rfl) fun σ H Q z=>?_
 obtain ⟨ρ,τ,h,n,s,rs,p⟩:=nW (yq (K:=X.K) (P:=X.prog) (w:=X.w)) z
 refine ⟨ρ,τ,h,n,s,rs,p.mono fun a h ρ H _ _ ⟨w,e,g⟩=>⟨w,e,fun v rv=>?_⟩⟩
 obtain ⟨p',ns,rfl,q1,q2,q3⟩:=g v rv
 refine ⟨p',ns,rfl,q1,by omega,fun l hl=>⟨l,dd ns [],bZ (dd ns []),rfl,aR,by have:=oK ns [];simp at this;omega,fun ns' h1 h2=>n_ (h1.trans (gJ _).symm) h2 (jf _),fun l2 hl2=>q3 l hl l2 hl2⟩⟩
theorem sY (i:Int):∀ xs:List Int,i ∈ xs->ixZ i xs=xs.idxOf i
 | [],h=>by cases h
 | x::xs,h=>by
   show ifB (ieq x i) 0 (ixZ i xs + 1)=_
   rw [fH,List.idxOf_cons]
   by_cases e:x=i
   · subst e;simp [ifB]
   · have h':i ∈ xs:=(List.mem_cons.mp h).resolve_left fun z=>e z.symm
     have hb:(x == i)=false:=by simpa using e
     rw [decide_eq_false e,hb,sY i xs h'];rfl
theorem sZ {i:Int} {xs:List Int} (h:dj i xs=true):i ∈ xs:=by
 rw [iD] at h
 obtain ⟨y,my,ey⟩:=List.any_eq_true.mp h
 rw [<- eq_of_beq ey];exact my
theorem DX:OpM cl .index yo:=fun E ρ h H w v ws vs Q s r rs p=>by
 obtain ⟨w1,v1,w2,v2,e,e',r1,r2,p1⟩:=Jr (.cons r rs) (show Post cl ρ H E (ofW (eY (w::ws) (ym h))) (VP Q) from p)
 cases e;cases e'
 obtain ⟨n,o,a,rfl,rfl,e1,g1,x1,p2⟩:=oAt s r1 p1
 obtain ⟨xs,rfl,p3⟩:=oL p2
 obtain ⟨hl,p3⟩:=oIf p3
 obtain ⟨ns,hn,p4⟩:=jH p3
 obtain ⟨i,rfl,p5⟩:=oI p4
 obtain ⟨hm,p6⟩:=oIf p5
 obtain ⟨us,ru,q⟩:=x1
 have hlen:=ru.length
 cases r2
 rw [jN ru hn] at q hlen
 rw [List.length_map] at hlen
 have hl':xs.length <= 1000:=by rw [len_eq] at hl;exact Nat.le_of_ble_eq_true hl
 have hm:=sZ hm
 refine ⟨a,ns,i,rfl,rfl,q,hm,by omega,?_⟩
 have z:=Post.cH s p6 (.int _)
 rw [sY i ns hm] at z
 exact z
end
section
variable {K:Ks} {n p:Nat} {τ:Sg} {h:Hs} {Q:W->Hs->Prop} {ns:List Int}
theorem qg:∀ xs:List Int,jO xs=xs.map W.int
 | []=>rfl
 | x::xs=>congrArg (W.int x::·) (qg xs)
theorem yr (e:h.get p=some (.lst (ns.map W.int))) (l:ns.length <= 60) (z:Q (.ref h.n) (h.push (.lst ((bZ (dd ns [])).map W.int)))):wP .jy [.ref p] h Q:=by
 show okQ (h.at (.ref p) fun _ o=>o.onL fun xs=>ifB (Nat.ble (len xs) 60) (Opt (cO xs) fun ns=>.alloc h (.lst (jO (bZ (dd ns []))))) .no) Q
 rw [dg e]
 show okQ (ifB (Nat.ble (len (ns.map W.int)) 60) (Opt (cO (ns.map W.int)) fun ns=>.alloc h (.lst (jO (bZ (dd ns []))))) .no) Q
 rw [len_eq,List.length_map,ble_eq,bB (decide_eq_true l),iY]
 show Q (.ref h.n) (h.push (.lst (jO (bZ (dd ns [])))))
 rw [qg];exact z
theorem DY {a b:X} (x:wX a K n τ h fun w h1=>∃ p xs,w= .ref p/\h1.get p=some (.lst xs)/\wX b K n τ h1 fun u h2=>∃ (ns:List Int) (i:Int),u= .int i/\h2.get p=some (.lst (ns.map W.int))/\ns.length <= 1000/\i ∈ ns/\Q (.int (ns.idxOf i:Nat)) h2):wX (.lm .index a [b]) K n τ h Q:=by
 show okQ ((a.f K n τ h).bind fun r h=>r.toW fun w=>h.at w fun _ o=>o.onL fun _=>(goA [b] K n τ h).bind fun r h=>r.toL fun ws=>ofW (aU .index (w::ws) h)) (aW Q)
 obtain ⟨w,h1,ea,p,xs,rfl,g,y⟩:=cP x
 rw [ea]
 show okQ (h1.at (.ref p) fun _ o=>o.onL fun _=>(goA [b] K n τ h1).bind fun r h=>r.toL fun ws=>ofW (aU .index (.ref p::ws) h)) (aW Q)
 rw [dg g]
 show okQ ((goA [b] K n τ h1).bind fun r h=>r.toL fun ws=>ofW (aU .index (.ref p::ws) h)) (aW Q)
 obtain ⟨u,h2,eb,ns,i,rfl,g2,l2,mi,q⟩:=cP y
 have:goA [b] K n τ h1= .ok (.ws [.int i]) h2:=by
  show R.rec (motive:=fun _=>R Ev.A) (fun r h=>A.rec (motive:=fun _=>R Ev.A) (fun w=>R.rec (motive:=fun _=>R Ev.A) (fun r h=>A.rec (motive:=fun _=>R Ev.A) (fun _=>.no) (fun ws=>.ok (.ws (w::ws)) h) (fun _=>.no) (fun _=>.no) .no r) (fun C fs h=>.ex C fs h) .no (goA [] K n τ h)) (fun _=>.no) (fun _=>.no) (fun _=>.no) .no r) (fun C fs h=>.ex C fs h) .no (b.f K n τ h1)=_
  rw [eb];rfl
 rw [this]
 show okQ (ofW (h2.at (.ref p) fun _ o=>o.onL fun xs=>ifB (Nat.ble (len xs) 1000) (Opt (cO xs) fun ns=>ifB (dj i ns) (.ok (.int (.ofNat (ixZ i ns))) h2) .no) .no)) (aW Q)
 rw [dg g2]
 show okQ (ofW (ifB (Nat.ble (len (ns.map W.int)) 1000) (Opt (cO (ns.map W.int)) fun ns=>ifB (dj i ns) (.ok (.int (.ofNat (ixZ i ns))) h2) .no) .no)) (aW Q)
 have hm:dj i ns=true:=by rw [iD];exact List.any_eq_true.mpr ⟨i,mi,by simp⟩
 rw [len_eq,List.length_map,ble_eq,bB (decide_eq_true l2),iY]
 show okQ (ofW (ifB (dj i ns) (.ok (.int (.ofNat (ixZ i ns))) h2) .no)) (aW Q)
 rw [bB hm,sY i ns mi];exact q
end
section
variable {X:Cx} {Pg:List Fn} {cl:Cn} {E:XK} {d:Nat}
theorem pK {a b c:Expr} {x y z:Ev.X} {pos:Pos} (hu:X.A.units < cLine) (ha:PE X a (tE Pg cl E d x)) (hb:PE X b (tE Pg cl E d y)) (hc:PE X c (tE Pg cl E d z)) (hm:lastMarks [.LtE,.LtE] [b,c] =false:=by with_unfolding_all rfl):PE X (.Compare a [.LtE,.LtE] [b,c] pos) (tE Pg cl E d (.chain .le .le x y z)):=
 PE.of (zm Be Be ha hb hc hm) fun σ H Q q=>zT GK GK (fun x y H Q Q' f ⟨i,j,e1,e2,g⟩=>⟨i,j,e1,e2,f _ g⟩) q
  (fun ρ h u v w h' e=>by
    rcases uH h u v with ⟨b,g⟩ | g
    · rw [g] at e;cases e;rfl
    · rw [g] at e;cases e)
  fun h u v C f h' e=>by
   rcases uH h u v with ⟨b,g⟩ | g
   · rw [g] at e;cases e
   · rw [g] at e;cases e
end
end Ev
namespace My
open PySem L2 PyProof.Rows
def top (i:Nat):Stmt:=PySem.Challenge.pw_byestand_k28_whole_points_hang_on_order.main.body.getD i (.Pass ⟨0,0,0,0⟩)
section
open Ev
abbrev m5:Stmt:=top 1
theorem lH:aN ["one","other"] ["one","other"] (aa m5):=fsc (by decide +kernel) (by decide +kernel) (by decide +kernel)
abbrev m6:Stmt:=top 2
theorem lJ:aN ["over","under","shared"] ["over","under"] (aa m6):=fsc (by decide +kernel) (by decide +kernel) (by decide +kernel)
abbrev tu:Stmt:=top 3
theorem D_:aN ["one","other"] ["one","other"] (aa tu):=fsc (by decide +kernel) (by decide +kernel) (by decide +kernel)
abbrev lK:Stmt:=top 4
theorem v9:aN ["one","other"] ["one","other"] (aa lK):=fsc (by decide +kernel) (by decide +kernel) (by decide +kernel)
abbrev v_:Stmt:=top 6
theorem Ia:aN ["score","other"] ["score","other"] (aa v_):=fsc (by decide +kernel) (by decide +kernel) (by decide +kernel)
abbrev fK:Stmt:=top 7
theorem qt:aN ["score","scores"] ["score","scores"] (aa fK):=fsc (by decide +kernel) (by decide +kernel) (by decide +kernel)
abbrev fZ:Stmt:=top 8
theorem i_:aN ["score","scores","many","n"] ["score","scores","many"] (aa fZ):=fsc (by decide +kernel) (by decide +kernel) (by decide +kernel)
abbrev jW:Stmt:=top 9
theorem yt:aN ["scores","many"] ["scores","many"] (aa jW):=fsc (by decide +kernel) (by decide +kernel) (by decide +kernel)
abbrev iH:Stmt:=top 11
theorem j_:aN ["_law_seed","_law_k","_law_square"] ["_law_seed","_law_k"] (aa iH):=fsc (by decide +kernel) (by decide +kernel) (by decide +kernel)
abbrev jh:Stmt:=top 12
theorem b7:aN ["_law_cell_here","_law_limits","_law_rest","_law_seed","_law_found","_law_limit"] ["_law_cell_here","_law_limits"] (aa jh):=fsc (by decide +kernel) (by decide +kernel) (by decide +kernel)
abbrev ji:Stmt:=top 13
theorem tB:aN ["_law_script","_law_k"] ["_law_script","_law_k"] (aa ji):=fsc (by decide +kernel) (by decide +kernel) (by decide +kernel)
abbrev e_:Stmt:=top 14
theorem aB:aN ["_law_some","_law_over","_law_under","_law_up","_law_down","_law_one","_law_other"] ["_law_some"] (aa e_):=fsc (by decide +kernel) (by decide +kernel) (by decide +kernel)
abbrev iI:Stmt:=top 15
theorem qu:aN ["_law_number","_law_some"] ["_law_number","_law_some"] (aa iI):=fsc (by decide +kernel) (by decide +kernel) (by decide +kernel)
abbrev cg:Stmt:=top 16
theorem cU:aN ["_law_script","_law_k","_law_row","_law_scores","_law_many","_law_found","_law_rank","_law_other","_law_turned","_law_i","_law_j","_law_cut"] ["_law_script"] (aa cg):=fsc (by decide +kernel) (by decide +kernel) (by decide +kernel)
noncomputable def tD:List S:=[(.par 0 1 (.pr .abs [(.var 0)]) (.pr .abs [(.var 1)])),
 (.kZ (.pr .ne [(.var 1),(.cst (.int 0))]) [(.par 0 1 (.var 1) (.pr .mod [(.var 0),(.var 1)]))]),
 (.ret (.var 0))]
noncomputable def tH:List S:=[(.asg (.nm 2) (.call 0 [(.var 0),(.var 1)])),
 (.ife (.pr .lt [(.var 1),(.cst (.int 0))]) [(.asg (.nm 2) (.pr .neg [(.var 2)]))] []),
 (.ret (.pr .tup [(.pr .fdiv [(.var 0),(.var 2)]),(.pr .fdiv [(.var 1),(.var 2)])]))]
noncomputable def yu:List S:=[(.ret (.call 1 [(.pr .sub [(.pr .mul [(.pr .ix [(.var 0),(.cst (.int 0))]),(.pr .ix [(.var 1),(.cst (.int 1))])]),(.pr .mul [(.pr .ix [(.var 1),(.cst (.int 0))]),(.pr .ix [(.var 0),(.cst (.int 1))])])]),(.pr .mul [(.pr .ix [(.var 0),(.cst (.int 1))]),(.pr .ix [(.var 1),(.cst (.int 1))])])]))]
noncomputable def qi:List S:=[(.ret (.pr .gt [(.pr .mul [(.pr .ix [(.var 0),(.cst (.int 0))]),(.pr .ix [(.var 1),(.cst (.int 1))])]),(.pr .mul [(.pr .ix [(.var 1),(.cst (.int 0))]),(.pr .ix [(.var 0),(.cst (.int 1))])])]))]
noncomputable def BP:List S:=[(.ife (.pr .lt [(.var 1),(.var 0)]) [(.ret (.cst (.int 2)))] []),
 (.ret (.ite (.pr .eq [(.var 1),(.var 0)]) (.cst (.int 1)) (.cst (.int 0))))]
noncomputable def lM:List S:=[(.ret (.pr .sub [(.pr .sum [(.comp 1 [0] (.seq (.var 1)) (.nm 0) none none (.call 4 [(.var 1),(.var 0)]))]),(.cst (.int 1))]))]
noncomputable def jz:List S:=[(.asg (.nm 3) (.pr .len [(.var 1)])),
 (.ret (.call 1 [(.pr .sub [(.pr .mul [(.pr .add [(.call 5 [(.var 0),(.var 1)]),(.cst (.int 1))]),(.var 2)]),(.var 3)]),(.var 3)]))]
noncomputable def tK:List S:=[(.ret (.comp 1 [0,1] (.seq (.var 0)) (.nm 0) none none (.call 6 [(.var 0),(.var 1),(.var 2)])))]
noncomputable def iJ:List S:=[(.asg (.tup [(.nm 1),(.nm 2)]) (.pr .tup [(.cst (.int 0)),(.cst (.int 1))])),
 (.for_ (.seq (.var 0)) (.tup [(.nm 3),(.nm 4)]) [(.par 1 2 (.pr .add [(.pr .mul [(.var 1),(.var 4)]),(.pr .mul [(.var 3),(.var 2)])]) (.pr .mul [(.var 2),(.var 4)])),
 (.par 5 6 (.pr .abs [(.var 1)]) (.var 2)),
 (.kZ (.pr .gt [(.var 6),(.cst (.int 0))]) [(.par 5 6 (.var 6) (.pr .mod [(.var 5),(.var 6)]))]),
 (.par 1 2 (.pr .fdiv [(.var 1),(.var 5)]) (.pr .fdiv [(.var 2),(.var 5)]))]),
 (.ret (.pr .tup [(.var 1),(.var 2)]))]
noncomputable def lN:List S:=[(.ret (.pr .ix [(.pr .lst [(.pr .sub [(.pr .mul [(.pr .mod [(.var 0),(.cst (.int 41))]),(.cst (.int 10))]),(.cst (.int 200))]),(.pr .mod [(.var 0),(.cst (.int 5))]),(.cst (.int 9999)),(.pr .neg [(.cst (.int 9999))]),(.pr .sub [(.pr .mod [(.var 0),(.cst (.int 19999))]),(.cst (.int 9999))]),(.cst (.int 9998)),(.pr .neg [(.cst (.int 9998))]),(.cst (.int 0))]),(.pr .mod [(.var 1),(.cst (.int 8))])]))]
noncomputable def Pg:List Fn:=[.mk 2 2 tD,.mk 2 3 tH,.mk 2 2 yu,.mk 2 2 qi,.mk 2 2 BP,.mk 2 2 lM,.mk 3 4 jz,.mk 2 2 tK,.mk 1 7 iJ,.mk 2 2 lN]
set_option genInjectivity false in
set_option genSizeOf false in
structure Adr where
 f9:Addr
 jX:FuncData
 gb:Addr
 jY:FuncData
 jA:Addr
 oM:FuncData
 fB:Addr
 jb:FuncData
 mC:Addr
 qO:FuncData
 cJ:Addr
 fL:FuncData
 bU:Addr
 dR:FuncData
 gh:Addr
 jZ:FuncData
 dF:Addr
 iK:FuncData
 eG:Addr
 jj:FuncData
 eH:Addr
 jk:FuncData
 bD:Addr
 cQ:FuncData
 cL:Addr
 fM:FuncData
 j0:Addr
 BR:FuncData
def cn (a:Adr):Cn where
 c:=fun k=>match k with  | _=>0
 P:=0
 q:="law" ++ ".<locals>." ++ "<lambda>"
 on:=false
structure Txt (w:World) (K:PySem.W.Frag) (mg:Str->Option Value) (a:Adr):Prop where
 gj:Df K mg "common" m5 ["one","other"] a.f9 a.jX
 fj:Df K mg "lowest" m6 ["over","under"] a.gb a.jY
 gM:Df K mg "less" tu ["one","other"] a.jA a.oM
 fC:Df K mg "greater" lK ["one","other"] a.fB a.jb
 jc:Df K mg "won" v_ ["score","other"] a.mC a.qO
 cM:Df K mg "wins_among" fK ["score","scores"] a.cJ a.fL
 aZ:Df K mg "points_among" fZ ["score","scores","many"] a.bU a.dR
 cR:Df K mg "points" jW ["scores","many"] a.gh a.jZ
 cN:Df K mg "_law_mixed" iH ["_law_seed","_law_k"] a.dF a.iK
 cX:Df K mg "_law_draw" jh ["_law_cell_here","_law_limits"] a.eG a.jj
 cY:Df K mg "_law_cell" ji ["_law_script","_law_k"] a.eH a.jk
 bF:Df K mg "_law_sum_parts" e_ ["_law_some"] a.bD a.cQ
 bN:Df K mg "_law_score" iI ["_law_number","_law_some"] a.cL a.fM
 JX:Df K mg "law" cg ["_law_script"] a.j0 a.BR
 mD:mg "abs" =none
 wg:mg "all" =none
 dh:mg "len" =none
 tL:mg "list" =none
 g_:mg "range" =none
 wj:mg "set" =none
 m7:mg "sorted" =none
 wu:mg "sum" =none
theorem mF {i j:Int} (h1: -(2 ^ 64) < i) (h2:i < 2 ^ 64):qH i j:=.inl (.inl ⟨h1,h2⟩)
theorem tM {i j:Int} (h1: -(2 ^ 64) < j) (h2:j < 2 ^ 64):qH i j:=.inl (.inr ⟨h1,h2⟩)
section
variable {P:Program} {w:World} {K:PySem.W.Frag} {mg:Str->Option Value} {base:Heap}
end
end
section
variable {P:Program} {w:World} {K:PySem.W.Frag} {mg:Str->Option Value} {base:Heap}
def Ea:Sp:=fun vs H Q _=>∃ a k:Int,vs= [.int a,.int k]/\0 <= a/\a < 2147483647/\∀ z:Int,0 <= z->z < 2147483647->Q (.int z) H
theorem qw {a:Adr} (T:Txt w K mg a):b8 P w K mg base CX0 1 a.dF a.iK ["_law_seed","_law_k"] Ea:=by
 refine T.cN.fn.ok j_ (fun vs H Q E h=>?_) (fun cdv A outer s H vs Q E hr h=>?_)
 · obtain ⟨a,k,rfl,_⟩:=h
   rfl
 obtain ⟨x,k,rfl,h0,h1,q⟩:=h
 refine ⟨_,(bw (gG (i:=2) j_.nd rfl (Or.inl rfl) (a_ bV (a_ aH (pv 0) (pv 0)) aD))
  (dG (ig (a_ bV (a_ b_ (a_ b_ (a_ aH (pv 2) (a_ b_ (a_ bV (pv 0) aD) aD)) (a_ aH (pv 1) aD)) aD) aD)))),?_⟩
 have m31:(0:Int) < 2147483647:=by decide
 refine ⟨_,rfl,_,rfl,_,_,rfl,rfl,mF (by omega) (by omega),_,_,rfl,rfl,m31,?_⟩
 have s0:=Int.emod_nonneg (x * x) (show (2147483647:Int) ≠ 0 by decide)
 have s1:=Int.emod_lt_of_pos (x * x) m31
 refine ⟨_,rfl,_,rfl,_,_,rfl,rfl,(by show (0:Int) < 65521;decide),_,_,rfl,rfl,_,_,rfl,rfl,mF (by omega) (by omega),_,rfl,_,_,rfl,rfl,tM (by decide) (by decide),_,_,rfl,rfl,_,_,rfl,rfl,_,_,rfl,rfl,m31,?_⟩
 exact q _ (Int.emod_nonneg _ (by decide)) (Int.emod_lt_of_pos _ m31)
def Ib:Sp:=fun vs H Q _=>∃ (c:Int) (l:Addr) (ls:List Int),vs= [.int c,.ref l]/\H l=some (.lst (ls.map V.int))/\ls.length <= 63/\(∀ z ∈ ls,0 < z/\Sml z)/\
 ∀ (r:Addr) (ns:List Int) (H':Hp),H r=none->dW H H'->Drawn ns ls->H' r=some (.lst (ns.map V.int))->Q (.ref r) H'
theorem tQ {a:Adr} (T:Txt w K mg a):b8 P w K mg base CX0 2 a.eG a.jj ["_law_cell_here","_law_limits"] Ib:=by
 have tR:=qw (P:=P) (w:=w) (base:=base) T
 refine T.cX.fn.ok b7 (fun vs H Q E h=>?_) (fun cdv A outer s H vs Q E hr h=>?_)
 · obtain ⟨_,_,_,rfl,_⟩:=h
   rfl
 obtain ⟨c,l,ls,rfl,hl,h63,hz,q⟩:=h
 refine ⟨_,(bw (gG (i:=2) b7.nd rfl (Or.inl rfl) (qR (jm Jg (pv 0) (a_ Ff aD aD) (bu _)) (pv 0) aD))
  (bw (gG (i:=3) b7.nd rfl (Or.inl rfl) (a_ bV (a_ b_ (a_ aH (eX qU rfl T.mD boot_abs (aC (pv 0) bH)) aD) aD) aD))
  (bw (gG (i:=4) b7.nd rfl (Or.inl rfl) (nG bH))
  (bw (qT PassesOwn.never rfl (ug (pv 1)) (oV (i:=5) b7.nd rfl (Or.inl rfl))
    (dG (qC (jm qF (pv 2) aD (bu _)) (bw (uf (vp PySem.F.plainAttrs_list PySem.F.slot_list_append PySem.F.type_list_append kI (pv 4) (aC (a_ bV (pv 2) (pv 5)) bH)))
      (dG (gG (i:=2) b7.nd rfl (Or.inl rfl) (a_ fQ (pv 2) (pv 5))))) (bw (gG (i:=3) b7.nd rfl (Or.inl rfl) (vA T.cN tR (hr.mono (by omega)) rfl (aC (pv 3) (aC (eX aK rfl T.dh boot_len (aC (pv 4) bH)) bH))))
      (dG (uf (vp PySem.F.plainAttrs_list PySem.F.slot_list_append PySem.F.type_list_append kI (pv 4) (aC (a_ bV (a_ fQ (pv 3) aD) (pv 5)) bH))))))))
  (dG (ig (pv 4))))))),?_⟩
 have m31:(0:Int) < 2147483647:=by decide
 have s31:Sml 61:=by unfold Sml;exact Nat.lt_of_lt_of_le (show (61:Int).natAbs < 2 ^ 10 by decide) (Nat.pow_le_pow_right (by decide) (by decide))
 refine ⟨_,rfl,_,_,rfl,rfl,(by show Fe 10 18;exact ⟨by decide,by decide,by decide⟩),_,_,rfl,rfl,_,rfl,?_⟩
 refine vz (fun cc=>?gA) (fun cc=>?gB)
 case' gA=>
  have c0:(0:Int) <= c:=by
   have z:(10:Int) ^ (18:Int).toNat <= c:=of_decide_eq_true cc
   have z2:(0:Int) <= (10:Int) ^ (18:Int).toNat:=by decide
   omega
  refine ⟨_,rfl,?_⟩
 case' gB=>have c0:(0:Int) <= 0:=by decide
 all_goals
  refine ⟨_,rfl,_,rfl,_,_,rfl,rfl,tM (by decide) (by decide),_,_,rfl,rfl,_,_,rfl,rfl,m31,?_⟩
  refine ⟨(by show 0 <= sizeLine;decide),fun r hr'=>?_⟩
  have g0:dW H (upd H r (.lst [])):=aX hr' _
  refine ⟨_,rfl,l,rfl,⟨_,SqL.of (g0 _ _ hl)⟩,zf (K:=K) (a:=l) (xs:=ls.map V.int) (fun i σ H2=>∃ (rest seed:Int) (ns:List Int) (v:Option V),σ= [some (.int c),some (.ref l),some (.int rest),some (.int seed),some (.ref r),v]/\
   0 <= rest/\0 <= seed/\seed < 2147483647/\dW H H2/\H2 r=some (.lst (ns.map V.int))/\Drawn ns (ls.take i))
   ⟨_,_,[],none,rfl,c0,Int.emod_nonneg _ (by decide),Int.emod_lt_of_pos _ m31,g0,aR,by simpa using Paired.nil⟩ (fun i σ H2 _ ⟨_,_,_,_,_,_,_,_,s2,_⟩=>SqL.of (s2 _ _ hl)) ?_ ?_⟩
  · rintro i y σ H2 hi ⟨rest,seed,ns,v,rfl,r0,s0,s1,s2,hr2,hD⟩
    obtain ⟨z,hzi,rfl⟩:∃ z,ls[i]? =some z/\y=V.int z:=by
     rw [List.getElem?_map] at hi
     cases e:ls[i]? with
     | none=>rw [e] at hi;cases hi
     | some z=>rw [e] at hi;exact ⟨z,rfl,(Option.some.inj hi).symm⟩
    obtain ⟨z0,zS⟩:=hz z (List.mem_of_getElem? hzi)
    have hil:i < ls.length:=(List.getElem?_eq_some_iff.mp hzi).1
    have hlen:ns.length=i:=by have:=hD.length;rw [List.length_take] at this;omega
    have hlt:(ns.map V.int).length < sizeLine:=by rw [List.length_map];exact w6 (by omega)
    have nlr:r ≠ l:=fun e=>by rw [e] at hr';rw [hl] at hr';cases hr'
    have etk:ls.take (i + 1)=ls.take i ++ [z]:=by rw [List.take_add_one,hzi];rfl
    have next:∀ v:Int,0 <= v->v < z->Drawn (ns ++ [v]) (ls.take (i + 1)):=fun v h0 h1=>by rw [etk];exact hD.snoc ⟨h0,h1⟩
    have BV:∀ o,dW H (upd H2 r o):=fun o b u e=>by rw [aJ (bf e hr')];exact s2 _ _ e
    have em:∀ v:Int,ns.map V.int ++ [V.int v] =(ns ++ [v]).map V.int:=fun v=>by rw [List.map_append];rfl
    refine ⟨_,rfl,_,_,rfl,rfl,_,rfl,?_⟩
    refine vz (fun cr=>?_) (fun cr=>?_)
    · have cr':0 < rest:=of_decide_eq_true cr
      refine ⟨_,rfl,.inl ⟨rfl,_,SqL.of hr2⟩,_,rfl,_,rfl,_,_,rfl,rfl,z0,r,_,_,rfl,rfl,hr2,hlt,?_⟩
      refine ⟨_,rfl,_,rfl,_,_,rfl,rfl,⟨by omega,zS⟩,?_⟩
      refine ⟨_,seed,ns ++ [rest % z],_,rfl,Int.fdiv_nonneg r0 (by omega),s0,s1,BV _,by rw [aR,em],next _ (Int.emod_nonneg _ (by omega)) (Int.emod_lt_of_pos _ z0)⟩
    · refine ⟨_,rfl,_,rfl,r,_,rfl,.inl (SqL.of hr2),_,_,rfl,s0,s1,fun sd sd0 sd1=>?_⟩
      refine ⟨_,rfl,.inl ⟨rfl,_,SqL.of hr2⟩,_,rfl,_,_,rfl,rfl,⟨by decide,s31⟩,_,rfl,_,_,rfl,rfl,z0,r,_,_,rfl,rfl,hr2,hlt,?_⟩
      refine ⟨rest,sd,ns ++ [(sd.fdiv 61) % z],_,rfl,r0,sd0,sd1,BV _,by rw [aR,em],next _ (Int.emod_nonneg _ (by omega)) (Int.emod_lt_of_pos _ z0)⟩
  · rintro σ H2 ⟨rest,seed,ns,v,rfl,r0,s0,s1,s2,hr2,hD⟩
    rw [List.length_map,List.take_length] at hD
    exact ⟨_,rfl,q r ns H2 hr' s2 hD hr2⟩
def Ie (K:PySem.W.Frag):Sp:=fun vs H Q _=>∃ (a:Addr) (ns:List Int) (k:Int),vs= [.ref a,.int k]/\SqL K H a (ns.map V.int)/\ns.length <= 63/\0 <= k/\∀ z:Int,Q (.int z) H
theorem int_at {ns:List Int} {k:Int} (h0:0 <= k) (h1:k < (ns.length:Int)):∃ z:Int,atI (ns.map V.int) k=some (.int z):=by
 have hk:k.toNat < ns.length:=by omega
 have ek:k=((k.toNat:Nat):Int):=by omega
 have q:atI (ns.map V.int) ((k.toNat:Nat):Int)=some (.int ns[k.toNat]):=Cz (by rw [List.getElem?_map,List.getElem?_eq_getElem hk] <;> rfl)
 rw [<- ek] at q
 exact ⟨_,q⟩
theorem tU {a:Adr} (T:Txt w K mg a):b8 P w K mg base CX0 1 a.eH a.jk ["_law_script","_law_k"] (Ie K):=by
 refine T.cY.fn.ok tB (fun vs H Q E h=>?_) (fun cdv A outer s H vs Q E hr h=>?_)
 · obtain ⟨_,_,_,rfl,_⟩:=h
   rfl
 obtain ⟨l,ns,k,rfl,hS,h63,k0,q⟩:=h
 refine ⟨_,(bw (qC (jm uW (pv 1) (eX aK rfl T.dh boot_len (aC (pv 0) bH)) (bu _)) (dG (ig (vo o4 (pv 0) (pv 1) (fun _ _=>rfl)))) lR)
  (bw (qC (jm Jf (eX aK rfl T.dh boot_len (aC (pv 0) bH)) aD (bu _)) (dG (ig (a_ aH aD (pv 1)))) lR)
  (dG (ig (a_ b_ (vo o4 (pv 0) (a_ bV (pv 1) (eX aK rfl T.dh boot_len (aC (pv 0) bH))) (fun _ _=>rfl)) (a_ aH aD (pv 1))))))),?_⟩
 have hl:(ns.map V.int).length=ns.length:=List.length_map _
 refine ⟨_,rfl,_,rfl,l,_,rfl,.inl hS,_,_,rfl,rfl,_,rfl,?_⟩
 refine vz (fun c=>?_) (fun c=>?_)
 · have c':k < (((ns.map V.int).length:Nat):Int):=of_decide_eq_true c
   rw [hl] at c'
   obtain ⟨z,hz⟩:=int_at k0 c'
   exact ⟨_,rfl,_,rfl,l,_,_,_,rfl,rfl,hS,hz,q z⟩
 · refine ⟨_,rfl,l,_,rfl,.inl hS,rfl,_,rfl,?_⟩
   refine vz (fun c2=>?_) (fun c2=>?_)
   · exact ⟨_,rfl,_,_,rfl,rfl,mF (by decide) (by decide),q _⟩
   · have c3:¬ V.int (((ns.map V.int).length:Nat):Int)=V.int 0:=fun z=>c2 (decide_eq_true z)
     have c4:0 < ns.length:=by
      rw [hl] at c3
      rcases Nat.eq_zero_or_pos ns.length with z | z
      · rw [z] at c3;exact absurd rfl c3
      · exact z
     have p0:(0:Int) < (((ns.map V.int).length:Nat):Int):=by rw [hl];omega
     obtain ⟨z,hz⟩:=int_at (ns:=ns) (k:=k % (((ns.map V.int).length:Nat):Int)) (Int.emod_nonneg _ (by omega)) (by have:=Int.emod_lt_of_pos k p0;rw [hl] at this ⊢;exact this)
     exact ⟨_,rfl,_,rfl,_,rfl,l,_,rfl,.inl hS,_,_,rfl,rfl,p0,l,_,_,_,rfl,rfl,hS,hz,_,rfl,_,_,rfl,rfl,mF (by decide) (by decide),_,_,rfl,rfl,q _⟩
end
section
open Ev
variable {P:Program} {w:World} {K:PySem.W.Frag} {mg:Str->Option Value} {base:Heap}
abbrev Fq (P:Program) (w:World) (K:PySem.W.Frag) (mg:Str->Option Value) (base:Heap) (a:Adr) (n d:Nat) (f:Addr) (fd:FuncData) (ps:List Str) (i:Nat):Prop:=b8 P w K mg base (CXE P w) n f fd ps (spF Pg (cn a) d i)
variable {a:Adr} {d:Nat}
structure All (P:Program) (w:World) (K:PySem.W.Frag) (mg:Str->Option Value) (base:Heap) (a:Adr) (d:Nat):Prop where
 Ar:Fq P w K mg base a (4 * d + 8) d a.f9 a.jX ["one","other"] 0
 tV:Fq P w K mg base a (4 * d + 8) d a.gb a.jY ["over","under"] 1
 Ig:Fq P w K mg base a (4 * d + 8) d a.jA a.oM ["one","other"] 2
 yw:Fq P w K mg base a (4 * d + 8) d a.fB a.jb ["one","other"] 3
 JZ:Fq P w K mg base a (4 * d + 8) d a.mC a.qO ["score","other"] 4
 tW:Fq P w K mg base a (4 * d + 8) d a.cJ a.fL ["score","scores"] 5
 pL:Fq P w K mg base a (4 * d + 8) d a.bU a.dR ["score","scores","many"] 6
 j6:Fq P w K mg base a (4 * d + 8) d a.gh a.jZ ["scores","many"] 7
 m8:Fq P w K mg base a (4 * d + 8) d a.bD a.cQ ["_law_some"] 8
 tX:Fq P w K mg base a (4 * d + 8) d a.cL a.fM ["_law_number","_law_some"] 9
theorem all_zero {a:Adr}:All P w K mg base a 0:=⟨cW,cW,cW,cW,cW,cW,cW,cW,cW,cW⟩
theorem yx (T:Txt w K mg a) (A0:All P w K mg base a d):Fq P w K mg base a (4 * (d + 1) + 8) (d + 1) a.f9 a.jX ["one","other"] 0:=by
 refine (gn (k:=4 * d + 11) T.gj.fn lH rfl fun σ0 cdv A outer s H E hr hp=>?_).mono (by omega)
 exact (ak (ju rfl lH.nd rfl rfl (gZ (bz vK lu rfl T.mD boot_abs (aq (dv 0) ao)) (gZ (bz vK lu rfl T.mD boot_abs (aq (dv 1) ao)) ao)))
  (ak (rN PassesOwn.leaving (dz pA (jn hr.units) (dv 1) aj (bu _))
  (ak (ju rfl lH.nd rfl rfl (aq (dv 1) (aM (au iQ bV (dv 0) (dv 1)) ao)))
  az))
  (ak (bM (dv 0))
  az)))
theorem yz (T:Txt w K mg a) (A0:All P w K mg base a d):Fq P w K mg base a (4 * (d + 1) + 8) (d + 1) a.gb a.jY ["over","under"] 1:=by
 refine (gn (k:=4 * d + 11) T.fj.fn lJ rfl fun σ0 cdv A outer s H E hr hp=>?_).mono (by omega)
 exact (ak (iV 2 lJ.nd (gw A0.Ar T.gj hr hp (aq (dv 0) (aq (dv 1) ao))))
  (ak (iT (dz (GJ (K:=K)) (L2.OpR.or uW (wW hr.qW)) (dv 1) aj (bu _)) (ak (iV 2 lJ.nd (qL qK nD (dv 2)))
  az) az)
  (ak (bM (lq (aM (au nY fQ (dv 0) (dv 2)) (aM (au nY fQ (dv 1) (dv 2)) ao))))
  az)))
theorem Eb (T:Txt w K mg a) (A0:All P w K mg base a d):Fq P w K mg base a (4 * (d + 1) + 8) (d + 1) a.jA a.oM ["one","other"] 2:=by
 refine (gn (k:=4 * d + 11) T.gM.fn D_ rfl fun σ0 cdv A outer s H E hr hp=>?_).mono (by omega)
 exact (ak (bM (gw A0.tV T.fj hr hp (aM (au gm d8 (au cD (L2.OpR.or aH bI) (bh (dv 0) aj) (bh (dv 1) aj)) (au cD (L2.OpR.or aH bI) (bh (dv 1) aj) (bh (dv 0) aj))) (aM (au cD (L2.OpR.or aH bI) (bh (dv 0) aj) (bh (dv 1) aj)) ao))))
  az)
theorem wz (T:Txt w K mg a) (A0:All P w K mg base a d):Fq P w K mg base a (4 * (d + 1) + 8) (d + 1) a.fB a.jb ["one","other"] 3:=by
 refine (gn (k:=4 * d + 11) T.fC.fn v9 rfl fun σ0 cdv A outer s H E hr hp=>?_).mono (by omega)
 exact (ak (bM (rH zP qF (au cD (L2.OpR.or aH bI) (bh (dv 0) aj) (bh (dv 1) aj)) (au cD (L2.OpR.or aH bI) (bh (dv 1) aj) (bh (dv 0) aj)) (bu _)))
  az)
theorem Ih (T:Txt w K mg a) (A0:All P w K mg base a d):Fq P w K mg base a (4 * (d + 1) + 8) (d + 1) a.mC a.qO ["score","other"] 4:=by
 refine (gn (k:=4 * d + 11) T.jc.fn Ia rfl fun σ0 cdv A outer s H E hr hp=>?_).mono (by omega)
 exact (ak (iT (dz (GJ (K:=K)) (L2.OpR.or uW (wW hr.qW)) (dv 1) (dv 0) (bu _)) (ak (bM aj)
  az) az)
  (ak (bM (zY (dz zQ (q9 hr.units) (dv 1) (dv 0) (bu _)) aj aj))
  az))
theorem qx (T:Txt w K mg a) (A0:All P w K mg base a d):Fq P w K mg base a (4 * (d + 1) + 8) (d + 1) a.cJ a.fL ["score","scores"] 5:=by
 refine (gn (k:=4 * d + 11) T.cM.fn qt rfl fun σ0 cdv A outer s H E hr hp=>?_).mono (by omega)
 exact (ak (bM (au gm d8 (bz (Jy (K:=K)) (xX rfl) rfl T.wu boot_sum (cV (iC (iy (N':=["other","score"]) (nt:=1) (idx:=[0]) (N:=["score","scores"]) (osc:=aa fK) rfl rfl (by decide +kernel)) rfl iB (fX rfl (dv 1)) (fun C0 s0 H0 fp0=>(dM 0 (show List.Nodup (["other","score"]:List Str) by decide +kernel))) (fun C0 s0 H0 fp0=>fW) (fun C0 s0 H0 fp0=>(jt (A0.JZ) (hr.mono (by omega)) rfl T.jc.mg T.jc.fn.kp T.jc.bd jM (aq (dv 1) (aq (dv 0) ao)))) (by decide)) ao)) aj))
  az)
theorem oN (T:Txt w K mg a) (A0:All P w K mg base a d):Fq P w K mg base a (4 * (d + 1) + 8) (d + 1) a.bU a.dR ["score","scores","many"] 6:=by
 refine (gn (k:=4 * d + 11) T.aZ.fn i_ rfl fun σ0 cdv A outer s H E hr hp=>?_).mono (by omega)
 exact (ak (iV 3 i_.nd (bz (iR (K:=K)) aK rfl T.dh boot_len (aq (dv 1) ao)))
  (ak (bM (gw A0.tV T.fj hr hp (aM (au gm d8 (au cD (L2.OpR.or aH bI) (au gU (L2.OpR.or b_ d9) (gw A0.tW T.cM hr hp (aq (dv 0) (aq (dv 1) ao))) aj) (dv 2)) (dv 3)) (aq (dv 3) ao))))
  az))
theorem yC (T:Txt w K mg a) (A0:All P w K mg base a d):Fq P w K mg base a (4 * (d + 1) + 8) (d + 1) a.gh a.jZ ["scores","many"] 7:=by
 refine (gn (k:=4 * d + 11) T.cR.fn yt rfl fun σ0 cdv A outer s H E hr hp=>?_).mono (by omega)
 exact (ak (bM (iC (iy (N':=["score","scores","many"]) (nt:=1) (idx:=[0,1]) (N:=["scores","many"]) (osc:=aa jW) rfl rfl (by decide +kernel)) rfl iB (fX rfl (dv 0)) (fun C0 s0 H0 fp0=>(dM 0 (show List.Nodup (["score","scores","many"]:List Str) by decide +kernel))) (fun C0 s0 H0 fp0=>fW) (fun C0 s0 H0 fp0=>(jt (A0.pL) (hr.mono (by omega)) rfl T.aZ.mg T.aZ.fn.kp T.aZ.bd jM (aq (dv 0) (aq (dv 1) (aq (dv 2) ao))))) (by decide)))
  az)
theorem mH (T:Txt w K mg a) (A0:All P w K mg base a d):Fq P w K mg base a (4 * (d + 1) + 8) (d + 1) a.bD a.cQ ["_law_some"] 8:=by
 refine (gn (k:=4 * d + 11) T.bF.fn aB rfl fun σ0 cdv A outer s H E hr hp=>?_).mono (by omega)
 exact (ak (Hf (lq (cu aj (cu aj ao))) (xP rfl (jL (dM 1 aB.nd) (jL (dM 2 aB.nd) uA))))
  (ak (rM PassesOwn.leaving rfl iB (fX rfl (dv 0)) (xP rfl (jL (dM 3 aB.nd) (jL (dM 4 aB.nd) uA)))
  (ak (ju rfl aB.nd rfl rfl (aM (au gU (L2.OpR.or b_ d9) (au cD (L2.OpR.or aH bI) (dv 1) (dv 4)) (au cD (L2.OpR.or aH bI) (dv 3) (dv 2))) (aM (au cD (L2.OpR.or aH bI) (dv 2) (dv 4)) ao)))
  (ak (ju rfl aB.nd rfl rfl (gZ (bz vK lu rfl T.mD boot_abs (aq (dv 1) ao)) (aq (dv 2) ao)))
  (ak (rN PassesOwn.leaving (dz zP qF (dv 6) aj (bu _))
  (ak (ju rfl aB.nd rfl rfl (aq (dv 6) (aM (au iQ bV (dv 5) (dv 6)) ao)))
  az))
  (ak (ju rfl aB.nd rfl rfl (aM (au nY fQ (dv 1) (dv 5)) (aM (au nY fQ (dv 2) (dv 5)) ao)))
  az)))))
  (ak (bM (lq (aq (dv 1) (aq (dv 2) ao))))
  az)))
theorem qy (T:Txt w K mg a) (A0:All P w K mg base a d):Fq P w K mg base a (4 * (d + 1) + 8) (d + 1) a.cL a.fM ["_law_number","_law_some"] 9:=by
 refine (gn (k:=4 * d + 11) T.bN.fn qu rfl fun σ0 cdv A outer s H E hr hp=>?_).mono (by omega)
 exact (ak (bM (bh (G8 (aM (au gm d8 (au cD (L2.OpR.or aH bI) (au iQ bV (dv 0) aj) aj) aj) (aM (au iQ bV (dv 0) aj) (cu aj (n8 (qL qK nD aj) (aM (au gm d8 (au iQ bV (dv 0) aj) aj) (cu aj (n8 (qL qK nD aj) (cu aj ao))))))))) (au iQ bV (dv 1) aj)))
  az)
theorem Av {a:Adr} {d:Nat} (T:Txt w K mg a) (A0:All P w K mg base a d):All P w K mg base a (d + 1):=⟨yx T A0,yz T A0,Eb T A0,wz T A0,Ih T A0,qx T A0,oN T A0,yC T A0,mH T A0,qy T A0⟩
theorem yD {a:Adr} (T:Txt w K mg a):∀ d,All P w K mg base a d
 | 0=>all_zero
 | d + 1=>Av T (yD T d)
end
end My
namespace My
open PySem L2 PyProof.Rows
open Ev
noncomputable def tl0:List S:=[(.asg (.nm 3) (.comp 1 [2] (.kY [(.pr .add [(.pr .ix [(.var 2),(.cst (.int 0))]),(.cst (.int 1))])]) (.nm 0) none none (.call 9 [(.pr .ix [(.var 1),(.pr .add [(.cst (.int 4)),(.pr .mul [(.cst (.int 2)),(.var 0)])])]),(.pr .ix [(.var 1),(.pr .add [(.cst (.int 5)),(.pr .mul [(.cst (.int 2)),(.var 0)])])])]))),
 (.asg (.nm 4) (.pr .add [(.pr .len [(.var 3)]),(.pr .mod [(.pr .ix [(.var 2),(.cst (.int 1))]),(.pr .sub [(.cst (.int 10)),(.pr .len [(.var 3)])])])])),
 (.asg (.nm 5) (.call 7 [(.pr .list [(.var 3)]),(.var 4)])),
 (.asg (.nm 6) (.pr .jy [(.var 3)])),
 (.asg (.nm 7) (.comp 1 [2,6] (.seq (.var 3)) (.nm 0) none none (.pr .sub [(.pr .mul [(.lm .index (.var 2) [(.var 0)]),(.pr .add [(.pr .ix [(.var 1),(.cst (.int 2))]),(.cst (.int 1))])]),(.cst (.int 9999))]))),
 (.ife (.pr .ne [(.call 7 [(.var 7),(.var 4)]),(.var 5)]) [(.ret (.cst (.bl false)))] []),
 (.asg (.nm 8) (.call 7 [(.comp 1 [] (.seq (.var 3)) (.nm 0) none none (.pr .neg [(.var 0)])),(.var 4)])),
 (.ife (.pr .ne [(.comp 1 [4] (.seq (.var 8)) (.nm 0) none none (.call 2 [(.pr .tup [(.pr .sub [(.pr .mul [(.cst (.int 2)),(.var 1)]),(.cst (.int 2))]),(.cst (.int 1))]),(.var 0)])),(.var 5)]) [(.ret (.cst (.bl false)))] []),
 (.ife (.pr .ne [(.call 8 [(.var 5)]),(.pr .tup [(.pr .mul [(.pr .sub [(.var 4),(.cst (.int 1))]),(.pr .len [(.var 3)])]),(.cst (.int 1))])]) [(.ret (.cst (.bl false)))] []),
 (.for_ (.kY [(.pr .len [(.var 3)])]) (.nm 9) [(.for_ (.kY [(.pr .len [(.var 3)])]) (.nm 10) [(.ife (.pr .ne [(.call 3 [(.pr .ix [(.var 5),(.var 9)]),(.pr .ix [(.var 5),(.var 10)])]),(.pr .gt [(.pr .ix [(.var 3),(.var 9)]),(.pr .ix [(.var 3),(.var 10)])])]) [(.ret (.cst (.bl false)))] [])])]),
 (.ife (.and (.pr .eq [(.var 4),(.pr .len [(.var 3)])]) (.pr .rB [(.pr .truth [(.pr .all [(.comp 1 [4] (.seq (.var 5)) (.nm 0) none none (.and (.pr .eq [(.pr .ix [(.var 0),(.cst (.int 1))]),(.cst (.int 1))]) (.chain .le .le (.cst (.int 0)) (.pr .ix [(.var 0),(.cst (.int 0))]) (.pr .sub [(.pr .mul [(.cst (.int 2)),(.var 1)]),(.cst (.int 2))]))))])])])) [(.ret (.cst (.bl false)))] []),
 (.asg (.nm 11) (.pr .mod [(.pr .ix [(.var 2),(.cst (.int 3))]),(.pr .len [(.var 3)])])),
 (.ife (.pr .ne [(.call 7 [(.pr .add [(.slice (.var 3) (some (.var 11)) none),(.slice (.var 3) none (some (.var 11)))]),(.var 4)]),(.pr .add [(.slice (.var 5) (some (.var 11)) none),(.slice (.var 5) none (some (.var 11)))])]) [(.ret (.cst (.bl false)))] [])]
abbrev Q0 (row:List Int):Prop:=z_ 12 (evs Pg 400 8 (.ss tl0) (frm 12 [(2,.ref 0)]) (rQ row))=true
end My
namespace My
open PySem L2 PyProof.Rows
open Ev
local macro_rules | `(tactic| walk_at "sy")=>`(tactic| first
 | with_reducible refine dO.mpr ?_
 | with_reducible refine HD.mpr ?_
 | with_reducible refine HF.mpr ?_
 | with_reducible refine Lw.mpr ?_
 | with_reducible refine su.mpr ?_
 | with_reducible refine HX.mpr ?_
 | with_reducible refine ou.mpr ?_
 | with_reducible refine DG.mpr ?_
 | with_reducible refine fu.mpr ?_
 | with_reducible refine oh.mpr ?_
 | with_reducible refine xV.mpr ?_
 | ((with_reducible refine cF (w:=?w) ?e ?_);(case e=>exact rfl))
 | with_reducible refine HB.mpr ?_
 | with_reducible refine rZ.mpr ?_
 | with_reducible refine Mi.mpr ?_
 | with_reducible refine jw ?_
 | with_reducible refine DQ ?_
 | with_reducible refine HQ ?_
 | with_reducible refine L_ ?_
 | with_reducible refine sr.mpr ?_
 | with_reducible refine BK ?_
 | with_reducible refine Mv ?_
 | with_reducible refine HR ?_
 | with_reducible refine JM ?_
 | with_reducible refine Mj ?_
 | with_reducible refine p_add ?_
 | with_reducible refine Jz ?_
 | with_reducible refine JB ?_
 | with_reducible refine JC ?_
 | with_reducible refine Lx ?_
 | with_reducible refine Ly ?_
 | with_reducible refine La ?_
 | with_reducible refine Lb ?_
 | with_reducible refine Mw ?_
 | with_reducible refine Mx ?_
 | with_reducible refine JF ?_
 | with_reducible refine JG ?_
 | with_reducible refine Ml ?_
 | with_reducible refine Ma ?_
 | with_reducible refine Mm ?_
 | with_reducible refine Mp ?_
 | with_reducible refine HN ?_
 | with_reducible refine Ab ?_
 | ((with_reducible refine JD ?e ?_);(case e=>first | decide | omega))
 | ((with_reducible refine JH ?e ?_);(case e=>exact Nat.le_of_ble_eq_true rfl))
 | ((with_reducible refine JK ?e ?_);(case e=>exact Nat.le_of_ble_eq_true rfl))
 | ((with_reducible refine Bw ?e ?f ?_);(case e=>first | decide | omega);(case f=>first | decide | omega)))
section
variable {d n:Nat} {h:Hs} {Q:W->Hs->Prop}
def aO (a b:Int):Int:=if b < a then 2 else if b=a then 1 else 0
theorem J0 {a b:Int} (q:Q (.int (aO a b)) h):wC 4 [.int a,.int b] (aQ Pg (d + 1)) (n + 1) h Q:=by
 refine (eE rfl rfl).mpr ?_
 unfold BP
 repeat walk_at "sy"
 refine vV (fun c=>?_) (fun c=>?_)
 · repeat walk_at "sy"
   rw [aO,if_pos c] at q;exact q
 · repeat walk_at "sy"
   rw [aO,if_neg c] at q
   refine vV (fun c=>?_) (fun c=>?_)
   · repeat walk_at "sy"
     rw [if_pos c] at q;exact q
   · repeat walk_at "sy"
     rw [if_neg c] at q;exact q
def m_ (ns:List Int) (a:Int):Int:=(ns.map (aO a)).sum - 1
theorem Ii {a:Int} {ns:List Int} {p:Nat} (hp:p < h.n) (e:h.get p=some (.lst (ns.map W.int))) (l:ns.length < 100) (q:∀ h',Ext h h'->Q (.int (m_ ns a)) h'):wC 5 [.int a,.ref p] (aQ Pg (d + 2)) (n + 150) h Q:=by
 refine (eE rfl rfl).mpr ?_
 unfold lM
 repeat walk_at "sy"
 refine comp_map ?_
 refine jQ ?_
 repeat walk_at "sy"
 refine ⟨p,_,rfl,.inl ⟨e,.refl,_,(ns.map (aO a)).map D.int,fun _=>False,fun h2 x2=>g8 e hp x2,fun _ z=>z.elim,by simp,by simp;omega,by simp;omega,?_,?_⟩⟩
 · intro i w d' h2 m ei ed lm x2 l2
   rw [List.getElem?_map] at ei ed
   obtain ⟨y,ey,rfl⟩:=Option.map_eq_some_iff.mp ei
   rw [List.getElem?_map,ey] at ed
   simp only [Option.map_some,Option.some.injEq] at ed
   subst ed
   refine ⟨_,rfl,?_⟩
   repeat walk_at "sy"
   obtain ⟨m,rfl⟩:∃ k,m=k + 1:=⟨m - 1,by simp at lm;omega⟩
   refine J0 ?_
   exact ⟨.refl,oG⟩
 · intro h3 x3 r3
   obtain ⟨p3,e3,l3,_,g3⟩:=mj.mp r3
   cases e3
   refine JL g3 ?_
   repeat walk_at "sy"
   exact q h3 x3
def yF (a:Int):List Int:=[a % 41 * 10 - 200,a % 5,9999,-9999,a % 19999 - 9999,9998,-9998,0]
def oO (a b:Int):Int:=(yF a).getD (b % 8).toNat 0
theorem Ec {a b:Int} (q:∀ h',Ext h h'->Q (.int (oO a b)) h'):wC 9 [.int a,.int b] (aQ Pg (d + 1)) (n + 1) h Q:=by
 refine (eE rfl rfl).mpr ?_
 unfold lN
 repeat walk_at "sy"
 have l:0 <= b % 8/\b % 8 < 8:=by omega
 refine By (xs:=(yF a).map W.int) aG l.1 (uI (by show _ < 8;omega)) ?_
 repeat walk_at "sy"
 exact q _ .push
end
section
variable {d n:Nat} {h:Hs} {Q:W->Hs->Prop}
theorem Ij (x y:Nat):(x:Int) % (y:Int)=((x % y:Nat):Int):=by omega
theorem BW {x y:Nat} (l:0 < y):Nat.gcd y (x % y)=Nat.gcd x y:=by rw [Nat.gcd_comm x y,Nat.gcd_rec y x,Nat.gcd_comm]
theorem Aw {a b:Int} (l:b.natAbs < 100) (q:Q (.int (Int.gcd a b:Nat)) h):wC 0 [.int a,.int b] (aQ Pg (d + 1)) (n + 150) h Q:=by
 refine (eE rfl rfl).mpr ?_
 unfold tD
 repeat walk_at "sy"
 refine ⟨_,_,rfl,?_⟩
 repeat walk_at "sy"
 refine sG (fun k τ h'=>∃ x y:Nat,τ= [some (.int x),some (.int y)]/\h'=h/\y=k/\Nat.gcd x y=Int.gcd a b) b.natAbs (by omega) ⟨a.natAbs,b.natAbs,rfl,rfl,rfl,rfl⟩ ?_
 rintro k τ h' m ⟨x,y,rfl,rfl,rfl,g⟩
 repeat walk_at "sy"
 refine Ld (fun c=>?_) (fun c=>?_)
 · have c:0 < y:=by omega
   repeat walk_at "sy"
   refine ⟨_,_,rfl,?_⟩
   repeat walk_at "sy"
   exact ⟨x % y,Nat.mod_lt _ c,y,x % y,by rw [Ij];rfl,rfl,rfl,by rw [BW c,g]⟩
 · have c:y=0:=by omega
   subst c
   repeat walk_at "sy"
   rw [Nat.gcd_zero_right] at g
   rw [g];exact q
theorem wB {a b:Int} (l:0 < b):0 < Int.gcd a b:=Int.gcd_pos_of_ne_zero_right a (by omega)
def lwA (a b:Int):Int:=a / (Int.gcd a b:Nat)
def lwB (a b:Int):Int:=b / (Int.gcd a b:Nat)
theorem tY {a b:Int} (l0:0 < b) (l:b < 100) (q:Q (.ref h.n) (h.push (.tup [.int (lwA a b),.int (lwB a b)]))):wC 1 [.int a,.int b] (aQ Pg (d + 2)) (n + 160) h Q:=by
 refine (eE rfl rfl).mpr ?_
 unfold tH
 repeat walk_at "sy"
 have g0:=wB (a:=a) l0
 have g1:(Int.gcd a b) <= b.natAbs:=Nat.gcd_le_right _ (by omega)
 refine Aw (n:=n + 9) (by omega) ?_
 repeat walk_at "sy"
 refine JN (by rw [decide_eq_false (by omega)]) ?_
 repeat walk_at "sy"
 refine oE (by omega) (by omega) ?_
 repeat walk_at "sy"
 refine oE (by omega) (by omega) ?_
 repeat walk_at "sy"
 rw [Int.fdiv_eq_ediv_of_nonneg _ (by omega),Int.fdiv_eq_ediv_of_nonneg _ (by omega)]
 exact q
theorem fD {a b:Int} (l:0 < b):0 < lwB a b:=Int.ediv_pos_of_pos_of_dvd l (by omega) (Int.gcd_dvd_right a b)
theorem lO {a b:Int} (l:0 < b):lwB a b <= b:=Int.ediv_le_self _ (by omega)
theorem gO {a b:Int}:lwA a b * b=a * lwB a b:=by
 obtain ⟨x,hx⟩:=Int.gcd_dvd_left a b
 obtain ⟨y,hy⟩:=Int.gcd_dvd_right a b
 unfold lwA lwB
 by_cases z:(Int.gcd a b:Int)=0
 · rw [z];simp
 · generalize hg:(Int.gcd a b:Int)=g at *
   have e1:a / g=x:=by rw [hx];exact Int.mul_ediv_cancel_left x z
   have e2:b / g=y:=by rw [hy];exact Int.mul_ediv_cancel_left y z
   rw [e1,e2,hx,hy]
   rw [<- Int.mul_assoc,Int.mul_comm x g]
theorem jB {a b:Int} (l:0 < b):(lwA a b).natAbs <= a.natAbs:=by
 unfold lwA
 have g0:=wB (a:=a) l
 rw [Int.natAbs_ediv_of_dvd (Int.gcd_dvd_left a b)]
 exact Nat.div_le_self _ _
end
section
variable {d n:Nat} {h:Hs} {Q:W->Hs->Prop}
theorem tZ (a b:Int):0 <= aO a b/\aO a b <= 2:=by
 unfold aO
 by_cases c:b < a
 · rw [if_pos c];omega
 · by_cases e:b=a
   · rw [if_neg c,if_pos e];omega
   · rw [if_neg c,if_neg e];omega
theorem pM (a:Int):∀ ns:List Int,0 <= (ns.map (aO a)).sum/\(ns.map (aO a)).sum <= 2 * ns.length
 | []=>by simp
 | b::ns=>by
   have:=pM a ns
   have:=tZ a b
   simp only [List.map_cons,List.sum_cons,List.length_cons];omega
abbrev ovF (ns:List Int) (many:Int) (a:Int):Int:=(m_ ns a + 1) * many - ns.length
theorem wF {ns:List Int} {many:Int} (l:ns.length < 20) (m0:0 <= many) (m1:many < 20) (a:Int):(m_ ns a + 1).natAbs < 2 ^ 64/\(ovF ns many a).natAbs < 2 ^ 20:=by
 have:=pM a ns
 unfold ovF m_
 have h1:0 <= ((ns.map (aO a)).sum - 1 + 1) * many:=Int.mul_nonneg (by omega) m0
 have h2:((ns.map (aO a)).sum - 1 + 1) * many <= 40 * 20:=Int.mul_le_mul (by omega) (by omega) m0 (by omega)
 generalize ((ns.map (aO a)).sum - 1 + 1) * many=z at h1 h2 ⊢
 omega
theorem Ed {a many:Int} {ns:List Int} {p:Nat} (hp:p < h.n) (e:h.get p=some (.lst (ns.map W.int))) (l0:0 < ns.length) (l:ns.length < 20) (m0:0 <= many) (m1:many < 20)
 (q:∀ r h',Ext h h'->h.n <= r->r < h'.n->h'.get r=some (.tup [.int (lwA (ovF ns many a) ns.length),.int (lwB (ovF ns many a) ns.length)])->Q (.ref r) h'):wC 6 [.int a,.ref p,.int many] (aQ Pg (d + 3)) (n + 180) h Q:=by
 refine (eE rfl rfl).mpr ?_
 unfold jz
 repeat walk_at "sy"
 refine iW e ?_
 rw [List.length_map]
 repeat walk_at "sy"
 refine Ii (n:=n + 29) hp e (by omega) fun h1 x1=>?_
 have bd:=wF l m0 m1 a
 repeat walk_at "sy"
 refine tY (n:=n + 19) (by omega) (by omega) ?_
 repeat walk_at "sy"
 exact q _ _ (x1.trans .push) x1.1 bT aG
abbrev ptD (ns:List Int) (many:Int):List D:=ns.map fun a=>Dp (lwA (ovF ns many a) ns.length) (lwB (ovF ns many a) ns.length)
theorem j7 {many:Int} {ns:List Int} {p:Nat} (hp:p < h.n) (e:h.get p=some (.lst (ns.map W.int))) (l0:0 < ns.length) (l:ns.length < 20) (m0:0 <= many) (m1:many < 20)
 (q:∀ r h',Ext h h'->h.n <= r->Rd h' (fun p=>h.n <= p) (.lst (ptD ns many)) (.ref r)->Q (.ref r) h'):wC 7 [.ref p,.int many] (aQ Pg (d + 4)) (n + 220) h Q:=by
 refine (eE rfl rfl).mpr ?_
 unfold tK
 repeat walk_at "sy"
 refine comp_map (jQ ?_)
 repeat walk_at "sy"
 refine ⟨p,_,rfl,.inl ⟨e,.refl,_,ptD ns many,fun _=>False,fun h2 x2=>g8 e hp x2,fun _ z=>z.elim,by simp,by simp;omega,by simp;omega,?_,?_⟩⟩
 · intro i w d' h2 m ei ed lm x2 l2
   rw [List.getElem?_map] at ei ed
   obtain ⟨y,ey,rfl⟩:=Option.map_eq_some_iff.mp ei
   rw [ey] at ed
   simp only [Option.map_some,Option.some.injEq] at ed
   subst ed
   refine ⟨_,rfl,?_⟩
   repeat walk_at "sy"
   obtain ⟨m,rfl⟩:∃ k,m=k + 180:=⟨m - 180,by simp at lm;omega⟩
   refine Ed (Nat.lt_of_lt_of_le hp x2.1) (x2.get hp e) l0 l m0 m1 fun r h3 x3 l3 l3' g3=>?_
   exact ⟨x3,lF.mpr ⟨r,rfl,l3',.inr l3,g3⟩⟩
 · intro h3 x3 r3
   repeat walk_at "sy"
   exact q _ h3 x3 (Nat.le_refl _) (r3.imp fun p _ z=>z.resolve_left id)
end
def WF (ns:List Int) (a:Int):Int:=(ns.map (aO a)).sum
theorem dU (b:Int) (ns:List Int) (a:Int):WF (b::ns) a=aO a b + WF ns a:=by unfold WF;rw [List.map_cons,List.sum_cons]
theorem jl (ns:List Int) (m a:Int):ovF ns m a=WF ns a * m - ns.length:=by
 show (m_ ns a + 1) * m - _=_
 rw [show m_ ns a + 1=WF ns a by unfold m_ WF;omega]
theorem qj {a b k:Int} (hb:0 < b) (hk:0 < k):lwA (a * k) (b * k)=lwA a b/\lwB (a * k) (b * k)=lwB a b:=by
 unfold lwA lwB
 rw [Int.gcd_mul_right,show ((Int.gcd a b * k.natAbs:Nat):Int)=(Int.gcd a b:Int) * k by rw [Int.natCast_mul];congr 1;omega]
 have g0:=wB (a:=a) hb
 exact ⟨Int.mul_ediv_mul_of_pos_left _ _ hk,Int.mul_ediv_mul_of_pos_left _ _ hk⟩
theorem ni {a b c d:Int} (hb:0 < b) (hd:0 < d) (e:a * d=c * b):lwA a b=lwA c d/\lwB a b=lwB c d:=by
 have h1:=qj (a:=a) hb hd
 have h2:=qj (a:=c) hd hb
 rw [<- h1.1,<- h1.2,<- h2.1,<- h2.2,e,Int.mul_comm b d]
 exact ⟨rfl,rfl⟩
theorem pN {a b:Int} (hb:0 < b):lwA (a * b) b=a/\lwB (a * b) b=1:=by
 have h:=ni (a:=a * b) (b:=b) (c:=a) (d:=1) hb (by decide) (by rw [Int.mul_one])
 rw [h.1,h.2]
 unfold lwA lwB
 rw [show (Int.gcd a 1:Nat)=1 by simp]
 exact ⟨Int.ediv_one _,rfl⟩
theorem Ik {a b c d:Int} (h1:b < a ↔ d < c) (h2:b=a ↔ d=c):aO a b=aO c d:=by
 unfold aO
 by_cases x:b < a
 · rw [if_pos x,if_pos (h1.mp x)]
 · rw [if_neg x,if_neg (fun z=>x (h1.mpr z))]
   by_cases y:b=a
   · rw [if_pos y,if_pos (h2.mp y)]
   · rw [if_neg y,if_neg (fun z=>y (h2.mpr z))]
theorem J1 {f:Int->Int} {ns:List Int} {a:Int} (h:∀ b ∈ ns,(f b < f a ↔ b < a)/\(f b=f a ↔ b=a)):WF (ns.map f) (f a)=WF ns a:=by
 unfold WF
 rw [List.map_map]
 congr 1
 exact List.map_congr_left fun b mb=>Ik (h b mb).1 (h b mb).2
theorem Il {f:Int->Int} {ns:List Int} {m:Int} (h:∀ a ∈ ns,∀ b ∈ ns,(f b < f a ↔ b < a)/\(f b=f a ↔ b=a)):ptD (ns.map f) m=ptD ns m:=by
 unfold ptD
 rw [List.map_map,List.length_map]
 refine List.map_congr_left fun a ma=>?_
 show Dp (lwA (ovF (ns.map f) m (f a)) _) (lwB (ovF (ns.map f) m (f a)) _)=_
 rw [jl,jl,J1 (h a ma),List.length_map]
theorem Ef (a b:Int):aO (-a) (-b)=2 - aO a b:=by
 unfold aO
 by_cases x:b < a
 · rw [if_neg (by omega),if_neg (by omega),if_pos x];omega
 · by_cases y:b=a
   · rw [if_neg (by omega),if_pos (by omega),if_neg x,if_pos y];omega
   · rw [if_pos (by omega),if_neg x,if_neg y];omega
theorem BX (a:Int):∀ ns:List Int,WF (ns.map fun x=> -x) (-a)=2 * ns.length - WF ns a
 | []=>rfl
 | b::ns=>by rw [List.map_cons,dU,dU,BX a ns,Ef,List.length_cons];omega
theorem BZ (x:Int):∀ ys:List Int,WF ys x + (ys.map fun b=>aO b x).sum=2 * ys.length
 | []=>rfl
 | y::ys=>by
   rw [dU,List.map_cons,List.sum_cons,List.length_cons]
   have h:=BZ x ys
   have e:aO x y + aO y x=2:=by
    unfold aO
    by_cases a:y < x
    · rw [if_pos a,if_neg (by omega),if_neg (by omega)];omega
    · by_cases b:y=x
      · rw [if_neg a,if_pos b,if_neg (by omega),if_pos b.symm];omega
      · rw [if_neg a,if_neg b,if_pos (by omega)];omega
   omega
theorem B_ (ys:List Int):∀ xs:List Int,(xs.map (WF ys)).sum + (ys.map (WF xs)).sum=2 * xs.length * ys.length
 | []=>by
   have:∀ ys:List Int,(ys.map (WF [])).sum=0:=fun ys=>by
    induction ys with
    | nil=>rfl
    | cons y ys ih=>rw [List.map_cons,List.sum_cons,ih];rfl
   rw [this];simp
 | x::xs=>by
   have h:=B_ ys xs
   have e:(ys.map (WF (x::xs))).sum=(ys.map fun b=>aO b x).sum + (ys.map (WF xs)).sum:=by
    clear h
    induction ys with
    | nil=>rfl
    | cons y ys ih=>simp only [List.map_cons,List.sum_cons,dU,ih];omega
   have t:=BZ x ys
   rw [List.map_cons,List.sum_cons,e,List.length_cons]
   rw [show 2 * ((xs.length + 1:Nat):Int) * ys.length=2 * xs.length * ys.length + 2 * ys.length by rw [Int.natCast_add,Int.mul_add,Int.add_mul];simp]
   omega
theorem J2 (ns:List Int):(ns.map (WF ns)).sum=ns.length * ns.length:=by
 have h:=B_ ns ns
 rw [Int.mul_assoc] at h
 generalize (ns.length:Int) * ns.length=z at *
 omega
theorem t6 {a b:Int} (h:a <= b) (c:Int):aO a c <= aO b c:=by
 unfold aO
 by_cases x:c < a
 · rw [if_pos x,if_pos (by omega)];omega
 · rw [if_neg x]
   by_cases y:c=a
   · rw [if_pos y]
     by_cases z:c < b
     · rw [if_pos z];omega
     · rw [if_neg z,if_pos (by omega)];omega
   · rw [if_neg y]
     exact (tZ b c).1
theorem yG {a b:Int} (h:a <= b):∀ ns:List Int,WF ns a <= WF ns b
 | []=>Int.le_refl _
 | c::ns=>by rw [dU,dU];have:=t6 h c;have:=yG h ns;omega
theorem Ax {a b:Int} (h:a < b):∀ {ns:List Int},b ∈ ns->WF ns a < WF ns b
 | c::ns,m=>by
   rw [dU,dU]
   rcases List.mem_cons.mp m with e | m
   · subst e
     have:=yG (Int.le_of_lt h) ns
     have e1:aO a b=0:=by unfold aO;rw [if_neg (by omega),if_neg (by omega)]
     have e2:aO b b=1:=by unfold aO;rw [if_neg (by omega),if_pos rfl]
     omega
   · have:=Ax h m;have:=t6 (Int.le_of_lt h) c;omega
theorem J3 {ns:List Int} {a b:Int} (ma:a ∈ ns) (mb:b ∈ ns):WF ns a < WF ns b ↔ a < b:=by
 refine ⟨fun z=>?_,fun z=>Ax z mb⟩
 rcases Int.lt_trichotomy a b with h | h | h
 · exact h
 · subst h;omega
 · have:=Ax h ma;omega
theorem Im {a:Int}:∀ {ns:List Int},a ∈ ns->1 <= WF ns a/\WF ns a <= 2 * ns.length - 1
 | c::ns,m=>by
   rw [dU,List.length_cons]
   have s:=pM a ns
   have s':0 <= WF ns a/\WF ns a <= 2 * ns.length:=s
   have w:=tZ a c
   rcases List.mem_cons.mp m with e | m
   · subst e
     have e2:aO a a=1:=by unfold aO;rw [if_neg (by omega),if_pos rfl]
     omega
   · have:=Im m;omega
theorem Ca (xs ys:List Int) (a:Int):WF (xs ++ ys) a=WF xs a + WF ys a:=by unfold WF;rw [List.map_append,List.sum_append]
theorem J4 (ns:List Int) (c:Nat) (a:Int):WF (ns.drop c ++ ns.take c) a=WF ns a:=by
 have e:WF ns a=WF (ns.take c ++ ns.drop c) a:=by rw [List.take_append_drop]
 rw [e,Ca,Ca,Int.add_comm]
theorem Io (ns:List Int) (m:Int) (c:Nat):ptD (ns.drop c ++ ns.take c) m=(ptD ns m).drop c ++ (ptD ns m).take c:=by
 unfold ptD
 have l:(ns.drop c ++ ns.take c).length=ns.length:=by
  rw [List.length_append,List.length_drop,List.length_take];omega
 rw [l,<- List.map_drop,<- List.map_take,<- List.map_append]
 refine List.map_congr_left fun a _=>?_
 rw [jl,jl,J4,l]
theorem yH (x:Int):∀ l acc:List Int,x ∈ dd l acc ↔ x ∈ l\/x ∈ acc
 | [],acc=>by show x ∈ acc ↔ _;simp
 | y::l,acc=>by
   show x ∈ dd l (ifB (dj y acc) acc (app acc [y])) ↔ _
   rw [yH x l,List.mem_cons]
   cases e:dj y acc with
   | true=>
     show x ∈ l\/x ∈ acc ↔ _
     constructor
     · rintro (h | h)
       · exact .inl (.inr h)
       · exact .inr h
     · rintro ((h | h) | h)
       · subst h;exact .inr (sZ e)
       · exact .inl h
       · exact .inr h
   | false=>
     show x ∈ l\/x ∈ app acc [y] ↔ _
     rw [dm,List.mem_append,List.mem_singleton]
     constructor
     · rintro (h | h | h)
       · exact .inl (.inr h)
       · exact .inr h
       · exact .inl (.inl h)
     · rintro ((h | h) | h)
       · exact .inr (.inr h)
       · exact .inl h
       · exact .inr (.inl h)
theorem nj:∀ l acc:List Int,acc.Nodup->(dd l acc).Nodup
 | [],acc,h=>h
 | y::l,acc,h=>by
   show (dd l (ifB (dj y acc) acc (app acc [y]))).Nodup
   cases e:dj y acc with
   | true=>exact nj l acc h
   | false=>
     show (dd l (app acc [y])).Nodup
     refine nj l _ ?_
     rw [dm]
     refine List.nodup_append.mpr ⟨h,by simp,fun a ha b hb z=>?_⟩
     rw [List.mem_singleton.mp hb] at z
     have:dj y acc=true:=by rw [iD];exact List.any_eq_true.mpr ⟨a,ha,by rw [z];simp⟩
     rw [e] at this;cases this
theorem Eg (ns:List Int):(bZ (dd ns [])).Pairwise (· < ·):=by
 have h1:=jf (dd ns [])
 have h2:(bZ (dd ns [])).Nodup:=(gJ (dd ns [])).nodup_iff.mpr (nj ns [] .nil)
 exact (List.pairwise_and_iff.mpr ⟨h1,h2⟩).imp fun ⟨a,b⟩=>by omega
theorem nq {ns:List Int} {a:Int} (m:a ∈ ns):a ∈ bZ (dd ns []):=(gJ _).mem_iff.mpr ((yH a ns []).mpr (.inl m))
theorem Ip {L:List Int} (s:L.Pairwise (· < ·)) {x y:Int} (mx:x ∈ L) (my:y ∈ L) (h:x < y):L.idxOf x < L.idxOf y:=by
 have lx:=List.idxOf_lt_length_iff.mpr mx
 have ly:=List.idxOf_lt_length_iff.mpr my
 have ex:=List.getElem_idxOf lx
 have ey:=List.getElem_idxOf ly
 rcases Nat.lt_trichotomy (L.idxOf x) (L.idxOf y) with c | c | c
 · exact c
 · have:L[L.idxOf x] =L[L.idxOf y]:=by congr 1
   rw [ex,ey] at this;omega
 · have:=List.pairwise_iff_getElem.mp s _ _ ly lx c
   rw [ex,ey] at this;omega
noncomputable def rkF (ns:List Int) (r a:Int):Int:=((bZ (dd ns [])).idxOf a:Nat) * (r + 1) - 9999
theorem Cd {ns:List Int} {r a b:Int} (r0:0 <= r) (ma:a ∈ ns) (mb:b ∈ ns) (h:a < b):rkF ns r a < rkF ns r b:=by
 have l:=Ip (Eg ns) (nq ma) (nq mb) h
 unfold rkF
 have:((bZ (dd ns [])).idxOf a:Int) * (r + 1) < ((bZ (dd ns [])).idxOf b:Int) * (r + 1):=Int.mul_lt_mul_of_pos_right (by omega) (by omega)
 omega
theorem Ir {ns:List Int} {r:Int} (r0:0 <= r):∀ a ∈ ns,∀ b ∈ ns,(rkF ns r b < rkF ns r a ↔ b < a)/\(rkF ns r b=rkF ns r a ↔ b=a):=fun a ma b mb=>by
 rcases Int.lt_trichotomy a b with h | h | h
 · have:=Cd r0 ma mb h;constructor <;> constructor <;> intro z <;> omega
 · subst h;constructor <;> constructor <;> intro z <;> first | rfl | omega
 · have:=Cd r0 mb ma h;constructor <;> constructor <;> intro z <;> omega
theorem J5 {h:Hs} {Q:W->Hs->Prop} {a b:Bool} (z:Q (.bl (!(a == b))) h):wP .ne [.bl a,.bl b] h Q:=by
 refine oF (d:=.bl a) (d':=.bl b) (A:=fun _=>True) (B:=fun _=>True) (by simp only [Ev.Rd]) (by simp only [Ev.Rd]) (by simp [dZ]) (by simp [dZ]) rfl rfl ?_
 rw [show bK (.bl a) (.bl b)=(a == b) by simp only [bK]];exact z
theorem yI {K:Ks} {n:Nat} {τ:Sg} {h:Hs} {Q:W->Hs->Prop} {a b c:X} (x:wX a K n τ h fun u h1=>wX b K n τ h1 fun v h2=>wX c K n τ h2 fun w h3=>∃ i j k:Int,u= .int i/\v= .int j/\w= .int k/\h2=h3/\(i <= j/\j <= k)/\Q (.bl true) h3):wX (.chain .le .le a b c) K n τ h Q:=by
 obtain ⟨u,h1,e1,x⟩:=cP x
 obtain ⟨v,h2,e2,x⟩:=cP x
 obtain ⟨w,h3,e3,i,j,k,rfl,rfl,rfl,rfl,⟨l1,l2⟩,q⟩:=cP x
 show okQ ((a.f K n τ h).bind fun r h=>r.toW fun u=>(b.f K n τ h).bind fun r h=>r.toW fun v=>(ofW (aU .le [u,v] h)).bind fun r h=>r.toW fun k=>k.onB (.ok (.w (.bl false)) h) ((c.f K n τ h).bind fun r h=>r.toW fun w=>ofW (aU .le [v,w] h))) (aW Q)
 rw [e1]
 show okQ ((b.f K n τ h1).bind fun r h=>r.toW fun v=>(ofW (aU .le [.int i,v] h)).bind fun r h=>r.toW fun k=>k.onB (.ok (.w (.bl false)) h) ((c.f K n τ h).bind fun r h=>r.toW fun w=>ofW (aU .le [v,w] h))) (aW Q)
 rw [e2]
 show okQ (W.onB (.bl (!ilt j i)) (.ok (.w (.bl false)) h2) ((c.f K n τ h2).bind fun r h=>r.toW fun w=>ofW (aU .le [.int j,w] h))) (aW Q)
 rw [bL,decide_eq_false (show ¬ j < i by omega)]
 show okQ ((c.f K n τ h2).bind fun r h=>r.toW fun w=>ofW (aU .le [.int j,w] h)) (aW Q)
 rw [e3]
 show Q (.bl (!ilt k j)) h2
 rw [bL,decide_eq_false (show ¬ k < j by omega)]
 exact q
section
variable {d n:Nat} {h:Hs} {Q:W->Hs->Prop}
theorem Iu {p q:Nat} {a b c e:Int} (gp:h.get p=some (.tup [.int a,.int b])) (gq:h.get q=some (.tup [.int c,.int e])) (b0:0 < b) (b1:b < 10) (e0:0 < e) (e1:e < 10) (ba:a.natAbs < 2 ^ 20) (bc:c.natAbs < 2 ^ 20)
 (z:Q (.ref h.n) (h.push (.tup [.int (lwA (a * e - c * b) (b * e)),.int (lwB (a * e - c * b) (b * e))]))):wC 2 [.ref p,.ref q] (aQ Pg (d + 3)) (n + 200) h Q:=by
 refine (eE rfl rfl).mpr ?_
 unfold yu
 have b2:(2:Nat) ^ 20 < 2 ^ 64:=by decide
 repeat walk_at "sy"
 refine eU (q:=0) gp rfl ?_
 repeat walk_at "sy"
 refine eU (q:=1) gq rfl ?_
 repeat walk_at "sy"
 refine eU (q:=0) gq rfl ?_
 repeat walk_at "sy"
 refine eU (q:=1) gp rfl ?_
 repeat walk_at "sy"
 refine eU (q:=1) gp rfl ?_
 repeat walk_at "sy"
 refine eU (q:=1) gq rfl ?_
 repeat walk_at "sy"
 have l0:0 < b * e:=Int.mul_pos b0 e0
 have l1:b * e <= 9 * 9:=Int.mul_le_mul (by omega) (by omega) (by omega) (by omega)
 refine tY (d:=d) (n:=n + 39) l0 (by omega) ?_
 repeat walk_at "sy"
 exact z
theorem yJ {p q:Nat} {a b c e:Int} (gp:h.get p=some (.tup [.int a,.int b])) (gq:h.get q=some (.tup [.int c,.int e])) (b0:0 < b) (b1:b < 10) (e0:0 < e) (e1:e < 10) (ba:a.natAbs < 2 ^ 20) (bc:c.natAbs < 2 ^ 20)
 (z:Q (.bl (decide (c * b < a * e))) h):wC 3 [.ref p,.ref q] (aQ Pg (d + 1)) (n + 1) h Q:=by
 refine (eE rfl rfl).mpr ?_
 unfold qi
 have b2:(2:Nat) ^ 20 < 2 ^ 64:=by decide
 repeat walk_at "sy"
 refine eU (q:=0) gp rfl ?_
 repeat walk_at "sy"
 refine eU (q:=1) gq rfl ?_
 repeat walk_at "sy"
 refine eU (q:=0) gq rfl ?_
 repeat walk_at "sy"
 refine eU (q:=1) gp rfl ?_
 repeat walk_at "sy"
 exact z
theorem yK:∀ {xs:List Int},(∀ x ∈ xs,x.natAbs < 2 ^ 20)->xs.sum.natAbs <= xs.length * 2 ^ 20
 | [],_=>by simp
 | x::xs,z=>by
   have:=yK fun y my=>z y (.tail _ my)
   have:=z x (.head _)
   rw [List.sum_cons,List.length_cons];omega
theorem yL {xs:List Int} {i:Nat} {x:Int} (e:xs[i]? =some x):(xs.take (i + 1)).sum=(xs.take i).sum + x:=by
 rw [List.take_add_one,e,List.sum_append];simp
theorem J6 {p m:Nat} {xs:List Int} {us:List W} {A:Nat->Prop} (lp:p < h.n) (gp:h.get p=some (.lst us)) (r:Rds h A (xs.map fun x=>Dp (lwA x m) (lwB x m)) us) (m0:0 < m) (m1:m < 10) (lx:xs.length < 20) (bx:∀ x ∈ xs,x.natAbs < 2 ^ 20)
 (z:∀ h',Ext h h'->Q (.ref h'.n) (h'.push (.tup [.int (lwA xs.sum m),.int (lwB xs.sum m)]))):wC 8 [.ref p] (aQ Pg (d + 1)) (n + 200) h Q:=by
 refine (eE rfl rfl).mpr ?_
 unfold iJ
 have ul:us.length=xs.length:=by rw [r.length,List.length_map]
 have mp:(0:Int) < (m:Int):=by omega
 refine dO.mpr (DR ?_)
 repeat walk_at "sy"
 refine ⟨_,_,_,rfl,aG,?_⟩
 have x1:Ext h (h.push (.tup [.int 0,.int 1])):=.push
 have gp1:=x1.get lp gp
 have r1:=r.ext x1
 generalize h.push (.tup [.int 0,.int 1])=h1 at *
 have z0:lwA 0 (m:Int)=0/\lwB 0 (m:Int)=1:=by have:=pN (a:=0) mp;rwa [Int.zero_mul] at this
 refine jw (dO.mpr (sE (jQ (cF (w:=.ref p) rfl ?_))))
 refine ⟨p,us,rfl,.inl ⟨gp1,us,fun i τ h2=>∃ u3 u4 u5 u6,τ= [some (.ref p),some (.int (lwA (xs.take i).sum m)),some (.int (lwB (xs.take i).sum m)),u3,u4,u5,u6]/\h2=h1,fun i τ h2 ⟨_,_,_,_,_,e⟩=>.inl ⟨p,rfl,by rw [e];exact gp1⟩,by omega,⟨none,none,none,none,by rw [show (xs.take 0).sum=0 from rfl,z0.1,z0.2];rfl,rfl⟩,?_,?_⟩⟩
 · rintro i w τ h2 k ei lk ⟨u3,u4,u5,u6,rfl,rfl⟩
   obtain ⟨d1,e1,rd1⟩:=Rds.at r1 ei
   rw [List.getElem?_map] at e1
   obtain ⟨x,ex,rfl⟩:=Option.map_eq_some_iff.mp e1
   obtain ⟨c,rfl,lc,_,gc⟩:=lF.mp rd1
   have li:=(List.getElem?_eq_some_iff.mp ex).1
   have bS:(xs.take i).sum.natAbs <= 20 * 2 ^ 20:=Nat.le_trans (yK fun y my=>bx y (List.mem_of_mem_take my)) (Nat.mul_le_mul_right _ (by rw [List.length_take];omega))
   have bX:=bx x (List.mem_of_getElem? ex)
   have es:=yL ex
   generalize (xs.take i).sum=S at *
   refine ⟨[some (.ref p),some (.int (lwA S m)),some (.int (lwB S m)),some (.int (lwA x m)),some (.int (lwB x m)),u5,u6],?_,?_⟩
   · show Option.rec (motive:=fun _=>Option Sg) none (fun o=>O.rec (motive:=fun _=>Option Sg) (fun xs=>bindL (aA h2 8) [.nm 3,.nm 4] xs _) (fun _=>none) (fun _ _=>none) (fun _=>none) (fun _=>none) (fun _=>none) o) (h2.get c)=_
     rw [gc];rfl
   have b0:=fD (a:=S) mp
   have b1:=lO (a:=S) mp
   have c0:=fD (a:=x) mp
   have c1:=lO (a:=x) mp
   have a1:=jB (a:=S) mp
   have a2:=jB (a:=x) mp
   have w1:=gO (a:=S) (b:=(m:Int))
   have w2:=gO (a:=x) (b:=(m:Int))
   generalize lwA S (m:Int)=oA at *
   generalize lwB S (m:Int)=oB at *
   generalize lwA x (m:Int)=xA at *
   generalize lwB x (m:Int)=xB at *
   have p64:20 * 2 ^ 20 < 2 ^ 64:=by decide
   refine dO.mpr ?_
   repeat walk_at "sy"
   refine ⟨_,_,rfl,?_⟩
   have l0:0 < oB * xB:=Int.mul_pos b0 c0
   have l1:oB * xB <= 9 * 9:=Int.mul_le_mul (by omega) (by omega) (by omega) (by omega)
   have key:=ni (a:=oA * xB + xA * oB) (b:=oB * xB) (c:=S + x) (d:=(m:Int)) l0 mp (by
    rw [Int.add_mul,Int.add_mul]
    have e1:oA * xB * (m:Int)=S * (oB * xB):=by rw [Int.mul_right_comm,w1,Int.mul_assoc]
    have e2:xA * oB * (m:Int)=x * (oB * xB):=by rw [Int.mul_right_comm,w2,Int.mul_assoc,Int.mul_comm xB oB]
    rw [e1,e2])
   generalize hO:oA * xB + xA * oB=O1 at *
   generalize oB * xB=U1 at *
   show wS _ _ _ [some (.ref p),some (.int O1),some (.int U1),some (.int xA),some (.int xB),u5,u6] _ _
   refine dO.mpr ?_
   repeat walk_at "sy"
   refine ⟨_,_,rfl,?_⟩
   refine jw (dO.mpr (sG (fun k τ h'=>∃ x y:Nat,τ= [some (.ref p),some (.int O1),some (.int U1),some (.int xA),some (.int xB),some (.int x),some (.int y)]/\h'=h2/\y=k/\Nat.gcd x y=Int.gcd O1 U1) U1.natAbs (by omega) ⟨O1.natAbs,U1.natAbs,by rw [show ((U1.natAbs:Nat):Int)=U1 by omega];rfl,rfl,rfl,rfl⟩ ?_))
   rintro k τ h' mm ⟨x',y',rfl,rfl,rfl,g⟩
   repeat walk_at "sy"
   refine vV (fun c=>?_) (fun c=>?_)
   · have c:0 < y':=by omega
     repeat walk_at "sy"
     refine ⟨_,_,rfl,?_⟩
     repeat walk_at "sy"
     exact ⟨x' % y',Nat.mod_lt _ c,y',x' % y',by rw [Ij];rfl,rfl,rfl,by rw [BW c,g]⟩
   · have c:y'=0:=by omega
     subst c
     rw [Nat.gcd_zero_right] at g
     subst g
     have g0:=wB (a:=O1) l0
     have g1:(Int.gcd O1 U1) <= U1.natAbs:=Nat.gcd_le_right _ (by omega)
     repeat walk_at "sy"
     refine oE (by omega) (by omega) ?_
     repeat walk_at "sy"
     refine oE (by omega) (by omega) ?_
     repeat walk_at "sy"
     refine ⟨_,_,rfl,?_⟩
     repeat walk_at "sy"
     rw [Int.fdiv_eq_ediv_of_nonneg _ (by omega),Int.fdiv_eq_ediv_of_nonneg _ (by omega)]
     refine ⟨some (.int xA),some (.int xB),some (.int ((Int.gcd O1 U1:Nat):Int)),some (.int ((0:Nat):Int)),?_,rfl⟩
     rw [es,<- key.1,<- key.2];rfl
 · rintro τ h2 ⟨u3,u4,u5,u6,rfl,rfl⟩
   rw [ul,List.take_length]
   repeat walk_at "sy"
   exact z _ x1
end
theorem Eh {K:Ks} {n:Nat} {τ:Sg} {h:Hs} {s:S} {Q Q':Fl->Hs->Prop} (x:w1 s K n τ h Q) (f:∀ w h,Q w h->Q' w h):w1 s K n τ h Q':=mZ x (Dy f)
theorem J7 (ns:List Int) (m:Int):ptD ns m=(ns.map (ovF ns m)).map fun x=>Dp (lwA x (ns.length:Nat)) (lwB x (ns.length:Nat)):=by rw [List.map_map];rfl
theorem yM (ns:List Int) (m:Int):∀ l:List Int,(l.map (ovF ns m)).sum=(l.map (WF ns)).sum * m - l.length * ns.length
 | []=>by simp
 | a::l=>by
   rw [List.map_cons,List.map_cons,List.sum_cons,List.sum_cons,yM ns m l,jl,Int.add_mul,List.length_cons,show ((l.length + 1:Nat):Int) * ns.length=l.length * ns.length + ns.length by rw [Int.natCast_add,Int.add_mul];simp]
   omega
theorem Iw {x y:Int} {m:Int} (hm:0 < m):lwA x m * lwB y m < lwA y m * lwB x m ↔ x < y:=by
 have w1:=gO (a:=x) (b:=m)
 have w2:=gO (a:=y) (b:=m)
 have p1:=fD (a:=x) hm
 have p2:=fD (a:=y) hm
 generalize lwA x m=a at *
 generalize lwB x m=b at *
 generalize lwA y m=c at *
 generalize lwB y m=e at *
 have pe:0 < b * e:=Int.mul_pos p1 p2
 have e1:a * e * m=x * (b * e):=by rw [Int.mul_right_comm,w1,Int.mul_assoc]
 have e2:c * b * m=y * (b * e):=by rw [Int.mul_right_comm,w2,Int.mul_assoc,Int.mul_comm e b]
 constructor
 · intro z
   have:=Int.mul_lt_mul_of_pos_right z hm
   rw [e1,e2] at this
   exact Int.lt_of_mul_lt_mul_right this (Int.le_of_lt pe)
 · intro z
   have:=Int.mul_lt_mul_of_pos_right z pe
   rw [<- e1,<- e2] at this
   exact Int.lt_of_mul_lt_mul_right this (Int.le_of_lt hm)
theorem Iz {ns:List Int} {m a b:Int} (m0:0 < m) (ma:a ∈ ns) (mb:b ∈ ns):ovF ns m a < ovF ns m b ↔ a < b:=by
 rw [jl,jl,<- J3 ma mb]
 constructor
 · intro z
   exact Int.lt_of_mul_lt_mul_right (show WF ns a * m < WF ns b * m by omega) (Int.le_of_lt m0)
 · intro z
   have:=Int.mul_lt_mul_of_pos_right z m0
   omega
theorem yN {h:Hs} {A:Nat->Prop}:∀ {ds:List D} {ws:List W} (k:Nat),Rds h A ds ws->Rds h A (ds.drop k) (ws.drop k)/\Rds h A (ds.take k) (ws.take k)
 | ds,ws,0,r=>⟨by simpa using r,by rw [List.take_zero,List.take_zero];unfold Rds;rfl⟩
 | [],ws,k + 1,r=>by
   unfold Rds at r;subst r
   exact ⟨by rw [List.drop_nil,List.drop_nil];unfold Rds;rfl,by rw [List.take_nil,List.take_nil];unfold Rds;rfl⟩
 | d::ds,ws,k + 1,r=>by
   unfold Rds at r
   obtain ⟨w,ws,rfl,a,b⟩:=r
   obtain ⟨c,e⟩:=yN k b
   refine ⟨c,?_⟩
   rw [List.take_succ_cons,List.take_succ_cons]
   unfold Rds
   exact ⟨w,_,rfl,a,e⟩
theorem Ei {ns:List Int} {m a:Int} (n0:0 < ns.length):lwA ((2 * m - 2) * lwB (ovF (ns.map fun x=> -x) m (-a)) ns.length - lwA (ovF (ns.map fun x=> -x) m (-a)) ns.length * 1) (1 * lwB (ovF (ns.map fun x=> -x) m (-a)) ns.length)=lwA (ovF ns m a) ns.length/\lwB ((2 * m - 2) * lwB (ovF (ns.map fun x=> -x) m (-a)) ns.length - lwA (ovF (ns.map fun x=> -x) m (-a)) ns.length * 1) (1 * lwB (ovF (ns.map fun x=> -x) m (-a)) ns.length)=lwB (ovF ns m a) ns.length:=by
 have np:(0:Int) < ns.length:=by omega
 have w:=gO (a:=ovF (ns.map fun x=> -x) m (-a)) (b:=(ns.length:Int))
 have p:=fD (a:=ovF (ns.map fun x=> -x) m (-a)) np
 have x:(2 * m - 2) * ns.length - ovF (ns.map fun x=> -x) m (-a)=ovF ns m a:=by
  rw [jl,jl,BX,List.length_map,Int.sub_mul,Int.sub_mul,Int.mul_right_comm 2 (ns.length:Int) m]
  omega
 generalize lwA (ovF (ns.map fun x=> -x) m (-a)) ns.length=c at *
 generalize lwB (ovF (ns.map fun x=> -x) m (-a)) ns.length=e at *
 refine ni (by omega) np ?_
 rw [Int.mul_one,Int.one_mul,Int.sub_mul,w,Int.mul_right_comm,<- Int.sub_mul,x]
theorem runs {row:List Int} (hD:L2.Drawn row ([9,9,300,9] ++ (List.replicate 9 [20000,8]).flatten)):Q0 row:=by
 have hlen:row.length=22:=pZ hD
 have h0:0 <= row.getD 0 0/\row.getD 0 0 < 9:=iG (k:=0) hD (by decide)
 have h1':0 <= row.getD 1 0/\row.getD 1 0 < 9:=iG (k:=1) hD (by decide)
 have h2':0 <= row.getD 2 0/\row.getD 2 0 < 300:=iG (k:=2) hD (by decide)
 have h3':0 <= row.getD 3 0/\row.getD 3 0 < 9:=iG (k:=3) hD (by decide)
 refine HW ?_
 show wS tl0 (aQ Pg 8) 400 _ (rQ row) _
 have gr:(rQ row).get 0=some (.lst (row.map W.int)):=aG (h:=.mk 0 .lf)
 have lr:0 < (rQ row).n:=bT (h:=.mk 0 .lf)
 generalize rQ row=hh at gr lr
 have ix:∀ {h3:Hs} {Q':W->Hs->Prop} (i:Int),Ext hh h3->0 <= i->i < 22->Q' (.int (row.getD i.toNat 0)) h3->wP .ix [.ref 0,.int i] h3 Q':=fun i x a b q=>By (x.get lr gr) a (uI (by omega)) q
 unfold tl0
 repeat walk_at "sy"
 refine comp_map (sI ?_)
 repeat walk_at "sy"
 refine ix 0 .refl (by decide) (by decide) ?_
 repeat walk_at "sy"
 have e0:(0:Int).toNat=0:=rfl
 rw [e0]
 generalize row.getD 0 0=z0 at h0
 refine ⟨_,rfl,by omega,by omega,.refl,lD 0 (z0 + 1).toNat,((List.range (z0 + 1).toNat).map fun j=>oO (row.getD (4 + 2 * j) 0) (row.getD (5 + 2 * j) 0)).map D.int,fun _=>False,fun h2 x2=>pG,fun _ z=>z.elim,by simp [bC],by rw [bC];omega,by rw [bC];omega,?_,?_⟩
 · intro i w d' h2 m ei ed lm x2 l2
   rw [bC] at lm
   have li:i < (z0 + 1).toNat:=by have:=(List.getElem?_eq_some_iff.mp ei).1;rw [bC] at this;exact this
   rw [jR li] at ei
   cases ei
   rw [List.getElem?_map,List.getElem?_map,List.getElem?_range li] at ed
   cases ed
   refine ⟨_,rfl,?_⟩
   have ei:(0:Int) + Int.ofNat i=(i:Int):=by show 0 + (i:Int)=i;omega
   rw [ei]
   repeat walk_at "sy"
   refine ix _ x2 (by omega) (by omega) ?_
   repeat walk_at "sy"
   refine ix _ x2 (by omega) (by omega) ?_
   repeat walk_at "sy"
   obtain ⟨m,rfl⟩:∃ k,m=k + 1:=⟨m - 1,by omega⟩
   refine Ec fun h3 x3=>⟨x3,?_⟩
   rw [show (4 + 2 * (i:Int)).toNat=4 + 2 * i by omega,show (5 + 2 * (i:Int)).toNat=5 + 2 * i by omega]
   exact oG
 intro h1 x1 r1
 have ln:((List.range (z0 + 1).toNat).map fun j=>oO (row.getD (4 + 2 * j) 0) (row.getD (5 + 2 * j) 0)).length=(z0 + 1).toNat:=by simp
 generalize ((List.range (z0 + 1).toNat).map fun j=>oO (row.getD (4 + 2 * j) 0) (row.getD (5 + 2 * j) 0))=ns at r1 ln
 have ln0:0 < ns.length/\ns.length < 10:=by omega
 obtain ⟨ps,e1,l1,_,g1⟩:=mj.mp r1
 cases e1
 repeat walk_at "sy"
 refine iW g1 ?_
 rw [List.length_map]
 repeat walk_at "sy"
 refine ix 1 x1 (by decide) (by decide) ?_
 repeat walk_at "sy"
 refine iW g1 ?_
 rw [List.length_map]
 repeat walk_at "sy"
 have mm:(ns.length:Int) <= (ns.length:Int) + row.getD (1:Int).toNat 0 % (10 - (ns.length:Int))/\(ns.length:Int) + row.getD (1:Int).toNat 0 % (10 - (ns.length:Int)) < 10:=by
  have a:=Int.emod_nonneg (row.getD (1:Int).toNat 0) (show 10 - (ns.length:Int) ≠ 0 by omega)
  have b:=Int.emod_lt_of_pos (row.getD (1:Int).toNat 0) (show 0 < 10 - (ns.length:Int) by omega)
  omega
 generalize (ns.length:Int) + row.getD (1:Int).toNat 0 % (10 - (ns.length:Int))=many at mm
 obtain ⟨mn,m9⟩:=mm
 have m0:0 <= many:=by omega
 have m1:many < 20:=by omega
 generalize hh.n=ps at *
 clear r1
 refine HJ g1 ?_
 have x2:Ext h1 (h1.push (.lst (ns.map W.int))):=.push
 have g2:(h1.push (.lst (ns.map W.int))).get h1.n=some (.lst (ns.map W.int)):=aG
 have l2:h1.n < (h1.push (.lst (ns.map W.int))).n:=bT
 generalize h1.push (.lst (ns.map W.int))=h2 at *
 repeat walk_at "sy"
 refine j7 (d:=4) (n:=180) l2 g2 (by omega) (by omega) m0 m1 fun pf h3 x3 lo3 r3=>?_
 have x13:=x2.trans x3
 have g3:=x13.get l1 g1
 have l3:=Nat.lt_of_lt_of_le l1 x13.1
 have xh3:=x1.trans x13
 repeat walk_at "sy"
 refine yr g3 (by omega) ?_
 have x4:Ext h3 (h3.push (.lst ((bZ (dd ns [])).map W.int))):=.push
 have g4:(h3.push (.lst ((bZ (dd ns [])).map W.int))).get h3.n=some (.lst ((bZ (dd ns [])).map W.int)):=aG
 have l4:h3.n < (h3.push (.lst ((bZ (dd ns [])).map W.int))).n:=bT
 generalize h3.push (.lst ((bZ (dd ns [])).map W.int))=h4 at *
 have g34:=x4.get l3 g3
 have l34:=Nat.lt_of_lt_of_le l3 x4.1
 have xh4:=xh3.trans x4
 have rl:(bZ (dd ns [])).length <= 9:=by rw [(gJ _).length_eq];have:=oK ns [];simp at this;omega
 repeat walk_at "sy"
 refine comp_map (jQ (cF (w:=.ref ps) rfl ?_))
 refine ⟨ps,_,rfl,.inl ⟨g34,.refl,_,(ns.map (rkF ns (row.getD 2 0))).map D.int,fun _=>False,fun h2 x2=>g8 g34 l34 x2,fun _ z=>z.elim,by simp,by simp;omega,by simp;omega,?_,?_⟩⟩
 · intro i w d' h5 m ei ed lm x5 l5
   rw [List.getElem?_map] at ei
   obtain ⟨y,ey,rfl⟩:=Option.map_eq_some_iff.mp ei
   rw [List.getElem?_map,List.getElem?_map,ey] at ed
   cases ed
   have my:=nq (List.mem_of_getElem? ey)
   have li:=List.idxOf_lt_length_iff.mpr my
   refine ⟨_,rfl,?_⟩
   repeat walk_at "sy"
   refine DY (cF (w:=.ref h3.n) rfl ⟨h3.n,_,rfl,x5.get l4 g4,cF (w:=.int y) rfl ⟨_,y,rfl,x5.get l4 g4,by omega,my,?_⟩⟩)
   repeat walk_at "sy"
   refine ix 2 (xh4.trans x5) (by decide) (by decide) ?_
   repeat walk_at "sy"
   have Mz:0 <= row.getD (2:Int).toNat 0/\row.getD (2:Int).toNat 0 < 300:=h2'
   refine Bw (by omega) (by omega) ?_
   repeat walk_at "sy"
   exact ⟨.refl,oG⟩
 intro h5 x5 r5
 obtain ⟨p5,e5,l5,_,g5⟩:=mj.mp r5
 cases e5
 have pe:=Il (m:=many) (Ir (ns:=ns) h2'.1)
 have MF:(ns.map (rkF ns (row.getD 2 0))).length=ns.length:=List.length_map _
 generalize ns.map (rkF ns (row.getD 2 0))=os at *
 clear rl g4 l4
 repeat walk_at "sy"
 refine j7 (d:=4) (n:=180) l5 g5 (by omega) (by omega) m0 m1 fun pg h6 x6 lo6 r6=>?_
 rw [pe] at r6
 have x36:=x4.trans (x5.trans x6)
 have r36:=r3.ext x36
 repeat walk_at "sy"
 refine oF r6 r36 (jx _ _ _) (jx _ _ _) (mq _ _ _) (mq _ _ _) ?_
 rw [gK]
 repeat walk_at "sy"
 have g6:=x36.get l3 g3
 have l6:=Nat.lt_of_lt_of_le l3 x36.1
 have xh6:=xh3.trans x36
 clear r6 x6 x5 x4 lo6 pe g34 l34 xh4 r5 g5 l5
 obtain ⟨_,ws,ef,lf,_,gf,rf⟩:=Ac.mp r36
 cases ef
 have wsl:ws.length=ns.length:=by rw [rf.length];simp
 have n0:(0:Int) < ns.length:=by omega
 have bd:∀ a,(ovF ns many a).natAbs < 2 ^ 20:=fun a=>(wF (by omega) m0 m1 a).2
 refine comp_map (jQ (cF (w:=.ref ps) rfl ?_))
 refine ⟨ps,_,rfl,.inl ⟨g6,.refl,_,(ns.map fun x=> -x).map D.int,fun _=>False,fun h2 x2=>g8 g6 l6 x2,fun _ z=>z.elim,by simp,by simp;omega,by simp;omega,?_,?_⟩⟩
 · intro i w d' h5 m ei ed lm x5 l5
   rw [List.getElem?_map] at ei
   obtain ⟨y,ey,rfl⟩:=Option.map_eq_some_iff.mp ei
   rw [List.getElem?_map,List.getElem?_map,ey] at ed
   cases ed
   refine ⟨_,rfl,?_⟩
   repeat walk_at "sy"
   exact ⟨.refl,oG⟩
 intro h7 x7 r7
 obtain ⟨p7,e7,l7,_,g7⟩:=mj.mp r7
 cases e7
 have ll:(ns.map fun x=> -x).length=ns.length:=List.length_map _
 repeat walk_at "sy"
 refine j7 (d:=4) (n:=180) l7 g7 (by omega) (by omega) m0 m1 fun pt h8 x8 lo8 r8=>?_
 obtain ⟨_,ts,et,lt,_,gt,rt⟩:=Ac.mp r8
 cases et
 have tl:ts.length=ns.length:=by rw [rt.length];simp
 have x68:=x7.trans x8
 repeat walk_at "sy"
 refine comp_map (jQ (cF (w:=.ref pt) rfl ?_))
 refine ⟨pt,ts,rfl,.inl ⟨gt,.refl,ts,ptD ns many,fun _=>False,fun h2 x2=>g8 gt lt x2,fun _ z=>z.elim,by simp [tl],by omega,by omega,?_,?_⟩⟩
 · intro i w d' h9 m ei ed lm x9 l9
   obtain ⟨d1,e1,rd1⟩:=Rds.at rt ei
   unfold ptD at e1 ed
   rw [List.map_map,List.getElem?_map] at e1
   obtain ⟨a,ea,rfl⟩:=Option.map_eq_some_iff.mp e1
   rw [List.getElem?_map,ea] at ed
   simp only [Option.map_some,Option.some.injEq] at ed
   subst ed
   have rd1:Ev.Rd h8 _ (Dp (lwA (ovF (ns.map fun x=> -x) many (-a)) (ns.map fun x=> -x).length) (lwB (ovF (ns.map fun x=> -x) many (-a)) (ns.map fun x=> -x).length)) w:=rd1
   rw [ll] at rd1
   obtain ⟨c,rfl,lc,_,gc⟩:=lF.mp rd1
   refine ⟨_,rfl,?_⟩
   have te:=Ei (m:=many) (a:=a) ln0.1
   have b0:=fD (a:=ovF (ns.map fun x=> -x) many (-a)) n0
   have b1:=lO (a:=ovF (ns.map fun x=> -x) many (-a)) n0
   have b2:=jB (a:=ovF (ns.map fun x=> -x) many (-a)) n0
   have b3:=(wF (ns:=ns.map fun x=> -x) (by omega) m0 m1 (-a)).2
   generalize lwA (ovF (ns.map fun x=> -x) many (-a)) ns.length=cA at *
   generalize lwB (ovF (ns.map fun x=> -x) many (-a)) ns.length=cB at *
   repeat walk_at "sy"
   obtain ⟨m,rfl⟩:∃ k,m=k + 200:=⟨m - 200,by omega⟩
   refine Iu (d:=5) (n:=m) aG (Ext.push.get (Nat.lt_of_lt_of_le lc x9.1) (x9.get lc gc)) (by decide) (by decide) b0 (by omega) (by omega) (by omega) ?_
   rw [te.1,te.2]
   exact ⟨Ext.push.trans .push,lF.mpr ⟨_,rfl,bT,.inr (Nat.le_of_lt (Nat.lt_of_lt_of_le bT (Nat.le_refl _))),aG⟩⟩
 intro h9 x9 r9
 have x69:=x68.trans x9
 repeat walk_at "sy"
 refine oF r9 (r36.ext x69) (jx _ _ _) (jx _ _ _) (mq _ _ _) (mq _ _ _) ?_
 rw [gK]
 have g9:=x69.get l6 g6
 have l9:=Nat.lt_of_lt_of_le l6 x69.1
 have gf9:=x69.get lf gf
 have lf9:=Nat.lt_of_lt_of_le lf x69.1
 have rf9:=rf.ext x69
 have xh9:=xh6.trans x69
 clear rf gf lf r36 g6 l6 r9 x9 x8 x7 x68 gt lt rt r8 r7 g7 l7 lo8 xh6 x36
 repeat walk_at "sy"
 have rs:=rf9
 rw [J7] at rs
 refine J6 (d:=7) (n:=200) (m:=ns.length) lf9 gf9 rs ln0.1 ln0.2 (by rw [List.length_map];omega) (fun x mx=>by obtain ⟨a,_,rfl⟩:=List.mem_map.mp mx;exact bd a) fun hA xA=>?_
 have es:(ns.map (ovF ns many)).sum=(many - 1) * ns.length * ns.length:=by
  rw [yM,J2,Int.sub_mul,Int.sub_mul,Int.one_mul,Int.mul_comm ((ns.length:Int) * ns.length) many,Int.mul_assoc]
 have li:=pN (a:=(many - 1) * ns.length) n0
 rw [es,li.1,li.2]
 have xB:Ext hA (hA.push (.tup [.int ((many - 1) * ns.length),.int 1])):=.push
 have gB:(hA.push (.tup [.int ((many - 1) * ns.length),.int 1])).get hA.n=some (.tup [.int ((many - 1) * ns.length),.int 1]):=aG
 have lB:hA.n < (hA.push (.tup [.int ((many - 1) * ns.length),.int 1])).n:=bT
 generalize hA.push (.tup [.int ((many - 1) * ns.length),.int 1])=hB at *
 have x9B:=xA.trans xB
 repeat walk_at "sy"
 refine iW (x9B.get l9 g9) ?_
 rw [List.length_map]
 repeat walk_at "sy"
 refine oF (d:=Dp ((many - 1) * ns.length) 1) (d':=Dp ((many - 1) * ns.length) 1) (A:=fun _=>True) (B:=fun _=>True) (lF.mpr ⟨_,rfl,Nat.lt_of_lt_of_le lB Ext.push.1,trivial,Ext.push.get lB gB⟩) (lF.mpr ⟨_,rfl,bT,trivial,aG⟩) (by simp [dZ,gW]) (by simp [dZ,gW]) (by simp [okD,jP]) (by simp [okD,jP]) ?_
 rw [gK]
 have x9C:=x9B.trans (Ext.push (o:=.tup [.int ((many - 1) * ns.length),.int 1]))
 generalize hB.push (.tup [.int ((many - 1) * ns.length),.int 1])=hC at *
 clear xA xB gB lB x9B rs es li
 have gC:=x9C.get l9 g9
 have lC:=Nat.lt_of_lt_of_le l9 x9C.1
 have gfC:=x9C.get lf9 gf9
 have lfC:=Nat.lt_of_lt_of_le lf9 x9C.1
 have rfC:=rf9.ext x9C
 have xhC:=xh9.trans x9C
 clear g9 l9 gf9 lf9 rf9 xh9 x9C
 have at5:∀ {h':Hs} {Q':W->Hs->Prop} {i:Nat} (li:i < ns.length),Ext hC h'->(∀ c,c < h'.n->h'.get c=some (.tup [.int (lwA (ovF ns many ns[i]) ns.length),.int (lwB (ovF ns many ns[i]) ns.length)])->Q' (.ref c) h')->wP .ix [.ref pf,.int (i:Int)] h' Q':=fun {h' Q' i} li x q=>by
  obtain ⟨w,ew,rw'⟩:=rfC.get (i:=i) (d:=Dp (lwA (ovF ns many ns[i]) ns.length) (lwB (ovF ns many ns[i]) ns.length)) (by rw [List.getElem?_map,List.getElem?_eq_getElem li];rfl)
  obtain ⟨c,rfl,lc,_,gc⟩:=lF.mp rw'
  exact Aa (q:=i) (x.get lfC gfC) ew (q c (Nat.lt_of_lt_of_le lc x.1) (x.get lc gc))
 have at3:∀ {h':Hs} {Q':W->Hs->Prop} {i:Nat} (li:i < ns.length),Ext hC h'->Q' (.int ns[i]) h'->wP .ix [.ref ps,.int (i:Int)] h' Q':=fun {h' Q' i} li x q=>Aa (q:=i) (x.get lC gC) (by rw [List.getElem?_map,List.getElem?_eq_getElem li];rfl) q
 repeat walk_at "sy"
 refine sE (sI ?_)
 repeat walk_at "sy"
 refine iW gC ?_
 rw [List.length_map]
 refine ⟨ns.length,rfl,by omega,by omega,lD 0 ns.length,fun i τ h=>∃ u9 u10,τ= [none,none,some (.ref 0),some (.ref ps),some (.int many),some (.ref pf),some (.ref h3.n),some (.ref h4.n),some (.ref pt),u9,u10,none]/\h=hC,fun _ _ _ _=>pG,by rw [bC];omega,⟨_,_,rfl,rfl⟩,?_,?_⟩
 · rintro i w τ h k ei lk ⟨u9,u10,rfl,rfl⟩
   have li:i < ns.length:=by have:=(List.getElem?_eq_some_iff.mp ei).1;rw [bC] at this;exact this
   rw [jR li,show (0:Int) + Int.ofNat i=(i:Int) by show 0 + (i:Int)=(i:Int);omega] at ei
   cases ei
   rw [bC] at lk
   refine ⟨[none,none,some (.ref 0),some (.ref ps),some (.int many),some (.ref pf),some (.ref h3.n),some (.ref h4.n),some (.ref pt),some (.int (i:Int)),u10,none],rfl,?_⟩
   refine dO.mpr (sE (sI ?_))
   repeat walk_at "sy"
   refine iW gC ?_
   rw [List.length_map]
   refine ⟨ns.length,rfl,by omega,by omega,lD 0 ns.length,fun j τ h'=>∃ u10,τ= [none,none,some (.ref 0),some (.ref ps),some (.int many),some (.ref pf),some (.ref h3.n),some (.ref h4.n),some (.ref pt),some (.int (i:Int)),u10,none]/\h'=h,fun _ _ _ _=>pG,by rw [bC];omega,⟨_,rfl,rfl⟩,?_,?_⟩
   · rintro j w τ h' k' ej lk' ⟨u10,rfl,rfl⟩
     have lj:j < ns.length:=by have:=(List.getElem?_eq_some_iff.mp ej).1;rw [bC] at this;exact this
     rw [jR lj,show (0:Int) + Int.ofNat j=(j:Int) by show 0 + (j:Int)=(j:Int);omega] at ej
     cases ej
     rw [bC] at lk'
     obtain ⟨k',rfl⟩:∃ m,k'=m + 1:=⟨k' - 1,by omega⟩
     refine ⟨[none,none,some (.ref 0),some (.ref ps),some (.int many),some (.ref pf),some (.ref h3.n),some (.ref h4.n),some (.ref pt),some (.int (i:Int)),some (.int (j:Int)),none],rfl,?_⟩
     refine dO.mpr (su.mpr ?_)
     repeat walk_at "sy"
     refine at5 li .refl fun c1 lc1 gc1=>?_
     repeat walk_at "sy"
     refine at5 lj .refl fun c2 lc2 gc2=>?_
     repeat walk_at "sy"
     have iff:=(Iw (x:=ovF ns many ns[j]) (y:=ovF ns many ns[i]) n0).trans (Iz (by omega) (List.getElem_mem lj) (List.getElem_mem li))
     have q1:=fD (a:=ovF ns many ns[i]) n0
     have q2:=lO (a:=ovF ns many ns[i]) n0
     have q3:=fD (a:=ovF ns many ns[j]) n0
     have q4:=lO (a:=ovF ns many ns[j]) n0
     have q5:=Nat.lt_of_le_of_lt (jB (a:=ovF ns many ns[i]) n0) (bd _)
     have q6:=Nat.lt_of_le_of_lt (jB (a:=ovF ns many ns[j]) n0) (bd _)
     refine yJ (d:=7) (n:=k') gc1 gc2 q1 (by omega) q3 (by omega) q5 q6 ?_
     repeat walk_at "sy"
     refine at3 li .refl ?_
     repeat walk_at "sy"
     refine at3 lj .refl ?_
     repeat walk_at "sy"
     refine J5 ?_
     rw [decide_eq_decide.mpr iff,beq_self_eq_true]
     repeat walk_at "sy"
     exact ⟨_,rfl,rfl⟩
   · rintro τ h' ⟨u10,rfl,rfl⟩
     exact jw (sr.mpr (BK ⟨_,_,rfl,rfl⟩))
 rintro τ h ⟨u9,u10,rfl,rfl⟩
 refine jw (dO.mpr (Eh (Q:=fun fl h'=>fl= .nx [none,none,some (.ref 0),some (.ref ps),some (.int many),some (.ref pf),some (.ref h3.n),some (.ref h4.n),some (.ref pt),u9,u10,none]/\Ext h h') ?_ ?_))
 · refine su.mpr (rZ.mpr ?_)
   repeat walk_at "sy"
   refine iW gC ?_
   rw [List.length_map]
   repeat walk_at "sy"
   refine vV (fun em=>?_) fun _=>HR (sr.mpr ⟨rfl,.refl⟩)
   refine ou.mpr (fu.mpr (ou.mpr (fu.mpr (ou.mpr (fu.mpr (comp_map (jQ (cF (w:=.ref pf) rfl ?_))))))))
   refine ⟨pf,ws,rfl,.inl ⟨gfC,.refl,ws,(List.replicate ns.length true).map D.bl,fun _=>False,fun h2 x2=>g8 gfC lfC x2,fun _ z=>z.elim,by simp [wsl],by omega,by omega,?_,?_⟩⟩
   · intro i w d' h5 m ei ed lm x5 l5
     obtain ⟨d1,e1,rd1⟩:=Rds.at rfC ei
     unfold ptD at e1
     rw [List.getElem?_map] at e1
     obtain ⟨a,ea,rfl⟩:=Option.map_eq_some_iff.mp e1
     have li:i < ns.length:=(List.getElem?_eq_some_iff.mp ea).1
     rw [List.map_replicate,List.getElem?_replicate,if_pos li] at ed
     cases ed
     have eo:ovF ns many a=(WF ns a - 1) * ns.length:=by rw [jl,em,Int.sub_mul,Int.one_mul]
     have lo:=pN (a:=WF ns a - 1) n0
     have wi:=Im (List.mem_of_getElem? ea)
     rw [eo,lo.1,lo.2] at rd1
     obtain ⟨c,rfl,lc,_,gc⟩:=lF.mp rd1
     refine ⟨[some (.ref c),some (.int many)],rfl,rZ.mpr ?_⟩
     repeat walk_at "sy"
     refine eU (q:=1) (x5.get lc gc) rfl ?_
     repeat walk_at "sy"
     refine HS (decide_eq_true rfl) (yI (xV.mpr ?_))
     repeat walk_at "sy"
     refine eU (q:=0) (x5.get lc gc) rfl ?_
     repeat walk_at "sy"
     exact ⟨0,WF ns a - 1,2 * many - 2,rfl,rfl,rfl,rfl,⟨by omega,by omega⟩,.refl,by simp only [Ev.Rd]⟩
   · intro h5 x5 r5
     obtain ⟨p5,e5,l5,_,g5⟩:=HY.mp r5
     cases e5
     repeat walk_at "sy"
     refine JP g5 ?_
     rw [show (List.replicate ns.length true).all id=true by simp]
     repeat walk_at "sy"
     exact ⟨rfl,x5⟩
 rintro fl hE ⟨rfl,xE⟩
 have gE:=xE.get lC gC
 have lE:=Nat.lt_of_lt_of_le lC xE.1
 have gfE:=xE.get lfC gfC
 have lfE:=Nat.lt_of_lt_of_le lfC xE.1
 have rfE:=rfC.ext xE
 have xhE:=xhC.trans xE
 clear at5 at3
 repeat walk_at "sy"
 refine ix 3 xhE (by decide) (by decide) ?_
 repeat walk_at "sy"
 refine iW gE ?_
 rw [List.length_map]
 repeat walk_at "sy"
 have z0:=Int.emod_nonneg (row.getD (3:Int).toNat 0) (show (ns.length:Int) ≠ 0 by omega)
 have z1:=Int.emod_lt_of_pos (row.getD (3:Int).toNat 0) n0
 generalize row.getD (3:Int).toNat 0 % (ns.length:Int)=cz at z0 z1
 obtain ⟨c,rfl⟩:=Int.eq_ofNat_of_zero_le z0
 refine sJ (cF (w:=.ref ps) rfl (cF (w:=.int (c:Int)) rfl ⟨ps,_,c,rfl,rfl,by rw [List.length_map];omega,gE,?_⟩))
 rw [<- List.map_drop]
 have y1:Ext hE (hE.push (.lst ((ns.drop c).map W.int))):=.push
 have f1:(hE.push (.lst ((ns.drop c).map W.int))).get hE.n=some (.lst ((ns.drop c).map W.int)):=aG
 have n1:hE.n < (hE.push (.lst ((ns.drop c).map W.int))).n:=bT
 generalize hE.push (.lst ((ns.drop c).map W.int))=k1 at *
 refine fu.mpr (sO (cF (w:=.ref ps) rfl (cF (w:=.int (c:Int)) rfl ⟨ps,_,c,rfl,rfl,by rw [List.length_map];omega,y1.get lE gE,?_⟩)))
 rw [<- List.map_take]
 have y2:Ext k1 (k1.push (.lst ((ns.take c).map W.int))):=.push
 have f2:(k1.push (.lst ((ns.take c).map W.int))).get k1.n=some (.lst ((ns.take c).map W.int)):=aG
 generalize k1.push (.lst ((ns.take c).map W.int))=k2 at *
 refine oh.mpr (BJ (y2.get n1 f1) f2 (by simp;omega) ?_)
 rw [<- List.map_append]
 have rln:(ns.drop c ++ ns.take c).length=ns.length:=by rw [List.length_append,List.length_drop,List.length_take];omega
 have y3:Ext k2 (k2.push (.lst ((ns.drop c ++ ns.take c).map W.int))):=.push
 have f3:(k2.push (.lst ((ns.drop c ++ ns.take c).map W.int))).get k2.n=some (.lst ((ns.drop c ++ ns.take c).map W.int)):=aG
 have n3:k2.n < (k2.push (.lst ((ns.drop c ++ ns.take c).map W.int))).n:=bT
 generalize k2.push (.lst ((ns.drop c ++ ns.take c).map W.int))=k3 at *
 repeat walk_at "sy"
 refine j7 (d:=4) (n:=180) n3 f3 (by omega) (by omega) m0 m1 fun pz k4 y4 _ r4=>?_
 have yE:=y1.trans (y2.trans (y3.trans y4))
 have gf4:=yE.get lfE gfE
 have lf4:=Nat.lt_of_lt_of_le lfE yE.1
 refine fu.mpr (ou.mpr (fu.mpr (sJ (cF (w:=.ref pf) rfl (cF (w:=.int (c:Int)) rfl ⟨pf,ws,c,rfl,rfl,by omega,gf4,?_⟩)))))
 have y5:Ext k4 (k4.push (.lst (ws.drop c))):=.push
 have f5:(k4.push (.lst (ws.drop c))).get k4.n=some (.lst (ws.drop c)):=aG
 have n5:k4.n < (k4.push (.lst (ws.drop c))).n:=bT
 generalize k4.push (.lst (ws.drop c))=k5 at *
 refine fu.mpr (sO (cF (w:=.ref pf) rfl (cF (w:=.int (c:Int)) rfl ⟨pf,ws,c,rfl,rfl,by omega,y5.get lf4 gf4,?_⟩)))
 have y6:Ext k5 (k5.push (.lst (ws.take c))):=.push
 have f6:(k5.push (.lst (ws.take c))).get k5.n=some (.lst (ws.take c)):=aG
 generalize k5.push (.lst (ws.take c))=k6 at *
 refine oh.mpr (BJ (y6.get n5 f5) f6 (by simp;omega) (oh.mpr ?_))
 have y7:Ext k6 (k6.push (.lst (ws.drop c ++ ws.take c))):=.push
 have rT:Rds (k6.push (.lst (ws.drop c ++ ws.take c))) (fun _=>True) (ptD ns many) ws:=(rfE.ext (yE.trans (y5.trans (y6.trans y7)))).imp fun _ _ _=>trivial
 have dt:=yN c rT
 have rr:=Rds.append dt.1 dt.2
 rw [<- Io] at rr
 refine oF (r4.ext (y5.trans (y6.trans y7))) (Ac.mpr ⟨_,_,rfl,bT,trivial,aG,rr⟩) (jx _ _ _) (jx _ _ _) (mq _ _ _) (mq _ _ _) ?_
 rw [gK]
 repeat walk_at "sy"
 exact ⟨_,.inl rfl,rfl,rfl⟩
end My
namespace My
open PySem L2 PyProof.Rows
open Ev
abbrev NL:List Str:=["_law_script","_law_k","_law_row","_law_scores","_law_many","_law_found","_law_rank","_law_other","_law_turned","_law_i","_law_j","_law_cut"]
abbrev XL (P:Program) (w:World) (K:PySem.W.Frag) (mg:Str->Option Value) (base:Heap) (a:Adr) (cdv:Value) (A:Around) (outer:List Env) (s:Shared) (H:Hp) (E:XK):Cx:=jd (CXE P w) P w K mg base NL "law" (aa cg) a.j0 cdv A outer s H E
def bodyOf:Stmt->List Stmt
 | .For _ _ b _ _=>b
 | _=>[]
abbrev gk (j:Nat):Stmt:=(bodyOf ((bQ cg).getD 0 (.Pass ⟨0,0,0,0⟩))).getD j (.Pass ⟨0,0,0,0⟩)
section
variable {P:Program} {w:World} {K:PySem.W.Frag} {mg:Str->Option Value} {base:Heap} {a:Adr}
structure LC (P:Program) (w:World) (K:PySem.W.Frag) (mg:Str->Option Value) (base:Heap) (a:Adr) (X:Cx) (E:XK):Prop where
 T:Txt w K mg a
 A2:All P w K mg base a 8
 hr:bR 95 X.A
 hp:Passes (CXE P w) X E
theorem Le {σ0:L2.St} {cdv:Value} {A:Around} {outer:List Env} {s:Shared} {H:Hp} {E:XK} (C:LC P w K mg base a (XL P w K mg base a cdv A outer s H E) E):QS (XL P w K mg base a cdv A outer s H E) (gk 1) (tS Pg (cn a) E 8 σ0 (.asg (.nm 3) (.comp 1 [2] (.kY [(.pr .add [(.pr .ix [(.var 2),(.cst (.int 0))]),(.cst (.int 1))])]) (.nm 0) none none (.call 9 [(.pr .ix [(.var 1),(.pr .add [(.cst (.int 4)),(.pr .mul [(.cst (.int 2)),(.var 0)])])]),(.pr .ix [(.var 1),(.pr .add [(.cst (.int 5)),(.pr .mul [(.cst (.int 2)),(.var 0)])])])])))):=by
 have T:=C.T
 have A2:=C.A2
 have hr:=C.hr
 have hp:=C.hp
 exact ⟨(rP (i:=3) cU.nd rfl (Or.inl rfl) (iy (N':=["_law_j","_law_row"]) (nt:=1) (idx:=[2]) (N:=["_law_script","_law_k","_law_row","_law_scores","_law_many","_law_found","_law_rank","_law_other","_law_turned","_law_i","_law_j","_law_cut"]) (osc:=aa cg) rfl rfl (by decide +kernel)) rfl pB (iM rfl T.g_ (aM (au gU (L2.OpR.or b_ d9) (bh (dv 2) aj) aj) ao)) (fun C0 s0 H0 fp0=>(dM 0 (show List.Nodup (["_law_j","_law_row"]:List Str) by decide +kernel))) (fun C0 s0 H0 fp0=>fW) (fun C0 s0 H0 fp0=>(jt (A2.tX) (hr.mono (by omega)) rfl T.bN.mg T.bN.fn.kp T.bN.bd jM (fJ (bh (dv 1) (au gU (L2.OpR.or b_ d9) aj (au cD (L2.OpR.or aH bI) aj (dv 0)))) (fJ (bh (dv 1) (au gU (L2.OpR.or b_ d9) aj (au cD (L2.OpR.or aH bI) aj (dv 0)))) ao)))) (by decide))⟩
theorem Lf {σ0:L2.St} {cdv:Value} {A:Around} {outer:List Env} {s:Shared} {H:Hp} {E:XK} (C:LC P w K mg base a (XL P w K mg base a cdv A outer s H E) E):QS (XL P w K mg base a cdv A outer s H E) (gk 2) (tS Pg (cn a) E 8 σ0 (.asg (.nm 4) (.pr .add [(.pr .len [(.var 3)]),(.pr .mod [(.pr .ix [(.var 2),(.cst (.int 1))]),(.pr .sub [(.cst (.int 10)),(.pr .len [(.var 3)])])])]))):=by
 have T:=C.T
 have A2:=C.A2
 have hr:=C.hr
 have hp:=C.hp
 exact ⟨(iV 4 cU.nd (au gU (L2.OpR.or b_ d9) (bz (iR (K:=K)) aK rfl T.dh boot_len (aq (dv 3) ao)) (au iQ bV (bh (dv 2) aj) (au gm d8 aj (bz (iR (K:=K)) aK rfl T.dh boot_len (aq (dv 3) ao))))))⟩
theorem Lg {σ0:L2.St} {cdv:Value} {A:Around} {outer:List Env} {s:Shared} {H:Hp} {E:XK} (C:LC P w K mg base a (XL P w K mg base a cdv A outer s H E) E):QS (XL P w K mg base a cdv A outer s H E) (gk 3) (tS Pg (cn a) E 8 σ0 (.asg (.nm 5) (.call 7 [(.pr .list [(.var 3)]),(.var 4)]))):=by
 have T:=C.T
 have A2:=C.A2
 have hr:=C.hr
 have hp:=C.hp
 exact ⟨(iV 5 cU.nd (gw A2.j6 T.cR hr hp (gZ (xO (GR (K:=K)) qZ rfl T.tL boot_list (aq (dv 3) ao)) (aq (dv 4) ao))))⟩
theorem Lh {σ0:L2.St} {cdv:Value} {A:Around} {outer:List Env} {s:Shared} {H:Hp} {E:XK} (C:LC P w K mg base a (XL P w K mg base a cdv A outer s H E) E):QS (XL P w K mg base a cdv A outer s H E) (gk 4) (tS Pg (cn a) E 8 σ0 (.asg (.nm 6) (.pr .jy [(.var 3)]))):=by
 have T:=C.T
 have A2:=C.A2
 have hr:=C.hr
 have hp:=C.hp
 exact ⟨(iV 6 cU.nd (v8 hr.hd rfl T.m7 rfl T.wj (dv 3)))⟩
theorem Li {σ0:L2.St} {cdv:Value} {A:Around} {outer:List Env} {s:Shared} {H:Hp} {E:XK} (C:LC P w K mg base a (XL P w K mg base a cdv A outer s H E) E):QS (XL P w K mg base a cdv A outer s H E) (gk 5) (tS Pg (cn a) E 8 σ0 (.asg (.nm 7) (.comp 1 [2,6] (.seq (.var 3)) (.nm 0) none none (.pr .sub [(.pr .mul [(.lm .index (.var 2) [(.var 0)]),(.pr .add [(.pr .ix [(.var 1),(.cst (.int 2))]),(.cst (.int 1))])]),(.cst (.int 9999))])))):=by
 have T:=C.T
 have A2:=C.A2
 have hr:=C.hr
 have hp:=C.hp
 exact ⟨(rP (i:=7) cU.nd rfl (Or.inl rfl) (iy (N':=["_law_one","_law_row","_law_rank"]) (nt:=1) (idx:=[2,6]) (N:=["_law_script","_law_k","_law_row","_law_scores","_law_many","_law_found","_law_rank","_law_other","_law_turned","_law_i","_law_j","_law_cut"]) (osc:=aa cg) rfl rfl (by decide +kernel)) rfl iB (fX rfl (dv 3)) (fun C0 s0 H0 fp0=>(dM 0 (show List.Nodup (["_law_one","_law_row","_law_rank"]:List Str) by decide +kernel))) (fun C0 s0 H0 fp0=>fW) (fun C0 s0 H0 fp0=>(au gm d8 (au cD (L2.OpR.or aH bI) (Jv DX PySem.F.slot_list_index PySem.F.type_list_index Aq (dv 2) (aq (dv 0) ao)) (au gU (L2.OpR.or b_ d9) (bh (dv 1) aj) aj)) aj)) (by decide))⟩
theorem Lj {σ0:L2.St} {cdv:Value} {A:Around} {outer:List Env} {s:Shared} {H:Hp} {E:XK} (C:LC P w K mg base a (XL P w K mg base a cdv A outer s H E) E):QS (XL P w K mg base a cdv A outer s H E) (gk 6) (tS Pg (cn a) E 8 σ0 (.ife (.pr .ne [(.call 7 [(.var 7),(.var 4)]),(.var 5)]) [(.ret (.cst (.bl false)))] [])):=by
 have T:=C.T
 have A2:=C.A2
 have hr:=C.hr
 have hp:=C.hp
 exact ⟨(iT (dz pA (jn hr.units) (gw A2.j6 T.cR hr hp (aq (dv 7) (aq (dv 4) ao))) (dv 5) (bu _)) (ak (bM lY)
  az) az)⟩
theorem Lk {σ0:L2.St} {cdv:Value} {A:Around} {outer:List Env} {s:Shared} {H:Hp} {E:XK} (C:LC P w K mg base a (XL P w K mg base a cdv A outer s H E) E):QS (XL P w K mg base a cdv A outer s H E) (gk 7) (tS Pg (cn a) E 8 σ0 (.asg (.nm 8) (.call 7 [(.comp 1 [] (.seq (.var 3)) (.nm 0) none none (.pr .neg [(.var 0)])),(.var 4)]))):=by
 have T:=C.T
 have A2:=C.A2
 have hr:=C.hr
 have hp:=C.hp
 exact ⟨(iV 8 cU.nd (gw A2.j6 T.cR hr hp (cV (iC (iy (N':=["_law_one"]) (nt:=1) (idx:=[]) (N:=["_law_script","_law_k","_law_row","_law_scores","_law_many","_law_found","_law_rank","_law_other","_law_turned","_law_i","_law_j","_law_cut"]) (osc:=aa cg) rfl rfl (by decide +kernel)) rfl iB (fX rfl (dv 3)) (fun C0 s0 H0 fp0=>(dM 0 (show List.Nodup (["_law_one"]:List Str) by decide +kernel))) (fun C0 s0 H0 fp0=>fW) (fun C0 s0 H0 fp0=>(qL qK nD (dv 0))) (by decide)) (aq (dv 4) ao))))⟩
theorem Ln {σ0:L2.St} {cdv:Value} {A:Around} {outer:List Env} {s:Shared} {H:Hp} {E:XK} (C:LC P w K mg base a (XL P w K mg base a cdv A outer s H E) E):QS (XL P w K mg base a cdv A outer s H E) (gk 8) (tS Pg (cn a) E 8 σ0 (.ife (.pr .ne [(.comp 1 [4] (.seq (.var 8)) (.nm 0) none none (.call 2 [(.pr .tup [(.pr .sub [(.pr .mul [(.cst (.int 2)),(.var 1)]),(.cst (.int 2))]),(.cst (.int 1))]),(.var 0)])),(.var 5)]) [(.ret (.cst (.bl false)))] [])):=by
 have T:=C.T
 have A2:=C.A2
 have hr:=C.hr
 have hp:=C.hp
 exact ⟨(iT (dz pA (jn hr.units) (iC (iy (N':=["_law_one","_law_many"]) (nt:=1) (idx:=[4]) (N:=["_law_script","_law_k","_law_row","_law_scores","_law_many","_law_found","_law_rank","_law_other","_law_turned","_law_i","_law_j","_law_cut"]) (osc:=aa cg) rfl rfl (by decide +kernel)) rfl iB (fX rfl (dv 8)) (fun C0 s0 H0 fp0=>(dM 0 (show List.Nodup (["_law_one","_law_many"]:List Str) by decide +kernel))) (fun C0 s0 H0 fp0=>fW) (fun C0 s0 H0 fp0=>(jt (A2.Ig) (hr.mono (by omega)) rfl T.gM.mg T.gM.fn.kp T.gM.bd jM (z7 (lq (aM (au gm d8 (au cD (L2.OpR.or aH bI) aj (dv 1)) aj) (cu aj ao))) (aq (dv 0) ao)))) (by decide)) (dv 5) (bu _)) (ak (bM lY)
  az) az)⟩
theorem Lp {σ0:L2.St} {cdv:Value} {A:Around} {outer:List Env} {s:Shared} {H:Hp} {E:XK} (C:LC P w K mg base a (XL P w K mg base a cdv A outer s H E) E):QS (XL P w K mg base a cdv A outer s H E) (gk 9) (tS Pg (cn a) E 8 σ0 (.ife (.pr .ne [(.call 8 [(.var 5)]),(.pr .tup [(.pr .mul [(.pr .sub [(.var 4),(.cst (.int 1))]),(.pr .len [(.var 3)])]),(.cst (.int 1))])]) [(.ret (.cst (.bl false)))] [])):=by
 have T:=C.T
 have A2:=C.A2
 have hr:=C.hr
 have hp:=C.hp
 exact ⟨(iT (dz pA (jn hr.units) (gw A2.m8 T.bF hr hp (aq (dv 5) ao)) (lq (aM (au cD (L2.OpR.or aH bI) (au gm d8 (dv 4) aj) (bz (iR (K:=K)) aK rfl T.dh boot_len (aq (dv 3) ao))) (cu aj ao))) (bu _)) (ak (bM lY)
  az) az)⟩
theorem J8 {σ0:L2.St} {cdv:Value} {A:Around} {outer:List Env} {s:Shared} {H:Hp} {E:XK} (C:LC P w K mg base a (XL P w K mg base a cdv A outer s H E) E):QS (XL P w K mg base a cdv A outer s H E) (gk 10) (tS Pg (cn a) E 8 σ0 (.for_ (.kY [(.pr .len [(.var 3)])]) (.nm 9) [(.for_ (.kY [(.pr .len [(.var 3)])]) (.nm 10) [(.ife (.pr .ne [(.call 3 [(.pr .ix [(.var 5),(.var 9)]),(.pr .ix [(.var 5),(.var 10)])]),(.pr .gt [(.pr .ix [(.var 3),(.var 9)]),(.pr .ix [(.var 3),(.var 10)])])]) [(.ret (.cst (.bl false)))] [])])])):=by
 have T:=C.T
 have A2:=C.A2
 have hr:=C.hr
 have hp:=C.hp
 exact ⟨(rM PassesOwn.leaving rfl pB (iM rfl T.g_ (gZ (bz (iR (K:=K)) aK rfl T.dh boot_len (aq (dv 3) ao)) ao)) (dM 9 cU.nd)
  (ak (rM PassesOwn.leaving rfl pB (iM rfl T.g_ (gZ (bz (iR (K:=K)) aK rfl T.dh boot_len (aq (dv 3) ao)) ao)) (dM 10 cU.nd)
  (ak (iT (dz pA (jn hr.units) (gw A2.yw T.fC hr hp (fJ (bh (dv 5) (dv 9)) (fJ (bh (dv 5) (dv 10)) ao))) (rH zP qF (bh (dv 3) (dv 9)) (bh (dv 3) (dv 10)) (bu _)) (bu _)) (ak (bM lY)
  az) az)
  az))
  az))⟩
theorem J9 {σ0:L2.St} {cdv:Value} {A:Around} {outer:List Env} {s:Shared} {H:Hp} {E:XK} (C:LC P w K mg base a (XL P w K mg base a cdv A outer s H E) E):QS (XL P w K mg base a cdv A outer s H E) (gk 11) (tS Pg (cn a) E 8 σ0 (.ife (.and (.pr .eq [(.var 4),(.pr .len [(.var 3)])]) (.pr .rB [(.pr .truth [(.pr .all [(.comp 1 [4] (.seq (.var 5)) (.nm 0) none none (.and (.pr .eq [(.pr .ix [(.var 0),(.cst (.int 1))]),(.cst (.int 1))]) (.chain .le .le (.cst (.int 0)) (.pr .ix [(.var 0),(.cst (.int 0))]) (.pr .sub [(.pr .mul [(.cst (.int 2)),(.var 1)]),(.cst (.int 2))]))))])])])) [(.ret (.cst (.bl false)))] [])):=by
 have T:=C.T
 have A2:=C.A2
 have hr:=C.hr
 have hp:=C.hp
 exact ⟨(iT (PW.pt (G5 (dz zQ (q9 hr.units) (dv 4) (bz (iR (K:=K)) aK rfl T.dh boot_len (aq (dv 3) ao)) (bu _)) (pw_and1 (G3 (zR (bz Ju (xq rfl) rfl T.wg boot_all (cV (iC (iy (N':=["_law_one","_law_many"]) (nt:=1) (idx:=[4]) (N:=["_law_script","_law_k","_law_row","_law_scores","_law_many","_law_found","_law_rank","_law_other","_law_turned","_law_i","_law_j","_law_cut"]) (osc:=aa cg) rfl rfl (by decide +kernel)) rfl iB (fX rfl (dv 5)) (fun C0 s0 H0 fp0=>(dM 0 (show List.Nodup (["_law_one","_law_many"]:List Str) by decide +kernel))) (fun C0 s0 H0 fp0=>fW) (fun C0 s0 H0 fp0=>(G4 (rH zQ (q9 hr.units) (bh (dv 0) aj) aj (bu _)) (Ew (pK hr.qW aj (bh (dv 0) aj) (au gm d8 (au cD (L2.OpR.or aH bI) aj (dv 1)) aj))))) (by decide)) ao)) (fun _=>rfl)))))) (ak (bM lY)
  az) az)⟩
theorem J_ {σ0:L2.St} {cdv:Value} {A:Around} {outer:List Env} {s:Shared} {H:Hp} {E:XK} (C:LC P w K mg base a (XL P w K mg base a cdv A outer s H E) E):QS (XL P w K mg base a cdv A outer s H E) (gk 12) (tS Pg (cn a) E 8 σ0 (.asg (.nm 11) (.pr .mod [(.pr .ix [(.var 2),(.cst (.int 3))]),(.pr .len [(.var 3)])]))):=by
 have T:=C.T
 have A2:=C.A2
 have hr:=C.hr
 have hp:=C.hp
 exact ⟨(iV 11 cU.nd (au iQ bV (bh (dv 2) aj) (bz (iR (K:=K)) aK rfl T.dh boot_len (aq (dv 3) ao))))⟩
theorem Ka {σ0:L2.St} {cdv:Value} {A:Around} {outer:List Env} {s:Shared} {H:Hp} {E:XK} (C:LC P w K mg base a (XL P w K mg base a cdv A outer s H E) E):QS (XL P w K mg base a cdv A outer s H E) (gk 13) (tS Pg (cn a) E 8 σ0 (.ife (.pr .ne [(.call 7 [(.pr .add [(.slice (.var 3) (some (.var 11)) none),(.slice (.var 3) none (some (.var 11)))]),(.var 4)]),(.pr .add [(.slice (.var 5) (some (.var 11)) none),(.slice (.var 5) none (some (.var 11)))])]) [(.ret (.cst (.bl false)))] [])):=by
 have T:=C.T
 have A2:=C.A2
 have hr:=C.hr
 have hp:=C.hp
 exact ⟨(iT (dz pA (jn hr.units) (gw A2.j6 T.cR hr hp (aM (au gU (L2.OpR.or b_ d9) (jJ (dv 3) (l_ (dv 11)) lZ) (jJ (dv 3) lZ (l_ (dv 11)))) (aq (dv 4) ao))) (au gU (L2.OpR.or b_ d9) (jJ (dv 5) (l_ (dv 11)) lZ) (jJ (dv 5) lZ (l_ (dv 11)))) (bu _)) (ak (bM lY)
  az) az)⟩
def RD (a:Adr) (E:XK):TS:=(tSt Pg (cn a) E 8 tl0 qz)
theorem chain {E:XK} {σ:L2.St} {H:Hp} {r:Addr} {row:List Int} {D:Ends} (hn:σ.length=12) (hr:σ[2]? =some (some (.ref r))) (hH:H r=some (.lst (row.map V.int))) (t:Tb (cn a) H) (run:Q0 row) (kk:∀ σ' H',Kept (cn a) 12 r σ H σ' H'->D.nx σ' H'/\D.ct σ' H'):RD a E D σ H:=
 Hx (os:=[]) (kv:=[]) ⟨hn,rfl,hr,hH,[],Sim.none t,Hu hn fun j w hj=>by simp at hj,by simp,fun a u _ _ e=>⟨by simp,e⟩⟩ run kk
theorem IV (T:Txt w K mg a):b8 P w K mg base (CXE P w) 96 a.j0 a.BR ["_law_script"] (qM K):=by
 have ud:=tQ (P:=P) (w:=w) (base:=base) T
 have ue:=tU (P:=P) (w:=w) (base:=base) T
 refine okE (k:=95) T.JX.fn cU (fun vs H Q E h=>?_) (fun cdv A outer s H vs Q E hr h=>?_)
 · obtain ⟨_,_,rfl,_⟩:=h
   rfl
 obtain ⟨l,ns,rfl,hS,h63,q⟩:=h
 have C:LC P w K mg base a (XL P w K mg base a cdv A outer s H E) E:=⟨T,yD T 8,hr,rA ⟨rfl,rfl,rfl⟩ rfl (fun _ _ _ z=>z)⟩
 refine ⟨_,(bw (Hr PassesOwn.leaving rfl (iM rfl T.g_ (aC aD bH)) (oV (i:=1) cU.nd rfl (Or.inl rfl)) (z8 (gG (i:=2) cU.nd rfl (Or.inr rfl) (vA T.cX ud (hr.mono (by omega)) rfl (aC (vA T.cY ue (hr.mono (by omega)) rfl (aC (pv 0) (aC (pv 1) bH))) (aC (a_ d9 (nG (aC aD (aC aD (aC aD (aC aD bH))))) (a_ bI (nG (aC aD (aC aD bH))) aD)) bH)))) (show QSs (XL P w K mg base a cdv A outer s H E) ((bodyOf ((bQ cg).getD 0 (.Pass ⟨0,0,0,0⟩))).drop 1) (RD a E) from (Hq (Pg:=Pg) (cl:=cn a) (E:=E) (d:=8) (a:=tl0) fun σ0=>(bA (Le C) (bA (Lf C) (bA (Lg C) (bA (Lh C) (bA (Li C) (bA (Lj C) (bA (Lk C) (bA (Ln C) (bA (Lp C) (bA (J8 C) (bA (J9 C) (bA (J_ C) (bA (Ka C) (Dt Du)))))))))))))))))) (dG (ig Bb))),?_⟩
 refine ⟨6,rfl,by decide,by decide,wR (n:=6) (fun i σ H2=>σ.length=12/\σ[0]? =some (some (.ref l))/\Tb (cn a) H2/\SqL K H2 l (ns.map V.int)) ⟨rfl,rfl,Hv rfl,hS⟩ ?_ ?_⟩
 · rintro i σ H2 hi ⟨hl,h0,t2,s2⟩
   have hl1:(σ.set 1 (some (.int (0 + i)))).length=12:=by rw [List.length_set];exact hl
   have h01:(σ.set 1 (some (.int (0 + i))))[0]? =some (some (.ref l)):=by rw [List.getElem?_set_ne (by decide)];exact h0
   have hk1:(σ.set 1 (some (.int (0 + i))))[1]? =some (some (.int (0 + i))):=by rw [List.getElem?_set_self (by omega)]
   refine ⟨_,h01,_,hk1,l,ns,_,rfl,s2,h63,by omega,fun cz=>?_⟩
   refine ⟨(by show 4 <= sizeLine;decide),fun pl1 Ay=>⟨(by show 2 <= sizeLine;decide),fun pl2 wG=>⟨pl2,9,_,rfl,rfl,aR,by decide,by decide,(by show _ <= sizeLine;decide),fun pl3 wH=>⟨pl1,pl3,_,_,rfl,rfl,(aX wH _ _ _ (aX wG _ _ _ aR)),aR,(by show _ <= sizeLine;decide),fun pl4 Az=>?_⟩⟩⟩⟩
   refine ⟨cz,pl4,[9,9,300,9,20000,8,20000,8,20000,8,20000,8,20000,8,20000,8,20000,8,20000,8,20000,8],rfl,aR,by decide,?_,fun r ds H3 hr3 s3 hD Lq=>?_⟩
   · intro z hz
     have:z=9\/z=300\/z=20000\/z=8:=by simp at hz;omega
     exact ⟨by omega,xT (by omega) (by omega)⟩
   have t3:Tb (cn a) H3:=((Sim.none t2).same (((((aX Ay _).trans (aX wG _)).trans (aX wH _)).trans (aX Az _)).trans s3)).1.tb
   have sA:dW H2 H3:=((((aX Ay _).trans (aX wG _)).trans (aX wH _)).trans (aX Az _)).trans s3
   have nr:H2 r=none:=dW.free ((((aX Ay _).trans (aX wG _)).trans (aX wH _)).trans (aX Az _)) hr3
   have fin:∀ σ' H',Kept (cn a) 12 r ((σ.set 1 (some (.int (0 + i)))).set 2 (some (.ref r))) H3 σ' H'->σ'.length=12/\σ'[0]? =some (some (.ref l))/\Tb (cn a) H'/\SqL K H' l (ns.map V.int):=fun σ' H' ⟨k1,k2,k3,k4⟩=>by
    refine ⟨k1,k2.trans (by rw [List.getElem?_set_ne (by decide)];exact h01),k3,SqL.kept s2 fun u nu eu=>?_⟩
    exact k4 l u (fun z=>by rw [z,nr] at eu;cases eu) nu (sA _ _ eu)
   have hn3:((σ.set 1 (some (.int (0 + i)))).set 2 (some (.ref r))).length=12:=by rw [List.length_set];exact hl1
   have Lr:((σ.set 1 (some (.int (0 + i)))).set 2 (some (V.ref r)))[2]? =some (some (.ref r)):=List.getElem?_set_self (by omega)
   exact chain hn3 Lr Lq t3 (runs hD) fun σ' H' kp=>⟨fin σ' H' kp,fin σ' H' kp⟩
 · rintro σ H2 _
   exact q H2
end
end My
namespace My
open PySem L2 PyProof.Rows Ev PySem.W
theorem all_mk {l:OpenLaw} {w:World} {K:Frag} {h:Heap} {mg:Str->Option Value} {fa:Addr} {f9 gb jA fB mC cJ bU gh dF eG eH bD cL j0:Addr} (X:K.In h) (G:h.Ns mainGlobals mg) (hfa:mg "law" =some (.ref fa))
 {IW yO:Option Addr} {I9:Array (Option Value)} {I_ yP yQ yR yS t7:Value}
 (gj:∃ fd,DK K "common" m5 f9 fd)
 (fj:∃ fd,DK K "lowest" m6 gb fd)
 (gM:∃ fd,DK K "less" tu jA fd)
 (fC:∃ fd,DK K "greater" lK fB fd)
 (jc:∃ fd,DK K "won" v_ mC fd)
 (cM:∃ fd,DK K "wins_among" fK cJ fd)
 (aZ:∃ fd,DK K "points_among" fZ bU fd)
 (cR:∃ fd,DK K "points" jW gh fd)
 (cN:∃ fd,DK K "_law_mixed" iH dF fd)
 (cX:∃ fd,DK K "_law_draw" jh eG fd)
 (cY:∃ fd,DK K "_law_cell" ji eH fd)
 (bF:∃ fd,DK K "_law_sum_parts" e_ bD fd)
 (bN:∃ fd,DK K "_law_score" iI cL fd)
 (Ce:nsIn K mainGlobals "law" =some (some (.ref j0)))
 (Kc:K.lookup j0=some ⟨I_,IW,.func (fnOf "law" "law" (dH cg) (bQ cg) (aa cg) .none yP yQ yR yO t7 yS),I9⟩)
 (Ja:codeIn K t7 "law" =true)
 (Jb:keepIn K (.ref j0)=true)
 (mD:nsIn K mainGlobals "abs" =some none)
 (wg:nsIn K mainGlobals "all" =some none)
 (dh:nsIn K mainGlobals "len" =some none)
 (tL:nsIn K mainGlobals "list" =some none)
 (g_:nsIn K mainGlobals "range" =some none)
 (wj:nsIn K mainGlobals "set" =some none)
 (m7:nsIn K mainGlobals "sorted" =some none)
 (wu:nsIn K mainGlobals "sum" =some none):
 ∃ fd:FuncData,(∀ (s:Shared) (v:Value),BindsTo s fd ⟨[v],[]⟩ [("_law_script",v)])/\∀ base:Heap,K.In base->base.Ns mainGlobals mg->b8 l.prog w K mg base (CXE l.prog w) 96 fa fd ["_law_script"] (qM K):=by
 have e:=hfa.symm.trans (mg_of X G Ce)
 cases e
 obtain ⟨jX,gj⟩:=gj
 obtain ⟨jY,fj⟩:=fj
 obtain ⟨oM,gM⟩:=gM
 obtain ⟨jb,fC⟩:=fC
 obtain ⟨qO,jc⟩:=jc
 obtain ⟨fL,cM⟩:=cM
 obtain ⟨dR,aZ⟩:=aZ
 obtain ⟨jZ,cR⟩:=cR
 obtain ⟨iK,cN⟩:=cN
 obtain ⟨jj,cX⟩:=cX
 obtain ⟨jk,cY⟩:=cY
 obtain ⟨cQ,bF⟩:=bF
 obtain ⟨fM,bN⟩:=bN
 have Cg:=w5 (st:=cg) Kc Ja Jb
 have T:Txt w K mg ⟨f9,_,gb,_,jA,_,fB,_,mC,_,cJ,_,bU,_,gh,_,dF,_,eG,_,eH,_,bD,_,cL,_,fa,_⟩:=⟨gj.df X G,fj.df X G,gM.df X G,fC.df X G,jc.df X G,cM.df X G,aZ.df X G,cR.df X G,cN.df X G,cX.df X G,cY.df X G,bF.df X G,bN.df X G,⟨Cg,fbn Cg,mg_of X G Ce⟩,mg_none_of X G mD,mg_none_of X G wg,mg_none_of X G dh,mg_none_of X G tL,mg_none_of X G g_,mg_none_of X G wj,mg_none_of X G m7,mg_none_of X G wu⟩
 exact ⟨fnOf "law" "law" (dH cg) (bQ cg) (aa cg) .none yP yQ yR yO t7 yS,fun s v=>.of_eq rfl,fun base _ _=>IV T⟩
theorem walk {l:OpenLaw} {q:Program} {loose:List Str} {XP:(Str->Option Value)->Heap->Prop} {YP:World->Heap->Prop} {d:DefRec} {K:Params->Frag} (hn:l.most=some 63) (hdf:d.params.defaults= [])
 (hY:∀ (w:World) (h:Heap),YP w h->(K w.params).In h)
 (F:∀ (w:World) (mg:Str->Option Value) (fa:Addr) (h:Heap),(K w.params).In h->h.Ns mainGlobals mg->mg d.name=some (.ref fa)->
   ∃ fd:FuncData,(∀ (s:Shared) (u:Value),BindsTo s fd ⟨[u],[]⟩ [("_law_script",u)])/\∀ base:Heap,(K w.params).In base->base.Ns mainGlobals mg->b8 l.prog w (K w.params) mg base (CXE l.prog w) 96 fa fd ["_law_script"] (qM (K w.params))):
 WalkO q loose XP YP l.row.toRowW d [] (fun f vs=>PySem.call f vs):=
 L2.CK (n:=63) (k:=96) (x:="_law_script") (CX:=fun w=>CXE l.prog w) (sp:=fun w=>qM (K w.params)) hn (by decide) hdf ⟨rfl,by decide,by decide⟩ hY F (fun _ _ a ns hl _ hS=>⟨a,ns,rfl,hS,hl,fun _=>rfl⟩) fun _ _ _ _ _ z=>rz z
end My
namespace PySem.W.Fast
def tw1745544911099718161:=0
def tw17548193960580074929:=0
def tw15223169007040634280:=0
def tw5949647083057493299:=0
def tw15137214137034815539:=0
def tw2065906022514609450:=0
def tw14914138615832433866:=0
def tw10138780528264671402:=0
def tw12228693748463797461:=0
def tw13486076731500698764:=0
def tw15811660018638415468:=0
def tw3273608250934259948:=0
def tw1867378270498480812:=0
def tw15784260831336227895:=0
def tw8639171144006775799:=0
def tw4496092510839385111:=0
def tw15586598826136333399:=0
def tw4640667457066151566:=0
def tw14618354311707224046:=0
def tw2238829164081578606:=0
def tw5472571599152384782:=0
def tw3922982980711989934:=0
def tw8038192842488805262:=0
def tw3309534458366788793:=0
def tw18127345603099784697:=0
def tw2472636279665578137:=0
def tw371304516810861339:=0
def tw3178089033880271259:=0
def tw1310559181715186749:=0
def tw17100422215637497917:=0
def tw11690670987200272477:=0
def tw1640151040309281277:=0
def tw773747763646031997:=0
def tw14605005074830464148:=0
def tw16000681590122364820:=0
def tw7974036566467490134:=0
def tw26042284104688150:=0
def tw16245982484430114166:=0
def tw17634636892401279830:=0
def tw3244841923150917313:=0
def tw16716058682543809720:=0
def tw441096876884411320:=0
def tw14616983575484564408:=0
def tw8316225472776738467:=0
def tw9571653873957002778:=0
def tw13539832256427254618:=0
def tw581030070970884506:=0
def tw2902280388059517722:=0
def tw10759187947088794716:=0
def tw13684409679829112231:=0
def tw6855481867733312391:=0
def tw1210443266650859335:=0
def tw5578916754749916199:=0
def tw6678581067815698375:=0
def tw571817279658363902:=0
def tw4956240518708824862:=0
def tw9123246379746217097:=0
def tw10946590501349524169:=0
def tw7324142894816370569:=0
def tw1815293237864914505:=0
def tw10490722945121283273:=0
def tw14893105734765947657:=0
def tw10733231599386595657:=0
def tw2171289004147729481:=0
def tw11016805568752170976:=0
def tw1062551592275713451:=0
def tw1130638672030819970:=0
def tw5871136615462844322:=0
def tw14053237282537066306:=0
def tw3377382025759415298:=0
def tw1212748871277662285:=0
def tw8279981215778141389:=0
def tw3765154795849446404:=0
def tw3428731834274127236:=0
def tw5540348424739584527:=0
def tw2809996953479627119:=0
def tw6976727542636020271:=0
def tw16749572284855673999:=0
def tw16623006126147499727:=0
def tw11207700285546978639:=0
def tw10588000556132752326:=0
def tw14634393979570633254:=0
def tw3732342290623217030:=0
end PySem.W.Fast
open PySem PySem.W PyProof.Rows
set_option maxRecDepth 100000 in
set_option maxHeartbeats 0 in
theorem PySem.Challenge.cw_byestand_k28_whole_points_hang_on_order_holds : PySem.Challenge.rw_byestand_k28_whole_points_hang_on_order.Holds := by
 w_on;o_law;k_head;(case hw=>w_witness2)
 k_fill
 refine My.walk (l:=PySem.Challenge.rw_byestand_k28_whole_points_hang_on_order) rfl rfl (fun w h Y=>PySem.W.kIn_of Y) ?F
 case F=>
  intro w mg fa h KX G hmg
  refine' My.all_mk KX G hmg (Ev.dN ?_ ?_ ?_ ?_) (Ev.dN ?_ ?_ ?_ ?_) (Ev.dN ?_ ?_ ?_ ?_) (Ev.dN ?_ ?_ ?_ ?_) (Ev.dN ?_ ?_ ?_ ?_) (Ev.dN ?_ ?_ ?_ ?_) (Ev.dN ?_ ?_ ?_ ?_) (Ev.dN ?_ ?_ ?_ ?_) (Ev.dN ?_ ?_ ?_ ?_) (Ev.dN ?_ ?_ ?_ ?_) (Ev.dN ?_ ?_ ?_ ?_) (Ev.dN ?_ ?_ ?_ ?_) (Ev.dN ?_ ?_ ?_ ?_) ?_ ?_ ?_ ?_ ?_ ?_ ?_ ?_ ?_ ?_ ?_ ?_
  all_goals try first | k_is | rfl
