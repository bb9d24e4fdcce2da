import PyProof.Rows.All
import Wide.All
import OpenK.AllK
import Wide.FinOn
import Lean
import PyProof.EqAt
import PyProof.EqKinds
import PyProof.TupleCall
import PySem.Challenge.RW_byestand_k49_deeds_written
import KE.KNestM
import KE.KRevSl
set_option Elab.async false
set_option linter.all false
set_option maxRecDepth 100000
namespace L2
open PySem PySem.Spec PyProof.Rows
abbrev Key:=Sum Int Str
def vA:Key->Value->Bool
 | .inl k,v=>Value.isInt k v
 | .inr x,v=>Value.isStrOf x v
def C_ (w:World):Key->Int
 | .inl k=>hashInt k
 | .inr x=>hashStr w x
theorem bh:∀ {k:Key} {v:Value},vA k v=true->(∃ i t,k=Sum.inl i/\v=Value.int i t)\/(∃ x t,k=Sum.inr x/\v=Value.str x t)
 | .inl i,v,h=>by
   obtain ⟨t,e⟩:=Value.isInt_shape (k:=i) (v:=v) h
   exact .inl ⟨i,t,rfl,e⟩
 | .inr x,v,h=>by
   obtain ⟨t,e⟩:=Value.isStrOf_shape (x:=x) (v:=v) h
   exact .inr ⟨x,t,rfl,e⟩
theorem yr (a b:Int):decide ((Sum.inl a:Key)=Sum.inl b)=(a == b):=by
 by_cases e:a=b
 · subst e;simp
 · have h:¬ (Sum.inl a:Key)=Sum.inl b:=fun q=>e (Sum.inl.inj q)
   rw [decide_eq_false h]
   exact (beq_eq_false_iff_ne.mpr e).symm
theorem yt (a b:Str):decide ((Sum.inr a:Key)=Sum.inr b)=decide (a=b):=by
 by_cases e:a=b
 · subst e;simp
 · have h:¬ (Sum.inr a:Key)=Sum.inr b:=fun q=>e (Sum.inr.inj q)
   rw [decide_eq_false h,decide_eq_false e]
theorem yu (a:Int) (b:Str):decide ((Sum.inl a:Key)=Sum.inr b)=false:=decide_eq_false (fun q=>nomatch q)
theorem yw (a:Str) (b:Int):decide ((Sum.inr a:Key)=Sum.inl b)=false:=decide_eq_false (fun q=>nomatch q)
def jW (prog:Program) (w:World):PySem.KeyKind prog w Key where
 is:=vA
 hash:=C_ w
 inj:=fun v a b ha hb=>by
  rcases bh ha with ⟨i,t,rfl,rfl⟩ | ⟨x,t,rfl,rfl⟩
  · rcases bh hb with ⟨j,u,rfl,e⟩ | ⟨y,u,rfl,e⟩
    · injection e with e1 _;rw [e1]
    · exact nomatch e
  · rcases bh hb with ⟨j,u,rfl,e⟩ | ⟨y,u,rfl,e⟩
    · exact nomatch e
    · injection e with e1 _;rw [e1]
 byValue:=fun k v h=>by
  rcases bh h with ⟨i,t,rfl,rfl⟩ | ⟨x,t,rfl,rfl⟩ <;> rfl
 pyHash:=fun hv h=>by
  rcases bh hv with ⟨i,t,rfl,rfl⟩ | ⟨x,t,rfl,rfl⟩
  · exact wpAny_pyHash_int h
  · exact wpAny_pyHash_str h
 eqBool:=fun hu hv h=>by
  rcases bh hu with ⟨i,t,rfl,rfl⟩ | ⟨x,t,rfl,rfl⟩
  · rcases bh hv with ⟨j,u,rfl,rfl⟩ | ⟨y,u,rfl,rfl⟩
    · rw [yr] at h;exact wpAny_eqBool_int h
    · rw [yu] at h;exact SeqAt.EqAt.int_str i t y u _ _ _ _ h
  · rcases bh hv with ⟨j,u,rfl,rfl⟩ | ⟨y,u,rfl,rfl⟩
    · rw [yw] at h;exact SeqAt.EqAt.str_int x t j u _ _ _ _ h
    · rw [yt] at h;exact wpAny_eqBool_str h
 «strs»:=fun k x t v h=>by
  rcases bh h with ⟨i,u,rfl,e⟩ | ⟨y,u,rfl,e⟩
  · exact nomatch e
  · injection e with e1 _
    subst e1
    cases v <;> rfl
end L2
namespace L2
open PySem PySem.Spec PyProof.Rows
inductive V where
 | non | bl (b:Bool) | int (i:Int) | str (x:Str) | byt (b:Array UInt8) | flt (b:UInt64) | ref (a:Addr) | ty (n:String)
 deriving DecidableEq
def RelV:V->Value->Prop
 | .non,u=>u=Value.none
 | .bl b,u=>u=Value.bool b
 | .int i,u=>∃ t,u=Value.int i t
 | .str x,u=>∃ t,u=Value.str x t
 | .byt b,u=>∃ t,u=Value.bytes b t
 | .flt b,u=>∃ t,u=Value.float b t
 | .ref a,u=>u=Value.ref a
 | .ty n,u=>u=Value.type n
abbrev Vals:List V->List Value->Prop:=Paired RelV
theorem Vals.length {xs:List V} {us:List Value} (r:Vals xs us):xs.length=us.length:=Paired.length r
theorem Vals.get:∀ {xs:List V} {us:List Value} {i:Nat} {x:V},Vals xs us->xs[i]? =some x->∃ u,us[i]? =some u/\RelV x u
 | _,_,_,_,.nil,e=>by simp at e
 | _,_,0,_,.cons r _,e=>by simp at e;subst e;exact ⟨_,rfl,r⟩
 | _,_,i + 1,x,.cons _ t,e=>by
   obtain ⟨u,h1,h2⟩:=Vals.get (i:=i) (x:=x) t (by simpa using e)
   exact ⟨u,by simpa using h1,h2⟩
theorem Vals.append:∀ {xs ys:List V} {us ws:List Value},Vals xs us->Vals ys ws->Vals (xs ++ ys) (us ++ ws)
 | _,_,_,_,.nil,s=>s
 | _,_,_,_,.cons r t,s=>.cons r (Vals.append t s)
theorem Vals.take:∀ {xs:List V} {us:List Value} (n:Nat),Vals xs us->Vals (xs.take n) (us.take n)
 | _,_,0,_=>.nil
 | _,_,_ + 1,.nil=>.nil
 | _,_,n + 1,.cons r t=>.cons r (Vals.take n t)
theorem Vals.drop:∀ {xs:List V} {us:List Value} (n:Nat),Vals xs us->Vals (xs.drop n) (us.drop n)
 | _,_,0,r=>r
 | _,_,_ + 1,.nil=>.nil
 | _,_,n + 1,.cons _ t=>Vals.drop n t
def uc:Option V->Option Value->Prop
 | some v,some u=>RelV v u
 | none,none=>True
 | _,_=>False
def KV {κ:Type}:List (κ × V)->List (κ × Value)->Prop:=Paired fun (p:κ × V) (q:κ × Value)=>p.1=q.1/\RelV p.2 q.2
def kV:Key->V
 | .inl i=>.int i
 | .inr x=>.str x
inductive HO where
 | lst (xs:List V)
 | tup (xs:List V)
 | dK (kvs:List (Key × V)) | dT (kvs:List (List Key × V))
 | set (S:Int->Bool) (n:Nat)
 | ins (C dx:Addr) (fs:List (Str × V))
 | own (x:Addr)
 | xd (fs:List (Str × V))
 | met (f x:Addr)
 | rng (lo hi:Int)
 | frz (o:Obj) (u:HO)
 | tbl (ps:Array Value)
 | ext (φ:Heap->Prop)
abbrev Hp:=Addr->Option HO
def upd (H:Hp) (a:Addr) (o:HO):Hp:=fun b=>if b=a then some o else H b
theorem au {H:Hp} {a:Addr} {o:HO}:upd H a o a=some o:=by unfold upd;rw [if_pos rfl]
theorem aG {H:Hp} {a b:Addr} {o:HO} (h:b ≠ a):upd H a o b=H b:=by unfold upd;rw [if_neg h]
theorem aR {H:Hp} {a b:Addr} {o:HO} (h:H a=some o) (h':H b=none):a ≠ b:=by
 intro e;subst e;rw [h] at h';cases h'
section
variable (P:Program) (w:World)
def aP (H:Hp) (h:Heap) (a:Addr):HO->Prop
 | .lst xs=>xs.length <= sizeLine/\∃ (its:List Value) (n:Nat),Vals xs its/\h.get? a=some { cls:=.type "list",data:=.seq its.toArray n }
 | .tup xs=>xs.length <= sizeLine/\∃ its:List Value,Vals xs its/\IsTup h a its.toArray
 | .dK kvs=>kvs.length <= sizeLine/\(a == sysModules)=false/\∃ vs,KV kvs vs/\h.DictOf (jW P w) a vs
 | .dT kvs=>kvs.length <= sizeLine/\(a == sysModules)=false/\∃ xs:List (List Key × Addr × Value),
    Paired (fun (p:List Key × V) (q:List Key × Addr × Value)=>p.1=q.1/\H q.2.1=some (.tup (p.1.map kV))/\RelV p.2 q.2.2) kvs xs/\
    ∃ o es ep,h.get? a=some o/\o.ExactDict/\o.data= .dict es ep/\es.toList=xs.map (entryOfKey (tupleKind (jW P w)))/\(xs.map (·.1)).Nodup
 | .set S n=>h.SetOf (intKind P w) a S n
 | .ins C dx fs=>H dx=some (.own a)/\fs.length <= 1000/\dx ≠ a/\h.get? a=some (PySem.W.instObj C dx)/\
    ∃ mA,h.Ns1 dx mA/\(∀ f,uc (fs.lookup f) (mA f))/\PySem.Within mA (fs.map (·.1))
 | .own _=>∃ o,h.get? a=some o
 | .xd fs=>∃ mA,h.Ns1 a mA/\∀ f,uc (fs.lookup f) (mA f)
 | .rng lo hi=>∃ t u v,h.get? a=some { cls:=.type "range",data:=.fields #[.int lo t,.int hi u,.int 1 v] }
 | .frz o u=>h.get? a=some o/\aP H h a u
 | .tbl ps=>h.get? a=some { cls:=.none,data:=.fields ps }
 | .met f x=>h.get? a=some (PySem.W.methodObj (.ref f) (.ref x))
 | .ext φ=>φ h/\(∃ o,h.get? a=some o)/\∀ h1 h2:Heap,φ h1->(∀ o,h1.get? a=some o->h2.get? a=some o)->φ h2
def HOk (H:Hp) (h:Heap):Prop:=∀ a o,H a=some o->aP P w H h a o
end
section
variable {P:Program} {w:World} {H H':Hp} {h h':Heap} {a:Addr} {o:HO}
theorem aP.lt (x:aP P w H h a o):a < h.objs.size:=by
 cases o with
 | lst xs=>obtain ⟨_,_,_,_,e⟩:=x;exact Heap.lt_size e
 | tup xs=>obtain ⟨_,_,_,p⟩:=x;exact p.lt
 | dK kvs=>obtain ⟨_,_,_,_,o,_,_,e,_⟩:=x;exact Heap.lt_size e
 | dT kvs=>obtain ⟨_,_,_,_,o,_,_,e,_⟩:=x;exact Heap.lt_size e
 | set S n=>obtain ⟨o,_,_,_,e,_⟩:=x;exact Heap.lt_size e
 | ins C dx fs=>obtain ⟨_,_,_,e,_⟩:=x;exact Heap.lt_size e
 | own y=>obtain ⟨_,e⟩:=x;exact Heap.lt_size e
 | xd fs=>obtain ⟨_,⟨_,_,_,e,_⟩,_⟩:=x;exact Heap.lt_size e
 | rng lo hi=>obtain ⟨_,_,_,e⟩:=x;exact Heap.lt_size e
 | frz ob u=>obtain ⟨e,_⟩:=x;exact Heap.lt_size e
 | tbl ps=>exact Heap.lt_size (show h.get? a=some _ from x)
 | met f y=>exact Heap.lt_size (show h.get? a=some _ from x)
 | ext φ=>obtain ⟨_,⟨_,e⟩,_⟩:=x;exact Heap.lt_size e
theorem Paired.jo {α β:Type} {F G:α->β->Prop}:∀ {l₁:List α} {l₂:List β},Paired F l₁ l₂->(∀ a b,F a b->G a b)->Paired G l₁ l₂
 | _,_,.nil,_=>.nil
 | _,_,.cons r t,f=>.cons (f _ _ r) (Paired.jo t f)
theorem aP.stay (x:aP P w H h a o) (k:∀ b u,(b=a\/H b=some (.own a))->h.get? b=some u->h'.get? b=some u)
 (ho:∀ b,H b=some (.own a)->H' b=some (.own a)) (ht:∀ b xs,H b=some (.tup xs)->H' b=some (.tup xs)):aP P w H' h' a o:=by
 induction o with
 | lst xs=>obtain ⟨z,its,n,r,e⟩:=x;exact ⟨z,its,n,r,k _ _ (.inl rfl) e⟩
 | tup xs=>obtain ⟨z,its,r,ob,e,c⟩:=x;exact ⟨z,its,r,ob,k _ _ (.inl rfl) e,c⟩
 | dK kvs=>obtain ⟨z,y,vs,r,ob,es,ep,e,c⟩:=x;exact ⟨z,y,vs,r,ob,es,ep,k _ _ (.inl rfl) e,c⟩
 | dT kvs=>
   obtain ⟨z,y,xs,r,ob,es,ep,e,c⟩:=x
   exact ⟨z,y,xs,Paired.jo r fun p q z=>⟨z.1,ht _ _ z.2.1,z.2.2⟩,ob,es,ep,k _ _ (.inl rfl) e,c⟩
 | set S n=>obtain ⟨ob,es,ep,t,e,c⟩:=x;exact ⟨ob,es,ep,t,k _ _ (.inl rfl) e,c⟩
 | ins C dx fs=>
   obtain ⟨d,z,ne,e,mA,⟨od,es,ep,e2,c⟩,r⟩:=x
   exact ⟨ho _ d,z,ne,k _ _ (.inl rfl) e,mA,⟨od,es,ep,k _ _ (.inr d) e2,c⟩,r⟩
 | own y=>obtain ⟨ob,e⟩:=x;exact ⟨ob,k _ _ (.inl rfl) e⟩
 | xd fs=>obtain ⟨mA,⟨od,es,ep,e,c⟩,r⟩:=x;exact ⟨mA,⟨od,es,ep,k _ _ (.inl rfl) e,c⟩,r⟩
 | rng lo hi=>obtain ⟨t,u,v,e⟩:=x;exact ⟨t,u,v,k _ _ (.inl rfl) e⟩
 | frz ob u ih=>obtain ⟨e,q⟩:=x;exact ⟨k _ _ (.inl rfl) e,ih q⟩
 | tbl ps=>
   have e:h.get? a=some { cls:=.none,data:=.fields ps }:=x
   show h'.get? a=some { cls:=.none,data:=.fields ps }
   exact k a _ (.inl rfl) e
 | met f y=>
   have e:h.get? a=some (PySem.W.methodObj (.ref f) (.ref y)):=x
   show h'.get? a=some (PySem.W.methodObj (.ref f) (.ref y))
   exact k a _ (.inl rfl) e
 | ext φ=>obtain ⟨p,⟨o,e⟩,st⟩:=x;exact ⟨st _ _ p fun o q=>k _ _ (.inl rfl) q,⟨o,k _ _ (.inl rfl) e⟩,st⟩
theorem HOk.lt (x:HOk P w H h) (e:H a=some o):a < h.objs.size:=(x a o e).lt
theorem HOk.fresh (x:HOk P w H h) (e:h.objs.size <= a):H a=none:=by
 cases q:H a with
 | none=>rfl
 | some u=>exact absurd (Nat.lt_of_lt_of_le (x.lt q) e) (Nat.lt_irrefl _)
theorem HOk.kept (x:HOk P w H h) (k:∀ b u,h.get? b=some u->h'.get? b=some u):HOk P w H h':=fun a o e=>
 (x a o e).stay (fun b u _ q=>k b u q) (fun _ q=>q) fun _ _ q=>q
theorem HOk.laid (x:HOk P w H h) (k:∀ b u,h.get? b=some u->h'.get? b=some u) (hp:h.objs.size <= a) (new:aP P w (upd H a o) h' a o):HOk P w (upd H a o) h':=fun b u e=>by
 have hn:=x.fresh hp
 by_cases hb:b=a
 · subst hb;rw [au] at e;cases e;exact new
 · rw [aG hb] at e
   exact (x b u e).stay (fun c v _ q=>k c v q) (fun c q=>by rw [aG (aR q hn)];exact q) fun c xs q=>by rw [aG (aR q hn)];exact q
end
def Rd (H:Hp) (a:Addr) (u:HO):Prop:=H a=some u\/∃ o,H a=some (.frz o u)
theorem Rd.ok {P:Program} {w:World} {H:Hp} {h:Heap} {a:Addr} {u:HO} (r:Rd H a u) (x:HOk P w H h):aP P w H h a u:=by
 rcases r with r | ⟨o,r⟩
 · exact x a u r
 · obtain ⟨_,q⟩:=x a _ r
   exact q
def Mut:Option HO->Prop
 | some (.lst _)=>True
 | some (.dK _)=>True
 | some (.dT _)=>True
 | some (.set _ _)=>True
 | some (.ins _ _ _)=>True
 | some (.ext _)=>True
 | _=>False
section
variable {P:Program} {w:World} {H:Hp} {h h':Heap} {x e:Addr} {o':HO}
theorem HOk.write (ok:HOk P w H h) (mu:Mut (H x)) (he:e=x\/H e=some (.own x)) (k:∀ b u,b ≠ e->h.get? b=some u->h'.get? b=some u) (heo:∃ u,h'.get? e=some u)
 (new:aP P w (upd H x o') h' x o'):HOk P w (upd H x o') h':=fun b u q=>by
 have yx:∀ c y,H c=some (.own y)->c ≠ x:=fun c y r z=>by subst z;rw [r] at mu;exact mu
 have Dc:∀ c xs,H c=some (.tup xs)->c ≠ x:=fun c xs r z=>by subst z;rw [r] at mu;exact mu
 by_cases hb:b=x
 · subst hb;rw [au] at q;cases q;exact new
 · rw [aG hb] at q
   by_cases hbe:b=e
   · have q':H b=some (.own x):=by
      rcases he with z | z
      · exact absurd (hbe.trans z) hb
      · rw [hbe];exact z
     rw [q] at q';cases q'
     obtain ⟨v,hv⟩:=heo
     exact ⟨v,by rw [hbe];exact hv⟩
   · refine (ok b u q).stay (fun c v hc r=>k c v ?_ r) (fun c r=>by rw [aG (yx c b r)];exact r) fun c xs r=>by rw [aG (Dc c xs r)];exact r
     rcases hc with rfl | hc
     · exact hbe
     · rintro rfl
       rcases he with z | z
       · exact yx c b hc z
       · rw [hc] at z;cases z;exact hb rfl
end
structure Un (fs ex:List Addr) (H H':Hp) (h h':Heap):Prop where
 keep:∀ b o,h.get? b=some o->H b=none->b ∉ fs->b ∉ ex->h'.get? b=some o
 slot:∀ b o,h.get? b=some o->H b=none->b ∈ fs->b ∉ ex->∃ sl,h'.get? b=some { o with slots:=sl }
 free:∀ b o,h.get? b=some o->H b=none->b ∉ ex->H' b=none
 there:∀ b o,h.get? b=some o->b ∉ ex->∃ o',h'.get? b=some o'
 tups:∀ b xs,H b=some (.tup xs)->H' b=some (.tup xs)
 dm:∀ b o u,H b=some (.frz o u)->H' b=some (.frz o u)
 dD:∀ b ps,H b=some (.tbl ps)->∃ more,H' b=some (.tbl (ps ++ more))
section
variable {fs fs' ex ex':List Addr} {H H1 H2:Hp} {h h1 h2 h':Heap} {a x e:Addr} {o:HO}
theorem Un.any (u:Un fs ex H H1 h h1) {b:Addr} {ob:Obj} (q:h.get? b=some ob) (n:H b=none) (hx:b ∉ ex):∃ sl,h1.get? b=some { ob with slots:=sl }:=by
 by_cases hb:b ∈ fs
 · exact u.slot b ob q n hb hx
 · exact ⟨ob.slots,u.keep b ob q n hb hx⟩
theorem Un.trans (a:Un fs ex H H1 h h1) (b:Un fs ex H1 H2 h1 h2):Un fs ex H H2 h h2 where
 keep:=fun c ob q n hc hx=>b.keep c ob (a.keep c ob q n hc hx) (a.free c ob q n hx) hc hx
 slot:=fun c ob q n hc hx=>by
  obtain ⟨sl,e1⟩:=a.slot c ob q n hc hx
  obtain ⟨sl',e2⟩:=b.slot c _ e1 (a.free c ob q n hx) hc hx
  exact ⟨sl',e2⟩
 free:=fun c ob q n hx=>by
  obtain ⟨o',e1⟩:=a.there c ob q hx
  exact b.free c o' e1 (a.free c ob q n hx) hx
 there:=fun c ob q hx=>by
  obtain ⟨o',e1⟩:=a.there c ob q hx
  exact b.there c o' e1 hx
 tups:=fun c xs q=>b.tups c xs (a.tups c xs q)
 dm:=fun c ob xs q=>b.dm c ob xs (a.dm c ob xs q)
 dD:=fun c ps q=>by
  obtain ⟨m1,e1⟩:=a.dD c ps q
  obtain ⟨m2,e2⟩:=b.dD c _ e1
  exact ⟨m1 ++ m2,by rw [e2,Array.append_assoc]⟩
theorem Un.kept (k:∀ b u,h.get? b=some u->h'.get? b=some u):Un fs ex H H h h':=
 ⟨fun b ob q _ _ _=>k b ob q,fun b ob q _ _ _=>⟨ob.slots,k b ob q⟩,fun _ _ _ n _=>n,fun b ob q _=>⟨ob,k b ob q⟩,fun _ _ q=>q,fun _ _ _ q=>q,fun _ ps q=>⟨#[],by rw [q];simp⟩⟩
theorem Un.refl:Un fs ex H H h h:=Un.kept fun _ _ q=>q
theorem Un.laid (k:∀ b u,h.get? b=some u->h'.get? b=some u) (hp:h.objs.size <= a) (hn:H a=none):Un fs ex H (upd H a o) h h' where
 keep:=fun b u q _ _ _=>k b u q
 slot:=fun b u q _ _ _=>⟨u.slots,k b u q⟩
 free:=fun b u q n _=>by rw [aG (Nat.ne_of_lt (Nat.lt_of_lt_of_le (Heap.lt_size q) hp))];exact n
 there:=fun b u q _=>⟨u,k b u q⟩
 tups:=fun b xs q=>by rw [aG (aR q hn)];exact q
 dm:=fun b u xs q=>by rw [aG (aR q hn)];exact q
 dD:=fun b ps q=>⟨#[],by rw [aG (aR q hn),q];simp⟩
theorem Un.write (mu:Mut (H x)) (he:e=x\/H e=some (.own x)) (k:∀ b u,b ≠ e->h.get? b=some u->h'.get? b=some u) (heo:∃ u,h'.get? e=some u):Un fs ex H (upd H x o) h h':=by
 have hx:∀ b,H b=none->b ≠ x:=fun b n z=>by subst z;rw [n] at mu;exact mu
 have hb:∀ b,H b=none->b ≠ e:=fun b n z=>by
  subst z
  rcases he with r | r
  · exact hx b n r
  · rw [n] at r;cases r
 have hm:∀ b u,H b=some u->¬ Mut (some u)->b ≠ x:=fun b u q nm z=>by subst z;rw [q] at mu;exact nm mu
 refine ⟨fun b u q n _ _=>k b u (hb b n) q,fun b u q n _ _=>⟨u.slots,k b u (hb b n) q⟩,fun b u q n _=>by rw [aG (hx b n)];exact n,fun b u q _=>?_,
  fun b xs q=>by rw [aG (hm b _ q fun z=>z)];exact q,fun b u xs q=>by rw [aG (hm b _ q fun z=>z)];exact q,fun b ps q=>⟨#[],by rw [aG (hm b _ q fun z=>z),q];simp⟩⟩
 by_cases hbe:b=e
 · subst hbe;exact heo
 · exact ⟨u,k b u hbe q⟩
theorem Un.mono (u:Un fs ex H H1 h h1) (hs:∀ b ∈ fs,b ∈ fs') (hx:∀ b ∈ ex,b ∈ ex'):Un fs' ex' H H1 h h1:=
 ⟨fun b ob q n hb he=>u.keep b ob q n (fun z=>hb (hs b z)) fun z=>he (hx b z),fun _ _ q n _ he=>u.any q n fun z=>he (hx _ z),fun b ob q n he=>u.free b ob q n fun z=>he (hx b z),fun b ob q he=>u.there b ob q fun z=>he (hx b z),u.tups,u.dm,u.dD⟩
end
def trk (h:Heap) (H:Hp):List Addr:=(List.range h.objs.size).filter fun a=>(H a).isSome
def gC (h:Heap) (H:Hp):Heap:=PySem.W.hideAll h (trk h H)
theorem qX (h:Heap) (H:Hp):(gC h H).objs.size=h.objs.size:=PySem.W.hideAll_size _ _
theorem ud {h:Heap} {H:Hp} {b:Addr} {o:Obj} (e:h.get? b=some o) (n:H b=none):(gC h H).get? b=some o:=
 PySem.W.hideAll_get _ e fun hm=>by
  have q:(H b).isSome=true:=(List.mem_filter.mp hm).2
  rw [n] at q;simp at q
theorem wK {h:Heap} {H:Hp} {b:Addr} {o:Obj} (e:(gC h H).get? b=some o):h.get? b=some o/\H b=none:=by
 have e':h.get? b=some o:=PySem.W.of_hideAll (trk h H) e
 refine ⟨e',?_⟩
 cases q:H b with
 | none=>rfl
 | some x=>
   have hm:b ∈ trk h H:=List.mem_filter.mpr ⟨List.mem_range.mpr (Heap.lt_size e'),by simp [q]⟩
   have z:(gC h H).get? b=none:=PySem.W.hideAll_none (trk h H) hm
   rw [z] at e;cases e
def wL (g h:Heap) (L:Addr):List (Addr × Obj):=(List.range h.objs.size).filterMap fun a=>if a=L\/(g.get? a).isSome=true then none else (h.get? a).map fun o=>(a,o)
def rest (g h:Heap) (L d:Addr):List (Addr × Obj):=(wL g h L).filter fun p=>decide (p.1 ≠ d)
end L2
namespace L2
open PySem PySem.Spec PyProof.Rows
structure Mod (K:PySem.W.Frag) (mg:Str->Option Value) (base:Heap):Prop where
 kin:K.In base
 glob:base.Ns mainGlobals mg
 blt:∃ mb,base.Ns builtinsNs mb/\∀ x:Str,x ≠ "__name__"->mb x=bootBuiltins x
 nolimit:base.NoLimit
structure Cx where
 prog:Program
 w:World
 K:PySem.W.Frag
 mg:Str->Option Value
 base:Heap
 A:Around
 N:List Str
 s₀:Shared
 H₀:Hp
 env:Env
 outer:List Env
 stack:List Env
 ex:List Addr
 fn:Str->Bool
 calm:Bool
 pn:List (Addr × Obj)
 xe:Value->Shared->Prop
def frs (l:List Env):List Addr:=l.filterMap (·.frame)
abbrev Cx.fs (X:Cx):List Addr:=frs X.outer
def Vis (sc:Scope) (x:Str):Prop:=sc.names.lookup x=some .local\/sc.names.lookup x=some .cell\/sc.names.lookup x=some .free
def Loc (sc:Scope) (x:Str):Prop:=sc.names.lookup x=some .local\/sc.names.lookup x=some .cell
def Look (env:Env) (h:Heap) (m:Str->Option Value) (x:Str) (u:Value):Prop:=
 (env.kindOf x=some .local/\m x=some u)\/((env.kindOf x=some .cell\/env.kindOf x=some .free)/\∃ c,env.cells.lookup x=some c/\h.IsCell c (some u))
structure Cx.Ok (X:Cx):Prop where
 mod:Mod X.K X.mg X.base
 kind:X.env.scope.kind= .function
 glob:X.env.globals=mainGlobals
 blt:X.env.builtins=builtinsNs
 above:X.s₀.heap.objs.size <= X.env.locals
 inj:∀ x y c,X.env.cells.lookup x=some c->X.env.cells.lookup y=some c->x=y
 has:∀ x,(X.env.kindOf x=some .cell\/X.env.kindOf x=some .free)->∃ c,X.env.cells.lookup x=some c
 cab:∀ x c,X.fn x=true->X.env.cells.lookup x=some c->X.s₀.heap.objs.size <= c
 hd:X.calm=true->X.A.handled=none
 frames:X.A.frames=some X.stack
 stk:X.stack=X.outer\/(X.stack=X.env::X.outer/\X.env.frame=some X.env.locals)
 exf:∀ b ∈ X.ex,b ≠ X.env.locals/\∀ x c,X.env.cells.lookup x=some c->c ≠ b
 bs:∀ b o,X.base.get? b=some o->X.s₀.heap.get? b=some o/\X.H₀ b=none
 bsz:X.base.objs.size <= X.s₀.heap.objs.size
 jX:∀ b o,X.base.get? b=some o->b ∉ X.ex
 pK:∀ b ∈ X.ex,b ∉ X.fs
 e_:X.s₀.heap.FunFrames X.base X.outer
 frf:∀ b ∈ X.fs,X.H₀ b=none
structure Inv (X:Cx) (pins:List (Addr × Obj)) (σ:List (Option V)) (H:Hp) (s:Shared):Prop where
 ok:X.Ok
 os:s.os=X.s₀.os
 bare:AllBare s.gens
 base:Un X.fs X.ex X.H₀ H X.s₀.heap s.heap
 loc:∃ m,s.heap.Ns X.env.locals m/\∀ (i:Nat) (x:Str) (v:V),X.N[i]? =some x->σ[i]? =some (some v)->Vis X.env.scope x->∃ u,RelV v u/\Look X.env s.heap m x u
 cell:∀ x c,X.env.cells.lookup x=some c->∃ v,s.heap.IsCell c v
 free:H X.env.locals=none
 dF:∀ x c,X.env.cells.lookup x=some c->H c=none
 pin:∀ p ∈ X.pn ++ pins,s.heap.get? p.1=some p.2/\H p.1=none/\p.1 ≠ X.env.locals/\p.1 ∉ X.fs/\∀ v,p.2.data ≠ .cell v
 hok:HOk X.prog X.w H s.heap
 len:σ.length=X.N.length
section
variable {X:Cx} {pins:List (Addr × Obj)} {σ:List (Option V)} {H H':Hp} {s:Shared} {h':Heap}
theorem Cx.Ok.Dd (ok:X.Ok) {b:Addr} {o:Obj} (e:X.base.get? b=some o):b ∉ X.fs:=fun hb=>by
 have:=(ok.e_.mem hb).1
 rw [e] at this;cases this
theorem Inv.bs (I:Inv X pins σ H s):∀ b o,X.base.get? b=some o->s.heap.get? b=some o/\H b=none:=fun b o e=>
 ⟨I.base.keep b o (I.ok.bs b o e).1 (I.ok.bs b o e).2 (I.ok.Dd e) (I.ok.jX b o e),I.base.free b o (I.ok.bs b o e).1 (I.ok.bs b o e).2 (I.ok.jX b o e)⟩
theorem Inv.bk (I:Inv X pins σ H s):∀ b o,X.base.get? b=some o->s.heap.get? b=some o:=fun b o e=>(I.bs b o e).1
theorem Inv.mod (I:Inv X pins σ H s):Mod X.K X.mg X.base:=I.ok.mod
theorem Inv.kIn (I:Inv X pins σ H s):X.K.In s.heap:=I.ok.mod.kin.keeps I.bk
theorem Inv.fr (I:Inv X pins σ H s):∃ m,Fr X.base X.env.locals s.heap m:=
 let ⟨m,hn,_⟩:=I.loc
 ⟨m,hn,I.bk,Nat.le_trans I.ok.bsz I.ok.above⟩
theorem Inv.lt (I:Inv X pins σ H s):X.env.locals < s.heap.objs.size:=let ⟨_,hn,_⟩:=I.loc;hn.lt
theorem Inv.sz (I:Inv X pins σ H s):X.s₀.heap.objs.size <= s.heap.objs.size:=Nat.le_trans I.ok.above (Nat.le_of_lt I.lt)
theorem Inv.De (I:Inv X pins σ H s) {a:Addr} (h:s.heap.objs.size <= a):a ∉ X.fs:=fun hb=>by
 obtain ⟨_,o,ho,_⟩:=I.ok.e_.mem hb
 exact absurd (Nat.lt_of_lt_of_le (Heap.lt_size ho) (Nat.le_trans I.sz h)) (Nat.lt_irrefl _)
theorem Inv.cne (I:Inv X pins σ H s):∀ x c,X.env.cells.lookup x=some c->c ≠ X.env.locals:=fun x c e z=>by
 obtain ⟨v,o,ho,hd⟩:=I.cell x c e
 obtain ⟨m,⟨o',es,ep,ho',hd',_⟩,_⟩:=I.loc
 rw [z,ho'] at ho;cases ho;rw [hd'] at hd;cases hd
theorem Inv.e_ (I:Inv X pins σ H s):s.heap.FunFrames X.base X.outer:=by
 have all:∀ (l:List Env),(∀ b ∈ frs l,b ∈ X.fs)->X.s₀.heap.FunFrames X.base l->s.heap.FunFrames X.base l:=by
  intro l
  induction l with
  | nil=>intro _ _;trivial
  | cons env r ih=>
    intro hs hl
    obtain ⟨hk,⟨L,o,hf,hn,ho,hd⟩,hr⟩:=hl
    have hL:L ∈ X.fs:=hs L (by unfold frs;rw [List.filterMap_cons,hf];exact List.mem_cons_self)
    obtain ⟨sl,e⟩:=I.base.slot L o ho (I.ok.frf L hL) hL fun z=>I.ok.pK L z hL
    exact ⟨hk,⟨L,_,hf,hn,e,hd⟩,ih (fun b hb=>hs b (by unfold frs;rw [List.filterMap_cons,hf];exact List.mem_cons_of_mem _ hb)) hr⟩
 exact all X.outer (fun _ hb=>hb) I.ok.e_
theorem Inv.stack (I:Inv X pins σ H s):s.heap.FunFrames X.base X.stack:=by
 rcases I.ok.stk with e | ⟨e,hf⟩
 · rw [e];exact I.e_
 · rw [e]
   obtain ⟨m,hn,_⟩:=I.loc
   refine .cons (by rw [I.ok.kind];decide) hf hn ?_ I.e_
   exact Heap.get?_none_of_le (Nat.le_trans I.ok.bsz I.ok.above)
theorem Inv.jz (I:Inv X pins σ H s):∀ b ∈ frs X.stack,b ∈ X.env.locals::X.fs:=fun b hb=>by
 rcases I.ok.stk with e | ⟨e,hf⟩
 · rw [e] at hb;exact List.mem_cons_of_mem _ hb
 · rw [e] at hb
   unfold frs at hb
   rw [List.filterMap_cons,hf] at hb
   exact hb
theorem Inv.iT (I:Inv X pins σ H s):∀ b ∈ frs X.stack,H b=none:=fun b hb=>by
 rcases List.mem_cons.mp (I.jz b hb) with e | hb
 · rw [e];exact I.free
 · obtain ⟨_,o,ho,_⟩:=I.ok.e_.mem hb
   exact I.base.free b o ho (I.ok.frf b hb) fun z=>I.ok.pK b z hb
theorem Inv.step {g':Array GenState} {t':Nat} {d':Drawn} {ch:List Addr} (I:Inv X pins σ H s)
 (hch:∀ b ∈ ch,(b ∈ X.ex\/X.s₀.heap.objs.size <= b)/\b ≠ X.env.locals/\(∀ x c,X.env.cells.lookup x=some c->c ≠ b)/\∀ p ∈ X.pn ++ pins,p.1 ≠ b)
 (keep:∀ b o,b ≠ X.env.locals->b ∉ X.fs->b ∉ ch->s.heap.get? b=some o->H b=none->h'.get? b=some o)
 (slot:∀ b o,b ≠ X.env.locals->b ∈ X.fs->b ∉ ch->s.heap.get? b=some o->H b=none->∃ sl,h'.get? b=some { o with slots:=sl }) (free:∀ b o,b ∉ ch->s.heap.get? b=some o->H b=none->H' b=none)
 (there:∀ b o,b ∉ ch->s.heap.get? b=some o->∃ o',h'.get? b=some o')
 (tups:∀ b xs,H b=some (.tup xs)->H' b=some (.tup xs)) (dm:∀ b o u,H b=some (.frz o u)->H' b=some (.frz o u)) (dD:∀ b ps,H b=some (.tbl ps)->∃ more,H' b=some (.tbl (ps ++ more)))
 (ns:∀ m,s.heap.Ns X.env.locals m->h'.Ns X.env.locals m) (hok:HOk X.prog X.w H' h') (hg:AllBare g'):
 Inv X pins σ H' { s with heap:=h',gens:=g',drawn:=d',toks:=t' }:=by
 have neL:∀ b o,X.s₀.heap.get? b=some o->b ≠ X.env.locals:=fun b o e=>Nat.ne_of_lt (Nat.lt_of_lt_of_le (Heap.lt_size e) I.ok.above)
 have neC:∀ b o,X.s₀.heap.get? b=some o->b ∉ X.ex->b ∉ ch:=fun b o e hx hb=>by
  rcases (hch b hb).1 with z | z
  · exact hx z
  · exact absurd (Nat.lt_of_lt_of_le (Heap.lt_size e) z) (Nat.lt_irrefl _)
 have cellK:∀ x c,X.env.cells.lookup x=some c->∀ v,s.heap.IsCell c v->h'.IsCell c v:=fun x c e v ⟨o,ho,hd⟩=>by
  have nch:c ∉ ch:=fun z=>(hch c z).2.2.1 x c e rfl
  by_cases hc:c ∈ X.fs
  · obtain ⟨sl,q⟩:=slot c o (I.cne x c e) hc nch ho (I.dF x c e)
    exact ⟨_,q,hd⟩
  · exact ⟨o,keep c o (I.cne x c e) hc nch ho (I.dF x c e),hd⟩
 refine ⟨I.ok,I.os,hg,⟨fun b o e n hb hx=>?_,fun b o e n hb hx=>?_,fun b o e n hx=>?_,fun b o e hx=>?_,fun b xs e=>tups b xs (I.base.tups b xs e),fun b o xs e=>dm b o xs (I.base.dm b o xs e),fun b ps e=>?_⟩,?_,fun x c e=>?_,?_,fun x c e=>?_,fun p hp=>?_,hok,I.len⟩
 · exact keep b o (neL b o e) hb (neC b o e hx) (I.base.keep b o e n hb hx) (I.base.free b o e n hx)
 · obtain ⟨sl,e1⟩:=I.base.slot b o e n hb hx
   obtain ⟨sl',e2⟩:=slot b _ (neL b o e) hb (neC b o e hx) e1 (I.base.free b o e n hx)
   exact ⟨sl',e2⟩
 · obtain ⟨o',e1⟩:=I.base.there b o e hx
   exact free b o' (neC b o e hx) e1 (I.base.free b o e n hx)
 · obtain ⟨o',e1⟩:=I.base.there b o e hx
   exact there b o' (neC b o e hx) e1
 · obtain ⟨m1,e1⟩:=I.base.dD b ps e
   obtain ⟨m2,e2⟩:=dD b _ e1
   exact ⟨m1 ++ m2,by rw [e2,Array.append_assoc]⟩
 · obtain ⟨m,hn,hl⟩:=I.loc
   refine ⟨m,ns m hn,fun i x v e1 e2 e3=>?_⟩
   obtain ⟨u,r,l⟩:=hl i x v e1 e2 e3
   refine ⟨u,r,?_⟩
   rcases l with l | ⟨k,c,e,z⟩
   · exact .inl l
   · exact .inr ⟨k,c,e,cellK x c e _ z⟩
 · obtain ⟨v,z⟩:=I.cell x c e
   exact ⟨v,cellK x c e v z⟩
 · obtain ⟨m,⟨o,_,_,ho,_⟩,_⟩:=I.loc
   exact free _ o (fun z=>(hch _ z).2.1 rfl) ho I.free
 · obtain ⟨v,o,ho,hd⟩:=I.cell x c e
   exact free c o (fun z=>(hch c z).2.2.1 x c e rfl) ho (I.dF x c e)
 · obtain ⟨e,n,ne,nf,d⟩:=I.pin p hp
   have nch:p.1 ∉ ch:=fun z=>(hch p.1 z).2.2.2 p hp rfl
   exact ⟨keep p.1 p.2 ne nf nch e n,free p.1 p.2 nch e n,ne,nf,d⟩
theorem Inv.un {t':Nat} (I:Inv X pins σ H s) (u:Un X.fs [] H H' s.heap h') (hok:HOk X.prog X.w H' h'):Inv X pins σ H' { s with heap:=h',toks:=t' }:=by
 obtain ⟨m,⟨o,es,ep,ho,r⟩,_⟩:=id I.loc
 obtain ⟨sl,hL⟩:=u.any ho I.free (by simp)
 exact I.step (g':=s.gens) (d':=s.drawn) (ch:=[]) (fun _ z=>nomatch z) (fun b o _ hb _ e n=>u.keep b o e n hb (by simp)) (fun b o _ hb _ e n=>u.slot b o e n hb (by simp)) (fun b o _ e n=>u.free b o e n (by simp)) (fun b o _ e=>u.there b o e (by simp)) u.tups u.dm u.dD (fun m' hm=>by
  obtain ⟨o',es',ep',ho',r'⟩:=hm
  rw [ho] at ho';cases ho'
  exact ⟨_,es',ep',hL,r'⟩) hok I.bare
theorem Inv.call {g':Array GenState} {t':Nat} {d':Drawn} {ch:List Addr} (I:Inv X pins σ H s) (u:Un (frs X.stack) ch H H' s.heap h') (hok:HOk X.prog X.w H' h') (hg:AllBare g')
 (hch:∀ b ∈ ch,(b ∈ X.ex\/X.s₀.heap.objs.size <= b)/\b ≠ X.env.locals/\(∀ x c,X.env.cells.lookup x=some c->c ≠ b)/\∀ p ∈ X.pn ++ pins,p.1 ≠ b):
 Inv X pins σ H' { s with heap:=h',gens:=g',drawn:=d',toks:=t' }:=by
 obtain ⟨m,⟨o,es,ep,ho,r⟩,_⟩:=id I.loc
 obtain ⟨sl,hL⟩:=u.any ho I.free fun z=>(hch _ z).2.1 rfl
 exact I.step (ch:=ch) hch (fun b o hL hb hc e n=>u.keep b o e n (fun z=>(List.mem_cons.mp (I.jz b z)).elim hL hb) hc) (fun b o _ _ hc e n=>u.any e n hc) (fun b o hc e n=>u.free b o e n hc) (fun b o hc e=>u.there b o e hc) u.tups u.dm u.dD (fun m' hm=>by
  obtain ⟨o',es',ep',ho',r'⟩:=hm
  rw [ho] at ho';cases ho'
  exact ⟨_,es',ep',hL,r'⟩) hok hg
theorem Inv.turned {t':Nat} {it:Addr} (I:Inv X pins σ H s) (k:∀ b o,b ≠ it->s.heap.get? b=some o->h'.get? b=some o) (hn:H it=none) (hL:it ≠ X.env.locals)
 (h1:it ∈ X.ex\/X.s₀.heap.objs.size <= it) (h2:∀ x c,X.env.cells.lookup x=some c->c ≠ it) (h3:∀ p ∈ X.pn ++ pins,p.1 ≠ it):Inv X pins σ H { s with heap:=h',toks:=t' }:=by
 have nit:∀ b u,H b=some u->b ≠ it:=fun b u e z=>by rw [z,hn] at e;cases e
 refine I.step (g':=s.gens) (d':=s.drawn) (ch:=[it]) (fun b hb=>?_) (fun b o _ _ hc e _=>k b o (fun z=>hc (by simp [z])) e) (fun b o _ _ hc e _=>⟨o.slots,k b o (fun z=>hc (by simp [z])) e⟩) (fun _ _ _ _ n=>n)
  (fun b o hc e=>⟨o,k b o (fun z=>hc (by simp [z])) e⟩) (fun _ _ e=>e) (fun _ _ _ e=>e) (fun b ps e=>⟨#[],by rw [e];simp⟩) (fun m hm=>?_) (fun b u e=>?_) I.bare
 · have e:b=it:=by simpa using hb
   subst e
   exact ⟨h1,hL,h2,h3⟩
 · obtain ⟨o,es,ep,ho,r⟩:=hm
   exact ⟨o,es,ep,k _ o (Ne.symm hL) ho,r⟩
 · refine (I.hok b u e).stay (fun c v hc q=>k c v ?_ q) (fun _ q=>q) fun _ _ q=>q
   rcases hc with z | z
   · rw [z];exact nit b u e
   · exact nit c _ z
theorem Inv.tok (I:Inv X pins σ H s) (t:Nat):Inv X pins σ H { s with toks:=t }:=I.un (h':=s.heap) (t':=t) Un.refl I.hok
theorem Inv.kept {t':Nat} (I:Inv X pins σ H s) (k:∀ b u,s.heap.get? b=some u->h'.get? b=some u):Inv X pins σ H { s with heap:=h',toks:=t' }:=I.un (Un.kept k) (I.hok.kept k)
theorem Inv.laid {a:Addr} {o:HO} {t':Nat} (I:Inv X pins σ H s) (k:∀ b u,s.heap.get? b=some u->h'.get? b=some u) (hp:s.heap.objs.size <= a) (new:aP X.prog X.w (upd H a o) h' a o):
 Inv X pins σ (upd H a o) { s with heap:=h',toks:=t' }:=I.un (Un.laid k hp (I.hok.fresh hp)) (I.hok.laid k hp new)
theorem Inv.write {x e:Addr} {o:HO} {t':Nat} (I:Inv X pins σ H s) (mu:Mut (H x)) (he:e=x\/H e=some (.own x)) (k:∀ b u,b ≠ e->s.heap.get? b=some u->h'.get? b=some u) (heo:∃ u,h'.get? e=some u)
 (new:aP X.prog X.w (upd H x o) h' x o):Inv X pins σ (upd H x o) { s with heap:=h',toks:=t' }:=I.un (Un.write mu he k heo) (I.hok.write mu he k heo new)
theorem Inv.weak {σ':List (Option V)} (I:Inv X pins σ H s) (hl:σ'.length=σ.length) (w:∀ (i:Nat) v,σ'[i]? =some (some v)->σ[i]? =some (some v)):Inv X pins σ' H s:=
 ⟨I.ok,I.os,I.bare,I.base,let ⟨m,hn,hl'⟩:=I.loc;⟨m,hn,fun i x v e1 e2 e3=>hl' i x v e1 (w i v e2) e3⟩,I.cell,I.free,I.dF,I.pin,I.hok,hl.trans I.len⟩
theorem Inv.oJ {vB:List (Addr × Obj)} (I:Inv X pins σ H s) (h:∀ p ∈ vB,s.heap.get? p.1=some p.2/\H p.1=none/\p.1 ≠ X.env.locals/\p.1 ∉ X.fs/\∀ v,p.2.data ≠ .cell v):Inv X vB σ H s:=
 ⟨I.ok,I.os,I.bare,I.base,I.loc,I.cell,I.free,I.dF,fun p hp=>(List.mem_append.mp hp).elim (fun z=>I.pin p (List.mem_append_left _ z)) (h p),I.hok,I.len⟩
theorem mD {N:List Str} (hN:N.Nodup) {i j:Nat} {x:Str} (a:N[i]? =some x) (b:N[j]? =some x):i=j:=by
 obtain ⟨h1,e1⟩:=List.getElem?_eq_some_iff.mp a
 obtain ⟨h2,e2⟩:=List.getElem?_eq_some_iff.mp b
 exact (List.getElem_inj hN).mp (e1.trans e2.symm)
theorem qY {M:Model} {A:Around} {E:Value->Shared->Prop} {i:Nat} {x:Str} {v:V} {u:Value} {Q:Unit->Shared->Prop} (I:Inv X pins σ H s) (hN:X.N.Nodup) (hi:X.N[i]? =some x) (hx:Loc X.env.scope x) (r:RelV v u)
 (h:∀ s',Inv X pins (σ.set i (some v)) H s'->(∃ a,Heap.SameBut a s.heap s'.heap/\(a=X.env.locals\/X.env.cells.lookup x=some a))->Q () s') (hf:X.fn x=true\/X.env.scope.names.lookup x=some .local:=by first | exact .inl rfl | exact .inr rfl | assumption):wpAny M A (storeName X.env x u) Q E s:=by
 obtain ⟨m,hn,hl⟩:=id I.loc
 have hcls:(X.env.scope.kind == .class || (X.env.scope.kind == .module && X.env.locals != X.env.globals))=false:=by rw [I.ok.kind];rfl
 have yz:i < σ.length:=by rw [I.len];exact (List.getElem?_eq_some_iff.mp hi).1
 have cne:=I.cne
 have tracked:∀ {a:Addr} {h':Heap},(∃ o,s.heap.get? a=some o/\H a=none)->Heap.SameBut a s.heap h'->HOk X.prog X.w H h':=fun {a h'} ha hs b ob e=>by
  obtain ⟨_,_,hfree⟩:=ha
  refine (I.hok b ob e).stay (fun c w' hc q=>(hs.2 c ?_).trans q) (fun _ q=>q) fun _ _ q=>q
  rintro rfl
  rcases hc with rfl | hc
  · rw [hfree] at e;cases e
  · rw [hfree] at hc;cases hc
 rcases hx with hk | hk
 · refine wpAny_storeName_local hk hn (fun h' hn' hs=>?_) hcls
   obtain ⟨oL,_,_,hoL,_⟩:=id hn
   refine h _ ⟨I.ok,I.os,I.bare,⟨fun b o e n hb hx=>?_,fun b o e n hb hx=>?_,I.base.free,fun b o e hx=>?_,I.base.tups,I.base.dm,I.base.dD⟩,⟨_,hn',fun j y v' e1 e2 e3=>?_⟩,fun y c e=>?_,I.free,I.dF,fun p hp=>?_,tracked ⟨oL,hoL,I.free⟩ hs,by simpa using I.len⟩ ⟨_,hs,.inl rfl⟩
   · exact (hs.2 b (Nat.ne_of_lt (Nat.lt_of_lt_of_le (Heap.lt_size e) I.ok.above))).trans (I.base.keep b o e n hb hx)
   · obtain ⟨sl,e1⟩:=I.base.slot b o e n hb hx
     exact ⟨sl,(hs.2 b (Nat.ne_of_lt (Nat.lt_of_lt_of_le (Heap.lt_size e) I.ok.above))).trans e1⟩
   · obtain ⟨o',e1⟩:=I.base.there b o e hx
     exact ⟨o',(hs.2 b (Nat.ne_of_lt (Nat.lt_of_lt_of_le (Heap.lt_size e) I.ok.above))).trans e1⟩
   · by_cases hj:j=i
     · subst hj
       rw [hi] at e1;cases e1
       rw [List.getElem?_set_self yz] at e2
       cases e2
       exact ⟨u,r,.inl ⟨hk,by simp⟩⟩
     · rw [List.getElem?_set_ne (Ne.symm hj)] at e2
       obtain ⟨u',r',q⟩:=hl j y v' e1 e2 e3
       refine ⟨u',r',?_⟩
       rcases q with ⟨k,e⟩ | ⟨k,c,e,z⟩
       · refine .inl ⟨k,?_⟩
         have:y ≠ x:=fun e=>hj (mD hN e1 (e ▸ hi))
         simp [this,e]
       · exact .inr ⟨k,c,e,z.sameBut hs (cne y c e)⟩
   · obtain ⟨w',z⟩:=I.cell y c e
     exact ⟨w',z.sameBut hs (cne y c e)⟩
   · obtain ⟨e,n,ne,nf,d⟩:=I.pin p hp
     exact ⟨(hs.2 p.1 ne).trans e,n,ne,nf,d⟩
 · have hfn:X.fn x=true:=by
    rcases hf with z | z
    · exact z
    · rw [z] at hk;cases hk
   obtain ⟨c,hc⟩:=I.ok.has x (.inl hk)
   obtain ⟨w',z⟩:=I.cell x c hc
   refine wpAny_storeName_cell I.ok.kind hk hc z (fun h' hc' hs=>?_)
   obtain ⟨oc,hoc,Dg⟩:=id z
   refine h { s with heap:=h' } ⟨I.ok,I.os,I.bare,⟨fun b o e n hb hx=>?_,fun b o e n hb hx=>?_,I.base.free,fun b o e hx=>?_,I.base.tups,I.base.dm,I.base.dD⟩,⟨m,hn.sameBut hs (Ne.symm (cne x c hc)),fun j y v' e1 e2 e3=>?_⟩,fun y c' e=>?_,I.free,I.dF,fun p hp=>?_,tracked ⟨oc,hoc,I.dF x c hc⟩ hs,by simpa using I.len⟩ ⟨c,hs,.inr hc⟩
   · exact (hs.2 b (Nat.ne_of_lt (Nat.lt_of_lt_of_le (Heap.lt_size e) (I.ok.cab x c hfn hc)))).trans (I.base.keep b o e n hb hx)
   · obtain ⟨sl,e1⟩:=I.base.slot b o e n hb hx
     exact ⟨sl,(hs.2 b (Nat.ne_of_lt (Nat.lt_of_lt_of_le (Heap.lt_size e) (I.ok.cab x c hfn hc)))).trans e1⟩
   · obtain ⟨o',e1⟩:=I.base.there b o e hx
     exact ⟨o',(hs.2 b (Nat.ne_of_lt (Nat.lt_of_lt_of_le (Heap.lt_size e) (I.ok.cab x c hfn hc)))).trans e1⟩
   · by_cases hj:j=i
     · subst hj
       rw [hi] at e1;cases e1
       rw [List.getElem?_set_self yz] at e2
       cases e2
       exact ⟨u,r,.inr ⟨.inl hk,c,hc,hc'⟩⟩
     · rw [List.getElem?_set_ne (Ne.symm hj)] at e2
       obtain ⟨u',r',q⟩:=hl j y v' e1 e2 e3
       refine ⟨u',r',?_⟩
       rcases q with q | ⟨k,c',e,z'⟩
       · exact .inl q
       · refine .inr ⟨k,c',e,z'.sameBut hs ?_⟩
         rintro rfl
         exact hj (mD hN e1 (I.ok.inj _ _ _ e hc ▸ hi))
   · by_cases hcc:c'=c
     · subst hcc;exact ⟨_,hc'⟩
     · obtain ⟨w2,z2⟩:=I.cell y c' e
       exact ⟨w2,z2.sameBut hs hcc⟩
   · obtain ⟨e,n,ne,nf,d⟩:=I.pin p hp
     refine ⟨(hs.2 p.1 ?_).trans e,n,ne,nf,d⟩
     intro q
     rw [q,hoc] at e
     have q':oc=p.2:=Option.some.inj e
     exact d w' (by rw [<- q'];exact Dg)
theorem mF {M:Model} {A:Around} {E:Value->Shared->Prop} {i:Nat} {x:Str} {v:V} {u:Value} {Q:Unit->Shared->Prop} (I:Inv X pins σ H s) (hN:X.N.Nodup) (hi:X.N[i]? =some x) (hx:Loc X.env.scope x) (r:RelV v u)
 (h:∀ s',Inv X pins (σ.set i (some v)) H s'->Q () s') (hf:X.fn x=true\/X.env.scope.names.lookup x=some .local:=by first | exact .inl rfl | exact .inr rfl | assumption):wpAny M A (storeName X.env x u) Q E s:=
 qY I hN hi hx r (fun s' I' _=>h s' I') hf
theorem Inv.call' {s':Shared} {ch:List Addr} (I:Inv X pins σ H s) (ho:s'.os=s.os) (u:Un (frs X.stack) ch H H' s.heap s'.heap) (hok:HOk X.prog X.w H' s'.heap) (hg:AllBare s'.gens)
 (hch:∀ b ∈ ch,(b ∈ X.ex\/X.s₀.heap.objs.size <= b)/\b ≠ X.env.locals/\(∀ x c,X.env.cells.lookup x=some c->c ≠ b)/\∀ p ∈ X.pn ++ pins,p.1 ≠ b):Inv X pins σ H' s':=by
 obtain ⟨h',g',d',t',o'⟩:=s'
 have e:o'=s.os:=ho
 subst e
 exact I.call (g':=g') (t':=t') (d':=d') u hok hg hch
end
abbrev XK:=Value->Option Addr->Hp->Prop
abbrev St:=List (Option V)
abbrev VK:=V->Hp->Prop
abbrev TE:=St->Hp->VK->Prop
abbrev TT:=St->Hp->(Bool->Hp->Prop)->Prop
abbrev TA:=St->Hp->(List V->Hp->Prop)->Prop
structure Ends where
 nx:St->Hp->Prop
 rt:VK
 bk:St->Hp->Prop:=fun _ _=>False
 ct:St->Hp->Prop:=fun _ _=>False
abbrev TS:=Ends->St->Hp->Prop
def EP (X:Cx) (pins:List (Addr × Obj)) (σ:St) (Q:VK) (u:Value) (s':Shared):Prop:=∃ v H',Inv X pins σ H' s'/\RelV v u/\Q v H'
def TP (X:Cx) (pins:List (Addr × Obj)) (σ:St) (Q:Bool->Hp->Prop) (b:Bool) (s':Shared):Prop:=∃ H',Inv X pins σ H' s'/\Q b H'
def AP (X:Cx) (pins:List (Addr × Obj)) (σ:St) (Q:List V->Hp->Prop) (us:List Value) (s':Shared):Prop:=∃ vs H',Inv X pins σ H' s'/\Vals vs us/\Q vs H'
def SP (X:Cx) (pins:List (Addr × Obj)) (D:Ends) (f:Flow) (s':Shared):Prop:=
 match f with
 | .next=>∃ σ' H',Inv X pins σ' H' s'/\D.nx σ' H'
 | .brk=>∃ σ' H',Inv X pins σ' H' s'/\D.bk σ' H'
 | .cont=>∃ σ' H',Inv X pins σ' H' s'/\D.ct σ' H'
 | .ret u=>∃ v σ' H',Inv X pins σ' H' s'/\RelV v u/\D.rt v H'
def PE (X:Cx) (e:Expr) (t:TE):Prop:=
 ∀ (pins:List (Addr × Obj)) (s:Shared) (σ:St) (H:Hp) (Q:VK),Inv X pins σ H s->t σ H Q->wpAny (model X.prog X.w) X.A (eval e X.env) (EP X pins σ Q) X.xe s
def PT (X:Cx) (e:Expr) (t:TT):Prop:=
 ∀ (pins:List (Addr × Obj)) (s:Shared) (σ:St) (H:Hp) (Q:Bool->Hp->Prop),Inv X pins σ H s->t σ H Q->wpAny (model X.prog X.w) X.A (isTrue e X.env (eval e X.env)) (TP X pins σ Q) X.xe s
def PW (X:Cx) (e:Expr) (t:TT):Prop:=
 ∀ (whole:Sem Value) (pins:List (Addr × Obj)) (s:Shared) (σ:St) (H:Hp) (Q:Bool->Hp->Prop),Inv X pins σ H s->t σ H Q->wpAny (model X.prog X.w) X.A (isTrue e X.env whole) (TP X pins σ Q) X.xe s
theorem PW.pt {X:Cx} {e:Expr} {t:TT} (h:PW X e t):PT X e t:=h _
def PA (X:Cx) (es:List Expr) (t:TA):Prop:=
 ∀ (pos:Pos) (pins:List (Addr × Obj)) (s:Shared) (σ:St) (H:Hp) (Q:List V->Hp->Prop),Inv X pins σ H s->t σ H Q->wpAny (model X.prog X.w) X.A (spliced (backTo pos (starEach es X.env))) (AP X pins σ Q) X.xe s
def PS (X:Cx) (st:Stmt) (t:TS):Prop:=
 ∀ (pins:List (Addr × Obj)) (s:Shared) (σ:St) (H:Hp) (D:Ends),Inv X pins σ H s->t D σ H->wpAny (model X.prog X.w) X.A (exec st X.env) (SP X pins D) X.xe s
def PSs (X:Cx) (st:List Stmt) (t:TS):Prop:=
 ∀ (pins:List (Addr × Obj)) (s:Shared) (σ:St) (H:Hp) (D:Ends),Inv X pins σ H s->t D σ H->wpAny (model X.prog X.w) X.A (execs st X.env) (SP X pins D) X.xe s
theorem thn {α:Type} {t:Sem α} {Q Q':α->Shared->Prop} {M:Model} {A:Around} {E:Value->Shared->Prop} {s:Shared} (h:wpAny M A t Q E s) (hQ:∀ a s,Q a s->Q' a s):wpAny M A t Q' E s:=wpAny_mono h hQ fun _ _ x=>x
end L2
namespace L2
open PySem PySem.Spec PyProof.Rows
section
variable {X:Cx}
def yC (i:Nat):TE:=fun σ H Q=>∃ v,σ[i]? =some (some v)/\Q v H
def tC (v:V):TE:=fun _ H Q=>Q v H
theorem qZ {i:Nat} {x:Str} {pos:Pos} (hN:X.N[i]? =some x) (hv:Vis X.env.scope x) (hd:(x == ("__debug__":Str))=false:=by decide) (hcd:(x == ("__classdict__":Str))=false:=by decide):PE X (.Name x pos) (yC i):=by
 intro pins s σ H Q I h
 obtain ⟨v,e,h⟩:=h
 obtain ⟨m,hn,hl⟩:=I.loc
 obtain ⟨u,r,l⟩:=hl i x v hN e hv
 have fin:EP X pins σ Q u s:=⟨v,H,I,r,h⟩
 rcases l with ⟨hk,hm⟩ | ⟨hk,c,hc,hcell⟩
 · exact wpAny_Name (wpAny_loadName_local I.ok.kind hk hn hm fin) hd
 · rcases hk with hk | hk
   · exact wpAny_Name (wpAny_loadName_cell I.ok.kind hk hc hcell fin) hd
   · exact wpAny_Name (wpAny_loadName_free I.ok.kind hk hc hcell fin hcd) hd
theorem aA {i j pos}:PE X (.Constant (.int i) j pos) (tC (.int i)):=fun _ _ _ H _ I h=>wpAny_Constant_int ⟨.int i,H,I.tok _,⟨_,rfl⟩,h⟩
theorem pL {b j pos}:PE X (.Constant (.bool b) j pos) (tC (.bl b)):=fun _ _ _ H _ I h=>Constant_bool ⟨.bl b,H,I,rfl,h⟩
theorem q9 {x j pos}:PE X (.Constant (.str x) j pos) (tC (.str x)):=fun _ _ _ H _ I h=>Calls.Constant_str ⟨.str x,H,I.tok _,⟨_,rfl⟩,h⟩
def Gl (X:Cx) (x:Str):Prop:=X.env.kindOf x=some .globalImplicit
theorem wM {E:Value->Shared->Prop} {pins:List (Addr × Obj)} {s:Shared} {σ:St} {H:Hp} {x:Str} {u:Value} {pos:Pos} {Q:Value->Shared->Prop} (I:Inv X pins σ H s) (hg:Gl X x) (hm:X.mg x=some u) (h:Q u s)
 (hd:(x == ("__debug__":Str))=false:=by decide):wpAny (model X.prog X.w) X.A (eval (.Name x pos) X.env) Q E s:=
 Calls.Name_function_global I.ok.kind hg (Calls.loadGlobal_global (by rw [I.ok.glob];exact I.mod.glob.keeps I.bk) hm h) hd
theorem jA {E:Value->Shared->Prop} {pins:List (Addr × Obj)} {s:Shared} {σ:St} {H:Hp} {x:Str} {u:Value} {pos:Pos} {Q:Value->Shared->Prop} (I:Inv X pins σ H s) (hg:Gl X x) (hm:X.mg x=none) (hv:bootBuiltins x=some u) (h:Q u s)
 (hn:x ≠ "__name__":=by decide) (hd:(x == ("__debug__":Str))=false:=by decide):wpAny (model X.prog X.w) X.A (eval (.Name x pos) X.env) Q E s:=by
 obtain ⟨mb,h1,h2⟩:=I.mod.blt
 exact Calls.Name_function_global I.ok.kind hg (Calls.loadGlobal_builtin (by rw [I.ok.glob];exact I.mod.glob.keeps I.bk) hm (by rw [I.ok.blt];exact h1.keeps I.bk) ((h2 x hn).trans hv) h) hd
theorem bN {x:Str} {v:V} {u:Value} {pos:Pos} (hg:Gl X x) (hm:X.mg x=none) (hv:bootBuiltins x=some u) (r:RelV v u) (hn:x ≠ "__name__":=by decide) (hd:(x == ("__debug__":Str))=false:=by decide):PE X (.Name x pos) (tC v):=
 fun _ _ _ H _ I h=>jA I hg hm hv ⟨v,H,I,r,h⟩ hn hd
variable {a b:Expr} {ta tb:TE} {pos:Pos}
def PC (X:Cx) (op:CmpOp) (a b:Expr) (t:TE):Prop:=
 ∀ (pins:List (Addr × Obj)) (s:Shared) (σ:St) (H:Hp) (Q:VK),Inv X pins σ H s->t σ H Q->
   wpAny (model X.prog X.w) X.A (eval a X.env) (fun v s₁=>wpAny (model X.prog X.w) X.A (eval b X.env) (fun u s₂=>wpAny (model X.prog X.w) X.A (compareOp op v u) (EP X pins σ Q) X.xe s₂) X.xe s₁) X.xe s
theorem mG (b:Expr) {op:CmpOp} (h:op ≠ .In) (h2:op ≠ .NotIn):behindInMarks op b=false:=by
 have e1:(op == CmpOp.In)=false:=by cases op <;> first | rfl | exact absurd rfl h
 have e2:(op == CmpOp.NotIn)=false:=by cases op <;> first | rfl | exact absurd rfl h2
 cases b <;> simp [behindInMarks,e1,e2]
def Dh (ta:TE):TE:=fun σ H Q=>ta σ H fun x H1=>Q (.bl (decide (x= .non))) H1
theorem RelV.ue {x:V} {v:Value} (r:RelV x v):(v == Value.none)=decide (x= .non):=by
 cases x with
 | non=>cases r;rfl
 | bl _=>cases r;rfl
 | int _=>obtain ⟨t,rfl⟩:=r;rfl
 | str _=>obtain ⟨t,rfl⟩:=r;rfl
 | byt _=>obtain ⟨t,rfl⟩:=r;rfl
 | flt _=>obtain ⟨t,rfl⟩:=r;rfl
 | ref _=>cases r;rfl
 | ty _=>cases r;rfl
theorem q_ {j pos'} (ha:PE X a ta):PC X .Is a (.Constant .none j pos') (Dh ta):=by
 intro pins s σ H Q I h
 refine thn (ha pins s σ H _ I h) fun v s1 ⟨x,H1,I1,r1,q1⟩=>?_
 exact Constant_none (is_none_gen ⟨.bl _,H1,I1,by rw [r1.ue];rfl,q1⟩)
def tB (t:TE):TT:=fun σ H Q=>t σ H fun x H1=>∃ c,x= .bl c/\Q c H1
theorem yD {op:CmpOp} {t:TE} (h:PC X op a b t) (h1:behindInMarks op b=false:=by first | exact mG _ (by decide) (by decide) | rfl):PE X (.Compare a [op] [b] pos) t:=fun pins s σ H Q I hw=>wpAny_Compare1 (h pins s σ H Q I hw) h1
theorem yE {op:CmpOp} {t:TE} (h:PC X op a b t) (h1:behindInMarks op b=false:=by first | exact mG _ (by decide) (by decide) | rfl):PT X (.Compare a [op] [b] pos) (tB t):=by
 intro pins s σ H Q I hw
 refine wpAny_isTrue_Compare1 (thn (h pins s σ H _ I hw) fun v s1 h1=>thn h1 fun u s2 h2=>thn h2 fun c s3 ⟨x,H1,I1,r1,q1⟩=>?_) h1
 obtain ⟨d,rfl,q⟩:=q1
 cases r1
 exact wpAny_truthy_bool ⟨H1,I1,q⟩
theorem fj {e:Expr} {t:TE} (h:PE X e t) (he:∀ whole,isTrue e X.env whole=(do let v <- whole;standAt e.pos;holding [v] (truthy v)):=by intro _;rfl):PT X e (tB t):=by
 intro pins s σ H Q I hw
 refine isTrue_plain (thn (h pins s σ H _ I hw) fun v s1 ⟨x,H1,I1,r1,q1⟩=>?_) (he _)
 obtain ⟨d,rfl,q⟩:=q1
 cases r1
 exact wpAny_truthy_bool ⟨H1,I1,q⟩
variable {tA tB':TT} {rest:List Expr}
def Di (t u:TT):TT:=fun σ H Q=>t σ H fun c H1=>if c=true then u σ H1 Q else Q false H1
def tOr (t u:TT):TT:=fun σ H Q=>t σ H fun c H1=>if c=true then Q true H1 else u σ H1 Q
def Dj (t:TT):TT:=fun σ H Q=>t σ H fun c H1=>Q (!c) H1
theorem pw_and1 (ha:PT X a tA):PW X (.BoolOp .And [a] pos) tA:=by
 intro wh pins s σ H Q I h
 refine isTrue_and (thn (ha pins s σ H Q I h) fun c s1 e=>?_)
 cases c with
 | true=>exact isTrue_and_nil e
 | false=>exact e
theorem pw_or1 (ha:PT X a tA):PW X (.BoolOp .Or [a] pos) tA:=by
 intro wh pins s σ H Q I h
 refine isTrue_or (thn (ha pins s σ H Q I h) fun c s1 e=>?_)
 cases c with
 | false=>exact isTrue_or_nil e
 | true=>exact e
theorem pw_and (ha:PT X a tA) (hb:PW X (.BoolOp .And (b::rest) pos) tB'):PW X (.BoolOp .And (a::b::rest) pos) (Di tA tB'):=by
 intro wh pins s σ H Q I h
 refine isTrue_and (thn (ha pins s σ H _ I h) fun c s1 ⟨H1,I1,q1⟩=>?_)
 cases c with
 | true=>exact hb wh pins s1 σ H1 Q I1 q1
 | false=>exact ⟨H1,I1,q1⟩
theorem pw_or (ha:PT X a tA) (hb:PW X (.BoolOp .Or (b::rest) pos) tB'):PW X (.BoolOp .Or (a::b::rest) pos) (tOr tA tB'):=by
 intro wh pins s σ H Q I h
 refine isTrue_or (thn (ha pins s σ H _ I h) fun c s1 ⟨H1,I1,q1⟩=>?_)
 cases c with
 | true=>exact ⟨H1,I1,q1⟩
 | false=>exact hb wh pins s1 σ H1 Q I1 q1
theorem mH (ha:PT X a tA):PT X (.UnaryOp .Not a pos) (Dj tA):=by
 intro pins s σ H Q I h
 exact isTrue_not (ha pins s σ H (fun c H1=>Q (!c) H1) I h)
def Bv (ta tb:TE):TE:=fun σ H Q=>ta σ H fun x H1=>∃ c,x= .bl c/\if c=true then tb σ H1 Q else Q (.bl false) H1
def Bw (ta:TE):TE:=fun σ H Q=>ta σ H fun x H1=>∃ c,x= .bl c/\Q (.bl (!c)) H1
theorem gZ {op} {t:TE} (h:PE X a t):PE X (.BoolOp op [a] pos) t:=fun pins s σ H Q I hw=>BoolOp_one (h pins s σ H Q I hw)
theorem g8 (ha:PE X a ta) (hb:PE X (.BoolOp .And (b::rest) pos) tb):PE X (.BoolOp .And (a::b::rest) pos) (Bv ta tb):=by
 intro pins s σ H Q I h
 refine BoolOp_and (thn (ha pins s σ H _ I h) fun v s1 ⟨x,H1,I1,r1,q1⟩=>?_)
 obtain ⟨c,rfl,q1⟩:=q1
 cases r1
 refine wpAny_truthy_bool ?_
 cases c with
 | true=>exact hb pins s1 σ H1 Q I1 q1
 | false=>exact ⟨.bl false,H1,I1,rfl,q1⟩
theorem yF (ha:PE X a ta):PE X (.UnaryOp .Not a pos) (Bw ta):=by
 intro pins s σ H Q I h
 refine UnaryOp_ (thn (ha pins s σ H _ I h) fun v s1 ⟨x,H1,I1,r1,q1⟩=>?_)
 obtain ⟨c,rfl,q1⟩:=q1
 cases r1
 exact not_of (wpAny_truthy_bool ⟨.bl (!c),H1,I1,rfl,q1⟩)
def tIf (t:TT) (ta tb:TE):TE:=fun σ H Q=>t σ H fun c H1=>if c=true then ta σ H1 Q else tb σ H1 Q
theorem uf {c:Expr} (hc:PT X c tA) (ha:PE X a ta) (hb:PE X b tb):PE X (.IfExp c a b pos) (tIf tA ta tb):=by
 intro pins s σ H Q I h
 refine wpAny_IfExp (thn (hc pins s σ H _ I h) fun d s1 ⟨H1,I1,q1⟩=>?_)
 cases d with
 | true=>exact ha pins s1 σ H1 Q I1 q1
 | false=>exact hb pins s1 σ H1 Q I1 q1
end
end L2
namespace L2
open PySem PySem.Spec PyProof.Rows
def SqL (K:PySem.W.Frag) (H:Hp) (a:Addr) (xs:List V):Prop:=
 Rd H a (.lst xs)\/
  ∃ (o:Obj) (its:Array Value) (n:Nat),K.lookup a=some o/\o.cls= .type "list"/\o.dict=none/\o.data= .seq its n/\its.size <= sizeLine/\Vals xs its.toList
def SqT (K:PySem.W.Frag) (H:Hp) (a:Addr) (xs:List V):Prop:=
 Rd H a (.tup xs)\/
  ∃ (o:Obj) (its:Array Value) (n:Nat),K.lookup a=some o/\o.cls= .type "tuple"/\o.data= .seq its n/\its.size <= sizeLine/\Vals xs its.toList
def Dk:Value->Option V
 | .none=>some .non
 | .bool b=>some (.bl b)
 | .int i _=>some (.int i)
 | .str x _=>some (.str x)
 | .bytes b _=>some (.byt b)
 | .float b _=>some (.flt b)
 | .ref a=>some (.ref a)
 | .type n=>some (.ty n)
 | _=>none
theorem RelV.abs {x:V} {u:Value} (r:RelV x u):Dk u=some x:=by
 cases x with
 | non=>cases r;rfl
 | bl _=>cases r;rfl
 | int _=>obtain ⟨t,rfl⟩:=r;rfl
 | str _=>obtain ⟨t,rfl⟩:=r;rfl
 | byt _=>obtain ⟨t,rfl⟩:=r;rfl
 | flt _=>obtain ⟨t,rfl⟩:=r;rfl
 | ref _=>cases r;rfl
 | ty _=>cases r;rfl
theorem RelV.inj {x y:V} {u:Value} (r:RelV x u) (q:RelV y u):x=y:=Option.some.inj (r.abs.symm.trans q.abs)
theorem Vals.inj:∀ {xs ys:List V} {us:List Value},Vals xs us->Vals ys us->xs=ys
 | _,_,_,.nil,.nil=>rfl
 | _,_,_,.cons r t,.cons r' t'=>by rw [r.inj r',Vals.inj t t']
section
variable {X:Cx} {pins:List (Addr × Obj)} {σ:St} {H:Hp} {s:Shared} {a:Addr} {xs ys:List V}
theorem SqL.of {K:PySem.W.Frag} (h:H a=some (.lst xs)):SqL K H a xs:=.inl (.inl h)
theorem SqT.of {K:PySem.W.Frag} (h:H a=some (.tup xs)):SqT K H a xs:=.inl (.inl h)
theorem Inv.list (I:Inv X pins σ H s) (h:SqL X.K H a xs):∃ its:List Value,Vals xs its/\PlainL s.heap a its.toArray/\xs.length <= sizeLine:=by
 rcases h with h | ⟨o,its,n,hk,hc,hd,hs,hz,r⟩
 · obtain ⟨z,its,n,r,e⟩:=h.ok I.hok
   exact ⟨its,r,⟨_,n,e,rfl,rfl,rfl⟩,z⟩
 · refine ⟨its.toList,r,⟨o,n,I.kIn a o hk,hc,hd,by simpa using hs⟩,?_⟩
   have e:=r.length
   simp only [Array.length_toList] at e
   omega
theorem Inv.tuple (I:Inv X pins σ H s) (h:SqT X.K H a xs):∃ its:List Value,Vals xs its/\IsTup s.heap a its.toArray/\xs.length <= sizeLine:=by
 rcases h with h | ⟨o,its,n,hk,hc,hs,hz,r⟩
 · obtain ⟨z,its,r,p⟩:=h.ok I.hok
   exact ⟨its,r,p,z⟩
 · refine ⟨its.toList,r,⟨o,I.kIn a o hk,hc,n,by simpa using hs⟩,?_⟩
   have e:=r.length
   simp only [Array.length_toList] at e
   omega
theorem Inv.ug (I:Inv X pins σ H s) (h:SqL X.K H a xs) (h':SqL X.K H a ys):xs=ys:=by
 obtain ⟨its,r,⟨o,n,e,_,_,d⟩,_⟩:=I.list h
 obtain ⟨its',r',⟨o',n',e',_,_,d'⟩,_⟩:=I.list h'
 rw [e] at e';cases e'
 rw [d] at d'
 injection d' with d1 _
 have:its=its':=by simpa using congrArg Array.toList d1
 subst this
 exact r.inj r'
theorem Inv.rm (I:Inv X pins σ H s) (h:SqT X.K H a xs) (h':SqT X.K H a ys):xs=ys:=by
 obtain ⟨its,r,⟨o,e,_,n,d⟩,_⟩:=I.tuple h
 obtain ⟨its',r',⟨o',e',_,n',d'⟩,_⟩:=I.tuple h'
 rw [e] at e';cases e'
 rw [d] at d'
 injection d' with d1 _
 have:its=its':=by simpa using congrArg Array.toList d1
 subst this
 exact r.inj r'
end
abbrev Cx.wish (X:Cx) (E:Value->Shared->Prop):Cx:={ X with xe:=E }
abbrev Cx.nox (X:Cx):Cx:=X.wish fun _ _=>False
theorem Cx.Ok.wish {X:Cx} (ok:X.Ok) (E:Value->Shared->Prop):(X.wish E).Ok:=
 ⟨ok.mod,ok.kind,ok.glob,ok.blt,ok.above,ok.inj,ok.has,ok.cab,ok.hd,ok.frames,ok.stk,ok.exf,ok.bs,ok.bsz,ok.jX,ok.pK,ok.e_,ok.frf⟩
theorem Cx.Ok.eE {X:Cx} {E:Value->Shared->Prop} (ok:(X.wish E).Ok):X.Ok:=
 ⟨ok.mod,ok.kind,ok.glob,ok.blt,ok.above,ok.inj,ok.has,ok.cab,ok.hd,ok.frames,ok.stk,ok.exf,ok.bs,ok.bsz,ok.jX,ok.pK,ok.e_,ok.frf⟩
section
variable {X:Cx} {pins:List (Addr × Obj)} {σ:St} {H:Hp} {s:Shared} {E:Value->Shared->Prop}
theorem Inv.wish (I:Inv X pins σ H s) (E:Value->Shared->Prop):Inv (X.wish E) pins σ H s:=⟨I.ok.wish E,I.os,I.bare,I.base,I.loc,I.cell,I.free,I.dF,I.pin,I.hok,I.len⟩
theorem Inv.eE (I:Inv (X.wish E) pins σ H s):Inv X pins σ H s:=⟨I.ok.eE,I.os,I.bare,I.base,I.loc,I.cell,I.free,I.dF,I.pin,I.hok,I.len⟩
theorem SP.eE {D:Ends} {f:Flow} {s':Shared} (h:SP (X.wish E) pins D f s'):SP X pins D f s':=by
 cases f with
 | next=>obtain ⟨σ',H',I,q⟩:=h;exact ⟨σ',H',I.eE,q⟩
 | brk=>obtain ⟨σ',H',I,q⟩:=h;exact ⟨σ',H',I.eE,q⟩
 | cont=>obtain ⟨σ',H',I,q⟩:=h;exact ⟨σ',H',I.eE,q⟩
 | ret u=>obtain ⟨v,σ',H',I,r,q⟩:=h;exact ⟨v,σ',H',I.eE,r,q⟩
theorem PSs.nox {st:List Stmt} {t:TS} (h:PSs X.nox st t):PSs X st t:=fun pins s σ H D I hw=>
 wpAny_mono (h pins s σ H D (I.wish _) hw) (fun _ _ q=>q.eE) fun _ _ z=>False.elim z
end
section
variable {X:Cx} {st:Stmt} {rest:List Stmt} {t u:TS} {e:Expr} {te:TE} {pos:Pos}
def lR:TS:=fun D σ H=>D.nx σ H
def uh (t u:TS):TS:=fun D σ H=>t { D with nx:=u D } σ H
theorem cM:PSs X [] lR:=fun _ _ σ H _ I h=>wpAny_execs_nil ⟨σ,H,I,h⟩
theorem aJ (h1:PS X st t) (h2:PSs X rest u):PSs X (st::rest) (uh t u):=by
 intro pins s σ H D I h
 refine wpAny_execs_cons (thn (h1 pins s σ H { D with nx:=u D } I h) fun f s1 q=>?_)
 cases f with
 | next=>
   obtain ⟨σ',H',I',q⟩:=q
   exact h2 pins s1 σ' H' D I' q
 | ret v=>exact q
 | brk=>exact q
 | cont=>exact q
theorem aX (h1:PS X st t):PSs X [st] t:=by
 intro pins s σ H D I h
 refine wpAny_execs_cons (thn (h1 pins s σ H D I h) fun f s1 q=>?_)
 cases f with
 | next=>exact wpAny_execs_nil q
 | ret v=>exact q
 | brk=>exact q
 | cont=>exact q
theorem Inv.quiet {pins:List (Addr × Obj)} {σ:St} {H:Hp} {s:Shared} (I:Inv X pins σ H s):interactive X.env=false:=by simp [interactive,I.ok.kind]
def Bx (te:TE):TS:=fun D σ H=>te σ H fun _ H1=>D.nx σ H1
theorem jY (he:PE X e te) (hs:swapsWith e none pos.line X.env=pure false:=by rfl):PS X (.Expr e pos) (Bx te):=by
 intro pins s σ H D I h
 exact wpAny_Expr_any (thn (he pins s σ H _ I h) fun v s1 ⟨x,H1,I1,r1,q1⟩=>⟨σ,H1,I1,q1⟩) I.quiet hs
def Dl (te:TE):TS:=fun D σ H=>te σ H D.rt
theorem bK (he:PE X e te):PS X (.Return (some e) pos) (Dl te):=by
 intro pins s σ H D I h
 exact wpAny_Return_some (thn (he pins s σ H _ I h) fun v s1 ⟨x,H1,I1,r1,q1⟩=>⟨x,σ,H1,I1,r1,q1⟩)
def Dm (c:TT) (t u:TS):TS:=fun D σ H=>c σ H fun b H1=>if b=true then t D σ H1 else u D σ H1
theorem eH {c:Expr} {a b:List Stmt} {tc:TT} (hc:PT X c tc) (ha:PSs X a t) (hb:PSs X b u):PS X (.If c a b pos) (Dm tc t u):=by
 intro pins s σ H D I h
 refine wpAny_If (thn (hc pins s σ H _ I h) fun d s1 ⟨H1,I1,q1⟩=>?_)
 cases d with
 | true=>exact ha pins s1 σ H1 D I1 q1
 | false=>exact hb pins s1 σ H1 D I1 q1
end
abbrev TG:=V->St->Hp->(St->Hp->Prop)->Prop
def PG (X:Cx) (target:Expr) (t:TG):Prop:=
 ∀ (pins:List (Addr × Obj)) (s:Shared) (σ:St) (H:Hp) (v:V) (u:Value) (Q:St->Hp->Prop),Inv X pins σ H s->RelV v u->t v σ H Q->
   wpAny (model X.prog X.w) X.A (assign target X.env u) (fun _ s'=>∃ σ' H',Inv X pins σ' H' s'/\Q σ' H') X.xe s
section
variable {X:Cx} {pos:Pos}
def pM (i:Nat):TG:=fun v σ H Q=>Q (σ.set i (some v)) H
theorem iU {i:Nat} {x:Str} (hN:X.N.Nodup) (hi:X.N[i]? =some x) (hx:Loc X.env.scope x) (hf:X.fn x=true\/X.env.scope.names.lookup x=some .local:=by first | exact .inl rfl | exact .inr rfl | assumption):PG X (.Name x pos) (pM i):=by
 intro pins s σ H v u Q I r h
 exact wpAny_assign_Name (mF I hN hi hx r (fun s' I'=>⟨_,H,I',h⟩) hf)
def yG (te:TE) (g:TG):TS:=fun D σ H=>te σ H fun x H1=>g x σ H1 D.nx
theorem eF {i:Nat} {x:Str} {e:Expr} {te:TE} {pos':Pos} (hN:X.N.Nodup) (hi:X.N[i]? =some x) (hx:Loc X.env.scope x) (he:PE X e te) (hs:swapsWith e (some (.Name x pos')) pos.line X.env=pure false:=by rfl) (hf:X.fn x=true\/X.env.scope.names.lookup x=some .local:=by first | exact .inl rfl | exact .inr rfl | assumption):
 PS X (.Assign [.Name x pos'] e pos) (yG te (pM i)):=by
 intro pins s σ H D I h
 refine wpAny_Assign_Name (thn (he pins s σ H _ I h) fun v s1 ⟨y,H1,I1,r1,q1⟩=>?_) hs
 exact mF I1 hN hi hx r1 (fun s2 I2=>⟨_,H1,I2,q1⟩) hf
end
section
variable {X:Cx} {pos:Pos}
end
structure It where
 go:Nat->Hp->Prop
 yld:Nat->Hp->V->Hp->Prop
 stop:Nat->Hp->Prop
def dO (X:Cx) (pins:List (Addr × Obj)) (H:Hp) (b:Addr):Prop:=
 H b=none/\b ≠ X.env.locals/\b ∉ X.fs/\(b ∈ X.ex\/X.s₀.heap.objs.size <= b)/\(∀ x c,X.env.cells.lookup x=some c->c ≠ b)/\∀ p ∈ X.pn ++ pins,p.1 ≠ b
theorem Inv.um {X:Cx} {pins:List (Addr × Obj)} {σ:St} {H H':Hp} {s:Shared} {b:Addr} (I:Inv X pins σ H s) (hb:s.heap.objs.size <= b) (hn:H' b=none):dO X pins H' b:=by
 refine ⟨hn,Nat.ne_of_gt (Nat.lt_of_lt_of_le I.lt hb),I.De hb,.inr (Nat.le_trans I.sz hb),fun x c e z=>?_,fun p hp z=>?_⟩
 · obtain ⟨v,q⟩:=I.cell x c e
   exact absurd (Nat.lt_of_lt_of_le q.lt (by rw [z];exact hb)) (Nat.lt_irrefl _)
 · exact absurd (Nat.lt_of_lt_of_le (Heap.lt_size (I.pin p hp).1) (by rw [z];exact hb)) (Nat.lt_irrefl _)
structure Turn (P:Program) (w:World) (K:PySem.W.Frag) (tg:Expr) (J:It) (fp:List Addr) (it:Addr) (tn:Nat->Heap->Prop):Prop where
 mem:it ∈ fp
 obj:∀ i h,tn i h->∀ b ∈ fp,∃ o,h.get? b=some o/\∀ v,o.data ≠ .cell v
 keep:∀ i h h',tn i h->(∀ b ∈ fp,∀ o,h.get? b=some o->h'.get? b=some o)->tn i h'
 item:∀ (X:Cx),X.prog=P->X.w=w->X.K=K->X.calm=true->∀ (i:Nat) (pins:List (Addr × Obj)) (s:Shared) (σ:St) (H:Hp) (E:Value->Shared->Prop),Inv X pins σ H s->(∀ b ∈ fp,dO X pins H b)->tn i s.heap->J.go i H->
  wpAny (model P w) X.A (pyNext (.ref it)) (fun r s1=>∃ u,r=some u/\
   wpAny (model P w) X.A (letOwnedTupleGo tg (.ref it) u) (fun _ s2=>∃ x H',Inv X pins σ H' s2/\RelV x u/\J.yld i H x H'/\tn (i + 1) s2.heap/\∀ b ∈ fp,H' b=none) E s1) E s
 done:∀ (X:Cx),X.prog=P->X.w=w->X.K=K->X.calm=true->∀ (i:Nat) (pins:List (Addr × Obj)) (s:Shared) (σ:St) (H:Hp) (E:Value->Shared->Prop),Inv X pins σ H s->(∀ b ∈ fp,dO X pins H b)->tn i s.heap->J.stop i H->
  wpAny (model P w) X.A (pyNext (.ref it)) (fun r s1=>r=none/\Inv X pins σ H s1) E s
 self:∀ (A:Around) (i:Nat) (s:Shared) (Q:Value->Shared->Prop) (E:Value->Shared->Prop),tn i s.heap->Q (.ref it) s->wpAny (model P w) A (pyIter (.ref it)) Q E s
abbrev TI:=St->Hp->(It->Hp->Prop)->Prop
def PIE (X:Cx) (pins:List (Addr × Obj)) (σ:St) (tg:Expr) (R:It->Hp->Prop) (itv:Value) (s2:Shared):Prop:=
 ∃ (it:Addr) (fp:List Addr) (tn:Nat->Heap->Prop) (J:It) (H':Hp),itv= .ref it/\Inv X pins σ H' s2/\Turn X.prog X.w X.K tg J fp it tn/\tn 0 s2.heap/\(∀ b ∈ fp,dO X pins H' b)/\R J H'
def PI (X:Cx) (tg iter:Expr) (wi:TI):Prop:=
 ∀ (pins:List (Addr × Obj)) (s:Shared) (σ:St) (H:Hp) (R:It->Hp->Prop),Inv X pins σ H s->wi σ H R->
   wpAny (model X.prog X.w) X.A (eval iter X.env) (fun v s1=>wpAny (model X.prog X.w) X.A (pyIter v) (PIE X pins σ tg R) X.xe s1) X.xe s
theorem pN {M:Model} {A:Around} {E:Value->Shared->Prop} {s:Shared} {tg:Expr} {it:Addr} {u:Value} {o:Obj} {n:String} {vs:Array Value} {Q:Unit->Shared->Prop} (ho:s.heap.get? it=some o) (hc:o.cls= .type n) (hd:o.data= .fields vs)
 (hn:["enumerate","zip","dict_itemiterator","dict_reverseitemiterator","odict_iterator","itertools.zip_longest","itertools.pairwise"].contains n=false) (hQ:Q () s):wpAny M A (letOwnedTupleGo tg (.ref it) u) Q E s:=by
 unfold letOwnedTupleGo
 cases tg <;> first
  | exact wpAny_pure hQ
  | (cases u <;> first
      | exact wpAny_pure hQ
      | (refine wpAny_bind (wpAny_load ho ?_)
         rw [hc,hd]
         show wpAny M A (if (["enumerate","zip","dict_itemiterator","dict_reverseitemiterator","odict_iterator","itertools.zip_longest","itertools.pairwise"].contains n && vs[0]? == some (rawInt _))=true then _ else _) Q E s
         rw [if_neg (by intro h;rw [hn,Bool.false_and] at h;cases h)]
         exact wpAny_pure hQ))
def Itl (K:PySem.W.Frag) (a:Addr):It:=
 ⟨fun i H=>∃ xs x,SqL K H a xs/\xs[i]? =some x,fun i H x H'=>H'=H/\∀ xs,SqL K H a xs->xs[i]? =some x,fun i H=>∃ xs,SqL K H a xs/\xs.length <= i⟩
def Itt (K:PySem.W.Frag) (a:Addr):It:=
 ⟨fun i H=>∃ xs x,SqT K H a xs/\xs[i]? =some x,fun i H x H'=>H'=H/\∀ xs,SqT K H a xs->xs[i]? =some x,fun i H=>∃ xs,SqT K H a xs/\xs.length <= i⟩
def Itr (lo:Int) (n:Nat):It:=⟨fun i _=>i < n,fun i H x H'=>H'=H/\x= .int (lo + i),fun i _=>n <= i⟩
theorem rz {P:Program} {w:World} {K:PySem.W.Frag} {tg:Expr} (a it:Addr):Turn P w K tg (Itl K a) [it] it (fun i h=>h.IsListIter it a i) where
 mem:=by simp
 obj:=fun i h st b hb=>by
  have e:b=it:=by simpa using hb
  subst e
  obtain ⟨o,e,c,d⟩:=st
  exact ⟨o,e,fun v z=>by rw [d] at z;cases z⟩
 keep:=fun i h h' st k=>st.at fun o e=>k it (by simp) o e
 item:=by
  intro X hP hw hK hc i pins s σ H E I hf st hg
  subst hP hw hK
  obtain ⟨xs,x,hq,hx⟩:=hg
  obtain ⟨its,rv,p,hz⟩:=I.list hq
  obtain ⟨u,hu,ru⟩:=rv.get hx
  obtain ⟨f0,f1,f2,f3,f4,f5⟩:=hf it (by simp)
  refine wpAny_pyNext_list_item st p.isList (x:=u) (by simpa using hu) fun h' st' sb=>?_
  have I1:Inv X pins σ H { s with heap:=h' }:=I.turned (t':=s.toks) (fun b o hb e=>(sb.2 b hb).trans e) f0 f1 f3 f4 f5
  obtain ⟨o,e,c,d⟩:=id st'
  exact ⟨u,rfl,pN (s:={ s with heap:=h' }) e c d (by decide) ⟨x,H,I1,ru,⟨rfl,fun ys hy=>by rw [I.ug hy hq];exact hx⟩,st',fun b hb=>(hf b hb).1⟩⟩
 done:=by
  intro X hP hw hK hc i pins s σ H E I hf st hg
  subst hP hw hK
  obtain ⟨xs,hq,hx⟩:=hg
  obtain ⟨its,rv,p,hz⟩:=I.list hq
  obtain ⟨f0,f1,f2,f3,f4,f5⟩:=hf it (by simp)
  have hl:=rv.length
  exact wpAny_pyNext_list_end (I.ok.hd hc) st p.isList (by simp;omega) fun h' eb=>⟨rfl,I.turned (t':=s.toks) (fun b o hb e=>eb b o hb e) f0 f1 f3 f4 f5⟩
 self:=fun _ _ _ _ _ st h=>wpAny_pyIter_listiter st h
theorem pO {P:Program} {w:World} {K:PySem.W.Frag} {tg:Expr} (a it:Addr):Turn P w K tg (Itt K a) [it] it (fun i h=>h.IsTupleIter it a i) where
 mem:=by simp
 obj:=fun i h st b hb=>by
  have e:b=it:=by simpa using hb
  subst e
  obtain ⟨o,e,c,d⟩:=st
  exact ⟨o,e,fun v z=>by rw [d] at z;cases z⟩
 keep:=fun i h h' st k=>st.at fun o e=>k it (by simp) o e
 item:=by
  intro X hP hw hK hc i pins s σ H E I hf st hg
  subst hP hw hK
  obtain ⟨xs,x,hq,hx⟩:=hg
  obtain ⟨its,rv,p,hz⟩:=I.tuple hq
  obtain ⟨u,hu,ru⟩:=rv.get hx
  obtain ⟨f0,f1,f2,f3,f4,f5⟩:=hf it (by simp)
  refine wpAny_pyNext_tuple_item st (show s.heap.IsTuple a its.toArray from p) (x:=u) (by simpa using hu) fun h' st' sb=>?_
  have I1:Inv X pins σ H { s with heap:=h' }:=I.turned (t':=s.toks) (fun b o hb e=>(sb.2 b hb).trans e) f0 f1 f3 f4 f5
  obtain ⟨o,e,c,d⟩:=id st'
  exact ⟨u,rfl,pN (s:={ s with heap:=h' }) e c d (by decide) ⟨x,H,I1,ru,⟨rfl,fun ys hy=>by rw [I.rm hy hq];exact hx⟩,st',fun b hb=>(hf b hb).1⟩⟩
 done:=by
  intro X hP hw hK hc i pins s σ H E I hf st hg
  subst hP hw hK
  obtain ⟨xs,hq,hx⟩:=hg
  obtain ⟨its,rv,p,hz⟩:=I.tuple hq
  obtain ⟨f0,f1,f2,f3,f4,f5⟩:=hf it (by simp)
  have hl:=rv.length
  exact wpAny_pyNext_tuple_end (I.ok.hd hc) st (show s.heap.IsTuple a its.toArray from p) (by simp;omega) fun h' eb=>⟨rfl,I.turned (t':=s.toks) (fun b o hb e=>eb b o hb e) f0 f1 f3 f4 f5⟩
 self:=fun _ _ _ _ _ st h=>wpAny_pyIter_tupleiter st h
theorem pP {P:Program} {w:World} {K:PySem.W.Frag} {tg:Expr} (it:Addr) (lo:Int) (n:Nat):Turn P w K tg (Itr lo n) [it] it (fun i h=>IsRangeIter h it (lo + (i:Nat) * 1) ((n:Int) - (i:Nat)) 1) where
 mem:=by simp
 obj:=fun i h st b hb=>by
  have e:b=it:=by simpa using hb
  subst e
  exact ⟨_,st,fun v z=>by
   have z':Data.fields _=Data.cell v:=z
   cases z'⟩
 keep:=fun i h h' st k=>k it (by simp) _ st
 item:=by
  intro X hP hw hK hc i pins s σ H E I hf st hg
  subst hP hw hK
  obtain ⟨f0,f1,f2,f3,f4,f5⟩:=hf it (by simp)
  have W:=Walks.range (prog:=X.prog) (w:=X.w) (I.ok.hd hc) it lo 1 n
  refine W.item i s _ _ hg st fun v h' tk hv st' kk=>?_
  obtain ⟨t,rfl⟩:=hv
  have I1:Inv X pins σ H { s with heap:=h',toks:=tk }:=I.turned (fun b o hb e=>kk b o (by simpa using hb) e) f0 f1 f3 f4 f5
  refine ⟨_,rfl,pN (s:={ s with heap:=h',toks:=tk }) (n:="range_iterator") st' rfl rfl (by decide) ⟨.int (lo + i),H,I1,⟨t,?_⟩,⟨rfl,rfl⟩,st',fun b hb=>(hf b hb).1⟩⟩
  rw [Int.mul_one]
 done:=by
  intro X hP hw hK hc i pins s σ H E I hf st hg
  subst hP hw hK
  obtain ⟨f0,f1,f2,f3,f4,f5⟩:=hf it (by simp)
  exact wpAny_pyNext_range_end (I.ok.hd hc) st (by have:n <= i:=hg;omega) fun h' eb=>⟨rfl,I.turned (t':=s.toks) (fun b o hb e=>eb b o hb e) f0 f1 f3 f4 f5⟩
 self:=fun _ _ _ _ _ st h=>wpAny_pyIter_rangeiter st h
end L2
namespace L2
open PySem PySem.Spec PyProof.Rows
section
variable {X:Cx} {tg:Expr}
def pQ (K:PySem.W.Frag) (tl:TE):TI:=fun σ H R=>tl σ H fun x H1=>∃ a,x= .ref a/\(∃ xs,SqL K H1 a xs)/\R (Itl K a) H1
def uo (K:PySem.W.Frag) (tl:TE):TI:=fun σ H R=>tl σ H fun x H1=>∃ a,x= .ref a/\(∃ xs,SqT K H1 a xs)/\R (Itt K a) H1
theorem oK {l:Expr} {tl:TE} (hl:PE X l tl):PI X tg l (pQ X.K tl):=by
 intro pins s σ H R I h
 refine thn (hl pins s σ H _ I h) fun v s1 ⟨x,H1,I1,r1,q1⟩=>?_
 obtain ⟨a,e,⟨xs,hq⟩,q⟩:=q1
 subst e
 cases r1
 obtain ⟨its,rv,p,hz⟩:=I1.list hq
 refine wpAny_pyIter_list p.isList ?_
 refine ⟨s1.heap.objs.size,[s1.heap.objs.size],_,_,H1,rfl,I1.kept (t':=s1.toks) fun b o e=>Heap.get?_push_of_some _ e,rz a _,⟨_,Heap.get?_push_size _ rfl,rfl,rfl⟩,fun b hb=>?_,q⟩
 have e:b=s1.heap.objs.size:=by simpa using hb
 subst e
 exact I1.um (Nat.le_refl _) (I1.hok.fresh (Nat.le_refl _))
theorem yH {l:Expr} {tl:TE} (hl:PE X l tl):PI X tg l (uo X.K tl):=by
 intro pins s σ H R I h
 refine thn (hl pins s σ H _ I h) fun v s1 ⟨x,H1,I1,r1,q1⟩=>?_
 obtain ⟨a,e,⟨xs,hq⟩,q⟩:=q1
 subst e
 cases r1
 obtain ⟨its,rv,p,hz⟩:=I1.tuple hq
 refine wpAny_pyIter_tuple (show s1.heap.IsTuple a its.toArray from p) ?_
 refine ⟨s1.heap.objs.size,[s1.heap.objs.size],_,_,H1,rfl,I1.kept (t':=s1.toks) fun b o e=>Heap.get?_push_of_some _ e,pO a _,⟨_,Heap.get?_push_size _ rfl,rfl,rfl⟩,fun b hb=>?_,q⟩
 have e:b=s1.heap.objs.size:=by simpa using hb
 subst e
 exact I1.um (Nat.le_refl _) (I1.hok.fresh (Nat.le_refl _))
theorem uq {pins:List (Addr × Obj)} {σ:St} {H:Hp} {s:Shared} {R:It->Hp->Prop} {E:Value->Shared->Prop} {lo hi:Int} {t u v:Tok} {tk:Nat} (I:Inv X pins σ H s) (h1: -(2 ^ 62) <= lo) (h2:lo < 2 ^ 62) (h3: -(2 ^ 62) <= hi) (h4:hi < 2 ^ 62)
 (q:R (Itr lo (hi - lo).toNat) H):wpAny (model X.prog X.w) X.A (pyIter (.ref s.heap.objs.size)) (PIE X pins σ tg R) E { s with heap:=s.heap.push { cls:=.type "range",data:=.fields #[.int lo t,.int hi u,.int 1 v] },toks:=tk }:=by
 refine wpAny_pyIter_range (IsRange.new ..) (small_one h1 h2 h3 h4) ?_
 have I1:Inv X pins σ H { s with heap:=s.heap.push { cls:=.type "range",data:=.fields #[.int lo t,.int hi u,.int 1 v] },toks:=tk }:=I.kept fun b o e=>Heap.get?_push_of_some _ e
 refine ⟨(s.heap.push { cls:=.type "range",data:=.fields #[.int lo t,.int hi u,.int 1 v] }).objs.size,[(s.heap.push { cls:=.type "range",data:=.fields #[.int lo t,.int hi u,.int 1 v] }).objs.size],_,_,H,rfl,
  I1.kept (t':=tk) fun b o e=>Heap.get?_push_of_some _ e,pP _ lo (hi - lo).toNat,?_,fun b hb=>?_,q⟩
 · have e1:lo + ((0:Nat):Int) * 1=lo:=by simp
   have e2:(((hi - lo).toNat:Nat):Int) - ((0:Nat):Int)=Builtin.Range.rangeSize lo hi 1:=by rw [rangeSize_one];split <;> omega
   show IsRangeIter _ _ (lo + ((0:Nat):Int) * 1) ((((hi - lo).toNat:Nat):Int) - ((0:Nat):Int)) 1
   rw [e1,e2]
   exact Heap.get?_push_size _ rfl
 · have e:b=(s.heap.push { cls:=.type "range",data:=.fields #[.int lo t,.int hi u,.int 1 v] }).objs.size:=by simpa using hb
   subst e
   exact I1.um (Nat.le_refl _) (I1.hok.fresh (Nat.le_refl _))
def vC (ta:TA):TI:=fun σ H R=>ta σ H fun vs H1=>∃ j:Int,vs= [.int j]/\-(2 ^ 62) <= j/\j < 2 ^ 62/\R (Itr 0 j.toNat) H1
theorem g_ {a:Expr} {ta:TA} {p pos:Pos} (hg:Gl X "range") (hm:X.mg "range" =none) (ha:PA X [a] ta) (hs:starEach [a] X.env= [(false,eval a X.env)]:=by rfl):PI X tg (.Call (.Name "range" p) [a] [] pos) (vC ta):=by
 intro pins s σ H R I h
 refine Call_ (jA I hg hm boot_range (PyProof.Rows.callWith_type1 (thn (ha pos pins s σ H _ I h) fun us s1 ⟨vs,H1,I1,r1,q1⟩=>?_) hs rfl))
 obtain ⟨j,e,q1,q2,q⟩:=q1
 subst e
 cases r1 with
 | cons r rr=>
   cases rr
   obtain ⟨t,rfl⟩:=r
   exact call_range_1 (uq I1 (by omega) (by omega) q1 q2 (by simpa using q))
def ur (wi:TI) (g:TG) (tb:TS):TS:=fun D σ H=>wi σ H fun J H1=>∃ W:Nat->Nat->St->Hp->Prop,(∃ m,W 0 m σ H1)/\∀ i m σ H,W i m σ H->
 (J.stop i H/\D.nx σ H)\/(J.go i H/\∃ N:St->Hp->Prop,(∀ σ' H',N σ' H'->∃ m',m' < m/\W (i + 1) m' σ' H')/\∀ x H',J.yld i H x H'->g x σ H' fun σ2 H2=>tb { D with nx:=N,ct:=N,bk:=D.nx } σ2 H2)
def h_ (fp:List Addr) (h:Heap):List (Addr × Obj):=fp.filterMap fun b=>(h.get? b).map fun o=>(b,o)
theorem eN {fp:List Addr} {h:Heap} {b:Addr} {o:Obj} (hb:b ∈ fp) (e:h.get? b=some o):(b,o) ∈ h_ fp h:=List.mem_filterMap.mpr ⟨b,hb,by rw [e];rfl⟩
theorem rA {fp:List Addr} {h:Heap} {p:Addr × Obj} (hp:p ∈ h_ fp h):p.1 ∈ fp/\h.get? p.1=some p.2:=by
 obtain ⟨b,hb,e⟩:=List.mem_filterMap.mp hp
 cases q:h.get? b with
 | none=>rw [q] at e;cases e
 | some o=>
   rw [q] at e
   have e':(b,o)=p:=Option.some.inj e
   subst e'
   exact ⟨hb,q⟩
theorem Inv.pinned {pins:List (Addr × Obj)} {σ:St} {H:Hp} {s:Shared} {fp:List Addr} (I:Inv X pins σ H s) (hf:∀ b ∈ fp,dO X pins H b) (ho:∀ b ∈ fp,∃ o,s.heap.get? b=some o/\∀ v,o.data ≠ .cell v):Inv X (pins ++ h_ fp s.heap) σ H s:=
 I.oJ fun p hp=>(List.mem_append.mp hp).elim (fun z=>I.pin p (List.mem_append_right _ z)) fun z=>by
  obtain ⟨hb,e⟩:=rA z
  obtain ⟨f0,f1,f2,_⟩:=hf p.1 hb
  obtain ⟨o,e',d⟩:=ho p.1 hb
  rw [e] at e';cases e'
  exact ⟨e,f0,f1,f2,d⟩
theorem Inv.gF {pins pl:List (Addr × Obj)} {σ:St} {H:Hp} {s:Shared} (I:Inv X (pins ++ pl) σ H s):Inv X pins σ H s:=I.oJ fun p hp=>I.pin p (List.mem_append_right _ (List.mem_append_left _ hp))
theorem mJ {iter:Expr} {body:List Stmt} {wi:TI} {g:TG} {tb:TS} {pos:Pos} (hp:PassesOwn (model X.prog X.w) X.A X.env X.xe) (hc:X.calm=true) (hi:PI X tg iter wi) (hg:PG X tg g) (hb:PSs X body tb)
 (hs:∀ x,foldedSetIterable iter X.env x=pure x:=by intro _;rfl):PS X (.For tg iter body [] pos) (ur wi g tb):=by
 intro pins s σ H D I h
 refine wpAny_For (thn (hi pins s σ H _ I h) fun v s1 h1=>thn h1 fun itv s2 h2=>?_) hs
 obtain ⟨it,fp,tn,J,H2,e,I2,T,st2,f2,W,⟨m0,w0⟩,turn⟩:=h2
 subst e
 have stat:∀ {H':Hp},(∀ b ∈ fp,H' b=none)->∀ b ∈ fp,dO X pins H' b:=fun hn b hb=>⟨hn b hb,(f2 b hb).2⟩
 refine codeAny_forLoop_any (fun n s'=>∃ i σ' H',Inv X pins σ' H' s'/\tn i s'.heap/\(∀ b ∈ fp,H' b=none)/\W i n σ' H') ?_ m0 ⟨0,σ,H2,I2,st2,fun b hb=>(f2 b hb).1,w0⟩
 rintro n s3 ⟨i,σ3,H3,I3,st3,fr3,w3⟩
 rcases turn i n σ3 H3 w3 with ⟨stop,qn⟩ | ⟨go,N,hN,step⟩
 · refine wpAny_passesOwn hp (thn (T.done X rfl rfl rfl hc i pins s3 σ3 H3 X.xe I3 (stat fr3) st3 stop) fun r s4 ⟨hr,I4⟩=>?_)
   subst hr
   exact wpAny_execs_nil ⟨σ3,H3,I4,qn⟩
 · refine wpAny_passesOwn hp (thn (T.item X rfl rfl rfl hc i pins s3 σ3 H3 X.xe I3 (stat fr3) st3 go) fun r s4 ⟨u,hr,h4⟩=>?_)
   subst hr
   refine wpAny_passesOwn hp (thn h4 fun _ s5 ⟨x,H5,I5,r5,y5,st5,fr5⟩=>?_)
   have I5':=I5.pinned (stat fr5) (T.obj _ _ st5)
   refine wpAny_passesOwn hp (thn (hg _ s5 σ3 H5 x u _ I5' r5 (step x H5 y5)) fun _ s6 ⟨σ6,H6,I6,q6⟩=>?_)
   refine wpAny_passesOwn hp (thn (hb _ s6 σ6 H6 _ I6 q6) fun f s7 q7=>?_)
   have again:∀ {σ7:St} {H7:Hp},Inv X (pins ++ h_ fp s5.heap) σ7 H7 s7->N σ7 H7->∃ m,m < n/\∃ i σ' H',Inv X pins σ' H' s7/\tn i s7.heap/\(∀ b ∈ fp,H' b=none)/\W i m σ' H':=fun {σ7 H7} I7 n7=>by
    obtain ⟨m',hm,w7⟩:=hN σ7 H7 n7
    refine ⟨m',hm,i + 1,σ7,H7,I7.gF,T.keep _ _ _ st5 fun b hb o e=>(I7.pin (b,o) (List.mem_append_right _ (List.mem_append_right _ (eN hb e)))).1,fun b hb=>?_,w7⟩
    obtain ⟨o,e,d⟩:=T.obj _ _ st5 b hb
    exact (I7.pin (b,o) (List.mem_append_right _ (List.mem_append_right _ (eN hb e)))).2.1
   cases f with
   | next=>obtain ⟨σ7,H7,I7,n7⟩:=q7;exact again I7 n7
   | cont=>obtain ⟨σ7,H7,I7,n7⟩:=q7;exact again I7 n7
   | brk=>obtain ⟨σ7,H7,I7,q7⟩:=q7;exact ⟨σ7,H7,I7.gF,q7⟩
   | ret v=>obtain ⟨x7,σ7,H7,I7,r7,q7⟩:=q7;exact ⟨x7,σ7,H7,I7.gF,r7,q7⟩
end
theorem uv {K:PySem.W.Frag} {a:Addr} {xs:List V} {g:TG} {tb:TS} {D:Ends} {σ:St} {H:Hp} (Pv:Nat->St->Hp->Prop) (h0:Pv 0 σ H) (hl:∀ i σ H,i <= xs.length->Pv i σ H->SqL K H a xs)
 (hs:∀ i x σ H,xs[i]? =some x->Pv i σ H->g x σ H fun σ2 H2=>tb { D with nx:=Pv (i + 1),ct:=Pv (i + 1),bk:=D.nx } σ2 H2) (hd:∀ σ H,Pv xs.length σ H->D.nx σ H):
 ∃ W:Nat->Nat->St->Hp->Prop,(∃ m,W 0 m σ H)/\∀ i m σ H,W i m σ H->
   ((Itl K a).stop i H/\D.nx σ H)\/((Itl K a).go i H/\∃ N:St->Hp->Prop,(∀ σ' H',N σ' H'->∃ m',m' < m/\W (i + 1) m' σ' H')/\∀ x H',(Itl K a).yld i H x H'->g x σ H' fun σ2 H2=>tb { D with nx:=N,ct:=N,bk:=D.nx } σ2 H2):=by
 refine ⟨fun i m σ H=>m=xs.length - i/\i <= xs.length/\Pv i σ H,⟨xs.length,by simp,Nat.zero_le _,h0⟩,?_⟩
 rintro i m σ H ⟨rfl,hi,p⟩
 have q:=hl i σ H hi p
 by_cases hlt:i < xs.length
 · refine .inr ⟨⟨xs,xs[i],q,by simp [hlt]⟩,Pv (i + 1),fun σ' H' p'=>⟨xs.length - (i + 1),by omega,rfl,hlt,p'⟩,fun x H' y=>?_⟩
   obtain ⟨e,y⟩:=y
   subst e
   exact hs i x σ _ (y xs q) p
 · have e:i=xs.length:=by omega
   subst e
   exact .inl ⟨⟨xs,q,Nat.le_refl _⟩,hd σ H p⟩
theorem rB {lo:Int} {n:Nat} {g:TG} {tb:TS} {D:Ends} {σ:St} {H:Hp} (Pv:Nat->St->Hp->Prop) (h0:Pv 0 σ H)
 (hs:∀ i σ H,i < n->Pv i σ H->g (.int (lo + i)) σ H fun σ2 H2=>tb { D with nx:=Pv (i + 1),ct:=Pv (i + 1),bk:=D.nx } σ2 H2) (hd:∀ σ H,Pv n σ H->D.nx σ H):
 ∃ W:Nat->Nat->St->Hp->Prop,(∃ m,W 0 m σ H)/\∀ i m σ H,W i m σ H->
   ((Itr lo n).stop i H/\D.nx σ H)\/((Itr lo n).go i H/\∃ N:St->Hp->Prop,(∀ σ' H',N σ' H'->∃ m',m' < m/\W (i + 1) m' σ' H')/\∀ x H',(Itr lo n).yld i H x H'->g x σ H' fun σ2 H2=>tb { D with nx:=N,ct:=N,bk:=D.nx } σ2 H2):=by
 refine ⟨fun i m σ H=>m=n - i/\i <= n/\Pv i σ H,⟨n,by simp,Nat.zero_le _,h0⟩,?_⟩
 rintro i m σ H ⟨rfl,hi,p⟩
 by_cases hlt:i < n
 · refine .inr ⟨hlt,Pv (i + 1),fun σ' H' p'=>⟨n - (i + 1),by omega,rfl,hlt,p'⟩,fun x H' y=>?_⟩
   obtain ⟨e,y⟩:=y
   subst e y
   exact hs i σ _ hlt p
 · have e:i=n:=by omega
   subst e
   exact .inl ⟨Nat.le_refl _,hd σ H p⟩
end L2
namespace L2
open PySem PySem.Spec PyProof.Rows
abbrev R2:=V->V->Hp->VK->Prop
def OpR (X:Cx) (f:Value->Value->Sem Value) (r:R2):Prop:=
 ∀ (pins:List (Addr × Obj)) (s:Shared) (σ:St) (H:Hp) (x y:V) (v u:Value) (Q:VK),Inv X pins σ H s->RelV x v->RelV y u->r x y H Q->
   wpAny (model X.prog X.w) X.A (f v u) (EP X pins σ Q) X.xe s
def UnR (X:Cx) (f:Value->Sem Value) (r:V->Hp->VK->Prop):Prop:=
 ∀ (pins:List (Addr × Obj)) (s:Shared) (σ:St) (H:Hp) (x:V) (v:Value) (Q:VK),Inv X pins σ H s->RelV x v->r x H Q->
   wpAny (model X.prog X.w) X.A (f v) (EP X pins σ Q) X.xe s
def bT (X:Cx) (f:Value) (r:List V->Hp->VK->Prop):Prop:=
 ∀ (pins:List (Addr × Obj)) (s:Shared) (σ:St) (H:Hp) (xs:List V) (us:List Value) (Q:VK),Inv X pins σ H s->Vals xs us->r xs H Q->
   wpAny (model X.prog X.w) X.A (call f us) (EP X pins σ Q) X.xe s
def Dp (X:Cx) (r:V->Hp->(Bool->Hp->Prop)->Prop):Prop:=
 ∀ (pins:List (Addr × Obj)) (s:Shared) (σ:St) (H:Hp) (x:V) (v:Value) (Q:Bool->Hp->Prop),Inv X pins σ H s->RelV x v->r x H Q->
   wpAny (model X.prog X.w) X.A (truthy v) (TP X pins σ Q) X.xe s
def tOp (r:R2) (ta tb:TE):TE:=fun σ H Q=>ta σ H fun x H1=>tb σ H1 fun y H2=>r x y H2 Q
def tUn (r:V->Hp->VK->Prop) (ta:TE):TE:=fun σ H Q=>ta σ H fun x H1=>r x H1 Q
def rI (C:Int->Int->Prop) (g:Int->Int->V):R2:=fun x y H Q=>∃ i j,x= .int i/\y= .int j/\C i j/\Q (g i j) H
def rI0 (g:Int->Int->V):R2:=fun x y H Q=>∃ i j,x= .int i/\y= .int j/\Q (g i j) H
def rU (g:Int->V):V->Hp->VK->Prop:=fun x H Q=>∃ i,x= .int i/\Q (g i) H
section
variable {X:Cx} {a b c:Expr} {ta tb tc:TE} {pos:Pos}
theorem uw (ha:PE X a ta) (hb:PE X b tb) {pins:List (Addr × Obj)} {s:Shared} {σ:St} {H:Hp} {R:V->V->Hp->Prop} (I:Inv X pins σ H s)
 (h:ta σ H fun x H1=>tb σ H1 fun y H2=>R x y H2) {Q:Value->Shared->Prop} {f:Value->Value->Sem Value}
 (hf:∀ v u s2 x y H2,Inv X pins σ H2 s2->RelV x v->RelV y u->R x y H2->wpAny (model X.prog X.w) X.A (f v u) Q X.xe s2):
 wpAny (model X.prog X.w) X.A (eval a X.env) (fun v s₁=>wpAny (model X.prog X.w) X.A (eval b X.env) (fun u s₂=>wpAny (model X.prog X.w) X.A (f v u) Q X.xe s₂) X.xe s₁) X.xe s:=by
 refine thn (ha pins s σ H _ I h) fun v s1 ⟨x,H1,I1,r1,q1⟩=>?_
 refine thn (hb pins s1 σ H1 _ I1 q1) fun u s2 ⟨y,H2,I2,r2,q2⟩=>?_
 exact hf v u s2 x y H2 I2 r1 r2 q2
theorem aN {op:Operator} {r:R2} (ho:OpR X (binaryOp op) r) (ha:PE X a ta) (hb:PE X b tb):PE X (.BinOp a op b pos) (tOp r ta tb):=by
 intro pins s σ H Q I h
 exact wpAny_BinOp (uw ha hb I h fun v u s2 x y H2 I2 rx ry q=>ho pins s2 σ H2 x y v u Q I2 rx ry q)
theorem By {op:UnaryOp} {r:V->Hp->VK->Prop} (ho:UnR X (unaryOp op) r) (ha:PE X a ta):PE X (.UnaryOp op a pos) (tUn r ta):=by
 intro pins s σ H Q I h
 exact UnaryOp_ (thn (ha pins s σ H _ I h) fun v s1 ⟨x,H1,I1,r1,q1⟩=>ho pins s1 σ H1 x v Q I1 r1 q1)
theorem opI {f:Value->Value->Sem Value} {C:Int->Int->Prop} {g:Int->Int->Int}
 (rule:∀ (i j:Int) (t u:Tok) (s:Shared) (Q:Value->Shared->Prop) (E:Value->Shared->Prop),C i j->Q (.int (g i j) s.toks) { s with toks:=s.toks + 1 }->wpAny (model X.prog X.w) X.A (f (.int i t) (.int j u)) Q E s):
 OpR X f (rI C fun i j=>.int (g i j)):=by
 intro pins s σ H x y v u Q I rx ry h
 obtain ⟨i,j,rfl,rfl,hc,q⟩:=h
 obtain ⟨t,rfl⟩:=rx
 obtain ⟨t',rfl⟩:=ry
 exact rule i j t t' s _ _ hc ⟨.int (g i j),H,I.tok _,⟨_,rfl⟩,q⟩
theorem yI {f:Value->Value->Sem Value} {g:Int->Int->Int}
 (rule:∀ (i j:Int) (t u:Tok) (s:Shared) (Q:Value->Shared->Prop) (E:Value->Shared->Prop),Q (.int (g i j) s.toks) { s with toks:=s.toks + 1 }->wpAny (model X.prog X.w) X.A (f (.int i t) (.int j u)) Q E s):
 OpR X f (rI0 fun i j=>.int (g i j)):=by
 intro pins s σ H x y v u Q I rx ry h
 obtain ⟨i,j,rfl,rfl,q⟩:=h
 obtain ⟨t,rfl⟩:=rx
 obtain ⟨t',rfl⟩:=ry
 exact rule i j t t' s _ _ ⟨.int (g i j),H,I.tok _,⟨_,rfl⟩,q⟩
theorem ux {f:Value->Value->Sem Value} {g:Int->Int->Bool}
 (rule:∀ (i j:Int) (t u:Tok) (s:Shared) (Q:Value->Shared->Prop) (E:Value->Shared->Prop),Q (.bool (g i j)) s->wpAny (model X.prog X.w) X.A (f (.int i t) (.int j u)) Q E s):
 OpR X f (rI0 fun i j=>.bl (g i j)):=by
 intro pins s σ H x y v u Q I rx ry h
 obtain ⟨i,j,rfl,rfl,q⟩:=h
 obtain ⟨t,rfl⟩:=rx
 obtain ⟨t',rfl⟩:=ry
 exact rule i j t t' s _ _ ⟨.bl (g i j),H,I,rfl,q⟩
def uy (i j:Int):Prop:=0 <= j/\j <= 1000000/\i.natAbs < 2 ^ 64
def uz (i j:Int):Prop:=(-(2 ^ 64) < i/\i < 2 ^ 64)\/(-(2 ^ 64) < j/\j < 2 ^ 64)
theorem uz.ok {i j:Int} (h:uz i j):IntMulOk i j:=by
 rcases h with ⟨h1,h2⟩ | ⟨h1,h2⟩
 · exact .of_left (intBits_le_64 h1 h2)
 · exact .of_right (intBits_le_64 h1 h2)
theorem eG:OpR X (binaryOp .Add) (rI0 fun i j=>.int (i + j)):=yI fun _ _ _ _ _ _ _ q=>add_int q
theorem rC:OpR X (binaryOp .Sub) (rI0 fun i j=>.int (i - j)):=yI fun _ _ _ _ _ _ _ q=>sub_int q
theorem fu:OpR X (binaryOp .Mod) (rI (fun _ j=>0 < j) fun i j=>.int (i % j)):=opI fun i j _ _ _ _ _ hc q=>by
 have h1:(0:Int) < j:=hc
 exact mod_int' (by omega) (by rw [Int.fmod_eq_emod_of_nonneg i (by omega)];exact q)
theorem mK:OpR X (binaryOp .Pow) (rI uy fun i j=>.int (i ^ j.toNat)):=opI fun _ _ _ _ _ _ _ hc q=>pow_int_small hc.1 hc.2.1 hc.2.2 q
theorem unI {f:Value->Sem Value} {g:Int->Int}
 (rule:∀ (i:Int) (t:Tok) (s:Shared) (Q:Value->Shared->Prop) (E:Value->Shared->Prop),Q (.int (g i) s.toks) { s with toks:=s.toks + 1 }->wpAny (model X.prog X.w) X.A (f (.int i t)) Q E s):
 UnR X f (rU fun i=>.int (g i)):=by
 intro pins s σ H x v Q I rx h
 obtain ⟨i,rfl,q⟩:=h
 obtain ⟨t,rfl⟩:=rx
 exact rule i t s _ _ ⟨.int (g i),H,I.tok _,⟨_,rfl⟩,q⟩
theorem rD:UnR X (unaryOp .USub) (rU fun i=>.int (-i)):=unI fun _ _ _ _ _ q=>neg_int q
end
def Dq:V->V->Bool
 | .non,.non=>true | .non,.int _=>true | .int _,.non=>true | .non,.bl _=>true | .bl _,.non=>true | .non,.str _=>true | .str _,.non=>true
 | .int _,.int _=>true | .bl _,.bl _=>true | .str _,.str _=>true | .byt _,.byt _=>true
 | .int _,.str _=>true | .str _,.int _=>true | .bl _,.str _=>true | .str _,.bl _=>true
 | _,_=>false
def rEq:R2:=fun x y H Q=>Dq x y=true/\Q (.bl (decide (x=y))) H
theorem oM {i j:Int}:decide (V.int i=V.int j)=(i == j):=by
 rw [Bool.eq_iff_iff]
 simp
theorem rE {i j:Bool}:decide (V.bl i=V.bl j)=(i == j):=by
 rw [Bool.eq_iff_iff]
 simp
theorem oN {i j:Str}:decide (V.str i=V.str j)=(i == j):=by
 rw [Bool.eq_iff_iff]
 simp
theorem wN {i j:Array UInt8}:decide (V.byt i=V.byt j)=(i.toList == j.toList):=by
 rw [Bool.eq_iff_iff]
 cases i
 cases j
 simp
section
variable {X:Cx} {a b c:Expr} {ta tb tc:TE} {pos:Pos}
theorem bC {pins:List (Addr × Obj)} {σ:St} {H:Hp} {s:Shared} {Q:VK} {k k':Bool} (I:Inv X pins σ H s) (q:Q (.bl k) H) (e:k=k'):EP X pins σ Q (.bool k') s:=by
 subst e
 exact ⟨.bl k,H,I,rfl,q⟩
theorem jB:OpR X (compareOp .Eq) rEq:=by
 intro pins s σ H x y v u Q I rx ry h
 obtain ⟨hs,q⟩:=h
 cases x with
 | non=>
   cases rx
   cases y with
   | non=>cases ry;exact PySem.EqNone.eq_none_none (bC I q (by simp))
   | bl j=>cases ry;exact PySem.EqNone.eq_none_bool (bC I q (by simp))
   | int j=>obtain ⟨t',rfl⟩:=ry;exact PySem.EqNone.eq_none_int (bC I q (by simp))
   | str j=>obtain ⟨t',rfl⟩:=ry;exact PySem.EqNone.eq_none_str (bC I q (by simp))
   | _=>exact absurd (show false=true from hs) Bool.false_ne_true
 | bl i=>
   cases rx
   cases y with
   | non=>cases ry;exact PySem.EqNone.eq_bool_none (bC I q (by simp))
   | bl j=>cases ry;exact eq_bool (bC I q rE)
   | str j=>obtain ⟨t',rfl⟩:=ry;exact PySem.EqMixed.eq_bool_str (bC I q (by simp))
   | _=>exact absurd (show false=true from hs) Bool.false_ne_true
 | int i=>
   obtain ⟨t,rfl⟩:=rx
   cases y with
   | non=>cases ry;exact PySem.EqNone.eq_int_none (bC I q (by simp))
   | int j=>obtain ⟨t',rfl⟩:=ry;exact eq_int (bC I q oM)
   | str j=>obtain ⟨t',rfl⟩:=ry;exact PySem.EqMixed.eq_int_str (bC I q (by simp))
   | _=>exact absurd (show false=true from hs) Bool.false_ne_true
 | str i=>
   obtain ⟨t,rfl⟩:=rx
   cases y with
   | non=>cases ry;exact PySem.EqNone.eq_str_none (bC I q (by simp))
   | bl j=>cases ry;exact PySem.EqMixed.eq_str_bool (bC I q (by simp))
   | int j=>obtain ⟨t',rfl⟩:=ry;exact PySem.EqMixed.eq_str_int (bC I q (by simp))
   | str j=>obtain ⟨t',rfl⟩:=ry;exact eq_str (bC I q oN)
   | _=>exact absurd (show false=true from hs) Bool.false_ne_true
 | byt i=>
   obtain ⟨t,rfl⟩:=rx
   cases y with
   | byt j=>obtain ⟨t',rfl⟩:=ry;exact PySem.W.eq_bytes (bC I q wN)
   | _=>exact absurd (show false=true from hs) Bool.false_ne_true
 | _=>cases y <;> exact absurd (show false=true from hs) Bool.false_ne_true
theorem BJ:OpR X (compareOp .Lt) (rI0 fun i j=>.bl (decide (i < j))):=ux fun _ _ _ _ _ _ _ q=>lt_int q
theorem BK:OpR X (compareOp .Gt) (rI0 fun i j=>.bl (decide (j < i))):=ux fun _ _ _ _ _ _ _ q=>gt_int q
theorem BL:OpR X (compareOp .GtE) (rI0 fun i j=>.bl (decide (j <= i))):=ux fun _ _ _ _ _ _ _ q=>ge_int q
theorem OpR.or {f:Value->Value->Sem Value} {r r':R2} (h:OpR X f r) (h':OpR X f r'):OpR X f (fun x y H Q=>r x y H Q\/r' x y H Q):=by
 intro pins s σ H x y v u Q I rx ry q
 rcases q with q | q
 · exact h pins s σ H x y v u Q I rx ry q
 · exact h' pins s σ H x y v u Q I rx ry q
theorem dG (b:Expr) {op:CmpOp} (h:op ≠ .In:=by decide) (h2:op ≠ .NotIn:=by decide):behindInMarks op b=false:=by
 have e1:(op == CmpOp.In)=false:=by cases op <;> first | rfl | exact absurd rfl h
 have e2:(op == CmpOp.NotIn)=false:=by cases op <;> first | rfl | exact absurd rfl h2
 cases b <;> simp [behindInMarks,e1,e2]
theorem iV {op:CmpOp} {r:R2} (ho:OpR X (compareOp op) r) (ha:PE X a ta) (hb:PE X b tb) (hm:behindInMarks op b=false):PE X (.Compare a [op] [b] pos) (tOp r ta tb):=by
 intro pins s σ H Q I h
 exact wpAny_Compare1 (uw ha hb I h fun v u s2 x y H2 I2 rx ry q=>ho pins s2 σ H2 x y v u Q I2 rx ry q) hm
def BP (t:TE):TT:=fun σ H Q=>t σ H fun x H'=>∃ k,x= .bl k/\Q k H'
theorem gh {op:CmpOp} {r:R2} (ho:OpR X (compareOp op) r) (ha:PE X a ta) (hb:PE X b tb) (hm:behindInMarks op b=false):PT X (.Compare a [op] [b] pos) (BP (tOp r ta tb)):=by
 intro pins s σ H Q I h
 refine wpAny_isTrue_Compare1 (thn (ha pins s σ H _ I h) fun v s1 ⟨x,H1,I1,r1,q1⟩=>thn (hb pins s1 σ H1 _ I1 q1) fun u s2 ⟨y,H2,I2,r2,q2⟩=>
  thn (ho pins s2 σ H2 x y v u _ I2 r1 r2 q2) fun c s3 ⟨z,H3,I3,r3,k,e,q3⟩=>?_) hm
 subst e
 cases r3
 exact wpAny_truthy_bool ⟨H3,I3,q3⟩
def pR (K:PySem.W.Frag) (x:V) (H:Hp) (k:Bool):Prop:=
 match x with
 | .non=>k=false
 | .bl b=>k=b
 | .int i=>k=(i != 0)
 | .str y=>y.length <= sizeLine/\k=((y.length:Int) != 0)
 | .byt y=>y.size <= sizeLine/\k=((y.size:Int) != 0)
 | .ref p=>(∃ xs,SqL K H p xs/\k= !xs.isEmpty)\/(∃ xs,SqT K H p xs/\k= !xs.isEmpty)\/∃ kvs,H p=some (.dK kvs)/\k= !kvs.isEmpty
 | _=>False
theorem pU {κ:Type} {kvs:List (κ × V)} {vs:List (κ × Value)} (r:KV kvs vs):(!vs.isEmpty)= !kvs.isEmpty:=by
 cases r <;> rfl
theorem jC {xs:List V} {its:List Value} (r:Vals xs its):(!its.toArray.isEmpty)= !xs.isEmpty:=by
 cases r <;> simp
theorem ie:(sizeLine:Nat) < 2 ^ 63:=by rw [sizeLine_eq];decide
theorem yJ:Dp X (fun x H Q=>∃ k,pR X.K x H k/\Q k H):=by
 intro pins s σ H x v Q I rx h
 obtain ⟨k,e,q⟩:=h
 have hl:=ie
 have hs:sizeLine=16777216:=sizeLine_eq
 cases x with
 | non=>
   cases rx
   have e':k=false:=e
   subst e'
   exact truthy_none ⟨H,I,q⟩
 | bl b=>
   cases rx
   have e':k=b:=e
   subst e'
   exact wpAny_truthy_bool ⟨H,I,q⟩
 | int i=>
   obtain ⟨t,rfl⟩:=rx
   have e':k=(i != 0):=e
   subst e'
   exact PySem.P.truthy_int ⟨H,I,q⟩
 | str y=>
   obtain ⟨t,rfl⟩:=rx
   obtain ⟨hy,e'⟩:y.length <= sizeLine/\k=((y.length:Int) != 0):=e
   subst e'
   exact PySem.P.truthy_str (by omega) ⟨H,I.tok _,q⟩
 | byt y=>
   obtain ⟨t,rfl⟩:=rx
   obtain ⟨hy,e'⟩:y.size <= sizeLine/\k=((y.size:Int) != 0):=e
   subst e'
   exact PySem.W.truthy_bytes (by omega) ⟨H,I.tok _,q⟩
 | ref p=>
   cases rx
   have e':(∃ xs,SqL X.K H p xs/\k= !xs.isEmpty)\/(∃ xs,SqT X.K H p xs/\k= !xs.isEmpty)\/∃ kvs,H p=some (.dK kvs)/\k= !kvs.isEmpty:=e
   rcases e' with ⟨xs,hx,e'⟩ | ⟨xs,hx,e'⟩ | ⟨kvs,hx,e'⟩
   · subst e'
     obtain ⟨its,r,pl,hz⟩:=I.list hx
     have hlen:=r.length
     exact wpAny_truthy_list pl.isList (by simp only [List.size_toArray];omega) ⟨H,I.tok _,by rw [jC r];exact q⟩
   · subst e'
     obtain ⟨its,r,pl,hz⟩:=I.tuple hx
     have hlen:=r.length
     exact truthy_tuple pl (by simp only [List.size_toArray];omega) ⟨H,I.tok _,by rw [jC r];exact q⟩
   · subst e'
     obtain ⟨hz,hS,vs,r,m⟩:kvs.length <= sizeLine/\(p == sysModules)=false/\∃ vs,KV kvs vs/\s.heap.DictOf (jW X.prog X.w) p vs:=I.hok p _ hx
     have hlen:kvs.length=vs.length:=Paired.length r
     exact wpAny_truthy_dict hS m (by omega) ⟨H,I.tok _,by rw [pU r];exact q⟩
 | _=>exact (show False from e).elim
theorem uA (ha:PE X a ta) (he:∀ whole,isTrue a X.env whole=(do let v <- whole;standAt a.pos;holding [v] (truthy v))):
 PT X a (fun σ H Q=>ta σ H fun x H'=>∃ k,pR X.K x H' k/\Q k H'):=by
 intro pins s σ H Q I h
 exact isTrue_plain (thn (ha pins s σ H _ I h) fun v s1 ⟨x,H1,I1,r1,q1⟩=>yJ pins s1 σ H1 x v Q I1 r1 q1) (he _)
theorem pW:OpR X (binaryOp .Add) (fun x y H Q=>∃ i j,x= .str i/\y= .str j/\i.length + j.length <= sizeLine/\Q (.str (i ++ j)) H):=by
 intro pins s σ H x y v u Q I rx ry h
 obtain ⟨i,j,rfl,rfl,hz,q⟩:=h
 obtain ⟨t,rfl⟩:=rx
 obtain ⟨t',rfl⟩:=ry
 exact add_str (fun t' tk=>⟨.str (i ++ j),H,I.tok _,⟨_,rfl⟩,q⟩) hz
theorem vals1 {x:V} {us:List Value} (r:Vals [x] us):∃ u,us= [u]/\RelV x u:=by
 cases r with
 | cons r1 r2=>cases r2;exact ⟨_,rfl,r1⟩
theorem vals2 {x y:V} {us:List Value} (r:Vals [x,y] us):∃ u w',us= [u,w']/\RelV x u/\RelV y w':=by
 cases r with
 | cons r1 r2=>
   cases r2 with
   | cons r3 r4=>cases r4;exact ⟨_,_,rfl,r1,r3⟩
theorem uB:bT X (.builtin "abs") (fun xs H Q=>∃ i,xs= [.int i]/\Q (.int (if i < 0 then -i else i)) H):=by
 intro pins s σ H xs us Q I r h
 obtain ⟨i,rfl,q⟩:=h
 obtain ⟨u,rfl,t,rfl⟩:=vals1 r
 exact call_abs_int fun u tk=>⟨.int (if i < 0 then -i else i),H,I.tok _,⟨_,rfl⟩,q⟩
theorem mL:bT X (.type "str") (fun xs H Q=>∃ i,xs= [.int i]/\i.natAbs.log2 < 1920/\Q (.str (toString i)) H):=by
 intro pins s σ H xs us Q I r h
 obtain ⟨i,rfl,hz,q⟩:=h
 obtain ⟨u,rfl,t,rfl⟩:=vals1 r
 exact PySem.P.str_of_int hz ⟨.str _,H,I.tok _,⟨_,rfl⟩,q⟩
end
end L2
namespace L2
open PySem PySem.Spec PyProof.Rows
structure uC (h:Heap) (x dx C:Addr) (mA:Str->Option Value):Prop where
 obj:h.get? x=some (PySem.W.instObj C dx)
 ns:h.Ns1 dx mA
 ne:dx ≠ x
theorem rF {h:Heap} {dx:Addr} {mA:Str->Option Value} (n:h.Ns1 dx mA):∃ od,h.get? dx=some od/\∀ name,PySem.W.lookIn name od=some (mA name):=by
 obtain ⟨o,es,ep,ho,hd,hk,_,hm⟩:=n
 refine ⟨o,ho,fun name=>?_⟩
 have e:=hm name
 unfold nsFind findBy at e
 rw [<- Array.find?_toList] at e
 unfold PySem.W.lookIn
 rw [hd]
 dsimp only
 split
 · rename_i y q
   rw [q] at e
   exact congrArg some e
 · rename_i q
   rw [q] at e
   have a:es.toList.any (·.refKey)=false:=by
    rw [List.any_eq_false]
    intro y hy
    obtain ⟨z,t,hkey⟩:=hk y (Array.mem_toList_iff.mp hy)
    simp [DictEntry.refKey,hkey]
   have a':¬ es.toList.any (·.refKey)=true:=by rw [a];exact Bool.false_ne_true
   rw [if_neg a']
   exact congrArg some e
theorem uC.look {h:Heap} {x dx C:Addr} {mA:Str->Option Value} (I:uC h x dx C mA):∃ od,PySem.W.InstAt h x (PySem.W.instObj C dx) C (some od)/\∀ name,PySem.W.lookIn name od=some (mA name):=
 let ⟨od,ho,hl⟩:=rF I.ns
 ⟨od,⟨I.obj,rfl,rfl,ho⟩,hl⟩
section
variable {prog:Program} {w:World} {A:Around} {E:Value->Shared->Prop} {s:Shared} {K:PySem.W.Frag} {x dx C f:Addr} {mA:Str->Option Value} {name:Str} {v:Value}
end
section
variable {P:Program} {w:World} {H H':Hp} {h h':Heap} {a C dx:Addr} {fs fs':List (Str × V)}
theorem wO (hok:HOk P w H h) (e:H a=some (.ins C dx fs)):∃ mA,uC h a dx C mA/\(∀ f,uc (fs.lookup f) (mA f))/\PySem.Within mA (fs.map (·.1))/\fs.length <= 1000/\H dx=some (.own a):=by
 obtain ⟨d,z,ne,ob,mA,n,r,q⟩:=(show aP P w H h a (.ins C dx fs) from hok a _ e)
 exact ⟨mA,⟨ob,n,ne⟩,r,q,z,d⟩
end
structure Cls (K:PySem.W.Frag) (C:Addr):Prop where
 pg:PySem.W.plainGet K C Str.empty=true
 hd:PySem.W.hasDictIn K C=true
 po:PySem.W.plainOver K C=true
 sa:PySem.W.findIn K (.ref C) "__setattr__" =some (some (.builtin "object.__setattr__"))
theorem Cls.get {K:PySem.W.Frag} {C:Addr} (c:Cls K C) (f:Str):PySem.W.plainGet K C f=true:=c.pg
def yK (K:PySem.W.Frag) (C:Addr) (f:Str):Prop:=PySem.W.findIn K (.ref C) f=some none
structure Con (K:PySem.W.Frag) (C:Addr) (f:Str) (v:V) (u:Value):Prop where
 at_:PySem.W.findIn K (.ref C) f=some (some u)
 rel:RelV v u
 get:PySem.W.specialIn K u "__get__" =some none
 cp:PySem.W.copiedNames.contains f=false
structure Meth (K:PySem.W.Frag) (C:Addr) (m:Str) (f:Addr):Prop where
 at_:PySem.W.findIn K (.ref C) m=some (some (.ref f))
 fn:PySem.W.isFn K (.ref f)=true
 kp:PySem.W.keepIn K (.ref f)=true
section
variable {X:Cx} {pins:List (Addr × Obj)} {σ:St} {H:Hp} {s:Shared} {a C dx:Addr} {fs:List (Str × V)} {f:Str} {v:V} {A:Around} {E:Value->Shared->Prop}
end
section
variable {X:Cx} {o e value:Expr} {f:Str} {pos pos' tpos:Pos} {ta tv:TE}
end
section
variable {X:Cx} {pins:List (Addr × Obj)} {σ:St} {H:Hp} {s:Shared} {A:Around} {E:Value->Shared->Prop} {Q:Value->Shared->Prop} {c:Value} {b:Bool}
inductive dH (K:PySem.W.Frag) (H:Hp):V->Value->Prop where
 | non:dH K H .non (.type "NoneType")
 | bl (x:Bool):dH K H (.bl x) (.type "bool")
 | int (i:Int):dH K H (.int i) (.type "int")
 | str (x:Str):dH K H (.str x) (.type "str")
 | flt (x:UInt64):dH K H (.flt x) (.type "float")
 | lst {a:Addr} {xs:List V} (e:H a=some (.lst xs)):dH K H (.ref a) (.type "list")
 | frz {a:Addr} {o:Obj} {xs:List V} (e:H a=some (.frz o (.lst xs))):dH K H (.ref a) (.type "list")
 | tup {a:Addr} {xs:List V} (e:H a=some (.tup xs)):dH K H (.ref a) (.type "tuple")
 | dK {a:Addr} {kvs:List (Key × V)} (e:H a=some (.dK kvs)):dH K H (.ref a) (.type "dict")
 | dT {a:Addr} {kvs:List (List Key × V)} (e:H a=some (.dT kvs)):dH K H (.ref a) (.type "dict")
 | ins {a C dx:Addr} {fs:List (Str × V)} (e:H a=some (.ins C dx fs)) (cl:Cls K C) (ha:PySem.W.findIn K (.ref C) "__class__" =some (some (.builtin "object.__class__")))
    (hn:PySem.W.specialIn K (.builtin "object.__class__") "__get__" =some (some (.builtin "getset_descriptor.__get__"))) (htk:PySem.W.takesIn K (.builtin "object.__class__")=some true)
    (hm:PySem.W.mroIn K C (.type "object")=some true):dH K H (.ref a) (.ref C)
theorem rG {x:V} {u t:Value} (I:Inv X pins σ H s) (rx:RelV x u) (ty:dH X.K H x t) (e:PySem.W.kitOne X.K t c=some b) (h:∀ tk,Q (.bool b) { s with toks:=tk }):
 wpAny (model X.prog X.w) A (call (.builtin "isinstance") [u,c]) Q E s:=by
 cases ty with
 | non=>cases (show u=Value.none from rx);exact PySem.W.kia_one PySem.W.kitx_none I.kIn True.intro e (fun z=>nomatch z) h
 | bl y=>cases (show u=Value.bool y from rx);exact PySem.W.kia_one PySem.W.kitx_bool I.kIn True.intro e (fun z=>nomatch z) h
 | int i=>obtain ⟨t,q⟩:=(show ∃ t,u=Value.int i t from rx);cases q;exact PySem.W.kia_one PySem.W.kitx_int I.kIn True.intro e (fun z=>nomatch z) h
 | str y=>obtain ⟨t,q⟩:=(show ∃ t,u=Value.str y t from rx);cases q;exact PySem.W.kia_one PySem.W.kitx_str I.kIn True.intro e (fun z=>nomatch z) h
 | flt y=>obtain ⟨t,q⟩:=(show ∃ t,u=Value.float y t from rx);cases q;exact PySem.W.kia_one PySem.W.kitx_float I.kIn True.intro e (fun z=>nomatch z) h
 | @lst a xs ea=>
   cases (show u=Value.ref a from rx)
   obtain ⟨_,_,n,_,h1⟩:=(show aP X.prog X.w H s.heap a (.lst xs) from I.hok a _ ea)
   exact PySem.W.kia_one PySem.W.kitx_list I.kIn ⟨_,h1,rfl⟩ e (fun z=>nomatch z) h
 | @frz a ob xs ea=>
   cases (show u=Value.ref a from rx)
   obtain ⟨_,_,_,n,_,h1⟩:=(show aP X.prog X.w H s.heap a (.frz ob (.lst xs)) from I.hok a _ ea)
   exact PySem.W.kia_one PySem.W.kitx_list I.kIn ⟨_,h1,rfl⟩ e (fun z=>nomatch z) h
 | @tup a xs ea=>
   cases (show u=Value.ref a from rx)
   obtain ⟨_,_,_,p⟩:=(show aP X.prog X.w H s.heap a (.tup xs) from I.hok a _ ea)
   obtain ⟨o,h1,h2,_⟩:=p
   exact PySem.W.kia_one PySem.W.kitx_tuple I.kIn ⟨o,h1,h2⟩ e (fun z=>nomatch z) h
 | @dK a kvs ea=>
   cases (show u=Value.ref a from rx)
   obtain ⟨_,_,vs,_,p⟩:=(show aP X.prog X.w H s.heap a (.dK kvs) from I.hok a _ ea)
   obtain ⟨o,es,ep,h1,h2,_⟩:=p
   exact PySem.W.kia_one PySem.W.kitx_dict I.kIn ⟨o,h1,h2.1⟩ e (fun z=>nomatch z) h
 | @dT a kvs ea=>
   cases (show u=Value.ref a from rx)
   obtain ⟨_,_,xs,_,o,es,ep,h1,h2,_⟩:=(show aP X.prog X.w H s.heap a (.dT kvs) from I.hok a _ ea)
   exact PySem.W.kia_one PySem.W.kitx_dict I.kIn ⟨o,h1,h2.1⟩ e (fun z=>nomatch z) h
 | @ins a C dx fs ea cl ha hn htk hm=>
   cases (show u=Value.ref a from rx)
   obtain ⟨mA,O,_⟩:=wO I.hok ea
   obtain ⟨od,J,_⟩:=O.look
   exact PySem.W.kia_one (PySem.W.kitx_own (cl.get _) cl.hd ha hn htk hm) I.kIn J e (fun z=>nomatch z) h
end
end L2
namespace L2
open PySem PySem.Spec PyProof.Rows
structure bA (k:Nat) (A:Around):Prop where
 hd:A.handled=none
 dp:A.depth + 3 * k + 5 < recursionLimit
 un:A.units + 16 * k + 200 < cLine
theorem bA.mono {j k:Nat} {A:Around} (r:bA k A) (h:j <= k):bA j A:=⟨r.hd,by have:=r.dp;omega,by have:=r.un;omega⟩
theorem bA.deeper {k:Nat} {A:Around} (r:bA (k + 1) A) (env:Env):bA k (A.deeper env):=
 ⟨r.hd,by have:=r.dp;show A.depth + 1 + 3 * k + 5 < _;omega,by have:=r.un;show A.units + 3 + 16 * k + 200 < _;omega⟩
theorem bA.depth {k:Nat} {A:Around} (r:bA k A):A.depth < recursionLimit:=by have:=r.dp;omega
theorem bA.units {k:Nat} {A:Around} (r:bA k A):A.units + 64 < cLine:=by have:=r.un;omega
def Dr:TA:=fun _ H Q=>Q [] H
def BR (ta:TE) (tr:TA):TA:=fun σ H Q=>ta σ H fun x H1=>tr σ H1 fun xs H2=>Q (x::xs) H2
section
variable {X:Cx} {e:Expr} {es:List Expr} {te:TE} {t:TA} {pos:Pos}
theorem ak:PA X [] Dr:=fun _ _ _ _ H Q I h=>Calls.spliced_nil ⟨[],H,I,.nil,h⟩
theorem aa (ha:PE X e te) (hr:PA X es t) (hs:starEach (e::es) X.env=(false,eval e X.env)::starEach es X.env:=by rfl):PA X (e::es) (BR te t):=by
 intro pos pins s σ H Q I h
 rw [hs]
 show wpAny _ _ (spliced ((false,eval e X.env)::backTo pos (starEach es X.env))) _ _ s
 refine Calls.spliced_cons (thn (ha pins s σ H _ I h) fun u s1 ⟨x,H1,I1,r1,q1⟩=>?_)
 exact thn (hr pos pins s1 σ H1 _ I1 q1) fun us s2 ⟨xs,H2,I2,r2,q2⟩=>⟨x::xs,H2,I2,.cons r1 r2,q2⟩
def Ds (t:TA):TE:=fun σ H Q=>t σ H fun xs H1=>xs.length <= sizeLine/\∀ p,H1 p=none->Q (.ref p) (upd H1 p (.tup xs))
def Dt (t:TA):TE:=fun σ H Q=>t σ H fun xs H1=>xs.length <= sizeLine/\∀ p,H1 p=none->Q (.ref p) (upd H1 p (.lst xs))
theorem yL {x1} (h:PA X es t):PE X (.Tuple es x1 pos) (Ds t):=by
 intro pins s σ H Q I hq
 refine wpAny_Tuple_spliced (thn (h pos pins s σ H _ I hq) fun us s1 ⟨xs,H1,I1,r,z,q⟩=>⟨by rw [<- r.length];exact z,?_⟩)
 have hf:H1 s1.heap.objs.size=none:=I1.hok.fresh (Nat.le_refl _)
 refine ⟨.ref s1.heap.objs.size,upd H1 s1.heap.objs.size (.tup xs),I1.laid (t':=s1.toks) (fun b u e=>Heap.get?_push_of_some _ e) (Nat.le_refl _) ?_,rfl,q _ hf⟩
 exact ⟨z,us,r,⟨_,Heap.get?_push_size _ rfl,rfl,_,rfl⟩⟩
theorem ig (h:PA X es t):PE X (.List es pos) (Dt t):=by
 intro pins s σ H Q I hq
 refine wpAny_List_spliced (thn (h pos pins s σ H _ I hq) fun us s1 ⟨xs,H1,I1,r,z,q⟩=>⟨by rw [<- r.length];exact z,?_⟩)
 have hf:H1 s1.heap.objs.size=none:=I1.hok.fresh (Nat.le_refl _)
 refine ⟨.ref s1.heap.objs.size,upd H1 s1.heap.objs.size (.lst xs),I1.laid (t':=s1.toks) (fun b u e=>Heap.get?_push_of_some _ e) (Nat.le_refl _) ?_,rfl,q _ hf⟩
 exact ⟨z,us,0,r,Heap.get?_push_size _ rfl⟩
end
abbrev Sp:=List V->Hp->VK->XK->Prop
abbrev CXT:=List Env->Hp->Shared->XK->Value->Shared->Prop
structure pX (P:Program) (w:World) (K:PySem.W.Frag) (mg:Str->Option Value) (base:Heap) (A:Around) (outer:List Env) (s:Shared) (H:Hp):Prop where
 frames:A.frames=some outer
 mod:Mod K mg base
 bs:∀ b o,base.get? b=some o->s.heap.get? b=some o/\H b=none
 bsz:base.objs.size <= s.heap.objs.size
 e_:s.heap.FunFrames base outer
 frf:∀ b ∈ frs outer,H b=none
 hok:HOk P w H s.heap
 bare:AllBare s.gens
def CE (outer:List Env) (P:Program) (w:World) (H:Hp) (s:Shared) (Q:VK) (u:Value) (s':Shared):Prop:=
 ∃ v H',s'.os=s.os/\AllBare s'.gens/\Un (frs outer) [] H H' s.heap s'.heap/\HOk P w H' s'.heap/\RelV v u/\Q v H'
def CR (CX:CXT) (outer:List Env) (P:Program) (w:World) (H:Hp) (s:Shared) (Q:VK) (E:XK) (r:Result) (s':Shared):Prop:=
 match r with
 | .ok (.ret u)=>CE outer P w H s Q u s'
 | .ok _=>False
 | .error e=>CX outer H s E e s'
structure aU (P:Program) (w:World) (K:PySem.W.Frag) (mg:Str->Option Value) (base:Heap) (CX:CXT) (k:Nat) (f:Addr) (fd:FuncData) (ps:List Str) (sp:Sp):Prop where
 len:∀ vs H Q E,sp vs H Q E->vs.length=ps.length
 run:∀ (A:Around) (outer:List Env) (s:Shared) (H:Hp) (args:Args) (us:List Value) (vs:List V) (Q:VK) (E:XK),bA k A->pX P w K mg base A outer s H->BindsTo s fd args (ps.zip us)->Vals vs us->sp vs H Q E->
  codeAny (model P w) A (.call (.ref f) args) (CR CX outer P w H s Q E) s
theorem aU.mono {P:Program} {w:World} {K:PySem.W.Frag} {mg:Str->Option Value} {base:Heap} {CX:CXT} {j k:Nat} {f:Addr} {fd:FuncData} {ps:List Str} {sp:Sp} (F:aU P w K mg base CX j f fd ps sp) (h:j <= k):
 aU P w K mg base CX k f fd ps sp:=⟨F.len,fun A outer s H args us vs Q E hr=>F.run A outer s H args us vs Q E (hr.mono h)⟩
section
variable {X:Cx} {pins:List (Addr × Obj)} {σ:St} {H:Hp} {s s':Shared}
theorem Inv.env0 (I:Inv X pins σ H s):pX X.prog X.w X.K X.mg X.base X.A X.stack s H:=
 ⟨I.ok.frames,I.ok.mod,I.bs,Nat.le_trans I.ok.bsz I.sz,I.stack,I.iT,I.hok,I.bare⟩
theorem Inv.after {Q:VK} {u:Value} (I:Inv X pins σ H s) (h:CE X.stack X.prog X.w H s Q u s'):EP X pins σ Q u s':=by
 obtain ⟨v,H',os,bare,un,hok,r,q⟩:=h
 obtain ⟨hh,g,d,t,os'⟩:=s'
 obtain rfl:os'=s.os:=os
 exact ⟨v,H',I.call (h':=hh) (g':=g) (d':=d) (t':=t) (ch:=[]) un hok bare (fun b z=>absurd z (by simp)),r,q⟩
end
def pY (sp:Sp) (dvs:List V) (E:XK) (t:TA):TE:=fun σ H Q=>t σ H fun vs H1=>sp (vs ++ dvs) H1 Q E
def Binds (K:PySem.W.Frag) (fd:FuncData) (ps:List Str) (ds:List Value):Prop:=
 ∀ (s:Shared) (us:List Value),K.In s.heap->(us ++ ds).length=ps.length->BindsTo s fd ⟨us,[]⟩ (ps.zip (us ++ ds))
theorem Binds.all {K:PySem.W.Frag} {fd:FuncData} {ps:List Str} (h:∀ us:List Value,us.length=ps.length->bindArgs fd ⟨us,[]⟩ =pure (ps.zip us)):Binds K fd ps []:=fun s us _ hl=>by
 rw [List.append_nil] at hl ⊢
 exact .of_eq (h us hl)
def Passes (CX:CXT) (X:Cx) (E:XK):Prop:=∀ (pins:List (Addr × Obj)) (σ:St) (H:Hp) (s:Shared) (e:Value) (s':Shared),Inv X pins σ H s->CX X.stack H s E e s'->X.xe e s'
section
variable {X:Cx} {CX:CXT} {k:Nat} {f C:Addr} {fd:FuncData} {ps:List Str} {sp:Sp} {dvs:List V} {ds:List Value} {E:XK} {x m:Str} {p pos apos:Pos} {e o:Expr} {es:List Expr} {ta:TE} {t:TA}
theorem yM {pins:List (Addr × Obj)} {σ:St} {H:Hp} {s:Shared} {Q:VK} {us:List Value} {vs:List V} (F:aU X.prog X.w X.K X.mg X.base CX k f fd ps sp) (hr:bA k X.A) (hb:Binds X.K fd ps ds) (hd:Vals dvs ds) (hx:Passes CX X E)
 (I:Inv X pins σ H s) (r:Vals vs us) (h:sp (vs ++ dvs) H Q E):wpAny (model X.prog X.w) X.A (call (.ref f) us) (EP X pins σ Q) X.xe s:=by
 have r2:Vals (vs ++ dvs) (us ++ ds):=r.append hd
 have hl:(us ++ ds).length=ps.length:=by rw [<- r2.length];exact F.len _ _ _ _ h
 refine wpAny_call (codeAny_mono (F.run X.A X.stack s H ⟨us,[]⟩ (us ++ ds) (vs ++ dvs) Q E hr I.env0 (hb s us I.kIn hl) r2 h) fun r s' hq=>?_)
 cases r with
 | error e=>exact hx pins σ H s e s' I hq
 | ok fl=>
   cases fl with
   | ret u=>exact I.after hq
   | next=>exact False.elim hq
   | brk=>exact False.elim hq
   | cont=>exact False.elim hq
theorem oO (F:aU X.prog X.w X.K X.mg X.base CX k f fd ps sp) (hr:bA k X.A) (hg:Gl X x) (hm:X.mg x=some (.ref f)) (hk:PySem.W.keepIn X.K (.ref f)=true) (hb:Binds X.K fd ps ds) (hd:Vals dvs ds) (hx:Passes CX X E)
 (ha:PA X (e::es) t) (hdb:(x == ("__debug__":Str))=false:=by decide) (he:starEach (e::es) X.env=(false,eval e X.env)::starEach es X.env:=by rfl) (hpl:(backTo pos (starEach es X.env)).any (·.1)=false:=by rfl):
 PE X (.Call (.Name x p) (e::es) [] pos) (pY sp dvs E t):=by
 intro pins s σ H Q I h
 refine wpAny_Call_Name_kw (wM I hg hm ?_ hdb)
 refine PySem.W.callWith_K (h₀:=X.base) I.ok.mod.kin hk (thn (ha pos pins s σ H _ I h) fun us s1 ⟨vs,H1,I1,r,q⟩=>⟨I1.kIn,?_⟩) he hpl
 exact yM F hr hb hd hx I1 r q
structure Mk (K:PySem.W.Frag) (C f:Addr):Prop where
 makes:PySem.W.makesIn K C=true
 init:PySem.W.findIn K (.ref C) "__init__" =some (some (.ref f))
 fn:PySem.W.isFn K (.ref f)=true
 kp:PySem.W.keepIn K (.ref C)=true
end
section
variable {X:Cx} {CX:CXT} {k:Nat} {f C:Addr} {fd:FuncData} {ps ks:List Str} {sp:Sp} {E:XK} {x m:Str} {p pos apos kpos:Pos} {e o:Expr} {es:List Expr} {kws:List Keyword} {te ta:TE} {t tk:TA} {nm:Option Str}
structure Ez (K:PySem.W.Frag) (fd:FuncData) (ps ks:List Str) (g:List Value->List Value->List Value) (gV:List V->List V->List V):Prop where
 to:∀ (s:Shared) (us ws:List Value),K.In s.heap->(g us ws).length=ps.length->BindsTo s fd ⟨us,ks.zip ws⟩ (ps.zip (g us ws))
 rel:∀ {vs:List V} {us:List Value} {zs:List V} {ws:List Value},Vals vs us->Vals zs ws->Vals (gV vs zs) (g us ws)
variable {g:List Value->List Value->List Value} {gV:List V->List V->List V}
end
structure bw (N P:List Str) (sc:Scope):Prop where
 kind:sc.kind= .function
 co:sc.isCoroutine=false
 gen:sc.isGenerator=false
 nd:N.Nodup
 pre:N.take P.length=P
 par:∀ x ∈ P,sc.names.lookup x=some .local\/sc.names.lookup x=some .cell
 yN:∀ y ∈ sc.names,y.2 ≠ .free
theorem k_ {kindOf:Str->Option NameKind} {x:Str}:∀ {binds:List (Str × Value)} {m:Str->Option Value},(∀ v,(x,v) ∉ binds)->bindL kindOf binds m x=m x
 | [],_,_=>rfl
 | (n,v)::r,m,h=>by
   unfold bindL
   rw [k_ fun w hw=>h w (List.mem_cons_of_mem _ hw)]
   split
   · have:x ≠ n:=by rintro rfl;exact h v List.mem_cons_self
     simp [this]
   · rfl
theorem lg {kindOf:Str->Option NameKind} {x:Str}:∀ {binds:List (Str × Value)} {m:Str->Option Value},(∀ v,(x,v) ∉ binds)->bindC kindOf binds m x=m x
 | [],_,_=>rfl
 | (n,v)::r,m,h=>by
   unfold bindC
   rw [lg fun w hw=>h w (List.mem_cons_of_mem _ hw)]
   split
   · rfl
   · have:x ≠ n:=by rintro rfl;exact h v List.mem_cons_self
     simp [this]
theorem lq {kindOf:Str->Option NameKind} {x:Str} {v:Value}:∀ {P:List Str} {vs:List Value} {i:Nat} {m:Str->Option Value},P.Nodup->P[i]? =some x->vs[i]? =some v->kindOf x=some .local->
 bindL kindOf (P.zip vs) m x=some v
 | [],_,_,_,_,h,_,_=>by simp at h
 | _::_,[],_,_,_,_,h,_=>by simp at h
 | p::P,w::vs,0,m,nd,h1,h2,hk=>by
   simp at h1 h2;subst h1;subst h2
   show bindL kindOf ((p,w)::P.zip vs) m p=_
   unfold bindL
   rw [k_ fun v hv=>(List.nodup_cons.mp nd).1 (List.of_mem_zip hv).1,if_pos hk]
   simp
 | p::P,w::vs,i + 1,m,nd,h1,h2,hk=>by
   show bindL kindOf ((p,w)::P.zip vs) m x=_
   unfold bindL
   exact lq (i:=i) (List.nodup_cons.mp nd).2 (by simpa using h1) (by simpa using h2) hk
theorem lu {kindOf:Str->Option NameKind} {x:Str} {v:Value}:∀ {P:List Str} {vs:List Value} {i:Nat} {m:Str->Option Value},P.Nodup->P[i]? =some x->vs[i]? =some v->kindOf x ≠ some .local->
 bindC kindOf (P.zip vs) m x=some v
 | [],_,_,_,_,h,_,_=>by simp at h
 | _::_,[],_,_,_,_,h,_=>by simp at h
 | p::P,w::vs,0,m,nd,h1,h2,hk=>by
   simp at h1 h2;subst h1;subst h2
   show bindC kindOf ((p,w)::P.zip vs) m p=_
   unfold bindC
   rw [lg fun v hv=>(List.nodup_cons.mp nd).1 (List.of_mem_zip hv).1,if_neg hk]
   simp
 | p::P,w::vs,i + 1,m,nd,h1,h2,hk=>by
   show bindC kindOf ((p,w)::P.zip vs) m x=_
   unfold bindC
   exact lu (i:=i) (List.nodup_cons.mp nd).2 (by simpa using h1) (by simpa using h2) hk
def start (N:List Str) (vs:List V):St:=vs.map some ++ List.replicate (N.length - vs.length) none
def fP (CX:CXT) (P:Program) (w:World) (K:PySem.W.Frag) (mg:Str->Option Value) (base:Heap) (N:List Str) (qual:Str) (scope:Scope) (f:Addr) (cd:Value) (A:Around) (outer:List Env) (s:Shared) (H:Hp) (E:XK):Cx where
 prog:=P
 w:=w
 K:=K
 mg:=mg
 base:=base
 A:=A.deeper (envOfC qual scope s.heap.objs.size f cd)
 N:=N
 s₀:=s
 H₀:=H
 env:=envOfC qual scope s.heap.objs.size f cd
 outer:=outer
 stack:=envOfC qual scope s.heap.objs.size f cd::outer
 ex:=[]
 calm:=true
 fn:=fun _=>true
 pn:=[]
 xe:=fun e s'=>wpAny (model P w) (A.deeper (envOfC qual scope s.heap.objs.size f cd)) (leaving (envOfC qual scope s.heap.objs.size f cd) e) (fun _ s''=>CX outer H s E e s'') (fun e' s''=>CX outer H s E e' s'') s'
theorem mO {sc:Scope} {n:Nat} {x:Str} (h:sc.names.lookup x=some .cell):∃ c,(cellsFrom n sc.names []).lookup x=some c:=by
 have q:=PySem.W.cellsFrom_some sc.names n [] (.inl h)
 exact Option.isSome_iff_exists.mp q
theorem rH {CX:CXT} {P:Program} {w:World} {K:PySem.W.Frag} {mg:Str->Option Value} {base:Heap} {N ps:List Str} {qual:Str} {scope:Scope} {f:Addr} {cd:Value} {A:Around} {outer:List Env} {s s1:Shared} {H:Hp} {E:XK} {us:List Value} {vs:List V}
 (S:bw N ps scope) (hd:A.handled=none) (e0:pX P w K mg base A outer s H) (hl:vs.length=ps.length) (r:Vals vs us)
 (x:InCallC s s.heap.objs.size (bindL (envOfC qual scope s.heap.objs.size f cd).kindOf (ps.zip us) fun _=>none) (cellsFrom (s.heap.objs.size + 1) scope.names []) (bindC (envOfC qual scope s.heap.objs.size f cd).kindOf (ps.zip us) fun _=>none) s1):
 Inv (fP CX P w K mg base N qual scope f cd A outer s H E) [] (start N vs) H s1:=by
 have hpl:ps.length <= N.length:=by have:=congrArg List.length S.pre;rw [List.length_take] at this;omega
 obtain ⟨h1,tk,rfl,hk⟩:=x.done
 have noA:∀ b:Addr,b ∉ (fP CX P w K mg base N qual scope f cd A outer s H E).ex:=fun b z=>absurd (show b ∈ ([]:List Addr) from z) (by simp)
 refine ⟨⟨e0.mod,S.kind,rfl,rfl,Nat.le_refl _,fun y z c h1 h2=>?_,fun y hy=>?_,fun y c _ h=>?_,fun _=>hd,Around.frames_deeper e0.frames,.inr ⟨rfl,rfl⟩,fun b z=>absurd z (noA b),e0.bs,e0.bsz,fun b _ _=>noA b,fun b z=>absurd z (noA b),e0.e_,e0.frf⟩,
  rfl,e0.bare,Un.kept hk,⟨_,x.toInCall.ns,fun i y v h1 h2 h3=>?_⟩,fun y c h=>⟨_,x.cell y c h⟩,e0.hok.fresh (Nat.le_refl _),fun y c h=>?_,fun p hp=>absurd (show p ∈ ([]:List (Addr × Obj)) from hp) (by simp),e0.hok.kept hk,?_⟩
 · exact name_of_addr x.apart (PySem.mem_of_lookup h1) (PySem.mem_of_lookup h2)
 · have hy:scope.names.lookup y=some .cell\/scope.names.lookup y=some .free:=hy
   rcases hy with hy | hy
   · exact mO hy
   · exact absurd rfl (S.yN _ (PySem.mem_of_lookup hy))
 · exact Nat.le_of_lt (x.above y c (PySem.mem_of_lookup h))
 · have hi:i < vs.length:=by
    unfold start at h2
    by_cases hi:i < vs.length
    · exact hi
    · rw [List.getElem?_append_right (by simpa using hi)] at h2
      rw [List.getElem?_replicate] at h2
      split at h2 <;> cases h2
   have ha:vs[i]? =some v:=by
    unfold start at h2
    rw [List.getElem?_append_left (by simpa using hi),List.getElem?_map] at h2
    cases e:vs[i]? with
    | none=>rw [e] at h2;cases h2
    | some a=>rw [e] at h2;cases h2;rfl
   obtain ⟨u,hu,rv⟩:=r.get ha
   have hp:ps[i]? =some y:=by
    rw [<- S.pre,List.getElem?_take_of_lt (by omega)];exact h1
   have ndP:ps.Nodup:=by rw [<- S.pre];exact S.nd.sublist (List.take_sublist _ _)
   refine ⟨u,rv,?_⟩
   rcases S.par y (List.mem_of_getElem? hp) with k | k
   · exact .inl ⟨k,lq ndP hp hu k⟩
   · obtain ⟨c,e⟩:=mO (n:=s.heap.objs.size + 1) k
     refine .inr ⟨.inl k,c,e,?_⟩
     have q:=x.cell y c e
     rw [lu ndP hp hu (by show scope.names.lookup y ≠ _;rw [k];decide)] at q
     exact q
 · exact e0.hok.fresh (Nat.le_of_lt (x.above y c (PySem.mem_of_lookup h)))
 · unfold start
   show _=N.length
   rw [List.length_append,List.length_map,List.length_replicate]
   omega
theorem pZ {CX:CXT} {P:Program} {w:World} {K:PySem.W.Frag} {mg:Str->Option Value} {base:Heap} {k:Nat} {f:Addr} {name qual:Str} {params:Arguments} {body:List Stmt} {scope:Scope} {dV kV doc pm cdv ct oc:Value} {an od:Option Addr}
 {osl:Array (Option Value)} {N ps:List Str} {sp:Sp} (lk:K.lookup f=some ⟨oc,od,.func (PySem.W.fnOf name qual params body scope dV kV doc pm an cdv ct),osl⟩) (hcd:PySem.W.codeIn K cdv qual=true) (S:bw N ps scope)
 (len:∀ vs H Q E,sp vs H Q E->vs.length=ps.length)
 (hbody:∀ (A:Around) (outer:List Env) (s:Shared) (H:Hp) (vs:List V) (Q:VK) (E:XK),bA k (A.deeper (envOfC qual scope s.heap.objs.size f cdv))->sp vs H Q E->
   ∃ t,PSs (fP CX P w K mg base N qual scope f cdv A outer s H E) body t/\t { nx:=fun _ H'=>Q .non H',rt:=Q } (start N vs) H):
 aU P w K mg base CX (k + 1) f (PySem.W.fnOf name qual params body scope dV kV doc pm an cdv ct) ps sp:=by
 refine ⟨len,fun A outer s H args us vs Q E hr e0 hb r hsp=>?_⟩
 have hl:=len _ _ _ _ hsp
 have KX:K.In s.heap:=e0.mod.kin.keeps fun b o e=>(e0.bs b o e).1
 have lim:s.heap.NoLimit:=e0.mod.nolimit.keeps fun b o e=>(e0.bs b o e).1
 have hkind:∀ y ∈ ps.zip us,scope.names.lookup y.1=some .local\/(scope.names.lookup y.1=some .cell/\((cellsFrom (s.heap.objs.size + 1) scope.names []).lookup y.1).isSome=true):=fun ⟨n,v⟩ hy=>by
  rcases S.par n (List.of_mem_zip hy).1 with q | q
  · exact .inl q
  · exact .inr ⟨q,PySem.W.cellsFrom_some _ _ _ (.inl q)⟩
 refine codeAny_call_function hr.depth (KX _ _ lk) rfl S.co S.gen rfl (PySem.W.codeRec_of KX hcd) (hb _ _ _ _ ?_)
 refine wpAny_newFunctionEnv_cells S.kind hkind fun env he s1 x=>?_
 subst he
 refine ⟨lim.keeps x.toInCall.keep,codeAny_func ?_⟩
 obtain ⟨t,ht,hq⟩:=hbody A outer s H vs Q E (hr.deeper _) hsp
 have I:Inv (fP CX P w K mg base N qual scope f cdv A outer s H E) [] (start N vs) H s1:=rH S hr.hd e0 hl r x
 refine wpAny_mono (ht [] s1 (start N vs) H _ I hq) (fun fl s' hs=>?_) fun e s' hs=>hs
 have fin:∀ {σ':St} {H':Hp} {v:V} {u:Value},Inv (fP CX P w K mg base N qual scope f cdv A outer s H E) [] σ' H' s'->RelV v u->Q v H'->CE outer P w H s Q u s':=
  fun {σ' H' v u} J rv q=>⟨v,H',J.os,J.bare,J.base,J.hok,rv,q⟩
 cases fl with
 | ret u=>
   obtain ⟨v,σ',H',J,rv,q⟩:=hs
   exact fin J rv q
 | next=>
   obtain ⟨σ',H',J,q⟩:=hs
   exact fin (v:=V.non) (u:=Value.none) J rfl q
 | brk=>
   obtain ⟨_,_,_,q⟩:=hs
   exact False.elim q
 | cont=>
   obtain ⟨_,_,_,q⟩:=hs
   exact False.elim q
end L2
namespace L2
open PySem PySem.Spec PyProof.Rows
section
variable {X:Cx} {x:Str} {p pos:Pos} {e:Expr} {es:List Expr} {t:TA} {id T:String} {r:List V->Hp->VK->Prop}
def tCB (r:List V->Hp->VK->Prop) (t:TA):TE:=fun σ H Q=>t σ H fun vs H1=>r vs H1 Q
theorem aB (hc:bT X (.builtin id) r) (hg:Gl X x) (hm:X.mg x=none) (hv:bootBuiltins x=some (.builtin id)) (ha:PA X (e::es) t) (hn:x ≠ "__name__":=by decide) (hdb:(x == ("__debug__":Str))=false:=by decide)
 (he:starEach (e::es) X.env=(false,eval e X.env)::starEach es X.env:=by rfl) (hpl:(backTo pos (starEach es X.env)).any (·.1)=false:=by rfl):PE X (.Call (.Name x p) (e::es) [] pos) (tCB r t):=by
 intro pins s σ H Q I h
 refine wpAny_Call_Name_kw (jA I hg hm hv ?_ hn hdb)
 exact PyProof.Rows.callWith_builtin1 (thn (ha pos pins s σ H _ I h) fun us s1 ⟨vs,H1,I1,r1,q1⟩=>hc pins s1 σ H1 vs us Q I1 r1 q1) he hpl
theorem rJ (hc:bT X (.type T) r) (hg:Gl X x) (hm:X.mg x=none) (hv:bootBuiltins x=some (.type T)) (ha:PA X (e::es) t) (hn:x ≠ "__name__":=by decide) (hdb:(x == ("__debug__":Str))=false:=by decide)
 (he:starEach (e::es) X.env=(false,eval e X.env)::starEach es X.env:=by rfl) (hpl:(backTo pos (starEach es X.env)).any (·.1)=false:=by rfl):PE X (.Call (.Name x p) (e::es) [] pos) (tCB r t):=by
 intro pins s σ H Q I h
 refine wpAny_Call_Name_kw (jA I hg hm hv ?_ hn hdb)
 exact PyProof.Rows.callWith_type1 (thn (ha pos pins s σ H _ I h) fun us s1 ⟨vs,H1,I1,r1,q1⟩=>hc pins s1 σ H1 vs us Q I1 r1 q1) he hpl
end
end L2
namespace HT
open PySem PyProof.Rows
section
open PySem.SeqAt
open PySem.AutoSeq1 (wpAny_loadPart')
open PySem.MeetsSeq PySem.MeetsSeq2 PySem.MeetsSeq3
end
section
variable {prog:Program} {w:World} {A:Around} {E:Value->Shared->Prop} {s:Shared}
theorem wQ {t b:Addr} {vs ws:List Value} {Q:Value->Shared->Prop} (ht:IsTup s.heap t vs.toArray) (hb:IsTup s.heap b ws.toArray) (hv:vs ≠ [])
 (h1:ws= []->Q (.ref t) s) (h2:ws ≠ []->Q (.ref s.heap.objs.size) { s with heap:=s.heap.push { cls:=.type "tuple",data:=.seq (vs ++ ws).toArray } })
 (hsz:vs.length + ws.length <= sizeLine):wpAny (model prog w) A (binaryOp .Add (.ref t) (.ref b)) Q E s:=by
 obtain ⟨⟨cls,dd,data,sl⟩,ho,hc,n,hd⟩:=id ht
 obtain ⟨⟨cls2,dd2,data2,sl2⟩,ho2,hc2,n2,hd2⟩:=id hb
 simp only at hc hd hc2 hd2
 subst hc hd hc2 hd2
 have e:vs.toArray ++ ws.toArray=(vs ++ ws).toArray:=by simp
 by_cases hw:ws= []
 · exact concat_meets ⟨_,ho,rfl⟩ ⟨_,ho2,rfl⟩ noFill_tuple_add seq_tuple_add PySem.F.slot_tuple_add PySem.F.entry_tuple_add (PySem.F.args_tuple_add_2 _ _)
    (tuple_addW1 t b vs.toArray ws.toArray n n2 dd dd2 sl sl2 (by simpa using hv) (by simp [hw])) ⟨ho,ho2,h1 hw⟩
 · refine concat_meets ⟨_,ho,rfl⟩ ⟨_,ho2,rfl⟩ noFill_tuple_add seq_tuple_add PySem.F.slot_tuple_add PySem.F.entry_tuple_add (PySem.F.args_tuple_add_2 _ _)
    (tuple_addW2 t b vs.toArray ws.toArray n n2 dd dd2 sl sl2 (by simpa using hv) (by simpa using hw) (by rw [List.size_toArray,List.size_toArray];exact hsz)) ⟨ho,ho2,?_⟩
   rw [e]
   exact h2 hw
def sIx (n d:Nat):Option Int->Nat
 | none=>d
 | some v=>if v < 0 then (v + (n:Int)).toNat else min v.toNat n
theorem yO (n d:Nat) (hd:d <= n) (o:Option Int):sIx n d o <= n:=by
 cases o with
 | none=>exact hd
 | some v=>
   show (if v < 0 then (v + (n:Int)).toNat else min v.toNat n) <= n
   by_cases hv:v < 0
   · rw [if_pos hv];omega
   · rw [if_neg hv];exact Nat.min_le_right _ _
theorem oR (v:Int) (n d:Nat):(if v < 0 then max (v + (n:Int)) 0 else min v (n:Int))=((sIx n d (some v):Nat):Int):=by
 show (if v < 0 then max (v + (n:Int)) 0 else min v (n:Int))=(((if v < 0 then (v + (n:Int)).toNat else min v.toNat n):Nat):Int)
 by_cases hv:v < 0
 · simp only [if_pos hv];omega
 · simp only [if_neg hv];omega
theorem p_ (lo hi:Option Int) (n:Nat):Builtin.Slice.sliceAdjust lo hi 1 (n:Int)=(((sIx n 0 lo:Nat):Int),((sIx n n hi:Nat):Int)):=by
 have h1:¬ ((1:Int) < 0):=by omega
 unfold Builtin.Slice.sliceAdjust
 simp only [h1,if_false]
 refine Prod.ext ?_ ?_
 · cases lo with
   | none=>rfl
   | some v=>exact oR v n 0
 · cases hi with
   | none=>rfl
   | some v=>exact oR v n n
theorem qd (i j:Nat):Builtin.Slice.slicePlaces (i:Int) (j:Int) 1=j - i:=by
 unfold Builtin.Slice.slicePlaces
 have h1:(1:Int) > 0:=by omega
 simp only [h1,if_true,Int.ediv_one]
 split <;> omega
theorem jD {v:Value} {o:Option Int} {Q:Option Int->Shared->Prop} (p:IsPart v o) (h:Q o s):wpAny (model prog w) A (Builtin.Slice.slicePartIndex v) Q E s:=by
 cases p with
 | none=>exact slicePart_none h
 | int i t=>exact slicePart_int h
theorem jq {sl:Addr} {vl vu:Value} {lo hi:Option Int} {n:Nat} {Q:Int × Int × Nat->Shared->Prop} (hs:s.heap.IsSliceOf sl vl vu .none) (pl:IsPart vl lo) (pu:IsPart vu hi)
 (h:Q (((sIx n 0 lo:Nat):Int),1,sIx n n hi - sIx n 0 lo) s):wpAny (model prog w) A (Builtin.Slice.sliceApplied (.ref sl) (pure (n:Int))) Q E s:=by
 obtain ⟨os,hos,hcs,hds⟩:=id hs
 unfold Builtin.Slice.sliceApplied Builtin.Slice.sliceFields
 refine wpAny_bind (wpAny_bind (wpAny_field hos hds (x:=vl) rfl (wpAny_bind (wpAny_field hos hds (x:=vu) rfl (wpAny_bind (wpAny_field hos hds (x:=.none) rfl (wpAny_pure ?_)))))))
 refine wpAny_bind (slicePart_none ?_)
 show wpAny _ _ (if ((1:Int) == 0)=true then _ else _) _ _ s
 rw [if_neg (by decide)]
 refine wpAny_bind (jD pl (wpAny_bind (jD pu (wpAny_bind (wpAny_pure ?_)))))
 show wpAny _ _ (match Builtin.Slice.sliceAdjust lo hi 1 (n:Int) with | (lo,hi)=>pure (lo,(1:Int),Builtin.Slice.slicePlaces lo hi 1)) _ _ s
 rw [p_ lo hi n]
 show wpAny _ _ (pure (((sIx n 0 lo:Nat):Int),(1:Int),Builtin.Slice.slicePlaces ((sIx n 0 lo:Nat):Int) ((sIx n n hi:Nat):Int) 1)) _ _ s
 rw [qd]
 exact wpAny_pure h
theorem uD (xs:Array Value) (i k:Nat):((List.range k).filterMap fun (m:Nat)=>xs[((i:Int) + (m:Int) * 1).toNat]?).toArray=((xs.toList.drop i).take k).toArray:=by
 have e:(fun (m:Nat)=>xs[((i:Int) + (m:Int) * 1).toNat]?)=fun m=>xs[i + m]?:=by
  funext m
  have:((i:Int) + (m:Int) * 1).toNat=i + m:=by omega
  rw [this]
 rw [e]
 have:=pick_run xs i k
 rw [List.filterMap_map] at this
 have e2:((fun x=>xs[x]?) ∘ fun x=>i + x)=fun m=>xs[i + m]?:=rfl
 rw [e2] at this
 rw [this]
theorem jg {t sl:Addr} {items:Array Value} {vl vu:Value} {lo hi:Option Int} {Q:Value->Shared->Prop} (ht:IsTup s.heap t items) (hs:s.heap.IsSliceOf sl vl vu .none) (pl:IsPart vl lo) (pu:IsPart vu hi)
 (hw:¬ (sIx items.size 0 lo=0/\sIx items.size items.size hi=items.size))
 (h:Q (.ref s.heap.objs.size) { s with heap:=s.heap.push { cls:=.type "tuple",data:=.seq ((items.toList.drop (sIx items.size 0 lo)).take (sIx items.size items.size hi - sIx items.size 0 lo)).toArray } })
 (hsz:items.size <= sizeLine):wpAny (model prog w) A (getItem (.ref t) (.ref sl)) Q E s:=by
 have lU:sizeOk (.seq ((items.toList.drop (sIx items.size 0 lo)).take (sIx items.size items.size hi - sIx items.size 0 lo)).toArray):=by
  show ((items.toList.drop (sIx items.size 0 lo)).take (sIx items.size items.size hi - sIx items.size 0 lo)).toArray.size <= sizeLine
  rw [List.size_toArray,List.length_take,List.length_drop,Array.length_toList]
  omega
 have hj:sIx items.size items.size hi <= items.size:=yO _ _ (Nat.le_refl _) hi
 obtain ⟨os,hos,hcs,hds⟩:=id hs
 have hTs:s.TypeIs (.ref sl) "slice":=⟨os,hos,hcs⟩
 unfold getItem
 try with_reducible refine wpAny_holding ?_
 first | refine wpAny_bind (wpAny_pure ?_) | skip
 refine wpAny_bind (wpAny_sequenceKey ht.typeIs (by decide) ?_)
 refine wpAny_bind (wpAny_callSpecial?_slot (name:=Str.ofString "__getitem__") ht.typeIs PyProof.Rows.slot_tuple_getitem
  (wpAny_call_entry PyProof.Rows.slot_tuple_getitem ht.typeIs entry_tuple_getitem ?_ (args_tuple_getitem _ _)))
 show wpAny _ _ (Builtin.Tuple.tupleItemsOf (.ref t) >>= _) _ _ s
 refine wpAny_bind (tupleItemsOf_ ht ?_)
 refine wpAny_bind (wpAny_typeOf hTs ?_)
 rw [if_pos (by decide)]
 refine wpAny_bind (jq hs pl pu ?_)
 have hno:¬ ((((sIx items.size 0 lo:Nat):Int) == 0 && (1:Int) == 1 && (sIx items.size items.size hi - sIx items.size 0 lo) == items.size)=true):=by
  intro q
  rw [Bool.and_eq_true,Bool.and_eq_true] at q
  have q1:((sIx items.size 0 lo:Nat):Int)=0:=eq_of_beq q.1.1
  have q2:sIx items.size items.size hi - sIx items.size 0 lo=items.size:=eq_of_beq q.2
  exact hw ⟨by omega,by omega⟩
 show wpAny _ _ (if (((sIx items.size 0 lo:Nat):Int) == 0 && (1:Int) == 1 && (sIx items.size items.size hi - sIx items.size 0 lo) == items.size)=true then _ else _) _ _ s
 rw [if_neg hno,uD]
 first
  | exact wpAny_bind (m:=Builtin.Tuple.tupleExact _) (wpAny_newObj_type (wpAny_pure ⟨_,rfl,wpAny_pure h⟩) lU)
  | exact wpAny_bind (m:=Builtin.Tuple.tupleExact _) (wpAny_newObj_type (wpAny_bind (wpAny_pure (wpAny_pure ⟨_,rfl,wpAny_pure h⟩))) lU)
  | exact wpAny_bind (wpAny_bind (m:=Builtin.Tuple.tupleExact _) (wpAny_newObj_type (wpAny_pure (wpAny_pure ⟨_,rfl,wpAny_pure h⟩)) lU))
  | exact wpAny_bind (wpAny_bind (m:=Builtin.Tuple.tupleExact _) (wpAny_newObj_type (wpAny_pure ⟨_,rfl,wpAny_pure h⟩) lU))
end
end HT
namespace L2
open PySem PySem.Spec PyProof.Rows
abbrev TO:=St->Hp->(Option Int->Hp->Prop)->Prop
def PO (X:Cx) (e:Option Expr) (t:TO):Prop:=
 ∀ (pins:List (Addr × Obj)) (s:Shared) (σ:St) (H:Hp) (Q:Option Int->Hp->Prop),Inv X pins σ H s->t σ H Q->
   wpAny (model X.prog X.w) X.A (evalPart e X.env) (fun u s'=>∃ o H',Inv X pins σ H' s'/\IsPart u o/\Q o H') X.xe s
def oU:TO:=fun _ H Q=>Q none H
def vD (t:TE):TO:=fun σ H Q=>t σ H fun x H1=>∃ i,x= .int i/\Q (some i) H1
section
variable {X:Cx} {e:Expr} {te:TE} {lo hi:Option Expr} {tl th:TO} {pos p2:Pos}
theorem wR:PO X none oU:=by
 intro pins s σ H Q I h
 rw [evalPart_none]
 exact wpAny_pure ⟨none,H,I,.none,h⟩
theorem wU (h:PE X e te):PO X (some e) (vD te):=by
 intro pins s σ H Q I hw
 rw [evalPart_some]
 refine thn (h pins s σ H _ I hw) fun u s1 ⟨x,H1,I1,r1,q1⟩=>?_
 obtain ⟨i,rfl,q⟩:=q1
 obtain ⟨t,rfl⟩:=r1
 exact ⟨some i,H1,I1,.int i t,q⟩
def SlR (X:Cx) (r:V->Option Int->Option Int->Hp->VK->Prop):Prop:=
 ∀ (pins:List (Addr × Obj)) (s:Shared) (σ:St) (H:Hp) (x:V) (v vl vu:Value) (lo hi:Option Int) (sl:Addr) (Q:VK),Inv X pins σ H s->RelV x v->s.heap.IsSliceOf sl vl vu .none->IsPart vl lo->IsPart vu hi->r x lo hi H Q->
   ∃ T id,typeLookup (.type T) "__getitem__" =pure (some (.builtin id))/\s.TypeIs v T/\wpAny (model X.prog X.w) X.A (getItem v (.ref sl)) (EP X pins σ Q) X.xe s
theorem SlR.or {r r':V->Option Int->Option Int->Hp->VK->Prop} (h:SlR X r) (h':SlR X r'):SlR X (fun x lo hi H Q=>r x lo hi H Q\/r' x lo hi H Q):=by
 intro pins s σ H x v vl vu lo hi sl Q I rx hs pl pu q
 rcases q with q | q
 · exact h pins s σ H x v vl vu lo hi sl Q I rx hs pl pu q
 · exact h' pins s σ H x v vl vu lo hi sl Q I rx hs pl pu q
def tSl (r:V->Option Int->Option Int->Hp->VK->Prop) (te:TE) (tl th:TO):TE:=fun σ H Q=>te σ H fun x H1=>tl σ H1 fun l H2=>th σ H2 fun u H3=>r x l u H3 Q
theorem uE {r:V->Option Int->Option Int->Hp->VK->Prop} (hr:SlR X r) (he:PE X e te) (hl:PO X lo tl) (hu:PO X hi th):PE X (.Subscript e (.Slice lo hi none p2) pos) (tSl r te tl th):=by
 intro pins s σ H Q I h
 refine Subscript_ (thn (he pins s σ H _ I h) fun v s1 ⟨x,H1,I1,r1,q1⟩=>?_)
 refine wpAny_Slice (thn (hl pins s1 σ H1 _ I1 q1) fun vl s2 ⟨l,H2,I2,pl,q2⟩=>thn (hu pins s2 σ H2 _ I2 q2) fun vu s3 ⟨u,H3,I3,pu,q3⟩=>?_)
 rw [evalPart_none]
 refine wpAny_pure ?_
 have I4:Inv X pins σ H3 { s3 with heap:=s3.heap.push { cls:=.type "slice",data:=.fields #[vl,vu,.none] } }:=I3.kept (t':=s3.toks) fun b ob q=>Heap.get?_push_of_some _ q
 obtain ⟨T,id,hT,ht,hg⟩:=hr pins { s3 with heap:=s3.heap.push { cls:=.type "slice",data:=.fields #[vl,vu,.none] } } σ H3 x v vl vu l u s3.heap.objs.size Q I4 r1 (Heap.IsSliceOf.new ..) pl pu q3
 show wpAny (model X.prog X.w) X.A (subscriptTail e (.Slice lo hi none p2) v (.ref s3.heap.objs.size)) (EP X pins σ Q) X.xe { s3 with heap:=s3.heap.push { cls:=.type "slice",data:=.fields #[vl,vu,.none] } }
 exact tail_any (ops:=[.ref s3.heap.objs.size,v]) ht hT hg (by with_unfolding_all rfl)
def jZ (xs:List V) (lo hi:Option Int):List V:=(xs.drop (HT.sIx xs.length 0 lo)).take (HT.sIx xs.length xs.length hi - HT.sIx xs.length 0 lo)
theorem jk (xs:List V) (lo hi:Option Int):(jZ xs lo hi).length <= xs.length:=by
 unfold jZ
 rw [List.length_take,List.length_drop]
 omega
def yP (K:PySem.W.Frag):V->Option Int->Option Int->Hp->VK->Prop:=fun x lo hi H Q=>∃ a xs,x= .ref a/\SqT K H a xs/\
 ¬ (HT.sIx xs.length 0 lo=0/\HT.sIx xs.length xs.length hi=xs.length)/\∀ p,H p=none->Q (.ref p) (upd H p (.tup (jZ xs lo hi)))
theorem yQ:SlR X (yP X.K):=by
 intro pins s σ H x v vl vu lo hi sl Q I rx hs pl pu h
 obtain ⟨a,xs,rfl,hx,hw,q⟩:=h
 cases rx
 obtain ⟨its,r,ht,hz⟩:=I.tuple hx
 have hlen:its.toArray.size=xs.length:=by rw [List.size_toArray];exact r.length.symm
 refine ⟨"tuple",_,PyProof.Rows.slot_tuple_getitem.lookup,ht.typeIs,?_⟩
 refine HT.jg ht hs pl pu (by rw [hlen];exact hw) ?_ (by rw [hlen];exact hz)
 rw [hlen]
 refine ⟨.ref s.heap.objs.size,_,I.laid (t':=s.toks) (o:=.tup (jZ xs lo hi)) (fun b ob q=>Heap.get?_push_of_some _ q) (Nat.le_refl _) ?_,rfl,q _ (I.hok.fresh (Nat.le_refl _))⟩
 exact ⟨Nat.le_trans (jk xs lo hi) hz,_,(r.drop (HT.sIx xs.length 0 lo)).take (HT.sIx xs.length xs.length hi - HT.sIx xs.length 0 lo),IsTup.new _ _⟩
def vG (K:PySem.W.Frag):R2:=fun x y H Q=>∃ a b xs ys,x= .ref a/\y= .ref b/\SqT K H a xs/\SqT K H b ys/\xs ≠ []/\xs.length + ys.length <= sizeLine/\
 (ys= []->Q (.ref a) H)/\(ys ≠ []->∀ p,H p=none->Q (.ref p) (upd H p (.tup (xs ++ ys))))
theorem Vals.j0 {xs:List V} {us:List Value} (r:Vals xs us):us= [] ↔ xs= []:=by
 cases r with
 | nil=>simp
 | cons _ _=>simp
theorem oV:OpR X (binaryOp .Add) (vG X.K):=by
 intro pins s σ H x y v u Q I rx ry h
 obtain ⟨a,b,xs,ys,rfl,rfl,ha,hb,hx,hz,q1,q2⟩:=h
 cases rx
 cases ry
 obtain ⟨its,r1,p1,_⟩:=I.tuple ha
 obtain ⟨its2,r2,p2,_⟩:=I.tuple hb
 refine HT.wQ p1 p2 (fun z=>hx (r1.j0.mp z)) (fun z=>⟨.ref a,H,I,rfl,q1 (r2.j0.mp z)⟩) (fun z=>?_) (by rw [<- r1.length,<- r2.length];exact hz)
 refine ⟨.ref s.heap.objs.size,_,I.laid (t':=s.toks) (o:=.tup (xs ++ ys)) (fun b ob q=>Heap.get?_push_of_some _ q) (Nat.le_refl _) ?_,rfl,q2 (fun w=>z (r2.j0.mpr w)) _ (I.hok.fresh (Nat.le_refl _))⟩
 exact ⟨by rw [List.length_append];exact hz,_,r1.append r2,IsTup.new _ _⟩
end
end L2
namespace L2
open PySem PySem.Spec PyProof.Rows
def ixN (n:Nat) (i:Int):Option Nat:=if 0 <= i then (if i < n then some i.toNat else none) else if -(n:Int) <= i then some (i + n).toNat else none
def atI {α:Type} (xs:List α) (i:Int):Option α:=(ixN xs.length i).bind fun j=>xs[j]?
theorem wV {n:Nat} {i:Int} {j:Nat} (h:ixN n i=some j):seqIndex? i n=some j/\j < n/\-(n:Int) <= i/\i < n:=by
 unfold ixN at h
 by_cases h0:0 <= i
 · rw [if_pos h0] at h
   by_cases h1:i < n
   · rw [if_pos h1] at h
     have e:i.toNat=j:=Option.some.inj h
     exact ⟨by rw [seqIndex_of h0 h1,e],by omega,by omega,h1⟩
   · rw [if_neg h1] at h;cases h
 · rw [if_neg h0] at h
   by_cases h1: -(n:Int) <= i
   · rw [if_pos h1] at h
     have e:(i + n).toNat=j:=Option.some.inj h
     exact ⟨by rw [seqIndex_neg (by omega) h1,e],by omega,h1,by omega⟩
   · rw [if_neg h1] at h;cases h
theorem j6 {α:Type} {xs:List α} {i:Int} {v:α} (h:atI xs i=some v):∃ j,seqIndex? i xs.length=some j/\xs[j]? =some v/\j < xs.length/\-(xs.length:Int) <= i/\i < xs.length:=by
 unfold atI at h
 cases e:ixN xs.length i with
 | none=>rw [e] at h;cases h
 | some j=>
   rw [e] at h
   obtain ⟨h1,h2,h3,h4⟩:=wV e
   exact ⟨j,h1,h,h2,h3,h4⟩
theorem gj {α:Type} {xs:List α} {j:Nat} {v:α} (h:xs[j]? =some v):atI xs (j:Int)=some v:=by
 have hj:j < xs.length:=(List.getElem?_eq_some_iff.mp h).1
 have e:ixN xs.length (j:Int)=some j:=by
  unfold ixN
  rw [if_pos (by omega),if_pos (by omega)];simp
 unfold atI;rw [e];exact h
def j7 (b:Expr):Prop:=∀ o i,subscripted b false o i=operate [o,i] (getItem o i)
def IxR (X:Cx) (r:R2):Prop:=
 ∀ (value slice:Expr) (pins:List (Addr × Obj)) (s:Shared) (σ:St) (H:Hp) (x y:V) (v u:Value) (Q:VK),Inv X pins σ H s->RelV x v->RelV y u->r x y H Q->
   subscripted slice false v u=operate [v,u] (getItem v u)->wpAny (model X.prog X.w) X.A (subscriptTail value slice v u) (EP X pins σ Q) X.xe s
def MtR (X:Cx) (id:String) (r:V->List V->Hp->VK->Prop):Prop:=
 ∀ (pins:List (Addr × Obj)) (s:Shared) (σ:St) (H:Hp) (x:V) (xs:List V) (v:Value) (us:List Value) (Q:VK),Inv X pins σ H s->RelV x v->Vals xs us->r x xs H Q->
   wpAny (model X.prog X.w) X.A (call (.builtin id) (v::us)) (EP X pins σ Q) X.xe s
section
variable {X:Cx} {a b:Expr} {ta tb:TE} {pos:Pos}
theorem IxR.or {r r':R2} (h:IxR X r) (h':IxR X r'):IxR X (fun x y H Q=>r x y H Q\/r' x y H Q):=by
 intro value slice pins s σ H x y v u Q I rx ry q hs
 rcases q with q | q
 · exact h value slice pins s σ H x y v u Q I rx ry q hs
 · exact h' value slice pins s σ H x y v u Q I rx ry q hs
theorem iW {r:R2} (hr:IxR X r) (ha:PE X a ta) (hb:PE X b tb) (hs:j7 b):PE X (.Subscript a b pos) (tOp r ta tb):=by
 intro pins s σ H Q I h
 exact Subscript_ (uw ha hb I h fun v u s2 x y H2 I2 rx ry q=>hr a b pins s2 σ H2 x y v u Q I2 rx ry q (hs _ _))
def yR (K:PySem.W.Frag):R2:=fun x y H Q=>∃ p xs i v,x= .ref p/\y= .int i/\SqL K H p xs/\atI xs i=some v/\Q v H
def yS (K:PySem.W.Frag):R2:=fun x y H Q=>∃ p xs i v,x= .ref p/\y= .int i/\SqT K H p xs/\atI xs i=some v/\Q v H
def yU:R2:=fun x y H Q=>∃ z i c,x= .str z/\y= .int i/\z.length <= sizeLine/\atI z.cps.toList i=some c/\Q (.str ⟨#[c]⟩) H
theorem j8:IxR X (yR X.K):=by
 intro value slice pins s σ H x y v u Q I rx ry h hs
 obtain ⟨p,xs,i,z,rfl,rfl,hq,he,q⟩:=h
 cases rx
 obtain ⟨t,rfl⟩:=ry
 obtain ⟨its,r,pl,hz⟩:=I.list hq
 obtain ⟨j,h1,h2,h3,h4,h5⟩:=j6 he
 obtain ⟨w,ew,rw'⟩:=r.get h2
 have hl:=r.length
 have hn:=ie
 have fin:EP X pins σ Q w s:=⟨z,H,I,rw',q⟩
 by_cases h0:0 <= i
 · have hj:i.toNat=j:=by
    rw [seqIndex_of h0 h5] at h1
    exact Option.some.inj h1
   exact item_listR pl.isList h0 (by omega) (by rw [hj];simpa using ew) fin hs
 · have hj:(i + (its.toArray.size:Int)).toNat=j:=by
    rw [seqIndex_neg (by omega) h4] at h1
    rw [List.size_toArray,<- hl]
    exact Option.some.inj h1
   exact subscriptTail_builtinR (x:=w) pl.isList.typeIs slot_list_getitem.lookup
    (wpAny_getItem_list_neg (Q:=fun r s'=>r=w/\EP X pins σ Q r s') pl.isList (by omega) (by rw [List.size_toArray] <;> omega) (by omega) (by rw [hj];simpa using ew) ⟨rfl,fin⟩) hs
theorem yV:IxR X (yS X.K):=by
 intro value slice pins s σ H x y v u Q I rx ry h hs
 obtain ⟨p,xs,i,z,rfl,rfl,hq,he,q⟩:=h
 cases rx
 obtain ⟨t,rfl⟩:=ry
 obtain ⟨its,r,pl,hz⟩:=I.tuple hq
 obtain ⟨j,h1,h2,h3,h4,h5⟩:=j6 he
 obtain ⟨w,ew,rw'⟩:=r.get h2
 have hl:=r.length
 have hn:=ie
 have fin:EP X pins σ Q w s:=⟨z,H,I,rw',q⟩
 exact subscriptTail_builtinR (x:=w) pl.typeIs slot_tuple_getitem.lookup
  (getItem_tuple (j:=j) (Q:=fun r s'=>r=w/\EP X pins σ Q r s') pl (by omega) (by omega) (by rw [List.size_toArray,<- hl];exact h1) (by simpa using ew) ⟨rfl,fin⟩) hs
theorem yW:IxR X yU:=by
 intro value slice pins s σ H x y v u Q I rx ry h hs
 obtain ⟨z,i,c,rfl,rfl,hz,he,q⟩:=h
 obtain ⟨t,rfl⟩:=rx
 obtain ⟨t',rfl⟩:=ry
 obtain ⟨j,h1,h2,h3,h4,h5⟩:=j6 he
 have hl:z.cps.toList.length=z.length:=by simp [Str.length]
 rw [hl] at h1 h4 h5
 have hn:=ie
 exact tail_any (typeIs_str s z t) slot_str_getitem.lookup (getItem_str (c:=c) (by
  have e1:decide (i < -(2 ^ 63:Int))=false:=decide_eq_false (by omega)
  have e2:decide (i >= 2 ^ 63)=false:=decide_eq_false (by omega)
  rw [e1,e2,Bool.or_false]) (by rw [h1];simpa using h2) ⟨.str ⟨#[c]⟩,H,I.tok _,⟨_,rfl⟩,q⟩) hs
def rIx (K:PySem.W.Frag):R2:=fun x y H Q=>yR K x y H Q\/yS K x y H Q\/yU x y H Q
theorem mQ:IxR X (rIx X.K):=j8.or (yV.or yW)
theorem mR (lo hi:Option Int) (n:Nat):(sliceBounds lo hi none n).1=((HT.sIx n 0 lo:Nat):Int)/\(sliceBounds lo hi none n).2.1=((HT.sIx n n hi:Nat):Int)/\(sliceBounds lo hi none n).2.2=1:=by
 refine ⟨?_,?_,rfl⟩
 · cases lo with
   | none=>simp [sliceBounds,HT.sIx]
   | some i=>
     simp only [sliceBounds,HT.sIx,Option.getD_none,show (1:Int) > 0 by decide,if_true]
     by_cases h:i < 0
     · simp only [h,if_true] <;> omega
     · simp only [h,if_false] <;> omega
 · cases hi with
   | none=>simp [sliceBounds,HT.sIx]
   | some i=>
     simp only [sliceBounds,HT.sIx,Option.getD_none,show (1:Int) > 0 by decide,if_true]
     by_cases h:i < 0
     · simp only [h,if_true] <;> omega
     · simp only [h,if_false] <;> omega
theorem lM (its:List Value) (lo hi:Option Int):slicePick its.toArray lo hi none=((its.drop (HT.sIx its.length 0 lo)).take (HT.sIx its.length its.length hi - HT.sIx its.length 0 lo)).toArray:=by
 obtain ⟨h1,h2,h3⟩:=mR lo hi its.toArray.size
 unfold slicePick
 rw [h1,h2,h3]
 simp only [sliceRange_one,pick_run,List.size_toArray] <;> rfl
def yX (K:PySem.W.Frag):V->Option Int->Option Int->Hp->VK->Prop:=fun x lo hi H Q=>∃ a xs,x= .ref a/\SqL K H a xs/\∀ p,H p=none->Q (.ref p) (upd H p (.lst (jZ xs lo hi)))
theorem wW:SlR X (yX X.K):=by
 intro pins s σ H x v vl vu lo hi sl Q I rx hs pl pu h
 obtain ⟨a,xs,rfl,hx,q⟩:=h
 cases rx
 obtain ⟨its,r,ht,hz⟩:=I.list hx
 have hlen:=r.length
 refine ⟨"list",_,slot_list_getitem.lookup,ht.isList.typeIs,?_⟩
 refine wpAny_getItem_list_slice ht.isList hs pl pu .none (by simp) ?_ (by rw [List.size_toArray] <;> omega)
 rw [lM,<- hlen]
 refine ⟨.ref s.heap.objs.size,_,I.laid (t':=s.toks) (o:=.lst (jZ xs lo hi)) (fun b ob q=>Heap.get?_push_of_some _ q) (Nat.le_refl _) ?_,rfl,q _ (I.hok.fresh (Nat.le_refl _))⟩
 exact ⟨Nat.le_trans (jk xs lo hi) hz,_,0,(r.drop (HT.sIx xs.length 0 lo)).take (HT.sIx xs.length xs.length hi - HT.sIx xs.length 0 lo),Heap.get?_push_size _ rfl⟩
theorem cD:bT X (.builtin "len") (fun xs H Q=>∃ p ys,xs= [.ref p]/\(SqL X.K H p ys\/SqT X.K H p ys)/\Q (.int ys.length) H):=by
 intro pins s σ H xs us Q I r h
 obtain ⟨p,ys,rfl,hq,q⟩:=h
 obtain ⟨u,rfl,rx⟩:=vals1 r
 cases rx
 have hn:=ie
 rcases hq with hq | hq
 · obtain ⟨its,r',pl,hz⟩:=I.list hq
   have hlen:=r'.length
   exact Calls.call_len_list pl.isList (by simp only [List.size_toArray] <;> omega) ⟨.int ys.length,H,I.tok _,⟨s.toks + 1,by rw [List.size_toArray,hlen]⟩,q⟩
 · obtain ⟨its,r',pl,hz⟩:=I.tuple hq
   have hlen:=r'.length
   exact len_tuple pl (by simp only [List.size_toArray] <;> omega) ⟨.int ys.length,H,I.tok _,⟨s.toks + 1,by rw [List.size_toArray,hlen]⟩,q⟩
theorem bT.or {f:Value} {r r':List V->Hp->VK->Prop} (h:bT X f r) (h':bT X f r'):bT X f (fun xs H Q=>r xs H Q\/r' xs H Q):=by
 intro pins s σ H xs us Q I rs q
 rcases q with q | q
 · exact h pins s σ H xs us Q I rs q
 · exact h' pins s σ H xs us Q I rs q
theorem lN:bT X (.type "tuple") (fun xs H Q=>∃ p ys,xs= [.ref p]/\((SqL X.K H p ys/\∀ l,H l=none->Q (.ref l) (upd H l (.tup ys)))\/(SqT X.K H p ys/\Q (.ref p) H))):=by
 intro pins s σ H xs us Q I r h
 obtain ⟨p,ys,rfl,h⟩:=h
 obtain ⟨u,rfl,rx⟩:=vals1 r
 cases rx
 rcases h with ⟨hq,q⟩ | ⟨hq,q⟩
 · obtain ⟨its,r',pl,hz⟩:=I.list hq
   have hlen:=r'.length
   refine call_tuple_list pl.isList (fun h' kp=>?_) (by simp only [List.size_toArray] <;> omega)
   have I1:Inv X pins σ H { s with heap:=h' }:=I.kept (t':=s.toks) kp
   have I2:Inv X pins σ (upd H h'.objs.size (.tup ys)) { s with heap:=h'.push { cls:=.type "tuple",data:=.seq its.toArray } }:=
    I1.laid (t':=s.toks) (fun b o e=>Heap.get?_push_of_some _ e) (Nat.le_refl _) (show aP X.prog X.w _ _ _ (.tup ys) from ⟨hz,its,r',IsTup.new _ _⟩)
   exact ⟨.ref h'.objs.size,_,I2,rfl,q _ (I1.hok.fresh (Nat.le_refl _))⟩
 · obtain ⟨its,r',pl,hz⟩:=I.tuple hq
   exact call_tuple_same pl ⟨.ref p,H,I,rfl,q⟩
def tyV (K:PySem.W.Frag) (T:String) (x:V) (H:Hp):Prop:=match x with
 | .str _=>T= "str"
 | .int _=>T= "int"
 | .ref p=>(T= "list"/\∃ xs,SqL K H p xs)\/(T= "tuple"/\∃ o,K.lookup p=some o/\o.cls= .type "tuple"/\o.dict=none)\/
    (T= "dict"/\((∃ kvs,H p=some (.dK kvs))\/∃ kvs,H p=some (.dT kvs)))\/(T= "set"/\∃ S n,H p=some (.set S n))
 | _=>False
theorem yZ {pins:List (Addr × Obj)} {σ:St} {H:Hp} {s:Shared} {T:String} {x:V} {v:Value} (I:Inv X pins σ H s) (r:RelV x v) (ty:tyV X.K T x H):
 s.TypeIs v T/\∀ a,v= .ref a->∃ ob,s.heap.get? a=some ob/\ob.dict=none:=by
 cases x with
 | str z=>
   obtain ⟨t,rfl⟩:=r
   cases (show T= "str" from ty)
   exact ⟨typeIs_str s z t,fun _ e=>nomatch e⟩
 | int i=>
   obtain ⟨t,rfl⟩:=r
   cases (show T= "int" from ty)
   exact ⟨typeIs_int s i t,fun _ e=>nomatch e⟩
 | ref p=>
   cases r
   rcases ty with ⟨rfl,xs,hq⟩ | ⟨rfl,o,hk,hc,hd⟩ | ⟨rfl,hk⟩ | ⟨rfl,S,n,hk⟩
   · obtain ⟨its,_,pl,_⟩:=I.list hq
     refine ⟨pl.isList.typeIs,fun a e=>?_⟩
     cases e
     obtain ⟨o,n,e,c,hd,_⟩:=pl
     exact ⟨o,e,hd⟩
   · refine ⟨⟨o,I.kIn p o hk,hc⟩,fun a e=>?_⟩
     cases e
     exact ⟨o,I.kIn _ o hk,hd⟩
   · have z:∃ o,s.heap.get? p=some o/\o.ExactDict:=by
      rcases hk with ⟨kvs,hk⟩ | ⟨kvs,hk⟩
      · obtain ⟨_,_,_,_,o,_,_,e,ex,_⟩:=I.hok p _ hk
        exact ⟨o,e,ex⟩
      · obtain ⟨_,_,_,_,o,_,_,e,ex,_⟩:=I.hok p _ hk
        exact ⟨o,e,ex⟩
     obtain ⟨o,e,ex⟩:=z
     refine ⟨⟨o,e,ex.1⟩,fun a e2=>?_⟩
     cases e2
     exact ⟨o,e,ex.2.1⟩
   · obtain ⟨o,_,_,_,e,ex,_⟩:=I.hok p _ hk
     refine ⟨⟨o,e,ex.1⟩,fun a e2=>?_⟩
     cases e2
     exact ⟨o,e,ex.2.1⟩
 | _=>exact False.elim ty
def tBM (K:PySem.W.Frag) (T:String) (r:V->List V->Hp->VK->Prop) (to:TE) (t:TA):TE:=fun σ H Q=>to σ H fun x H1=>tyV K T x H1/\t σ H1 fun xs H2=>r x xs H2 Q
variable {o e:Expr} {es:List Expr} {to:TE} {t:TA} {name:Str} {apos cpos:Pos} {T id:String} {r:V->List V->Hp->VK->Prop}
theorem lV (pa:PlainAttrs T) (slot:Slot T name id) (hty:typeOf (.builtin id)=pure (.type "method_descriptor")) (hm:MtR X id r) (ho:PE X o to) (ha:PA X (e::es) t)
 (hbase:attributeBase o name X.env (eval o X.env)=eval o X.env:=by rfl)
 (hfew:((backTo cpos (starEach (e::es) X.env)).all (fun x=> !x.1) && (backToKw cpos (keywordEach [] X.env)).all (fun x=>x.1.isSome)
   && decide ((e::es).length + ([]:List Keyword).length + (if ([]:List Keyword).isEmpty then 0 else 1) < 30))=true:=by rfl)
 (hline:(apos.endLine == cpos.line)=true:=by rfl) (hs:starEach (e::es) X.env=(false,eval e X.env)::starEach es X.env:=by rfl) (hplain:(backTo cpos (starEach es X.env)).any (·.1)=false:=by rfl):
 PE X (.Call (.Attribute o name apos) (e::es) [] cpos) (tBM X.K T r to t):=by
 intro pins s σ H Q I h
 refine wpAny_Call_method_late hbase hfew hline rfl (thn (ho pins s σ H _ I h) fun v s1 ⟨x,H1,I1,r1,ty,q1⟩=>?_)
 obtain ⟨h1,h2⟩:=yZ I1 r1 ty
 refine ⟨T,id,pa,slot,hty,h1,h2,?_⟩
 have hA:=ha cpos pins s1 σ H1 _ I1 q1
 rw [hs] at hA ⊢
 refine Calls.callWith_builtin (by show (false || (backTo cpos (starEach es X.env)).any (·.1))=false;rw [hplain] <;> rfl) (Calls.evalArgs_plain ?_)
 exact thn hA fun us s2 ⟨vs,H2,I2,r2,q2⟩=>hm pins s2 σ H2 x vs v us Q I2 r1 r2 q2
end
end L2
namespace L2
open PySem PySem.Spec PyProof.Rows
def MtM (X:Cx) (id:String) (r:V->List V->Hp->VK->Prop):Prop:=
 ∀ (pins:List (Addr × Obj)) (s:Shared) (σ:St) (H:Hp) (x:V) (xs:List V) (v:Value) (us:List Value) (Q:VK),Inv X pins σ H s->RelV x v->Vals xs us->r x xs H Q->
   wpAny (model X.prog X.w) X.A (call (.builtin id) (v::us)) (EP X pins σ Q) X.xe s
theorem Vals.one:∀ {x:V} {us:List Value},Vals [x] us->∃ u,us= [u]/\RelV x u
 | _,_,.cons r .nil=>⟨_,rfl,r⟩
theorem Vals.rep {xs:List V} {us:List Value} (h:Vals xs us):∀ k:Nat,Vals (List.replicate k xs).flatten (List.replicate k us).flatten
 | 0=>.nil
 | k + 1=>by
   rw [List.replicate_succ,List.replicate_succ,List.flatten_cons,List.flatten_cons]
   exact Vals.append h (Vals.rep h k)
theorem foldl_rep (its:List Value):∀ (k:Nat) (acc:List Value),
 List.foldl (fun x1 x2=>x1 ++ x2) acc.toArray (List.replicate k its.toArray)=(acc ++ (List.replicate k its).flatten).toArray
 | 0,acc=>by simp
 | k + 1,acc=>by
   have e:acc.toArray ++ its.toArray=(acc ++ its).toArray:=by simp
   have e2:(acc ++ its) ++ (List.replicate k its).flatten=acc ++ (List.replicate (k + 1) its).flatten:=by
    rw [List.replicate_succ,List.flatten_cons,List.append_assoc]
   rw [<- e2,<- foldl_rep its k (acc ++ its),<- e,List.replicate_succ,List.foldl_cons]
section
variable {X:Cx} {pins:List (Addr × Obj)} {σ:St} {H:Hp} {s:Shared} {l b:Addr} {xs ys zs:List V}
theorem Inv.Du {its its':List Value} {n:Nat} {f:Array Value->Array Value} {t':Nat} (I:Inv X pins σ H s) (hH:H l=some (.lst xs))
 (e:s.heap.get? l=some { cls:=.type "list",data:=.seq its.toArray n }) (hf:f its.toArray=its'.toArray) (hv:Vals ys its') (hz:ys.length <= sizeLine):
 Inv X pins σ (upd H l (.lst ys)) { s with heap:=s.heap.update l (Obj.mapSeq f),toks:=t' }:=by
 have q:=PySem.IsL.update e f
 rw [hf] at q
 refine I.write (x:=l) (e:=l) (by rw [hH];exact trivial) (.inl rfl) (fun b' u hb hu=>(Heap.get?_update_other s.heap (Obj.mapSeq f) (Ne.symm hb)).trans hu) ⟨_,q⟩ ?_
 exact ⟨hz,its',_,hv,q⟩
theorem Inv.uF {its:List Value} {t':Nat} (I:Inv X pins σ H s) (hv:Vals ys its) (hz:ys.length <= sizeLine):
 Inv X pins σ (upd H s.heap.objs.size (.lst ys)) { s with heap:=s.heap.push { cls:=.type "list",data:=.seq its.toArray },toks:=t' }:=
 I.laid (fun _ _ q=>Heap.get?_push_of_some _ q) (Nat.le_refl _) ⟨hz,its,0,hv,Heap.get?_push_size _ rfl⟩
theorem Inv.fresh (I:Inv X pins σ H s):H s.heap.objs.size=none:=I.hok.fresh (Nat.le_refl _)
theorem Inv.qe (I:Inv X pins σ H s) (hH:H l=some (.lst xs)):xs.length <= sizeLine/\∃ (its:List Value) (n:Nat),Vals xs its/\xs.length=its.length/\s.heap.get? l=some { cls:=.type "list",data:=.seq its.toArray n }:=by
 obtain ⟨z,its,n,r,e⟩:=I.hok l _ hH
 exact ⟨z,its,n,r,r.length,e⟩
theorem uG {n:Nat} (h:n <= sizeLine):Builtin.List.listTooLong n=false:=by
 unfold Builtin.List.listTooLong
 exact decide_eq_false (by omega)
end
section
variable {X:Cx}
def oW:V->List V->Hp->VK->Prop:=fun x vs H Q=>∃ l xs y,x= .ref l/\vs= [y]/\H l=some (.lst xs)/\xs.length < sizeLine/\Q .non (upd H l (.lst (xs ++ [y])))
theorem fK:MtM X "list.append" oW:=by
 intro pins s σ H x vs v us Q I rx rv h
 obtain ⟨l,xs,y,rfl,rfl,hH,hz,q⟩:=h
 cases rx
 obtain ⟨u,rfl,ru⟩:=rv.one
 obtain ⟨z,its,n,r,hl,e⟩:=I.qe hH
 refine call_meets F.slot_list_append ⟨_,e,rfl⟩ F.entry_list_append (F.args_list_append_2 _ _) (PySem.list_append l its.toArray n u (by rw [List.size_toArray];omega)) ⟨e,?_⟩
 refine ⟨.non,_,I.Du (its':=its ++ [u]) hH e (by simp) (r.append (.cons ru .nil)) ?_,rfl,q⟩
 rw [List.length_append,List.length_singleton]
 omega
def y_:R2:=fun x y H Q=>∃ l b xs zs,x= .ref l/\y= .ref b/\H l=some (.lst xs)/\H b=some (.lst zs)/\xs.length + zs.length <= sizeLine/\∀ p,H p=none->Q (.ref p) (upd H p (.lst (xs ++ zs)))
theorem ir:OpR X (binaryOp .Add) y_:=by
 intro pins s σ H x y v u Q I rx ry h
 obtain ⟨l,b,xs,zs,rfl,rfl,hH,hB,hz,q⟩:=h
 cases rx
 cases ry
 obtain ⟨z,its,n,r,hl,e⟩:=I.qe hH
 obtain ⟨z2,its2,n2,r2,hl2,e2⟩:=I.qe hB
 refine PySem.P.add_list e e2 ?_ (by rw [List.size_toArray,List.size_toArray];omega)
 have ea:its.toArray ++ its2.toArray=(its ++ its2).toArray:=by simp
 rw [ea]
 exact ⟨.ref _,_,I.uF (t':=s.toks) (r.append r2) (by rw [List.length_append];omega),rfl,q _ I.fresh⟩
def za:R2:=fun x y H Q=>∃ l k xs,x= .ref l/\y= .int k/\H l=some (.lst xs)/\-(2 ^ 63) <= k/\k < 2 ^ 63/\xs.length * k.toNat <= sizeLine/\
 ∀ p,H p=none->Q (.ref p) (upd H p (.lst (List.replicate k.toNat xs).flatten))
theorem len_rep {α:Type} (xs:List α) (k:Nat):(List.replicate k xs).flatten.length=k * xs.length:=by
 induction k with
 | zero=>simp
 | succ k ih=>rw [List.replicate_succ,List.flatten_cons,List.length_append,ih,Nat.succ_mul,Nat.add_comm]
theorem mU:OpR X (binaryOp .Mult) za:=by
 intro pins s σ H x y v u Q I rx ry h
 obtain ⟨l,k,xs,rfl,rfl,hH,h1,h2,hz,q⟩:=h
 cases rx
 obtain ⟨t,rfl⟩:=ry
 obtain ⟨z,its,n,r,hl,e⟩:=I.qe hH
 have hlen:its.toArray.size * k.toNat <= sizeLine:=by rw [List.size_toArray,<- hl];exact hz
 have hcap:¬ its.toArray.size * k.toNat > (2 ^ 63 - 1) / 8:=by
  have:(sizeLine:Nat) <= (2 ^ 63 - 1) / 8:=by decide
  omega
 have hfit:¬ (!Builtin.List.listFitsIndex k)=true:=by
  rw [fitsIndex_both h1 h2]
  exact Bool.false_ne_true
 have BV:¬ Builtin.List.listTooLong (its.toArray.size * k.toNat)=true:=by
  rw [uG hlen]
  exact Bool.false_ne_true
 have hnew:List.foldl (fun x1 x2=>x1 ++ x2) #[] (List.replicate (if its.toArray.isEmpty=true then 0 else k.toNat) its.toArray)=(List.replicate k.toNat its).flatten.toArray:=by
  have f0:∀ m:Nat,List.foldl (fun x1 x2=>x1 ++ x2) #[] (List.replicate m its.toArray)=(List.replicate m its).flatten.toArray:=fun m=>by
   have:=foldl_rep its m []
   rw [List.nil_append] at this
   exact this
  rw [f0]
  cases its with
  | nil=>simp
  | cons a r'=>rw [if_neg (by simp)]
 refine wpAny_binaryOp_repeat_ref (T:="list") (U:="int") (by decide) ⟨_,e,rfl⟩ (fun s'=>typeIs_int s' k t) noFill_list_mul F.fills_int_mul F.slot_int_rmul repeat_list F.slot_int_index.lookup
  (call_meets F.slot_int_rmul (typeIs_int s k t) F.entry_int_rmul (F.args_int_rmul_2 _ _) (int___rmul___int_list k t l its.toArray n)
    ⟨e,rfl,⟨_,e,rfl⟩,call_meets F.slot_list_mul ⟨_,e,rfl⟩ F.entry_list_mul (F.args_list_mul_2 _ _) (AutoListH.list___mul___list_int_3 l its.toArray n k t hfit hcap BV) ⟨e,?_⟩⟩)
 rw [hnew]
 exact ⟨.ref _,_,I.uF (t':=s.toks) (r.rep k.toNat) (by rw [len_rep,Nat.mul_comm];exact hz),rfl,q _ I.fresh⟩
end
section
variable {prog:Program} {w:World} {A:Around} {E:Value->Shared->Prop} {s:Shared}
set_option maxRecDepth 100000 in
end
section
variable {X:Cx}
end
end L2
namespace Att
open PySem PySem.W PySem.Calls PyProof.Rows
theorem jE {P:Params} {h:Heap}:∀ (ns:List Int) (vs:List Value),WellAll P h vs (ns.map WData.int)->IntsAre vs ns:=by
 intro ns
 induction ns with
 | nil=>
   intro vs w
   rw [List.map_nil] at w
   cases w
   exact .nil
 | cons n ns ih=>
   intro vs w
   rw [List.map_cons] at w
   cases w with
   | cons a b=>
     cases a
     exact .cons _ _ (ih _ b)
theorem rK {l:OpenLaw} {n:Nat} (hn:l.most=some n) {P:Params} {h:Heap} {args:List WData} {vals:List Value}
 (hpre:l.row.toRowW.claim.pre args=true) (hwl:WellAll P h vals args):
 ∃ a vs ns,vals= [Value.ref a]/\args= [WData.list (ns.map WData.int)]/\h.get? a=some { cls:=.type "list",data:=.seq vs.toArray }/\IntsAre vs ns/\ns.length <= n:=by
 have hsh:WShape.hasAll [] args [.list .int] =true:=(pre_splitW hpre).1
 have hc:l.pre.holds [] { args:=args } =true:=(pre_splitW hpre).2
 obtain ⟨d,r,rfl,h1,h2⟩:=hasAllW_cons hsh
 obtain rfl:=hasAllW_nil h2
 obtain ⟨xs,rfl,h3⟩:=hasW_list h1
 obtain ⟨ns,rfl⟩:=items_int h3
 have hlen:ns.length <= n:=by
  unfold OpenLaw.pre at hc
  have h4:(WTm.not (.lt (.lit (.int (n:Int))) (.len (.arg 0)))).holds [] { args:=[.list (ns.map .int)] } =true:=by
   have h4:=(holds_andW hc).1
   rw [hn] at h4
   exact h4
  have h5:=condW_of h4 (w_not (w_lt w_lit (w_len_list (w_arg rfl))))
  rw [List.length_map] at h5
  refine Nat.le_of_not_lt fun q=>?_
  have q':(n:Int) < ((ns.length:Nat):Int):=by omega
  first
   | (rw [decide_eq_true q'] at h5;exact absurd h5 (by decide))
   | (simp at h5;omega)
 cases hwl with
 | cons w1 w2=>
   cases w2
   cases w1 with
   | list ho hall=>exact ⟨_,_,ns,rfl,rfl,ho,jE ns _ hall,hlen⟩
theorem rM (l:OpenLaw) (args:List WData):l.row.toRowW.claim.post args (.bool true) args=true:=
 postW_of (r:=l.row.toRowW) (X:=(true == true))
  (show WShape.has [] (.bool true) .bool=true by first | rfl | decide | simp [WShape.has,WShape.arms,WShape.armsAll])
  (show (WTm.eq .res (.lit (.bool true))).value [] { args:=args,res:=some (.bool true),after:=args } =some (.bool (true == true)) from w_eq_bool (w_res rfl) w_lit) rfl
theorem n_ {l:OpenLaw} {n:Nat} {q:Program} {loose:List Str} {XP:(Str->Option Value)->Heap->Prop} {YP:World->Heap->Prop} {d:DefRec}
 (hn:l.most=some n) (hdf:d.params.defaults= [])
 (call:∀ (w:World) (s₀ s₁:Shared) (mg mb:Str->Option Value) (fa:Addr) (o:Obj) (pm cd doc:Value) (a:Addr) (vs:List Value) (ns:List Int),
   Ground q loose [] XP w s₀ mg mb s₁.heap->YP w s₁.heap->
   s₁.heap.get? fa=some o->o.data= .func (docDef d.name d.params d.body d.scope pm cd doc)->s₁.heap.CodeRec cd d.name->mg d.name=some (.ref fa)->
   s₁.heap.get? a=some { cls:=.type "list",data:=.seq vs.toArray }->IntsAre vs ns->ns.length <= n->s₁.gens= #[]->
   codeAny (model l.prog w) callerA (.call (.ref fa) ⟨[.ref a],[]⟩) (fun r s'=>r= .ok (.ret (.bool true))/\OldK s₁.heap s'.heap/\s'.os=s₁.os/\AllBare s'.gens) s₁):
 WalkO q loose XP YP l.row.toRowW d [] (fun f vs=>PySem.call f vs):=by
 intro w s₀ s₁ mg mb G Y fa o pm cd doc dV kV ho hd hcd hD hmg hg args vals as hpre hlay hrd hwl hlo
 obtain rfl:dV= .none:=Dflts.none hD hdf
 obtain rfl:kV= .none:=Dflts.noKw hD
 obtain ⟨a,vs,ns,rfl,rfl,hobj,hints,hlen⟩:=rK hn hpre hwl
 refine enter_call (codeAny_mono (call w s₀ s₁ mg mb fa o pm cd doc a vs ns G Y ho (fd_plain hd) hcd hmg hobj hints hlen hg) fun r s' hq=>?_)
 obtain ⟨rfl,h2,h3,h4⟩:=hq
 exact ⟨.inl ⟨.bool true,.bool true,[],rfl,fun _=>rfl,.bool true,rM l _,fun _=>⟨List.Pairwise.nil,fun _ hm=>(nomatch hm)⟩⟩,h2,h3,h4⟩
section
variable {prog:Program} {w:World} {A:Around} {E:Value->Shared->Prop} {s:Shared} {K:Frag}
end
end Att
namespace L2
open PySem PySem.Spec PyProof.Rows
theorem lA:∀ {vs:List Value} {ns:List Int},IntsAre vs ns->Vals (ns.map V.int) vs
 | _,_,.nil=>.nil
 | _,_,.cons n t h=>.cons ⟨t,rfl⟩ (lA h)
def Only (H:Hp):Prop:=∀ b,H b=none\/∃ o xs,H b=some (.frz o (.lst xs))
theorem uH {P:Program} {w:World} {K:PySem.W.Frag} {mg mb:Str->Option Value} {CX:CXT} {k:Nat} {fa a:Addr} {fd:FuncData} {x:Str} {sp:Sp} {s₁:Shared} {vs:List Value} {ns:List Int}
 (KX:K.In s₁.heap) (hns:s₁.heap.Ns mainGlobals mg) (hb:s₁.heap.Ns builtinsNs mb) (hbb:∀ x:Str,x ≠ "__name__"->mb x=bootBuiltins x) (hlim:s₁.heap.NoLimit) (hg:s₁.gens= #[])
 (ha:s₁.heap.get? a=some { cls:=.type "list",data:=.seq vs.toArray }) (hi:IntsAre vs ns) (hl:ns.length <= sizeLine) (hr:bA k callerA)
 (F:∀ base:Heap,K.In base->base.Ns mainGlobals mg->aU P w K mg base CX k fa fd [x] sp) (hbind:∀ (s:Shared) (u:Value),BindsTo s fd ⟨[u],[]⟩ [(x,u)])
 (hsp:∀ H:Hp,Only H->SqL K H a (ns.map V.int)->sp [.ref a] H (fun v _=>v= .bl true) fun _ _ _=>False)
 (hCX:∀ H e s',CX [] H s₁ (fun _ _ _=>False) e s'->False):
 codeAny (model P w) callerA (.call (.ref fa) ⟨[.ref a],[]⟩) (fun r s'=>r= .ok (.ret (.bool true))/\OldK s₁.heap s'.heap/\s'.os=s₁.os/\AllBare s'.gens) s₁:=by
 have rv:=lA hi
 have lenV:=hi.length
 have core:∀ H:Hp,Only H->SqL K H a (ns.map V.int)->HOk P w H s₁.heap->(∀ b,H b ≠ none->b=a)->(H a ≠ none->K.lookup a=none)->
  codeAny (model P w) callerA (.call (.ref fa) ⟨[.ref a],[]⟩) (fun r s'=>r= .ok (.ret (.bool true))/\OldK s₁.heap s'.heap/\s'.os=s₁.os/\AllBare s'.gens) s₁:=by
  intro H hO hS hok hA hK
  have oX:∀ {b:Addr} {o:Obj},s₁.heap.get? b=some o->H b=none->(gC s₁.heap H).get? b=some o:=fun e n=>ud e n
  have noA:∀ {b:Addr} {o:Obj} {es:Array DictEntry} {ep:Nat},s₁.heap.get? b=some o->o.data= .dict es ep->H b=none:=fun {b o es ep} e d=>by
   cases q:H b with
   | none=>rfl
   | some u=>
     have e':b=a:=hA b (by rw [q];simp)
     subst e'
     rw [ha] at e;cases e
     have d':Data.seq vs.toArray _=Data.dict es ep:=d
     cases d'
  have nsK:∀ {b:Addr} {m:Str->Option Value},s₁.heap.Ns b m->(gC s₁.heap H).Ns b m:=fun {b m} ⟨o,es,ep,e,d,r⟩=>⟨o,es,ep,oX e (noA e d),d,r⟩
  have hKb:K.In (gC s₁.heap H):=fun b o e=>oX (KX b o e) (by
   cases q:H b with
   | none=>rfl
   | some u=>
     have e':b=a:=hA b (by rw [q];simp)
     subst e'
     rw [hK (by rw [q];simp)] at e;cases e)
  have hM:Mod K mg (gC s₁.heap H):=⟨hKb,nsK hns,⟨mb,nsK hb,hbb⟩,let ⟨mc,h1,h2⟩:=hlim;⟨mc,nsK h1,h2⟩⟩
  have e0:pX P w K mg (gC s₁.heap H) callerA [] s₁ H:=⟨rfl,hM,fun b o e=>wK e,Nat.le_of_eq (qX _ _),trivial,fun b hb=>absurd (show b ∈ ([]:List Addr) from hb) (by simp),hok,.of_eq hg⟩
  refine codeAny_mono ((F _ hKb (nsK hns)).run callerA [] s₁ H ⟨[.ref a],[]⟩ [.ref a] [.ref a] _ _ hr e0 (hbind s₁ (.ref a)) (.cons rfl .nil) (hsp H hO hS)) fun r s' h=>?_
  cases r with
  | error e=>exact (hCX H e s' h).elim
  | ok fl=>
    cases fl with
    | next=>exact False.elim h
    | brk=>exact False.elim h
    | cont=>exact False.elim h
    | ret u=>
      obtain ⟨v,H',os,bare,un,hok',r',q⟩:=h
      have q':v= .bl true:=q
      subst q'
      obtain rfl:u=Value.bool true:=r'
      refine ⟨rfl,OldK.of_keep fun b o e=>?_,os,bare⟩
      cases q:H b with
      | none=>exact un.keep b o e q (by intro z;exact absurd (show b ∈ ([]:List Addr) from z) (by simp)) (by simp)
      | some u=>
        rcases hO b with z | ⟨ob,xs,z⟩
        · rw [q] at z;cases z
        · have z2:=un.dm b ob _ z
          obtain ⟨e1,_⟩:=hok b _ z
          obtain ⟨e2,_⟩:=hok' b _ z2
          rw [e] at e1;cases e1
          exact e2
 cases hk:K.lookup a with
 | some o=>
   have e:=KX a o hk
   rw [ha] at e
   cases e
   refine core (fun _=>none) (fun _=>.inl rfl) (.inr ⟨_,vs.toArray,_,hk,rfl,rfl,rfl,by rw [List.size_toArray,lenV];exact hl,by simpa using rv⟩) (fun b u z=>by have z':(none:Option HO)=some u:=z;cases z') (fun b z=>absurd rfl z) fun z=>absurd rfl z
 | none=>
   refine core (fun b=>if b=a then some (.frz { cls:=.type "list",data:=.seq vs.toArray } (.lst (ns.map V.int))) else none) (fun b=>?_) (.inl (.inr ⟨{ cls:=.type "list",data:=.seq vs.toArray },if_pos rfl⟩)) (fun b u z=>?_) (fun b z=>?_) fun _=>hk
   · by_cases hb:b=a
     · exact .inr ⟨_,_,if_pos hb⟩
     · exact .inl (if_neg hb)
   · by_cases hb:b=a
     · have z':=(if_pos hb).symm.trans z
       cases z'
       subst hb
       exact ⟨ha,by rw [List.length_map];exact hl,vs,_,rv,ha⟩
     · have z':=(if_neg hb).symm.trans z
       cases z'
   · by_cases hb:b=a
     · exact hb
     · exact absurd (if_neg hb) z
end L2
namespace L2
open PySem PySem.Spec PyProof.Rows
theorem wY {l:PySem.W.OpenLaw} {n k:Nat} {q:Program} {loose:List Str} {XP:(Str->Option Value)->Heap->Prop} {YP:World->Heap->Prop} {d:DefRec} {K:Params->PySem.W.Frag} {CX:World->CXT} {sp:World->Sp} {x:Str}
 (hn:l.most=some n) (hn2:n <= sizeLine) (hdf:d.params.defaults= []) (hr:bA k callerA)
 (hY:∀ (w:World) (h:Heap),YP w h->(K w.params).In h)
 (F:∀ (w:World) (mg:Str->Option Value) (fa:Addr) (h:Heap),(K w.params).In h->h.Ns mainGlobals mg->mg d.name=some (.ref fa)->
   ∃ fd:FuncData,(∀ (s:Shared) (u:Value),BindsTo s fd ⟨[u],[]⟩ [(x,u)])/\
     ∀ base:Heap,(K w.params).In base->base.Ns mainGlobals mg->aU l.prog w (K w.params) mg base (CX w) k fa fd [x] (sp w))
 (hsp:∀ (w:World) (H:Hp) (a:Addr) (ns:List Int),ns.length <= n->Only H->SqL (K w.params) H a (ns.map V.int)->sp w [.ref a] H (fun v _=>v= .bl true) fun _ _ _=>False)
 (hCX:∀ (w:World) (H:Hp) (s:Shared) (e:Value) (s':Shared),CX w [] H s (fun _ _ _=>False) e s'->False):
 PySem.W.WalkO q loose XP YP l.row.toRowW d [] (fun f vs=>PySem.call f vs):=by
 refine Att.n_ hn hdf fun w s₀ s₁ mg mb fa o pm cd doc a vs ns G Y ho hd hcd hmg hobj hints hlen hg=>?_
 have KX:=hY w _ Y
 obtain ⟨fd,hb,hF⟩:=F w mg fa _ KX G.T.g hmg
 exact uH KX G.T.g G.T.b G.T.builtins G.T.nolimit hg hobj hints (Nat.le_trans hlen hn2) hr hF hb (fun H hO hS=>hsp w H a ns hlen hO hS) fun H e s'=>hCX w H s₁ e s'
end L2
namespace L2
open PySem PySem.Spec PyProof.Rows
def cN (s:Stmt):Arguments:=match s with
 | .FunctionDef _ a _ _ _ _ _ _ _ _=>a
 | _=>{ posonlyargs:=[],args:=[],vararg:=none,kwonlyargs:=[],kw_defaults:=[],kwarg:=none,defaults:=[] }
def bx (s:Stmt):List Stmt:=match s with
 | .FunctionDef _ _ b _ _ _ _ _ _ _=>b
 | _=>[]
def aj (s:Stmt):Scope:=match s with
 | .FunctionDef _ _ _ _ _ _ sc _ _ _=>sc
 | _=>{ kind:=.function,names:=[],isGenerator:=false,isCoroutine:=false }
abbrev CX0:CXT:=fun _ _ _ _ _ _=>False
abbrev E0:XK:=fun _ _ _=>False
theorem BW {X:Cx}:Passes CX0 X E0:=fun _ _ _ _ _ _ _ h=>h.elim
structure Fun (K:PySem.W.Frag) (x qual:Str) (st:Stmt) (f:Addr) (fd:FuncData):Prop where
 ex:∃ (oc:Value) (od:Option Addr) (kV doc pm:Value) (an:Option Addr) (cdv ct:Value) (osl:Array (Option Value)),
  fd=PySem.W.fnOf x qual (cN st) (bx st) (aj st) .none kV doc pm an cdv ct/\K.lookup f=some ⟨oc,od,.func fd,osl⟩/\PySem.W.codeIn K cdv qual=true
 kp:PySem.W.keepIn K (.ref f)=true
section
variable {P:Program} {w:World} {K:PySem.W.Frag} {mg:Str->Option Value} {base:Heap}
theorem Fun.ok {x qual:Str} {st:Stmt} {f:Addr} {fd:FuncData} {N ps:List Str} {k:Nat} {sp:Sp} (F:Fun K x qual st f fd) (S:bw N ps (aj st)) (len:∀ vs H Q E,sp vs H Q E->vs.length=ps.length)
 (hbody:∀ (cdv:Value) (A:Around) (outer:List Env) (s:Shared) (H:Hp) (vs:List V) (Q:VK) (E:XK),bA k (A.deeper (envOfC qual (aj st) s.heap.objs.size f cdv))->sp vs H Q E->
   ∃ t,PSs (fP CX0 P w K mg base N qual (aj st) f cdv A outer s H E).nox (bx st) t/\t { nx:=fun _ H'=>Q .non H',rt:=Q } (start N vs) H):aU P w K mg base CX0 (k + 1) f fd ps sp:=by
 obtain ⟨oc,od,kV,doc,pm,an,cdv,ct,osl,rfl,lk,hcd⟩:=F.ex
 refine pZ lk hcd S len fun A outer s H vs Q E hr hsp=>?_
 obtain ⟨t,h,q⟩:=hbody cdv A outer s H vs Q E hr hsp
 exact ⟨t,h.nox,q⟩
theorem Fun.binds {x qual:Str} {st:Stmt} {f:Addr} {fd:FuncData} {ps:List Str} (F:Fun K x qual st f fd)
 (h:∀ (kV doc pm:Value) (an:Option Addr) (cdv ct:Value) (us:List Value),us.length=ps.length->bindArgs (PySem.W.fnOf x qual (cN st) (bx st) (aj st) .none kV doc pm an cdv ct) ⟨us,[]⟩ =pure (ps.zip us)):Binds K fd ps []:=by
 obtain ⟨oc,od,kV,doc,pm,an,cdv,ct,osl,rfl,lk,hcd⟩:=F.ex
 exact .all (h kV doc pm an cdv ct)
theorem rN {x qual:Str} {st:Stmt} {f:Addr} {oc:Value} {od an:Option Addr} {osl:Array (Option Value)} {kV doc pm cdv ct:Value} (l:K.lookup f=some ⟨oc,od,.func (PySem.W.fnOf x qual (cN st) (bx st) (aj st) .none kV doc pm an cdv ct),osl⟩)
 (c:PySem.W.codeIn K cdv qual=true) (k:PySem.W.keepIn K (.ref f)=true):Fun K x qual st f (PySem.W.fnOf x qual (cN st) (bx st) (aj st) .none kV doc pm an cdv ct):=⟨⟨oc,od,kV,doc,pm,an,cdv,ct,osl,rfl,l,c⟩,k⟩
end
theorem rO {n:Nat} (h:n <= 1000):n < sizeLine:=Nat.lt_of_le_of_lt h (by decide)
section
variable {X:Cx}
theorem pv (i:Nat) {x:Str} {pos:Pos} (hN:X.N[i]? =some x:=by rfl) (hv:Vis X.env.scope x:=by first | exact Or.inl rfl | exact Or.inr (Or.inl rfl) | exact Or.inr (Or.inr rfl)) (hd:(x == ("__debug__":Str))=false:=by decide)
 (hcd:(x == ("__classdict__":Str))=false:=by decide):PE X (.Name x pos) (yC i):=qZ hN hv hd hcd
end
theorem az {A B:Prop} (h:B):if false=true then A else B:=by
 rw [if_neg Bool.false_ne_true]
 exact h
theorem aY {A B:Prop} (h:A):if true=true then A else B:=by
 rw [if_pos rfl]
 exact h
theorem qg {c A B:Prop} [Decidable c] (h1:c->A) (h2:¬ c->B):if c then A else B:=by
 by_cases h:c
 · rw [if_pos h]
   exact h1 h
 · rw [if_neg h]
   exact h2 h
def bz (H H':Hp):Prop:=∀ b o,H b=some o->H' b=some o
theorem bz.refl (H:Hp):bz H H:=fun _ _ h=>h
theorem bz.trans {H H1 H2:Hp} (a:bz H H1) (b:bz H1 H2):bz H H2:=fun c o h=>b c o (a c o h)
theorem bz.free {H H':Hp} (e:bz H H') {l:Addr} (h:H' l=Option.none):H l=Option.none:=by
 cases q:H l with
 | none=>rfl
 | some o=>
   rw [e l o q] at h
   cases h
end L2
set_option maxRecDepth 100000
namespace L2
open PySem PySem.Spec PyProof.Rows
section
variable {κ:Type} [DecidableEq κ]
end
section
variable {P:Program} {w:World} {H:Hp} {h:Heap} {a:Addr}
end
section
variable {X:Cx} {pins:List (Addr × Obj)} {σ:St} {H:Hp} {s:Shared} {a:Addr} {y v:V} {u r:Value} {o:Option V} {A:Around} {E:Value->Shared->Prop}
end
section
variable {X:Cx} {pins:List (Addr × Obj)} {σ:St} {H:Hp} {s:Shared} {a:Addr} {kvs:List (Key × V)} {k:Key} {u:Value} {A:Around} {E:Value->Shared->Prop}
end
section
variable {X:Cx} {o i e value:Expr} {pos pos' tpos:Pos} {td ty tv:TE}
end
section
variable {X:Cx} {pos:Pos}
end
def rP:List (TE × TE)->St->Hp->(List (V × V)->Hp->Prop)->Prop
 | [],_,H,Q=>Q [] H
 | (tk,tv)::r,σ,H,Q=>tk σ H fun x H1=>tv σ H1 fun y H2=>rP r σ H2 fun ps H3=>Q ((x,y)::ps) H3
abbrev VV:List (V × V)->List (Value × Value)->Prop:=Paired fun p q=>RelV p.1 q.1/\RelV p.2 q.2
def PPs (X:Cx) (pos:Pos) (keys:List (Option Expr)) (values:List Expr) (trs:List (TE × TE)):Prop:=
 ∀ (pins:List (Addr × Obj)) (s:Shared) (σ:St) (H:Hp) (Q:List (V × V)->Hp->Prop),Inv X pins σ H s->rP trs σ H Q->
   wpAny (model X.prog X.w) X.A (evalPairs (pairTrees keys values X.env pos)) (fun vs s'=>∃ ps H',Inv X pins σ H' s'/\VV ps vs/\Q ps H') X.xe s
structure M1 (X:Cx) (o:Expr) (m:Str) (apos:Pos) (e:Expr) (cpos:Pos):Prop where
 base:attributeBase o m X.env (eval o X.env)=eval o X.env
 few:((backTo cpos (starEach [e] X.env)).all (fun x=> !x.1) && (backToKw cpos (keywordEach [] X.env)).all (fun x=>x.1.isSome)
  && decide (([e]:List Expr).length + ([]:List Keyword).length + (if ([]:List Keyword).isEmpty then 0 else 1) < 30))=true
 line:(apos.endLine == cpos.line)=true
 trees:backTo cpos (starEach [e] X.env)= [(false,eval e X.env)]
structure M2 (X:Cx) (o:Expr) (m:Str) (apos:Pos) (e f:Expr) (cpos:Pos):Prop where
 base:attributeBase o m X.env (eval o X.env)=eval o X.env
 few:((backTo cpos (starEach [e,f] X.env)).all (fun x=> !x.1) && (backToKw cpos (keywordEach [] X.env)).all (fun x=>x.1.isSome)
  && decide (([e,f]:List Expr).length + ([]:List Keyword).length + (if ([]:List Keyword).isEmpty then 0 else 1) < 30))=true
 line:(apos.endLine == cpos.line)=true
 trees:backTo cpos (starEach [e,f] X.env)= [(false,eval e X.env),(false,eval f X.env)]
section
variable {X:Cx} {pins:List (Addr × Obj)} {σ:St} {H:Hp} {s:Shared} {a:Addr} {y d:V} {u r:Value} {o:Option V} {A:Around} {E:Value->Shared->Prop}
end
section
variable {X:Cx} {o e f:Expr} {apos cpos:Pos} {td ty tx:TE}
end
section
variable {X:Cx} {pins:List (Addr × Obj)} {σ:St} {H:Hp} {s:Shared} {a:Addr} {kvs:List (Key × V)} {A:Around} {E:Value->Shared->Prop}
end
section
variable {X:Cx} {pins:List (Addr × Obj)} {σ:St} {H:Hp} {s:Shared} {a:Addr} {y:V} {u:Value} {A:Around} {E:Value->Shared->Prop}
end
end L2
set_option maxRecDepth 100000
set_option maxHeartbeats 4000000
namespace L2
open PySem PySem.Spec PySem.SeqAt PyProof.Rows
theorem log2_lt_of {n k:Nat} (hk:0 < k) (h:n < 2 ^ k):n.log2 < k:=by
 rcases Nat.eq_zero_or_pos n with h0 | hp
 · rw [h0];exact hk
 · exact (Nat.log2_lt (Nat.ne_of_gt hp)).mpr h
def Sml (i:Int):Prop:=i.natAbs < 2 ^ 4000
theorem jl {i:Int} (h:Sml i):Builtin.Int.intBits i <= 2 ^ 20:=by
 have hl:i.natAbs.log2 < 4000:=log2_lt_of (by decide) h
 have e:(2:Nat) ^ 20=1048576:=by decide
 unfold Builtin.Int.intBits
 split <;> omega
def lW (i j:Int):Prop:=uz i j\/(Sml i/\Sml j)
def BX (j:Int):Prop:=j ≠ 0/\Sml j
section
variable {X:Cx}
theorem dz:OpR X (binaryOp .Mult) (rI lW fun i j=>.int (i * j)):=opI fun _ _ _ _ _ _ _ hc q=>by
 rcases hc with hc | ⟨h1,h2⟩
 · exact mul_int q hc.ok
 · exact mul_int q (IntMulOk.of_bits (jl h1) (jl h2))
theorem mV:OpR X (binaryOp .FloorDiv) (rI (fun _ j=>BX j) fun i j=>.int (i.fdiv j)):=opI fun i j _ _ _ _ _ hc q=>
 floordiv_int hc.1 q (.inl (PyProof.noPylong_of_log2 (Nat.lt_of_lt_of_le (log2_lt_of (k:=4000) (by decide) hc.2) (by decide))))
def Dv (K:PySem.W.Frag):List V->Hp->VK->Prop:=fun xs H Q=>∃ x n t b,xs= [x,.ty n]/\dH K H x t/\PySem.W.kitOne K t (.type n)=some b/\Q (.bl b) H
theorem bD:bT X (.builtin "isinstance") (Dv X.K):=by
 intro pins s σ H xs us Q I r h
 obtain ⟨x,n,t,b,rfl,ty,e,q⟩:=h
 obtain ⟨u,v,rfl,ru,rv⟩:=vals2 r
 cases (show v=Value.type n from rv)
 exact rG I ru ty e fun tk=>⟨.bl b,H,I.tok _,rfl,q⟩
end
mutual
inductive Rep (H:Hp):V->PyData->Prop
 | non:Rep H .non .none
 | bl (b):Rep H (.bl b) (.bool b)
 | int (i):Rep H (.int i) (.int i)
 | str (x):Rep H (.str x) (.str x)
 | lst {a xs ds}:H a=some (.lst xs)->aM H xs ds->Rep H (.ref a) (.list ds)
 | tup {a xs ds}:H a=some (.tup xs)->aM H xs ds->Rep H (.ref a) (.tuple ds)
inductive aM (H:Hp):List V->List PyData->Prop
 | nil:aM H [] []
 | cons {v vs d ds}:Rep H v d->aM H vs ds->aM H (v::vs) (d::ds)
end
mutual
theorem Rep.mono {H H':Hp} (e:bz H H'):∀ {v:V} {d:PyData},Rep H v d->Rep H' v d
 | _,_,.non=>.non
 | _,_,.bl b=>.bl b
 | _,_,.int i=>.int i
 | _,_,.str x=>.str x
 | _,_,.lst h r=>.lst (e _ _ h) (aM.mono e r)
 | _,_,.tup h r=>.tup (e _ _ h) (aM.mono e r)
theorem aM.mono {H H':Hp} (e:bz H H'):∀ {vs:List V} {ds:List PyData},aM H vs ds->aM H' vs ds
 | _,_,.nil=>.nil
 | _,_,.cons r t=>.cons (Rep.mono e r) (aM.mono e t)
end
theorem aM.length {H:Hp}:∀ {vs:List V} {ds:List PyData},aM H vs ds->vs.length=ds.length
 | _,_,.nil=>rfl
 | _,_,.cons _ t=>by rw [List.length_cons,List.length_cons,aM.length t]
theorem aM.mW {H:Hp}:∀ {vs:List V} {ds:List PyData} {i:Nat} {v:V},aM H vs ds->vs[i]? =some v->∃ d,ds[i]? =some d/\Rep H v d
 | _,_,_,_,.nil,e=>by simp at e
 | _,_,0,_,.cons r _,e=>by simp at e;subst e;exact ⟨_,rfl,r⟩
 | _,_,i + 1,d,.cons _ t,e=>by
   obtain ⟨u,h1,h2⟩:=aM.mW (i:=i) (v:=d) t (by simpa using e)
   exact ⟨u,by simpa using h1,h2⟩
mutual
theorem Rep.reads {P:Program} {w:World} {H:Hp} {h:Heap} (ok:HOk P w H h):∀ {v:V} {d:PyData} {u:Value},Rep H v d->RelV v u->∃ as,Reads h u d as
 | _,_,_,.non,r=>by cases r;exact ⟨_,.none⟩
 | _,_,_,.bl b,r=>by cases r;exact ⟨_,.bool b⟩
 | _,_,_,.int i,r=>by obtain ⟨t,rfl⟩:=r;exact ⟨_,.int i t⟩
 | _,_,_,.str x,r=>by obtain ⟨t,rfl⟩:=r;exact ⟨_,.str x t⟩
 | _,_,_,.lst (a:=a) (xs:=xs) e ra,r=>by
   cases r
   obtain ⟨_,its,n,rv,ho⟩:=(show aP P w H h a (.lst xs) from ok a _ e)
   obtain ⟨as,q⟩:=aM.reads ok ra rv
   exact ⟨_,.list ho rfl rfl (by simpa using q)⟩
 | _,_,_,.tup (a:=a) (xs:=xs) e ra,r=>by
   cases r
   obtain ⟨_,its,rv,o,ho,hc,n,hd⟩:=(show aP P w H h a (.tup xs) from ok a _ e)
   obtain ⟨as,q⟩:=aM.reads ok ra rv
   exact ⟨_,.tuple ho hc hd (by simpa using q)⟩
theorem aM.reads {P:Program} {w:World} {H:Hp} {h:Heap} (ok:HOk P w H h):∀ {vs:List V} {ds:List PyData} {us:List Value},aM H vs ds->Vals vs us->∃ as,ReadsAll h us ds as
 | _,_,_,.nil,.nil=>⟨_,.nil⟩
 | _,_,_,.cons r t,.cons rv tv=>by
   obtain ⟨as,q1⟩:=Rep.reads ok r rv
   obtain ⟨bs,q2⟩:=aM.reads ok t tv
   exact ⟨_,.cons q1 q2⟩
end
section
variable {X:Cx}
def zb:R2:=fun x y H Q=>∃ dx dy,Rep H x dx/\Rep H y dy/\shaped dx=true/\shaped dy=true/\Q (.bl (PyData.eqv dx dy)) H
theorem zc (hu:X.A.units + 64 < cLine):OpR X (compareOp .Eq) zb:=by
 intro pins s σ H x y v u Q I rx ry h
 obtain ⟨dx,dy,hx,hy,sx,sy,q⟩:=h
 obtain ⟨as,ra⟩:=hx.reads I.hok rx
 obtain ⟨bs,rb⟩:=hy.reads I.hok ry
 exact eq_dataH ra rb sx sy hu ⟨.bl _,H,I,rfl,q⟩
end
theorem aq {H:Hp} {p:Addr} (h:H p=none) (o:HO):bz H (upd H p o):=fun b u q=>by rw [aG (aR q h)];exact q
structure Df (K:PySem.W.Frag) (mg:Str->Option Value) (x:Str) (st:Stmt) (ps:List Str) (f:Addr) (fd:FuncData):Prop where
 fn:Fun K x x st f fd
 bd:Binds K fd ps []
 mg:mg x=some (.ref f)
section
variable {X:Cx} {k:Nat} {x:Str} {st:Stmt} {f:Addr} {fd:FuncData} {ps:List Str} {sp:Sp} {p pos:Pos} {e:Expr} {es:List Expr} {t:TA}
theorem iY (D:Df X.K X.mg x st ps f fd) (F:aU X.prog X.w X.K X.mg X.base CX0 k f fd ps sp) (hr:bA k X.A) (hg:Gl X x) (ha:PA X (e::es) t) (hdb:(x == ("__debug__":Str))=false:=by decide)
 (he:starEach (e::es) X.env=(false,eval e X.env)::starEach es X.env:=by rfl) (hpl:(backTo pos (starEach es X.env)).any (·.1)=false:=by rfl):
 PE X (.Call (.Name x p) (e::es) [] pos) (pY sp [] E0 t):=oO F hr hg D.mg D.fn.kp D.bd .nil BW ha hdb he hpl
end
end L2
set_option maxRecDepth 100000
set_option maxHeartbeats 4000000
namespace L2
open PySem PySem.Spec PySem.SeqAt PyProof.Rows
def dw (cells:List (Str × Addr)):List (Str × NameKind)->List (Str × Addr)->List (Str × Addr)
 | [],acc=>acc
 | (n,k)::r,acc=>if k= .free then dw cells r ((n,(cells.lookup n).getD 0)::acc) else dw cells r acc
theorem lO {scope:Scope} {env:Env} (h:∀ y ∈ scope.names,y.2= .free->∃ c,env.cells.lookup y.1=some c):closureFor scope env=pure (dw env.cells scope.names []):=by
 have key:∀ (names:List (Str × NameKind)) (cs:List (Str × Addr)),(∀ y ∈ names,y.2= .free->∃ c,env.cells.lookup y.1=some c)->
  (forIn names cs fun (x:Str × NameKind) (r:List (Str × Addr))=>(match x with
    | (name,kind)=>if (kind == .free)=true then do let a <- cellOf env name;pure (ForInStep.yield ((name,a)::r)) else pure (ForInStep.yield r):Sem (ForInStep (List (Str × Addr)))))=(pure (dw env.cells names cs):Sem _):=by
  intro names
  induction names with
  | nil=>intro cs _;rfl
  | cons y r ih=>
    intro cs hy
    obtain ⟨n,k⟩:=y
    rw [List.forIn_cons]
    by_cases hk:k= .free
    · obtain ⟨c,hc⟩:=hy (n,k) List.mem_cons_self hk
      have hc':env.cells.lookup n=some c:=hc
      subst hk
      have e1:cellOf env n=pure c:=by unfold cellOf;rw [hc']
      simp only [beq_self_eq_true,if_true,e1,pure_bind]
      rw [ih _ fun z hz=>hy z (List.mem_cons_of_mem _ hz)]
      simp only [dw,if_true,hc',Option.getD_some]
    · have hb:(k == NameKind.free)=false:=by simpa using hk
      simp only [hb,Bool.false_eq_true,if_false,pure_bind]
      rw [ih _ fun z hz=>hy z (List.mem_cons_of_mem _ hz)]
      simp only [dw,if_neg hk]
 have e:closureFor scope env=(forIn scope.names ([]:List (Str × Addr)) (fun (x:Str × NameKind) (r:List (Str × Addr))=>(match x with
  | (name,kind)=>if (kind == .free)=true then do let a <- cellOf env name;pure (ForInStep.yield ((name,a)::r)) else pure (ForInStep.yield r):Sem (ForInStep (List (Str × Addr))))) >>= fun r=>pure r):=by
  unfold closureFor
  rfl
 rw [e,key _ _ h]
 rfl
theorem gG {cells:List (Str × Addr)} {x:Str} {c:Addr}:∀ {names:List (Str × NameKind)} {acc:List (Str × Addr)},(∀ y ∈ names,y.2= .free->∃ c,cells.lookup y.1=some c)->
 (dw cells names acc).lookup x=some c->cells.lookup x=some c\/acc.lookup x=some c
 | [],acc,_,h=>.inr h
 | (n,k)::r,acc,hy,h=>by
   unfold dw at h
   by_cases hk:k= .free
   · rw [if_pos hk] at h
     obtain ⟨d,hd⟩:=hy (n,k) List.mem_cons_self hk
     have hd':cells.lookup n=some d:=hd
     rw [hd'] at h
     rcases gG (fun z hz=>hy z (List.mem_cons_of_mem _ hz)) h with q | q
     · exact .inl q
     · rw [List.lookup_cons] at q
       cases e:x == n with
       | true=>
         have e':x=n:=eq_of_beq e
         rw [e] at q
         subst e'
         exact .inl (by rw [hd'];exact q)
       | false=>
         rw [e] at q
         exact .inr q
   · rw [if_neg hk] at h
     exact gG (fun z hz=>hy z (List.mem_cons_of_mem _ hz)) h
theorem iZ {cells:List (Str × Addr)} {x:Str} {c:Addr} (hc:cells.lookup x=some c):∀ {names:List (Str × NameKind)} {acc:List (Str × Addr)},((x,NameKind.free) ∈ names\/acc.lookup x=some c)->
 (dw cells names acc).lookup x=some c
 | [],acc,h=>by
   rcases h with h | h
   · cases h
   · exact h
 | (n,k)::r,acc,h=>by
   unfold dw
   by_cases hk:k= .free
   · rw [if_pos hk]
     refine iZ hc ?_
     by_cases e:x=n
     · subst e
       exact .inr (by rw [List.lookup_cons,beq_self_eq_true,hc];rfl)
     · have eb:(x == n)=false:=by simpa using e
       rcases h with h | h
       · rcases List.mem_cons.mp h with z | z
         · exact absurd (congrArg Prod.fst z) e
         · exact .inl z
       · exact .inr (by rw [List.lookup_cons,eb];exact h)
   · rw [if_neg hk]
     refine iZ hc ?_
     rcases h with h | h
     · rcases List.mem_cons.mp h with z | z
       · exact absurd (congrArg Prod.snd z).symm hk
       · exact .inl z
     · exact .inr h
theorem dN {env:Env}:∀ {names:List (Str × NameKind)} {x:Str},names.lookup x=some .free->
 (names.map fun (n,k)=>if (k == NameKind.free && env.scope.kind == .function && env.kindOf n == some .cell) then (n,NameKind.cell) else (n,k)).lookup x=some .cell\/
 (names.map fun (n,k)=>if (k == NameKind.free && env.scope.kind == .function && env.kindOf n == some .cell) then (n,NameKind.cell) else (n,k)).lookup x=some .free
 | [],_,h=>by simp at h
 | (n,k)::r,x,h=>by
   have ih:= @dN env r x
   show List.lookup x ((if (k == NameKind.free && env.scope.kind == .function && env.kindOf n == some .cell)=true then (n,NameKind.cell) else (n,k))::_)=_\/List.lookup x ((if (k == NameKind.free && env.scope.kind == .function && env.kindOf n == some .cell)=true then (n,NameKind.cell) else (n,k))::_)=_
   cases hx:x == n with
   | true=>
     simp only [List.lookup_cons,hx] at h
     cases h
     by_cases hc:(NameKind.free == NameKind.free && env.scope.kind == .function && env.kindOf n == some .cell)=true
     · rw [if_pos hc];simp [List.lookup_cons,hx]
     · rw [if_neg hc];simp [List.lookup_cons,hx]
   | false=>
     simp only [List.lookup_cons,hx] at h
     by_cases hc:(k == NameKind.free && env.scope.kind == .function && env.kindOf n == some .cell)=true
     · rw [if_pos hc];simp only [List.lookup_cons,hx];exact ih h
     · rw [if_neg hc];simp only [List.lookup_cons,hx];exact ih h
theorem gW {env:Env}:∀ {names:List (Str × NameKind)} {x:Str},(∀ y ∈ names,y.2 ≠ .cell)->
 ((names.map fun (n,k)=>if (k == NameKind.free && env.scope.kind == .function && env.kindOf n == some .cell) then (n,NameKind.cell) else (n,k)).lookup x=some .cell\/
 (names.map fun (n,k)=>if (k == NameKind.free && env.scope.kind == .function && env.kindOf n == some .cell) then (n,NameKind.cell) else (n,k)).lookup x=some .free)->names.lookup x=some .free
 | [],_,_,h=>by simp at h
 | (n,k)::r,x,hn,h=>by
   have ih:= @gW env r x fun y hy=>hn y (List.mem_cons_of_mem _ hy)
   have hnk:k ≠ .cell:=hn (n,k) List.mem_cons_self
   change List.lookup x ((if (k == NameKind.free && env.scope.kind == .function && env.kindOf n == some .cell)=true then (n,NameKind.cell) else (n,k))::_)=_\/List.lookup x ((if (k == NameKind.free && env.scope.kind == .function && env.kindOf n == some .cell)=true then (n,NameKind.cell) else (n,k))::_)=_ at h
   cases hx:x == n with
   | true=>
     rw [List.lookup_cons,hx]
     by_cases hc:(k == NameKind.free && env.scope.kind == .function && env.kindOf n == some .cell)=true
     · have hk:k= .free:=by
        rw [Bool.and_eq_true,Bool.and_eq_true] at hc
        exact eq_of_beq hc.1.1
       rw [hk]
     · rw [if_neg hc] at h
       simp only [List.lookup_cons,hx] at h
       rcases h with h | h
       · exact absurd (Option.some.inj h) hnk
       · exact h
   | false=>
     rw [List.lookup_cons,hx]
     by_cases hc:(k == NameKind.free && env.scope.kind == .function && env.kindOf n == some .cell)=true
     · rw [if_pos hc] at h;simp only [List.lookup_cons,hx] at h;exact ih h
     · rw [if_neg hc] at h;simp only [List.lookup_cons,hx] at h;exact ih h
def blk (X:Cx) (N':List Str) (sc:Scope) (C:Addr) (s₀:Shared) (H₀:Hp) (fp:List Addr):Cx:=
 { X with N:=N',s₀:=s₀,H₀:=H₀,env:=compEnvC sc (dw X.env.cells sc.names []) C X.env,outer:=X.stack,ex:=fp,fn:=fun _=>false,pn:=[],xe:=fun _ _=>False }
def sgb (nt:Nat) (idx:List Nat) (σ:St):St:=List.replicate nt none ++ idx.map fun j=>(σ[j]?).getD none
structure jF (X:Cx) (N':List Str) (sc:Scope) (nt:Nat) (idx:List Nat):Prop where
 kind:sc.kind= .function
 rQ:∀ y ∈ sc.names,y.2 ≠ .cell
 loc:∀ y ∈ sc.names,y.2= .local->sc.names.lookup y.1=some .local
 fr:∀ y ∈ sc.names,y.2= .free->X.env.kindOf y.1=some .cell\/X.env.kindOf y.1=some .free
 len:nt + idx.length=N'.length
 ix:∀ p ∈ idx.zip (N'.drop nt),X.N[p.1]? =some p.2/\sc.names.lookup p.2=some .free
theorem cO {names:List (Str × NameKind)} {x:Str} {k:NameKind} (h:names.lookup x=some k):(x,k) ∈ names:=PySem.mem_of_lookup h
theorem wZ {X:Cx} {N':List Str} {sc:Scope} {nt:Nat} {idx:List Nat} {pins:List (Addr × Obj)} {σ:St} {H:Hp} {s:Shared} {fp:List Addr} {h':Heap} {tk:Nat} {m:Str->Option Value} (B:jF X N' sc nt idx)
 (I:Inv X pins σ H s) (hf:∀ b ∈ fp,dO X pins H b) (hlt:∀ b ∈ fp,b < s.heap.objs.size) (hns:h'.Ns s.heap.objs.size m) (hk:∀ b o,s.heap.get? b=some o->h'.get? b=some o):
 Inv (blk X N' sc s.heap.objs.size s H fp) (X.pn ++ pins) (sgb nt idx σ) H { s with heap:=h',toks:=tk }:=by
 have hcl:∀ y ∈ sc.names,y.2= .free->∃ c,X.env.cells.lookup y.1=some c:=fun y hy e=>I.ok.has y.1 (B.fr y hy e)
 have sub:∀ x c,(dw X.env.cells sc.names []).lookup x=some c->X.env.cells.lookup x=some c:=fun x c h=>by
  rcases gG hcl h with z | z
  · exact z
  · simp at z
 have Dw:∀ b,b ∈ frs X.stack->b=X.env.locals\/b ∈ X.fs:=fun b hb=>List.mem_cons.mp (I.jz b hb)
 have vH:∀ b,b ≠ X.env.locals->b ∉ X.fs->b ∉ frs X.stack:=fun b h1 h2 h=>(Dw b h).elim h1 h2
 have fresh:H s.heap.objs.size=none:=I.hok.fresh (Nat.le_refl _)
 refine ⟨⟨I.ok.mod,B.kind,I.ok.glob,I.ok.blt,Nat.le_refl _,fun x y c h1 h2=>I.ok.inj x y c (sub x c h1) (sub y c h2),fun x hx=>?_,fun x c hx _=>?_,I.ok.hd,I.ok.frames,.inl rfl,fun b hb=>⟨Nat.ne_of_lt (hlt b hb),fun x c h=>(hf b hb).2.2.2.2.1 x c (sub x c h)⟩,
  I.bs,Nat.le_trans I.ok.bsz I.sz,fun b o e hb=>?_,fun b hb=>vH b (hf b hb).2.1 (hf b hb).2.2.1,I.stack,I.iT⟩,
  rfl,I.bare,Un.kept hk,⟨m,hns,fun i x v h1 h2 h3=>?_⟩,fun x c h=>?_,fresh,fun x c h=>I.dF x c (sub x c h),fun p hp=>?_,I.hok.kept hk,?_⟩
 · -- has
   have hx':=gW (env:=X.env) (x:=x) B.rQ hx
   obtain ⟨c,hc⟩:=hcl (x,.free) (cO hx') rfl
   exact ⟨c,iZ hc (.inl (cO hx'))⟩
 · -- cab
   have hx':false=true:=hx
   cases hx'
 · -- jX
   rcases (hf b hb).2.2.2.1 with z | z
   · exact I.ok.jX b o e z
   · exact absurd (Nat.lt_of_lt_of_le (Heap.lt_size e) (Nat.le_trans I.ok.bsz z)) (Nat.lt_irrefl _)
 · -- loc
   have h1':N'[i]? =some x:=h1
   by_cases hi:i < nt
   · exfalso
     unfold sgb at h2
     rw [List.getElem?_append_left (by simpa using hi),List.getElem?_replicate] at h2
     split at h2 <;> cases h2
   · unfold sgb at h2
     rw [List.getElem?_append_right (by simpa using hi),List.length_replicate,List.getElem?_map] at h2
     cases ej:idx[i - nt]? with
     | none=>rw [ej] at h2;cases h2
     | some j=>
       rw [ej] at h2
       have h2':(σ[j]?).getD none=some v:=by simpa using h2
       have hz:(j,x) ∈ idx.zip (N'.drop nt):=by
        have e1:(N'.drop nt)[i - nt]? =some x:=by rw [List.getElem?_drop];rw [show nt + (i - nt)=i by omega];exact h1'
        refine List.mem_of_getElem? (i:=i - nt) ?_
        rw [List.getElem?_zip_eq_some]
        exact ⟨ej,e1⟩
       obtain ⟨q1,q2⟩:=B.ix _ hz
       have q1':X.N[j]? =some x:=q1
       have q2':sc.names.lookup x=some .free:=q2
       have hs:σ[j]? =some (some v):=by
        cases e:σ[j]? with
        | none=>rw [e] at h2';cases h2'
        | some o=>rw [e] at h2';exact congrArg some h2'
       have hkx:=B.fr (x,.free) (cO q2') rfl
       obtain ⟨mX,_,hl⟩:=I.loc
       obtain ⟨u,ru,lk⟩:=hl j x v q1' hs (by
        rcases hkx with z | z
        · exact .inr (.inl z)
        · exact .inr (.inr z))
       refine ⟨u,ru,.inr ⟨dN (env:=X.env) q2',?_⟩⟩
       rcases lk with ⟨z,_⟩ | ⟨_,c,hc,hcell⟩
       · exfalso
         rcases hkx with y | y
         · rw [z] at y;cases y
         · rw [z] at y;cases y
       · obtain ⟨o,ho,hd⟩:=hcell
         exact ⟨c,iZ hc (.inl (cO q2')),o,hk c o ho,hd⟩
 · obtain ⟨v,o,ho,hd⟩:=I.cell x c (sub x c h)
   exact ⟨v,o,hk c o ho,hd⟩
 · have hp':p ∈ X.pn ++ pins:=by
    have:p ∈ ([]:List (Addr × Obj)) ++ (X.pn ++ pins):=hp
    simpa using this
   obtain ⟨e,n,ne,nf,d⟩:=I.pin p hp'
   exact ⟨hk _ _ e,n,Nat.ne_of_lt (Heap.lt_size e),vH _ ne nf,d⟩
 · show (sgb nt idx σ).length=N'.length
   unfold sgb
   rw [List.length_append,List.length_replicate,List.length_map]
   exact B.len
end L2
set_option maxRecDepth 100000
set_option maxHeartbeats 4000000
namespace L2
open PySem PySem.Spec PySem.SeqAt PyProof.Rows
def Wk:St->St->Prop
 | [],[]=>True
 | none::r,_::r'=>Wk r r'
 | some a::r,b::r'=>b=some a/\Wk r r'
 | _,_=>False
theorem Wk.ok:∀ {σ σ2:St},Wk σ σ2->σ.length=σ2.length/\∀ (i:Nat) (v:V),σ[i]? =some (some v)->σ2[i]? =some (some v)
 | [],[],_=>⟨rfl,fun _ _ h=>h⟩
 | none::r,b::r',h=>by
   obtain ⟨h1,h2⟩:=Wk.ok (σ:=r) (σ2:=r') h
   refine ⟨by simp [h1],fun i v e=>?_⟩
   cases i with
   | zero=>simp at e
   | succ i=>simpa using h2 i v (by simpa using e)
 | some a::r,b::r',h=>by
   obtain ⟨hb,h⟩:=h
   obtain ⟨h1,h2⟩:=Wk.ok (σ:=r) (σ2:=r') h
   refine ⟨by simp [h1],fun i v e=>?_⟩
   cases i with
   | zero=>subst hb;simpa using e
   | succ i=>simpa using h2 i v (by simpa using e)
 | [],_::_,h=>h.elim
 | none::_,[],h=>h.elim
 | some _::_,[],h=>h.elim
abbrev TN:=St->Hp->(Hp->Prop)->Prop
def lX (J:It) (g:TG) (tif:TT) (tin:TN):TN:=fun σ H Q=>∃ W:Nat->Nat->Hp->Prop,(∃ m,W 0 m H)/\∀ i m H,W i m H->
 (J.stop i H/\Q H)\/(J.go i H/\∃ N:Hp->Prop,(∀ H',N H'->∃ m',m' < m/\W (i + 1) m' H')/\∀ x H',J.yld i H x H'->g x σ H' fun σ2 H2=>Wk σ σ2/\tif σ2 H2 fun b H3=>if b=true then tin σ2 H3 N else N H3)
def qi (D:Addr) (te:TE):TN:=fun σ H N=>te σ H fun y H1=>∃ ys,H1 D=some (.lst ys)/\ys.length < sizeLine/\N (upd H1 D (.lst (ys ++ [y])))
def PTs (Y:Cx) (ifs:List Expr) (t:TT):Prop:=
 ∀ (pins:List (Addr × Obj)) (s:Shared) (σ:St) (H:Hp) (Q:Bool->Hp->Prop),Inv Y pins σ H s->t σ H Q->
   wpAny (model Y.prog Y.w) Y.A (forIn ifs true fun c r=>if r=true then do let ok <- isTrue c Y.env (eval c Y.env);pure (ForInStep.yield ok) else pure (ForInStep.yield r)) (TP Y pins σ Q) Y.xe s
def vI:TT:=fun _ H Q=>Q true H
theorem oY {Y:Cx}:PTs Y [] vI:=fun _ _ _ H _ I h=>wpAny_tests_nil ⟨H,I,h⟩
def PN (Y:Cx) (m:Sem Unit) (t:TN):Prop:=
 ∀ (pins:List (Addr × Obj)) (s:Shared) (σ:St) (H:Hp) (N:Hp->Prop),Inv Y pins σ H s->t σ H N->wpAny (model Y.prog Y.w) Y.A m (fun _ s'=>∃ H',Inv Y pins σ H' s'/\N H') Y.xe s
def NoX (Y:Cx):Prop:=∀ e s,¬ Y.xe e s
theorem NoX.any {Y:Cx} (hx:NoX Y) {α:Type} {t:Sem α} {Q:α->Shared->Prop} {E:Value->Shared->Prop} {s:Shared} (h:wpAny (model Y.prog Y.w) Y.A t Q Y.xe s):wpAny (model Y.prog Y.w) Y.A t Q E s:=
 wpAny_mono h (fun _ _ q=>q) fun e s' z=>(hx e s' z).elim
theorem w5 {Y:Cx} {elt:Expr} {te:TE} {D:Addr} (he:PE Y elt te):PN Y (do let _ <- call (.builtin "list.append") [.ref D,<- eval elt Y.env]) (qi D te):=by
 intro pins s σ H N I h
 refine wpAny_bind (thn (he pins s σ H _ I h) fun u s1 ⟨y,H1,I1,r1,ys,e1,hl,hN⟩=>?_)
 refine wpAny_bind (thn (fK (X:=Y) pins s1 σ H1 (.ref D) [y] (.ref D) [u] (fun _ H2=>N H2) I1 rfl (.cons r1 .nil) ⟨D,ys,y,rfl,rfl,e1,hl,hN⟩) fun v s2 ⟨z,H2,I2,_,q2⟩=>?_)
 exact wpAny_pure ⟨H2,I2,q2⟩
def fB (e:Expr) (d:Nat) (it acc:Value) (env:Env) (target:Expr) (ifs:List Expr) (ipos:Pos) (inner:Sem Unit):Sem Fin:=do
 standAt ipos
 match <- pyNext it with
 | none=>pure (.done .next)
 | some v=>
   letOwnedTupleGo target it v
   assign target env v
   let mut ok:=true
   for c in ifs do
    if ok then ok <- isTrue c env (eval c env)
   if ok then
    inner
   again (.compLoop e d it acc env)
theorem BZ (elt target iter:Expr) (ifs:List Expr) (scope:Scope) (pos:Pos) (it acc:Value) (env:Env):
 compTurn (.ListComp elt [⟨target,iter,ifs,0⟩] scope pos) 0 it acc env=fB (.ListComp elt [⟨target,iter,ifs,0⟩] scope pos) 0 it acc env target ifs iter.pos (do let _ <- call (.builtin "list.append") [acc,<- eval elt env]):=rfl
def LR (Y:Cx) (pins:List (Addr × Obj)) (σ:St) (Q:Hp->Prop) (r:Result) (s':Shared):Prop:=
 match r with
 | .ok _=>∃ H',Inv Y pins σ H' s'/\Q H'
 | .error _=>False
theorem w6 {Y:Cx} (hx:NoX Y) (hc:Y.calm=true) {elt:Expr} {gens:List Comprehension} {scope:Scope} {pos:Pos} {d:Nat} {it D:Addr} {tg:Expr} {ifs:List Expr} {ipos:Pos} {inner:Sem Unit} {J:It} {fp:List Addr} {tn:Nat->Heap->Prop} {g:TG} {tif:TT} {tin:TN}
 (ht:compTurn (.ListComp elt gens scope pos) d (.ref it) (.ref D) Y.env=fB (.ListComp elt gens scope pos) d (.ref it) (.ref D) Y.env tg ifs ipos inner)
 (T:Turn Y.prog Y.w Y.K tg J fp it tn) (hg:PG Y tg g) (hi:PTs Y ifs tif) (hn:PN Y inner tin)
 {pins:List (Addr × Obj)} {s:Shared} {σ:St} {H:Hp} {Q:Hp->Prop} (I:Inv Y pins σ H s) (st:tn 0 s.heap) (f:∀ b ∈ fp,dO Y pins H b) (h:lX J g tif tin σ H Q):
 codeAny (model Y.prog Y.w) Y.A (.compLoop (.ListComp elt gens scope pos) d (.ref it) (.ref D) Y.env) (LR Y pins σ Q) s:=by
 obtain ⟨W,⟨m0,w0⟩,turn⟩:=h
 have stat:∀ {H':Hp},(∀ b ∈ fp,H' b=none)->∀ b ∈ fp,dO Y pins H' b:=fun hn b hb=>⟨hn b hb,(f b hb).2⟩
 refine codeAny_loop rfl (fun n s'=>∃ i H',Inv Y pins σ H' s'/\tn i s'.heap/\(∀ b ∈ fp,H' b=none)/\W i n H') ?_ m0 ⟨0,H,I,st,fun b hb=>(f b hb).1,w0⟩
 rintro n s3 ⟨i,H3,I3,st3,fr3,w3⟩
 show wpAny _ Y.A ((compTurn (.ListComp elt gens scope pos) d (.ref it) (.ref D) Y.env).onRaise (fun x=>do noteFrame x Y.env;theTreesLotGoes x)) _ _ s3
 refine wpAny_noted ?_
 rw [ht]
 unfold fB
 refine wpAny_bind (wpAny_standAt ?_)
 rcases turn i n H3 w3 with ⟨stop,qn⟩ | ⟨go,N,hN,step⟩
 · refine wpAny_bind (thn (hx.any (T.done Y rfl rfl rfl hc i pins s3 σ H3 Y.xe I3 (stat fr3) st3 stop)) fun r s4 ⟨hr,I4⟩=>?_)
   subst hr
   exact wpAny_pure ⟨H3,I4,qn⟩
 · refine wpAny_bind (thn (hx.any (T.item Y rfl rfl rfl hc i pins s3 σ H3 Y.xe I3 (stat fr3) st3 go)) fun r s4 ⟨u,hr,h4⟩=>?_)
   subst hr
   refine wpAny_bind (thn (hx.any h4) fun _ s5 ⟨x,H5,I5,r5,y5,st5,fr5⟩=>?_)
   have I5':=I5.pinned (stat fr5) (T.obj _ _ st5)
   refine wpAny_bind (thn (hx.any (hg _ s5 σ H5 x u _ I5' r5 (step x H5 y5))) fun _ s6 ⟨σ6,H6,I6,wk,q6⟩=>?_)
   obtain ⟨wl,wv⟩:=wk.ok
   have again:∀ {σ7:St} {H7:Hp} {s7:Shared},Inv Y (pins ++ h_ fp s5.heap) σ7 H7 s7->Wk σ σ7->N H7->∃ m,m < n/\∃ i H',Inv Y pins σ H' s7/\tn i s7.heap/\(∀ b ∈ fp,H' b=none)/\W i m H':=fun {σ7 H7 s7} I7 wk7 n7=>by
    obtain ⟨m',hm,w7⟩:=hN H7 n7
    obtain ⟨wl7,wv7⟩:=wk7.ok
    refine ⟨m',hm,i + 1,H7,(I7.weak wl7 wv7).gF,T.keep _ _ _ st5 fun b hb o e=>(I7.pin (b,o) (List.mem_append_right _ (List.mem_append_right _ (eN hb e)))).1,fun b hb=>?_,w7⟩
    obtain ⟨o,e,d⟩:=T.obj _ _ st5 b hb
    exact (I7.pin (b,o) (List.mem_append_right _ (List.mem_append_right _ (eN hb e)))).2.1
   refine wpAny_bind (thn (hx.any (hi _ s6 σ6 H6 _ I6 q6)) fun ok s7 ⟨H7,I7,q7⟩=>?_)
   cases ok with
   | false=>exact wpAny_pure ⟨rfl,again I7 wk q7⟩
   | true=>exact wpAny_bind (thn (hx.any (hn _ s7 σ6 H7 N I7 q7)) fun _ s8 ⟨H8,I8,q8⟩=>wpAny_pure ⟨rfl,again I8 wk q8⟩)
theorem rR {prog:Program} {w:World} {A:Around} {R:Result->Shared->Prop} {s:Shared} {elt:Expr} {gens:List Comprehension} {scope:Scope} {pos:Pos} {d:Nat} {it acc:Value} {env:Env} {g:Comprehension} (hg:gens[d]? =some g) (ha:g.is_async=0)
 (h0:codeAny (model prog w) A (.compLoop (.ListComp elt gens scope pos) d it acc env) R s)
 (h:wpAny (model prog w) A (pyIter it) (fun it' s'=>codeAny (model prog w) A (.compLoop (.ListComp elt gens scope pos) d it' acc env) R s') (notedBy (model prog w) A env fun x s'=>R (.error x) s') s):
 codeAny (model prog w) A (.compStart (.ListComp elt gens scope pos) d it acc env) R s:=by
 refine codeAny_of_tree ?_
 show wpAny _ _ ((compStart (.ListComp elt gens scope pos) d it acc env).onRaise (fun x=>do noteFrame x env;standAt theWindowsPlace)) _ _ s
 refine wpAny_notedAt ?_
 unfold compStart
 rw [show clausesOf (.ListComp elt gens scope pos)=gens from rfl,hg]
 have e1:(Option.elim (some g) false fun x=>x.is_async != 0)=false:=by show (g.is_async != 0)=false;rw [ha];rfl
 rw [e1]
 show wpAny _ _ (ask >>= _) _ _ s
 refine wpAny_bind (wpAny_askSetting (wpAny_ite ?_))
 split
 · exact wpAny_bind (wpAny_pure (wpAny_pure (And.intro rfl h0)))
 · exact wpAny_bind (wpAny_rule (wpAny_bind (wpAny_standAt (wpAny_bind (wpAny_mono h (fun it' s' h'=>wpAny_pure (And.intro rfl h')) fun _ _ x=>x)))))
end L2
set_option maxRecDepth 100000
set_option maxHeartbeats 4000000
namespace L2
open PySem PySem.Spec PySem.SeqAt PyProof.Rows
theorem uI {X:Cx} {N':List Str} {sc:Scope} {pins lY:List (Addr × Obj)} {σ σY:St} {H H':Hp} {s s':Shared} {fp:List Addr} {h':Heap} (I:Inv X pins σ H s) (hf:∀ b ∈ fp,dO X pins H b)
 (IY:Inv (blk X N' sc s.heap.objs.size s H fp) lY σY H' s') (hs:Heap.SameBut s.heap.objs.size s'.heap h'):Inv X pins σ H' { s' with heap:=h' }:=by
 have hC:∀ b o,s.heap.get? b=some o->b ≠ s.heap.objs.size:=fun b o e=>Nat.ne_of_lt (Heap.lt_size e)
 have nC:H' s.heap.objs.size=none:=IY.free
 have u:Un (frs X.stack) fp H H' s.heap s'.heap:=IY.base
 have kk:∀ b o,b ≠ s.heap.objs.size->s'.heap.get? b=some o->h'.get? b=some o:=fun b o hb e=>hs.extBut b o hb e
 refine I.call' (s':={ s' with heap:=h' }) (ch:=fp) IY.os ⟨fun b o e n h1 h2=>kk b o (hC b o e) (u.keep b o e n h1 h2),fun b o e n h1 h2=>?_,u.free,fun b o e h2=>?_,u.tups,u.dm,u.dD⟩ ?_ IY.bare fun b hb=>?_
 · obtain ⟨sl,q⟩:=u.slot b o e n h1 h2
   exact ⟨sl,kk b _ (hC b o e) q⟩
 · obtain ⟨o',q⟩:=u.there b o e h2
   exact ⟨o',kk b _ (hC b o e) q⟩
 · intro a o e
   refine (IY.hok a o e).stay (fun b v hb q=>kk b v ?_ q) (fun _ q=>q) fun _ _ q=>q
   rintro rfl
   rcases hb with z | z
   · rw [z] at nC;rw [nC] at e;cases e
   · rw [nC] at z;cases z
 · obtain ⟨f0,f1,f2,f3,f4,f5⟩:=hf b hb
   exact ⟨f3,f1,f4,f5⟩
section
variable {X:Cx} {N':List Str} {sc:Scope} {nt:Nat} {idx:List Nat} {elt tg iter:Expr} {ifs:List Expr} {gs:List Comprehension} {pos:Pos} {wi:TI} {g:TG} {tif:TT} {tin:Addr->TN}
def qj (nt:Nat) (idx:List Nat) (wi:TI) (g:TG) (tif:TT) (tin:Addr->TN):TE:=fun σ H Q=>wi σ H fun J H1=>∀ D,H1 D=none->lX J g tif (tin D) (sgb nt idx σ) (upd H1 D (.lst [])) fun H2=>Q (.ref D) H2
structure mY (X:Cx) (N':List Str) (sc:Scope) (elt tg iter:Expr) (ifs:List Expr) (gs:List Comprehension) (pos:Pos) (g:TG) (tif:TT) (tin:Addr->TN):Prop where
 ok:∀ (C:Addr) (s₀:Shared) (H₀:Hp) (fp:List Addr) (D it:Addr),∃ inner:Sem Unit,
  compTurn (.ListComp elt (⟨tg,iter,ifs,0⟩::gs) sc pos) 0 (.ref it) (.ref D) (blk X N' sc C s₀ H₀ fp).env=fB (.ListComp elt (⟨tg,iter,ifs,0⟩::gs) sc pos) 0 (.ref it) (.ref D) (blk X N' sc C s₀ H₀ fp).env tg ifs iter.pos inner/\
  PG (blk X N' sc C s₀ H₀ fp) tg g/\PTs (blk X N' sc C s₀ H₀ fp) ifs tif/\PN (blk X N' sc C s₀ H₀ fp) inner (tin D)
theorem uJ (B:jF X N' sc nt idx) (hc:X.calm=true) (hi:PI X tg iter wi) (O:mY X N' sc elt tg iter ifs gs pos g tif tin) {pins:List (Addr × Obj)} {s:Shared} {σ:St} {H:Hp} {Q:VK} {E:Value->Shared->Prop} {use:Option (Value->Sem Unit)} {QQ:Value->Shared->Prop}
 (I:Inv X pins σ H s) (h:qj nt idx wi g tif tin σ H Q) (hE:∀ e s,X.xe e s->E e s)
 (hend:∀ (D C:Addr) (s3 s':Shared) (H3 H':Hp) (fp:List Addr) (lY:List (Addr × Obj)) (σY:St),C=s3.heap.objs.size->Inv X pins σ H3 s3->(∀ b ∈ fp,dO X pins H3 b)->Inv (blk X N' sc C s3 H3 fp) lY σY H' s'->Q (.ref D) H'->
   compPost (model X.prog X.w) X.A E use QQ (.ref D) C (.ok .next) s'):
 wpAny (model X.prog X.w) X.A (eval iter X.env) (fun x s₁=>wpAny (model X.prog X.w) X.A (pyIter x) (fun it s₂=>wpAny (model X.prog X.w) X.A (newList []) (fun acc s₃=>
  wpAny (model X.prog X.w) X.A (newFunctionEnv sc X.env.globals (dw X.env.cells sc.names []) [] X.env.qual none .none (some X.env)) (fun cenv s₄=>
   codeAny (model X.prog X.w) X.A (.compStart (.ListComp elt (⟨tg,iter,ifs,0⟩::gs) sc pos) 0 it acc { cenv with scope:=relabel sc X.env }) (compPost (model X.prog X.w) X.A E use QQ acc cenv.locals) s₄) E s₃) E s₂) E s₁) E s:=by
 refine wpAny_mono (hi pins s σ H _ I h) (fun v s1 h1=>wpAny_mono h1 (fun itv s2 h2=>?_) hE) hE
 obtain ⟨it,fp,tn,J,H2,e,I2,T,st2,f2,hl⟩:=h2
 subst e
 refine wpAny_newObj_type ?_
 have I3:Inv X pins σ (upd H2 s2.heap.objs.size (.lst [])) { s2 with heap:=s2.heap.push { cls:=.type "list",data:=.seq ([]:List Value).toArray } }:=I2.uF (its:=[]) (ys:=[]) (t':=s2.toks) .nil (Nat.zero_le _)
 have hD:H2 s2.heap.objs.size=none:=I2.hok.fresh (Nat.le_refl _)
 have lt2:∀ b ∈ fp,b < s2.heap.objs.size:=fun b hb=>let ⟨o,ho,_⟩:=T.obj _ _ st2 b hb;Heap.lt_size ho
 have f3:∀ b ∈ fp,dO X pins (upd H2 s2.heap.objs.size (.lst [])) b:=fun b hb=>⟨by rw [aG (Nat.ne_of_lt (lt2 b hb))];exact (f2 b hb).1,(f2 b hb).2⟩
 generalize hS3:({ s2 with heap:=s2.heap.push { cls:=.type "list",data:=.seq ([]:List Value).toArray } }:Shared)=s3 at I3 ⊢
 have lt3:∀ b ∈ fp,b < s3.heap.objs.size:=fun b hb=>by rw [<- hS3];show b < (s2.heap.push _).objs.size;rw [Heap.size_push];exact Nat.lt_succ_of_lt (lt2 b hb)
 have k3:∀ b o,s2.heap.get? b=some o->s3.heap.get? b=some o:=fun b o e=>by rw [<- hS3];exact Heap.get?_push_of_some _ e
 refine wpAny_newFunctionEnv B.rQ (by intro y hy;simp at hy) (fun h₁ hns hsb=>?_) B.kind
 have old:∀ b o,s3.heap.get? b=some o->h₁.get? b=some o:=fun b o e=>hsb.extBut b o (Nat.ne_of_lt (Heap.lt_size e)) (Heap.get?_push_of_some _ e)
 have IY:=wZ (tk:=s3.toks + ([]:List (Str × Value)).length) B I3 f3 lt3 hns old
 have hx:NoX (blk X N' sc s3.heap.objs.size s3 (upd H2 s2.heap.objs.size (.lst [])) fp):=fun _ _ z=>z
 obtain ⟨inner,ht,hg,hif,hin⟩:=O.ok s3.heap.objs.size s3 (upd H2 s2.heap.objs.size (.lst [])) fp s2.heap.objs.size it
 have stY:tn 0 h₁:=T.keep _ _ _ st2 fun b _ o e=>old b o (k3 b o e)
 have fY:∀ b ∈ fp,dO (blk X N' sc s3.heap.objs.size s3 (upd H2 s2.heap.objs.size (.lst [])) fp) (X.pn ++ pins) (upd H2 s2.heap.objs.size (.lst [])) b:=fun b hb=>by
  obtain ⟨g0,g1,g2,g3,g4,g5⟩:=f3 b hb
  refine ⟨g0,Nat.ne_of_lt (lt3 b hb),fun z=>(List.mem_cons.mp (I3.jz b z)).elim g1 g2,.inl hb,fun x c e=>?_,fun p hp=>g5 p (by have hp':p ∈ ([]:List (Addr × Obj)) ++ (X.pn ++ pins):=hp;simpa using hp')⟩
  rcases gG (fun y hy e=>I3.ok.has y.1 (B.fr y hy e)) e with z | z
  · exact g4 x c z
  · simp at z
 have loop:codeAny (model X.prog X.w) X.A (.compLoop (.ListComp elt (⟨tg,iter,ifs,0⟩::gs) sc pos) 0 (.ref it) (.ref s2.heap.objs.size) (blk X N' sc s3.heap.objs.size s3 (upd H2 s2.heap.objs.size (.lst [])) fp).env)
  (compPost (model X.prog X.w) X.A E use QQ (.ref s2.heap.objs.size) s3.heap.objs.size) { s3 with heap:=h₁,toks:=s3.toks + ([]:List (Str × Value)).length }:=by
  refine codeAny_mono (w6 (Y:=blk X N' sc s3.heap.objs.size s3 (upd H2 s2.heap.objs.size (.lst [])) fp) hx hc ht T hg hif hin IY stY fY (hl _ hD)) fun r s' hr=>?_
  cases r with
  | error e=>exact False.elim hr
  | ok fl=>
    obtain ⟨H',IY',q⟩:=hr
    have fin:=hend s2.heap.objs.size _ s3 s' _ H' fp _ _ rfl I3 f3 IY' q
    cases use with
    | none=>exact fin
    | some u=>exact fin
 exact rR (g:=⟨tg,iter,ifs,0⟩) rfl rfl loop (T.self _ 0 _ _ _ stY loop)
theorem oZ (B:jF X N' sc nt idx) (hc:X.calm=true) (hi:PI X tg iter wi) (O:mY X N' sc elt tg iter ifs gs pos g tif tin) (hs:∀ x,foldedSetIterable iter X.env x=pure x:=by intro _;rfl):
 PE X (.ListComp elt (⟨tg,iter,ifs,0⟩::gs) sc pos) (qj nt idx wi g tif tin):=by
 intro pins s σ H Q I h
 rw [eval_ListComp]
 refine wpAny_comprehension_free (use:=none) (cl:=dw X.env.cells sc.names []) rfl hs (lO fun y hy e=>I.ok.has y.1 (B.fr y hy e)) B.kind B.loc
  (uJ B hc hi O I h (fun _ _ z=>z) fun D C s3 s' H3 H' fp lY σY hC I3 f3 IY q=>?_)
 subst hC
 obtain ⟨m,hn,_⟩:=IY.loc
 exact ⟨m,hn,fun h' hs'=>⟨.ref D,H',uI I3 f3 IY hs',rfl,q⟩⟩
theorem vJ {te:TE} (hg:∀ C s₀ H₀ fp,PG (blk X N' sc C s₀ H₀ fp) tg g) (hif:∀ C s₀ H₀ fp,PTs (blk X N' sc C s₀ H₀ fp) ifs tif) (he:∀ C s₀ H₀ fp,PE (blk X N' sc C s₀ H₀ fp) elt te):
 mY X N' sc elt tg iter ifs [] pos g tif (fun D=>qi D te):=
 ⟨fun C s₀ H₀ fp D it=>⟨_,BZ elt tg iter ifs sc pos (.ref it) (.ref D) _,hg C s₀ H₀ fp,hif C s₀ H₀ fp,w5 (he C s₀ H₀ fp)⟩⟩
end
end L2
set_option maxRecDepth 100000
set_option maxHeartbeats 4000000
namespace L2
open PySem PySem.Spec PySem.SeqAt PyProof.Rows
def zf (N N':List Str) (sc osc:Scope) (nt:Nat) (idx:List Nat):Bool:=
 decide (sc.kind= .function) && sc.names.all (fun y=>decide (y.2 ≠ .cell)) && sc.names.all (fun y=> !decide (y.2= .local) || decide (sc.names.lookup y.1=some .local)) &&
 sc.names.all (fun y=> !decide (y.2= .free) || (decide (osc.names.lookup y.1=some .cell) || decide (osc.names.lookup y.1=some .free))) && decide (nt + idx.length=N'.length) &&
 (idx.zip (N'.drop nt)).all (fun p=>decide (N[p.1]? =some p.2) && decide (sc.names.lookup p.2=some .free))
theorem mZ {X:Cx} {N N':List Str} {sc osc:Scope} {nt:Nat} {idx:List Nat} (h1:X.env.scope=osc) (h2:X.N=N) (h:zf N N' sc osc nt idx=true):jF X N' sc nt idx:=by
 unfold zf at h
 simp only [Bool.and_eq_true,List.all_eq_true,decide_eq_true_eq,Bool.or_eq_true,Bool.not_eq_true',decide_eq_false_iff_not] at h
 obtain ⟨⟨⟨⟨⟨a,b⟩,c⟩,d⟩,e⟩,f⟩:=h
 refine ⟨a,b,fun y hy q=>(c y hy).resolve_left (fun z=>z q),fun y hy q=>?_,e,fun p hp=>?_⟩
 · have z:=(d y hy).resolve_left (fun z=>z q)
   unfold Env.kindOf
   rw [h1]
   exact z
 · rw [h2];exact f p hp
structure Low (o u n d:Int):Prop where
 pos:0 < d
 gcd:Int.gcd n d=1
 eq:n * u=o * d
 le1:n.natAbs <= o.natAbs
 le2:d.natAbs <= u.natAbs
abbrev Drawn:List Int->List Int->Prop:=Paired fun n l=>0 <= n/\n < l
end L2
set_option maxRecDepth 100000
set_option maxHeartbeats 4000000
namespace L2
open PySem PySem.Spec PySem.SeqAt PyProof.Rows
section
variable {X:Cx}
theorem uK {bs:List Bool}:∀ {us:List Value},Vals (bs.map V.bl) us->LSm.BoolsAre us bs:=by
 induction bs with
 | nil=>intro us r;rw [List.map_nil] at r;cases r;exact .nil
 | cons b bs ih=>
   intro us r
   rw [List.map_cons] at r
   cases r with
   | cons r1 r2=>
     obtain rfl:=(show _=Value.bool b from r1)
     exact .cons b (ih r2)
def Dy (f:List Bool->Bool):List V->Hp->VK->Prop:=fun xs H Q=>∃ p bs,xs= [.ref p]/\H p=some (.lst (bs.map V.bl))/\Q (.bl (f bs)) H
theorem rT (hc:X.calm=true):bT X (.builtin "all") (Dy fun bs=>bs.all id):=by
 intro pins s σ H xs us Q I r h
 obtain ⟨p,bs,rfl,hp,q⟩:=h
 obtain ⟨u,rfl,ru⟩:=vals1 r
 cases ru
 obtain ⟨_,its,n,rv,ho⟩:=(show aP X.prog X.w H s.heap p (.lst (bs.map V.bl)) from I.hok p _ hp)
 have hb:=uK rv
 have hl:s.heap.IsList p its.toArray:=⟨_,ho,rfl,_,rfl⟩
 have hlt:p < s.heap.objs.size:=Heap.lt_size ho
 refine call_all_walk (wpAny_pyIter_list hl ?_)
 refine ⟨s.heap.objs.size,[s.heap.objs.size,p],[s.heap.objs.size],its.toArray.size,_,_,fun i=>(bs[i]?).getD true,rfl,Walks.list (A:=X.A.in1) (I.ok.hd hc) _ p (Nat.ne_of_lt hlt) its.toArray,
  ⟨⟨_,Heap.get?_push_size _ rfl,rfl,rfl⟩,hl.push _⟩,fun i v s' Q' E' hP hQ=>?_,fun h' tk hk=>?_⟩
 · obtain ⟨b,e,rfl⟩:=hb.get i v (by simpa using hP)
   simp only [e,Option.getD_some] at hQ
   exact wpAny_truthy_bool hQ
 · have e:((List.range its.toArray.size).all fun i=>(bs[i]?).getD true)=bs.all id:=by
    rw [List.size_toArray,hb.length];exact LSm.range_all bs
   rw [e]
   exact ⟨.bl _,H,I.kept (h':=h') (t':=tk) (LSm.kept_iter hk),rfl,q⟩
end
section
variable {X:Cx} {K:PySem.W.Frag} {tg l o e:Expr} {es:List Expr} {tl to te:TE} {t:TA} {pos apos:Pos}
theorem o4 (h:X.K=K):IxR X (rIx K):=h ▸ mQ
def B_ (K:PySem.W.Frag):List V->Hp->VK->Prop:=fun xs H Q=>∃ p ys,xs= [.ref p]/\(SqL K H p ys\/SqT K H p ys)/\(ys.length <= sizeLine->Q (.int ys.length) H)
theorem iu:bT X (.builtin "len") (B_ X.K):=by
 intro pins s σ H xs us Q I r h
 obtain ⟨p,ys,e,hs,q⟩:=h
 have hz:ys.length <= sizeLine:=by
  rcases hs with z | z
  · exact (I.list z).choose_spec.2.2
  · exact (I.tuple z).choose_spec.2.2
 exact cD pins s σ H xs us Q I r ⟨p,ys,e,hs,q hz⟩
end
theorem m5 {lo:Int} {n:Nat} {g:TG} {tif:TT} {tin:TN} {σ:St} {H:Hp} {Q:Hp->Prop} (Pv:Nat->Hp->Prop) (h0:Pv 0 H)
 (hs:∀ i H,i < n->Pv i H->g (.int (lo + i)) σ H fun σ2 H2=>Wk σ σ2/\tif σ2 H2 fun b H3=>if b=true then tin σ2 H3 (Pv (i + 1)) else Pv (i + 1) H3) (hd:∀ H,Pv n H->Q H):lX (Itr lo n) g tif tin σ H Q:=by
 refine ⟨fun i m H=>m=n - i/\i <= n/\Pv i H,⟨n,by simp,Nat.zero_le _,h0⟩,?_⟩
 rintro i m H ⟨rfl,hi,p⟩
 by_cases hlt:i < n
 · refine .inr ⟨hlt,Pv (i + 1),fun H' p'=>⟨n - (i + 1),by omega,rfl,hlt,p'⟩,fun x H' y=>?_⟩
   obtain ⟨e,y⟩:=y
   subst e y
   exact hs i _ hlt p
 · have e:i=n:=by omega
   subst e
   exact .inl ⟨Nat.le_refl _,hd H p⟩
example (a b v:V):Wk (sgb 1 [0,1] [some a,some b]) ((sgb 1 [0,1] [some a,some b]).set 0 (some v)):=⟨rfl,rfl,trivial⟩
def tyN:PyData->String
 | .none=>"NoneType"
 | .bool _=>"bool"
 | .int _=>"int"
 | .str _=>"str"
 | .list _=>"list"
 | .tuple _=>"tuple"
 | .dict _=>"dict"
theorem Rep.ty {K:PySem.W.Frag} {H:Hp} {v:V} {d:PyData} (r:Rep H v d):dH K H v (.type (tyN d)):=by
 cases r with
 | non=>exact .non
 | bl b=>exact .bl b
 | int i=>exact .int i
 | str x=>exact .str x
 | lst h _=>exact .lst h
 | tup h _=>exact .tup h
end L2
set_option maxRecDepth 100000
set_option maxHeartbeats 4000000
namespace L2
open PySem PySem.Spec PySem.SeqAt PyProof.Rows
def Kp (fs:List Addr) (g h:Heap):Prop:=∀ b o,g.get? b=some o->(b ∉ fs->h.get? b=some o)/\(b ∈ fs->∃ sl,h.get? b=some { o with slots:=sl })
theorem Kp.of_keeps {fs:List Addr} {g h:Heap} (k:∀ b o,g.get? b=some o->h.get? b=some o):Kp fs g h:=fun b o e=>⟨fun _=>k b o e,fun _=>⟨o.slots,k b o e⟩⟩
def Fly (g:Heap) (fl:Value) (e:Addr) (cls:Value) (d:Option Addr) (a0:Value) (h:Heap):Prop:=
 g.get? e=none/\∃ oe vs T oT ts,h.get? e=some oe/\oe.cls=cls/\oe.dict=d/\oe.data= .fields vs/\vs[0]? =some a0/\vs[1]? =some (.ref T)/\T ≠ e/\g.get? T=none/\h.get? T=some oT/\oT.data= .fields ts/\ts[3]? =some fl
section
variable {M:Model} {A:Around} {E:Value->Shared->Prop} {s:Shared} {base g:Heap} {env:Env} {outer:List Env} {L e:Addr} {a0:Value}
theorem rW {oe:Obj} {vs:Array Value} {head:Value} {hadNext:Bool} {Q:Unit->Shared->Prop} (hfr:A.frames=some (env::outer)) (hl:s.heap.FunFrames base (env::outer)) (hf:env.frame=some L)
 (he:s.heap.get? e=some oe) (hd:oe.data= .fields vs) (hsz:1 < vs.size)
 (h:∀ h' T oT ts,(∀ b o,s.heap.get? b=some o->b ≠ e->(b ∉ frs (env::outer)->h'.get? b=some o)/\∃ sl,h'.get? b=some { o with slots:=sl })->s.heap.get? T=none->
   h'.get? e=some (Obj.mapFields (·.setIfInBounds 1 (.ref T)) oe)->h'.get? T=some oT->oT.data= .fields ts->ts[3]? =some (rawInt L)->Q () { s with heap:=h' }):
 wpAny M A (do let a <- frameOf env;let pl <- entryPlaceOf L hadNext;let b <- EntryCells.newEntry head a .none (rawInt L) .none pl;setField (.ref e) 1 b) Q E s:=by
 have hene:e ∉ (env::outer).filterMap (·.frame):=fun hm=>by
  obtain ⟨_,o,ho,hnf⟩:=hl.mem hm
  rw [he] at ho;cases ho;exact hnf vs hd
 refine wpAny_bind (wpAny_frameOf_fun hfr hl hf fun h1 hs1=>?_)
 refine wpAny_bind (wpAny_entryPlaceOf fun pl hpl=>?_)
 unfold EntryCells.newEntry newFields
 refine wpAny_bind (wpAny_newObj_type ?_ (hpl.sizeOk5 _ _ _ _ _))
 have he1:h1.get? e=some oe:=(hs1.2.1 e hene).trans he
 refine wpAny_setField (Heap.get?_push_of_some _ he1) hd hsz ?_
 have hTe:h1.objs.size ≠ e:=Nat.ne_of_gt (Heap.lt_size he1)
 refine h _ h1.objs.size _ _ (fun b o hb hbe=>?_) ?_ ?_ ((Heap.get?_update_other _ _ hTe.symm).trans (Heap.get?_push_size h1 rfl)) rfl ?_
 · have up:∀ o',h1.get? b=some o'->((h1.push { cls:=.type "traceback",dict:=none,data:=.fields ([head,.ref L,.none,rawInt L,.none] ++ (if pl.isEmpty then List.replicate 6 Value.none else pl)).toArray }).update e (Obj.mapFields (·.setIfInBounds 1 (Value.ref h1.objs.size)))).get? b=some o':=fun o' q=>by
    rw [Heap.get?_update_other _ _ hbe.symm];exact Heap.get?_push_of_some _ q
   refine ⟨fun hn=>up o ((hs1.2.1 b hn).trans hb),?_⟩
   obtain ⟨sl,q⟩:=hs1.2.2 b o hb
   exact ⟨sl,up _ q⟩
 · cases q:s.heap.get? h1.objs.size with
   | none=>rfl
   | some o=>
     obtain ⟨sl,q'⟩:=hs1.2.2 _ o q
     exact absurd (Heap.lt_size q') (Nat.lt_irrefl _)
 · exact Heap.get?_update_self _ (Heap.get?_push_of_some _ he1) (Obj.isFreed_of_fields (Obj.data_mapFields hd _))
 · first
    | (simp;done)
    | (rcases hpl with rfl | ⟨_,_,_,_,_,_,_,rfl⟩ <;> simp)
theorem j9 (f:Array Value->Array Value) (o:Obj):(Obj.mapFields f o).dict=o.dict:=by
 obtain ⟨c,d,dt,sl⟩:=o;cases dt <;> rfl
theorem rY {cls:Value} {d:Option Addr} {Q:Unit->Shared->Prop} (hfr:A.frames=some (env::outer)) (hl:s.heap.FunFrames base (env::outer)) (hf:env.frame=some L)
 (hF:Fly g .none e cls d a0 s.heap) (hgs:Kp (frs (env::outer)) g s.heap)
 (h:∀ h',Kp (frs (env::outer)) g h'->Fly g (rawInt L) e cls d a0 h'->Q () { s with heap:=h' }):wpAny M A (noteFrame (.ref e) env) Q E s:=by
 obtain ⟨hg,oe,vs,T,oT,ts,he,hc,hdd,hd,h0,h1,hTe,hgT,hT,hdT,h3⟩:=hF
 subst hc hdd
 unfold noteFrame
 simp only [hf]
 refine wpAny_bind (wpAny_field he hd h1 ?_)
 rw [if_pos (show (Value.ref T != Value.none)=true from by simp)]
 refine wpAny_bind (wpAny_field hT hdT h3 ?_)
 rw [if_neg (show ¬ ((Value.none == rawInt L)=true) from by simp [rawInt])]
 refine wpAny_bind (wpAny_setField hT hdT (Array.getElem?_eq_some_iff.mp h3).1 ?_)
 have other:∀ b,b ≠ T->(s.heap.update T (Obj.mapFields (·.setIfInBounds 3 Value.none))).get? b=s.heap.get? b:=fun b hb=>Heap.get?_update_other _ _ (Ne.symm hb)
 have sz:=(Array.getElem?_eq_some_iff.mp h1).1
 have Ca:(s.heap.update T (Obj.mapFields (·.setIfInBounds 3 Value.none))).FunFrames base (env::outer):=hl.of_keeps fun b o hb hnf=>⟨o,(other b fun q=>by rw [q,hT] at hb;cases hb;exact hnf ts hdT).trans hb,rfl⟩
 refine rW hfr Ca hf ((other e (Ne.symm hTe)).trans he) hd sz fun h' T2 oT2 ts2 k kT ke kt kd k3=>h h' (fun b o q=>?_) ⟨hg,_,_,T2,oT2,ts2,ke,Obj.cls_mapFields _ _,j9 _ _,Obj.data_mapFields hd _,by rw [Array.getElem?_setIfInBounds_ne (by decide)];exact h0,by simp [sz],fun z=>?_,?_,kt,kd,k3⟩
 · have hbe:b ≠ e:=fun z=>by rw [z,hg] at q;cases q
   have hbT:b ≠ T:=fun z=>by rw [z,hgT] at q;cases q
   refine ⟨fun hb=>(k b o ((other b hbT).trans ((hgs b o q).1 hb)) hbe).1 hb,fun hb=>?_⟩
   obtain ⟨sl,q1⟩:=(hgs b o q).2 hb
   obtain ⟨sl2,q2⟩:=(k b _ ((other b hbT).trans q1) hbe).2
   exact ⟨sl2,q2⟩
 · rw [z,other e (Ne.symm hTe),he] at kT;cases kT
 · cases q:g.get? T2 with
   | none=>rfl
   | some o=>
     exfalso
     have hbT:T2 ≠ T:=fun z=>by rw [z,hgT] at q;cases q
     rw [other _ hbT] at kT
     by_cases hb:T2 ∈ frs (env::outer)
     · obtain ⟨sl,q1⟩:=(hgs T2 o q).2 hb
       rw [kT] at q1;cases q1
     · have q1:=(hgs T2 o q).1 hb
       rw [kT] at q1;cases q1
theorem uL {fs:List Addr} {cls fl:Value} {d:Option Addr} {Q:Unit->Shared->Prop} (hF:Fly g fl e cls d a0 s.heap) (hgs:Kp fs g s.heap)
 (h:∀ h',Kp fs g h'->Fly g .none e cls d a0 h'->Q () { s with heap:=h' }):wpAny M A (setFlight (.ref e) none) Q E s:=by
 obtain ⟨hg,oe,vs,T,oT,ts,he,hc,hdd,hd,h0,h1,hTe,hgT,hT,hdT,h3⟩:=hF
 have sz:=(Array.getElem?_eq_some_iff.mp h3).1
 have other:∀ b,b ≠ T->(s.heap.update T (Obj.mapFields (·.setIfInBounds 3 ((none:Option Addr).elim Value.none fun f=>rawInt f)))).get? b=s.heap.get? b:=fun b hb=>Heap.get?_update_other _ _ (Ne.symm hb)
 unfold setFlight
 refine wpAny_bind (wpAny_field he hd h1 ?_)
 rw [if_pos (show (Value.ref T != Value.none)=true from by simp)]
 refine wpAny_setField hT hdT sz (h _ (fun b o q=>?_) ?_)
 · have hbT:b ≠ T:=fun z=>by rw [z,hgT] at q;cases q
   exact ⟨fun hb=>(other b hbT).trans ((hgs b o q).1 hb),fun hb=>let ⟨sl,q1⟩:=(hgs b o q).2 hb;⟨sl,(other b hbT).trans q1⟩⟩
 · exact ⟨hg,oe,vs,T,_,_,(other e (Ne.symm hTe)).trans he,hc,hdd,hd,h0,h1,hTe,hgT,Heap.get?_update_self _ hT (Obj.isFreed_of_fields (Obj.data_mapFields hdT _)),Obj.data_mapFields hdT _,by simp [sz]⟩
theorem ql {cls:Value} {d:Option Addr} {Q:Unit->Shared->Prop} (hfr:A.frames=some (env::outer)) (hl:s.heap.FunFrames base (env::outer)) (hf:env.frame=some L)
 (hF:Fly g .none e cls d a0 s.heap) (hgs:Kp (frs (env::outer)) g s.heap)
 (h:∀ h',Kp (frs (env::outer)) g h'->Fly g .none e cls d a0 h'->Q () { s with heap:=h' }):wpAny M A (leaving env (.ref e)) Q E s:=by
 unfold leaving
 exact wpAny_bind (rY hfr hl hf hF hgs fun h' k F=>uL (s:={ s with heap:=h' }) F k fun h'' k2 F2=>h h'' k2 F2)
end
end L2
set_option maxRecDepth 100000
set_option maxHeartbeats 4000000
namespace L2
open PySem PySem.Spec PySem.SeqAt PyProof.Rows
structure Ord (bm:List Value):Prop where
 v:bm.contains (.type "ValueError")=true
 b:bm.contains (.type "BaseException")=true
 a:bm.contains (.type "AttributeError")=false
 n:bm.contains (.type "NameError")=false
section
variable {prog:Program} {w:World} {A:Around} {E:Value->Shared->Prop} {h:Heap} {g:Array GenState} {d:PySem.Drawn} {t:Nat} {os:OsState}
variable {nm q:Str} {C N:Addr} {bs bm:List Value} {hdct:Bool} {sn:List Str} {sub:List Value} {ab:Bool} {col:Option Bool} {dd:Option Addr} {k0 k1 k2 k3 k5:Option Value}
end
end L2
set_option maxRecDepth 100000
set_option maxHeartbeats 4000000
namespace L2
open PySem PySem.Spec PySem.SeqAt PyProof.Rows
open PySem.Builtin.ObjectAttr
abbrev bmV:List Value:=[.type "ValueError",.type "Exception",.type "BaseException",.type "object"]
section
variable {prog:Program} {w:World} {A:Around} {E:Value->Shared->Prop} {s:Shared} {K:PySem.W.Frag} {C e t:Addr} {v:Value} {name:Str} {cd:ClassData} {as:List Addr}
end
section
variable {prog:Program} {w:World} {A:Around} {E:Value->Shared->Prop} {h:Heap} {g:Array GenState} {d:PySem.Drawn} {t:Nat} {os:OsState}
variable {nm q:Str} {C N e ta:Addr} {bs bm:List Value} {hdct:Bool} {sn:List Str} {sub:List Value} {ab:Bool} {col:Option Bool} {dd od:Option Addr} {k0 k1 k2 k3 k5:Option Value}
end
end L2
set_option maxRecDepth 100000
set_option maxHeartbeats 4000000
namespace L2
open PySem PySem.Spec PySem.SeqAt PyProof.Rows
section
variable {prog:Program} {w:World} {A:Around} {E:Value->Shared->Prop} {h:Heap} {g:Array GenState} {d:PySem.Drawn} {t:Nat} {os:OsState}
variable {nm q:Str} {C N e dx:Addr} {bs bm:List Value} {hdct:Bool} {sn:List Str} {sub:List Value} {ab:Bool} {col:Option Bool} {dd:Option Addr} {k0 k1 k2 k3 k5:Option Value} {K:PySem.W.Frag} {cd:ClassData}
end
end L2
set_option maxRecDepth 100000
set_option maxHeartbeats 4000000
namespace L2
open PySem PySem.Spec PySem.SeqAt PyProof.Rows
structure Sup (H':Hp) (h0 g h:Heap):Prop where
 sub:∀ b o,g.get? b=some o->h.get? b=some o
 old:∀ b o,h.get? b=some o->((∃ o0,h0.get? b=some o0)\/∃ u,H' b=some u)->g.get? b=some o
def CXE (P:Program) (w:World):CXT:=fun outer H s E ev s'=>∃ (e:Addr) (C:Value) (d:Option Addr) (a0:Value) (H':Hp) (g:Heap),ev= .ref e/\s'.os=s.os/\AllBare s'.gens/\
 Un (frs outer) [] H H' s.heap s'.heap/\HOk P w H' s'.heap/\Fly g .none e C d a0 s'.heap/\Sup H' s.heap g s'.heap/\E C d H'
theorem uM {P:Program} {w:World} {outer:List Env} {H:Hp} {s s':Shared} {e:Value}:¬ CXE P w outer H s (fun _ _ _=>False) e s':=fun ⟨_,_,_,_,_,_,_,_,_,_,_,_,_,h⟩=>h
theorem aP.get {P:Program} {w:World} {H:Hp} {h:Heap} {a:Addr} {o:HO} (x:aP P w H h a o):∃ ob,h.get? a=some ob:=by
 cases o with
 | lst xs=>obtain ⟨_,_,_,_,e⟩:=x;exact ⟨_,e⟩
 | tup xs=>obtain ⟨_,_,_,ob,e,_⟩:=x;exact ⟨_,e⟩
 | dK kvs=>obtain ⟨_,_,_,_,o,_,_,e,_⟩:=x;exact ⟨_,e⟩
 | dT kvs=>obtain ⟨_,_,_,_,o,_,_,e,_⟩:=x;exact ⟨_,e⟩
 | set S n=>obtain ⟨o,_,_,_,e,_⟩:=x;exact ⟨_,e⟩
 | ins C dx fs=>obtain ⟨_,_,_,e,_⟩:=x;exact ⟨_,e⟩
 | own y=>obtain ⟨_,e⟩:=x;exact ⟨_,e⟩
 | xd fs=>obtain ⟨_,⟨_,_,_,e,_⟩,_⟩:=x;exact ⟨_,e⟩
 | rng lo hi=>obtain ⟨_,_,_,e⟩:=x;exact ⟨_,e⟩
 | frz ob u=>obtain ⟨e,_⟩:=x;exact ⟨_,e⟩
 | tbl ps=>exact ⟨_,(show h.get? a=some _ from x)⟩
 | met f y=>exact ⟨_,(show h.get? a=some _ from x)⟩
 | ext φ=>obtain ⟨_,⟨_,e⟩,_⟩:=x;exact ⟨_,e⟩
def only (g h:Heap):Heap:=PySem.W.hideAll h ((List.range h.objs.size).filter fun b=>(g.get? b).isNone)
theorem lB {g h:Heap} {b:Addr} (hb:g.get? b=none):(only g h).get? b=none:=by
 cases q:(only g h).get? b with
 | none=>rfl
 | some o=>
   have e:h.get? b=some o:=PySem.W.of_hideAll _ q
   have hm:b ∈ (List.range h.objs.size).filter fun b=>(g.get? b).isNone:=List.mem_filter.mpr ⟨List.mem_range.mpr (Heap.lt_size e),by rw [hb];rfl⟩
   have q2:(only g h).get? b=none:=PySem.W.hideAll_none _ hm
   rw [q] at q2;cases q2
theorem uN {g h:Heap} {b:Addr} {o o':Obj} (e:h.get? b=some o) (hb:g.get? b=some o'):(only g h).get? b=some o:=by
 refine PySem.W.hideAll_get _ e fun hm=>?_
 have:=(List.mem_filter.mp hm).2
 rw [hb] at this;cases this
theorem xg {g h:Heap} {b:Addr} {o:Obj} (e:(only g h).get? b=some o):h.get? b=some o:=PySem.W.of_hideAll _ e
theorem Fly.only {g h:Heap} {fl:Value} {e:Addr} {C:Value} {d:Option Addr} {a0:Value} (F:Fly g fl e C d a0 h):Fly (only g h) fl e C d a0 h:=by
 obtain ⟨hg,oe,vs,T,oT,ts,h1,h2,h3,h4,h5,h6,h7,h8,r⟩:=F
 exact ⟨lB hg,oe,vs,T,oT,ts,h1,h2,h3,h4,h5,h6,h7,lB h8,r⟩
theorem gH {env:Env} {outer:List Env} {L:Addr} (h:env.frame=some L):frs (env::outer)=L::frs outer:=by
 unfold frs;rw [List.filterMap_cons,h]
structure Own (X:Cx):Prop where
 ex:X.ex= []
 st:X.stack=X.env::X.outer
 fr:X.env.frame=some X.env.locals
section
variable {X:Cx} {pins:List (Addr × Obj)} {σ:St} {H H':Hp} {s s':Shared} {E:XK} {e:Addr} {C:Value} {d:Option Addr} {a0:Value} {g h':Heap}
theorem Own.frs (O:Own X):L2.frs X.stack=X.env.locals::X.fs:=by rw [O.st,gH O.fr]
theorem Inv.zg (I:Inv X pins σ H s) (O:Own X) {b:Addr} {o:Obj} (q:X.s₀.heap.get? b=some o):∃ o',s.heap.get? b=some o':=I.base.there b o q (by rw [O.ex];simp)
theorem zj {fs:List Addr} {base h h':Heap} {l:List Env} (u:Un fs [] H H' h h') (hs:∀ b ∈ L2.frs l,b ∈ fs) (hf:∀ b ∈ L2.frs l,H b=none) (hl:h.FunFrames base l):h'.FunFrames base l:=by
 induction l with
 | nil=>trivial
 | cons env rest ih=>
   obtain ⟨hk,⟨L,o,hfr,hn,ho,hd⟩,hr⟩:=hl
   have hm:L ∈ L2.frs (env::rest):=by rw [gH hfr];exact List.mem_cons_self
   obtain ⟨sl,e⟩:=u.slot L o ho (hf L hm) (hs L hm) (by simp)
   exact ⟨hk,⟨L,_,hfr,hn,e,hd⟩,ih (fun b hb=>hs b (by rw [gH hfr];exact List.mem_cons_of_mem _ hb)) (fun b hb=>hf b (by rw [gH hfr];exact List.mem_cons_of_mem _ hb)) hr⟩
theorem zm (O:Own X) (I:Inv X pins σ H s) (hos:s'.os=s.os) (hb:AllBare s'.gens) (u:Un (L2.frs X.stack) [] H H' s.heap s'.heap) (ok:HOk X.prog X.w H' s'.heap)
 (sup:Sup H' X.s₀.heap g s'.heap) (k:Kp (L2.frs X.stack) g h') (F:Fly g .none e C d a0 h') (hE:E C d H'):CXE X.prog X.w X.outer X.H₀ X.s₀ E (.ref e) { s' with heap:=h' }:=by
 have b0:Un X.fs [] X.H₀ H X.s₀.heap s.heap:=by have:=I.base;rw [O.ex] at this;exact this
 have fr:=O.frs
 rw [fr] at u k
 have u0:Un (X.env.locals::X.fs) [] X.H₀ H' X.s₀.heap s'.heap:=(b0.mono (fun b hb=>List.mem_cons_of_mem _ hb) fun _ h=>h).trans u
 have hL:X.s₀.heap.get? X.env.locals=none:=Heap.get?_none_of_le I.ok.above
 have neL:∀ {b o},X.s₀.heap.get? b=some o->b ≠ X.env.locals:=fun q z=>by rw [z,hL] at q;cases q
 have nof:∀ b u',H' b=some u'->b ∉ X.env.locals::X.fs:=fun b u' q hm=>by
  have hm':b ∈ L2.frs X.stack:=by rw [fr];exact hm
  obtain ⟨_,o,ho,_⟩:=I.stack.mem hm'
  rw [u.free b o ho (I.iT b hm') (by simp)] at q;cases q
 refine ⟨e,C,d,a0,H',L2.only g h',rfl,hos.trans I.os,hb,⟨fun b o q n hf _=>?_,fun b o q n hf _=>?_,u0.free,fun b o q _=>?_,u0.tups,u0.dm,u0.dD⟩,fun a o ea=>?_,F.only,⟨fun b o q=>xg q,fun b o q hc=>?_⟩,hE⟩
 · have hn:b ∉ X.env.locals::X.fs:=fun z=>(List.mem_cons.mp z).elim (neL q) hf
   exact (k b o (sup.old b o (u0.keep b o q n hn (by simp)) (.inl ⟨o,q⟩))).1 hn
 · obtain ⟨sl,q1⟩:=u0.slot b o q n (List.mem_cons_of_mem _ hf) (by simp)
   obtain ⟨sl2,q2⟩:=(k b _ (sup.old b _ q1 (.inl ⟨o,q⟩))).2 (List.mem_cons_of_mem _ hf)
   exact ⟨sl2,q2⟩
 · obtain ⟨o',q1⟩:=u0.there b o q (by simp)
   have q2:=sup.old b _ q1 (.inl ⟨o,q⟩)
   by_cases hm:b ∈ X.env.locals::X.fs
   · obtain ⟨sl,q3⟩:=(k b _ q2).2 hm
     exact ⟨_,q3⟩
   · exact ⟨_,(k b _ q2).1 hm⟩
 · refine (ok a o ea).stay (fun b v hbv q=>?_) (fun _ q=>q) fun _ _ q=>q
   have tr:∃ u',H' b=some u':=by
    rcases hbv with z | z
    · exact ⟨o,by rw [z];exact ea⟩
    · exact ⟨_,z⟩
   obtain ⟨u',z⟩:=tr
   exact (k b v (sup.old b v q (.inr ⟨u',z⟩))).1 (nof b u' z)
 · have:∃ o',g.get? b=some o':=by
    rcases hc with ⟨o0,q0⟩ | ⟨u',z⟩
    · obtain ⟨o',q1⟩:=u0.there b o0 q0 (by simp)
      exact ⟨_,sup.old b _ q1 (.inl ⟨o0,q0⟩)⟩
    · obtain ⟨o',q1⟩:=(ok b u' z).get
      exact ⟨_,sup.old b _ q1 (.inr ⟨u',z⟩)⟩
   obtain ⟨o',q2⟩:=this
   exact uN q q2
def zp (X:Cx) (E:XK):Value->Shared->Prop:=fun e s'=>wpAny (model X.prog X.w) X.A (leaving X.env e) (fun _ s''=>CXE X.prog X.w X.outer X.H₀ X.s₀ E e s'') (fun e' s''=>CXE X.prog X.w X.outer X.H₀ X.s₀ E e' s'') s'
theorem m6 {E':XK} (O:Own X) (hx:X.xe=zp X E) (hE:∀ C d H,E' C d H->E C d H):Passes (CXE X.prog X.w) X E':=by
 intro pins σ H s ev s' I h
 obtain ⟨e,C,d,a0,H',g,rfl,hos,hb,u,ok,F,sup,q⟩:=h
 rw [hx]
 unfold zp
 have hfr:X.A.frames=some (X.env::X.outer):=by rw [I.ok.frames,O.st]
 have hl:s'.heap.FunFrames X.base (X.env::X.outer):=by
  have:=zj u (fun _ h=>h) I.iT I.stack
  rw [O.st] at this;exact this
 refine ql hfr hl O.fr F (Kp.of_keeps sup.sub) fun h' k F'=>?_
 rw [<- O.st] at k
 refine zm O I hos hb u ok ⟨sup.sub,fun b o q hc=>sup.old b o q ?_⟩ k F' (hE _ _ _ q)
 rcases hc with ⟨o0,q0⟩ | z
 · exact .inl (I.zg O q0)
 · exact .inr z
end
end L2
set_option maxRecDepth 100000
set_option maxHeartbeats 4000000
namespace L2
open PySem PySem.Spec PySem.SeqAt PyProof.Rows
structure zq (K:PySem.W.Frag) (C:Addr):Prop where
 obj:∃ (nm q:Str) (N:Addr) (bs:List Value) (as:List Addr) (sn:List Str) (sub:List Value) (ab:Bool) (col:Option Bool) (dd:Option Addr) (k0 k1 k2 k3 k5:Option Value),
  K.lookup C=some (excClassObj nm q C N bs (as.map Value.ref ++ bmV) true sn sub ab col dd k0 k1 k2 k3 k5 "ValueError.__new__")
 FN:PySem.W.findIn K (.ref C) "__setattr__" =some (some (.builtin "object.__setattr__"))
 FQ:PySem.W.findIn K (.ref C) "__getattribute__" =some (some (.builtin "BaseException.__getattribute__"))
 FT:PySem.W.findIn K (.ref C) "__getattr__" =some none
structure XMk (K:PySem.W.Frag) (C f:Addr):Prop where
 cls:zq K C
 init:PySem.W.findIn K (.ref C) "__init__" =some (some (.ref f))
 fn:PySem.W.typeIn K (.ref f)=some (.type "function")
 kp:PySem.W.keepIn K (.ref C)=true
section
variable {X:Cx} {pins:List (Addr × Obj)} {σ:St} {H:Hp} {s:Shared}
structure CI (K:PySem.W.Frag) (S f:Addr):Prop where
 sp:PySem.W.specialIn K (.ref S) "__getattribute__" =some (some (.builtin "type.__getattribute__"))
 rd:PySem.W.readsIn K S (.type "type")=true
 fc:PySem.W.findCls K (.ref S) (.type "type") "__init__" =some (.val (.ref f))
 hd:PySem.W.handedIn (.ref f)=true
 kp:PySem.W.keepIn K (.ref f)=true
end
end L2
set_option maxRecDepth 100000
set_option maxHeartbeats 4000000
namespace L2
open PySem PySem.Spec PySem.SeqAt PyProof.Rows
def Dz (K:PySem.W.Frag) (C S:Addr):Prop:=∃ cd:ClassData,PySem.W.clsIn K C=some cd/\cd.mro.contains (.ref S)=true
section
variable {X:Cx} {pins:List (Addr × Obj)} {σ:St} {H H':Hp} {s s':Shared} {e:Addr} {oe:Obj}
end
end L2
set_option maxRecDepth 100000
set_option maxHeartbeats 4000000
namespace L2
open PySem PySem.Spec PySem.SeqAt PyProof.Rows
section
variable {X:Cx} {pins:List (Addr × Obj)} {σ:St} {H:Hp} {s:Shared} {h':Heap}
end
def Itz (K:PySem.W.Frag) (a b:Addr):It:=
 ⟨fun i H=>∃ xs ys x y,SqL K H a xs/\SqL K H b ys/\xs[i]? =some x/\ys[i]? =some y,
  fun i H v H'=>∃ T x y,H T=none/\v= .ref T/\H'=upd H T (.tup [x,y])/\(∀ xs,SqL K H a xs->xs[i]? =some x)/\∀ ys,SqL K H b ys->ys[i]? =some y,
  fun i H=>∃ xs ys,SqL K H a xs/\SqL K H b ys/\(xs.length <= i\/ys.length <= i)⟩
structure Fg (z TI TO i1 i2 a b:Addr) (i:Nat) (h:Heap):Prop where
 hz:IsZip h z TI TO .none
 hTI:IsPair h TI (.ref i1) (.ref i2)
 hTO:∃ p q,IsPair h TO p q
 h1:h.IsListIter i1 a i
 h2:h.IsListIter i2 b i
section
variable {X:Cx}
def Itd (lo:Int) (n:Nat):It:=⟨fun i _=>i < n,fun i H x H'=>H'=H/\x= .int (lo - i),fun i _=>n <= i⟩
end
end L2
namespace Ev
noncomputable section
inductive W where | non | bl (b:Bool) | int (i:Int) | str (c:List Nat) | ref (n:Nat)
 deriving DecidableEq
abbrev Fs:=List (List Nat × W)
inductive O where
 | tup (xs:List W) | lst (xs:List W) | ins (C:Nat) (fs:Fs) | dk (kvs:List (W × W)) | dt (kvs:List (List W × W))
 deriving DecidableEq
inductive Tr where | lf | nd (o:Option O) (l r:Tr)
def Tr.get (t:Tr):Nat->Option O:=Tr.rec (fun _=>none) (fun o _ _ gl gr k=>Nat.rec o (fun k _=>Bool.rec (gr (Nat.div k 2)) (gl (Nat.div k 2)) (Nat.beq (Nat.mod k 2) 0)) k) t
def Tr.set (d:Nat):Tr->Nat->O->Tr:=Nat.rec (fun t _ _=>t) (fun _ ih t k o=>Tr.rec
    (Nat.rec (.nd (some o) .lf .lf) (fun k _=>Bool.rec (.nd none .lf (ih .lf (Nat.div k 2) o)) (.nd none (ih .lf (Nat.div k 2) o) .lf) (Nat.beq (Nat.mod k 2) 0)) k)
    (fun x l r _ _=>Nat.rec (.nd (some o) l r) (fun k _=>Bool.rec (.nd x l (ih r (Nat.div k 2) o)) (.nd x (ih l (Nat.div k 2) o) r) (Nat.beq (Nat.mod k 2) 0)) k) t) d
inductive Hs where | mk (n:Nat) (t:Tr)
def Hs.n (h:Hs):Nat:=Hs.rec (fun n _=>n) h
def Hs.get (h:Hs) (k:Nat):Option O:=Hs.rec (fun _ t=>t.get k) h
def Hs.set (h:Hs) (k:Nat) (o:O):Hs:=Hs.rec (fun n t=>.mk n (t.set (Nat.succ k) k o)) h
def Hs.push (h:Hs) (o:O):Hs:=Hs.rec (fun n t=>.mk (Nat.add n 1) (t.set (Nat.succ n) n o)) h
inductive R (α:Type) where | ok (a:α) (h:Hs) | ex (C:Nat) (fs:Fs) (h:Hs) | no
def R.bind {α β:Type} (r:R α) (f:α->Hs->R β):R β:=R.rec (fun a h=>f a h) (fun C fs h=>.ex C fs h) .no r
def R.nox {α:Type} (r:R α):R α:=R.rec (fun a h=>.ok a h) (fun _ _ _=>.no) .no r
def W.elim {β:Type} (w:W) (z:β) (b:Bool->β) (i:Int->β) (s:List Nat->β) (r:Nat->β):β:=W.rec z b i s r w
def W.onI {β:Type} (w:W) (f:Int->R β):R β:=W.rec .no (fun _=>.no) f (fun _=>.no) (fun _=>.no) w
def W.onR {β:Type} (w:W) (f:Nat->R β):R β:=W.rec .no (fun _=>.no) (fun _=>.no) (fun _=>.no) f w
def W.onB {β:Type} (w:W) (f t:R β):R β:=W.rec .no (fun b=>Bool.rec f t b) (fun _=>.no) (fun _=>.no) (fun _=>.no) w
def ifB {β:Type} (b:Bool) (t f:β):β:=Bool.rec f t b
def cU (ws:List W) (f:W->R W):R W:=List.rec .no (fun a r _=>List.rec (f a) (fun _ _ _=>.no) r) ws
def cF (ws:List W) (f:W->W->R W):R W:=List.rec .no (fun a r _=>List.rec .no (fun b r _=>List.rec (f a b) (fun _ _ _=>.no) r) r) ws
def iw (ws:List W) (f:Int->Int->R W):R W:=cF ws fun a b=>a.onI fun i=>b.onI fun j=>f i j
abbrev Sg:=List (Option W)
inductive Fl where | nx (τ:Sg) | rt (w:W) | bk (τ:Sg) | ct (τ:Sg)
def app {α:Type} (xs ys:List α):List α:=List.rec ys (fun x _ r=>x::r) xs
def len {α:Type} (xs:List α):Nat:=List.rec 0 (fun _ _ r=>Nat.add r 1) xs
def nth {α:Type} (xs:List α):Nat->Option α:=List.rec (fun _=>none) (fun x _ ih k=>Nat.rec (some x) (fun k _=>ih k) k) xs
def drp {α:Type} (xs:List α):Nat->List α:=List.rec (fun _=>[]) (fun x r ih k=>Nat.rec (x::r) (fun k _=>ih k) k) xs
def tak {α:Type} (xs:List α):Nat->List α:=List.rec (fun _=>[]) (fun x _ ih k=>Nat.rec [] (fun k _=>x::ih k) k) xs
def setAt {α:Type} (τ:List α) (w:α):Nat->List α:=List.rec (fun _=>[]) (fun x r ih k=>Nat.rec (w::r) (fun k _=>x::ih k) k) τ
def aH (τ:Sg):Nat->Option W:=List.rec (fun _=>none) (fun x _ ih k=>Nat.rec x (fun k _=>ih k) k) τ
def codes (x:List Nat):List Nat->Bool:=List.rec (fun y=>List.rec true (fun _ _ _=>false) y) (fun a _ ih y=>List.rec false (fun b r _=>ifB (Nat.beq a b) (ih r) false) y) x
def ieq (i j:Int):Bool:=Int.rec (fun a=>Int.rec (fun b=>Nat.beq a b) (fun _=>false) j) (fun a=>Int.rec (fun _=>false) (fun b=>Nat.beq a b) j) i
def ilt (i j:Int):Bool:=Int.rec (fun a=>Int.rec (fun b=>Nat.ble (Nat.add a 1) b) (fun _=>false) j) (fun a=>Int.rec (fun _=>true) (fun b=>Nat.ble (Nat.add b 1) a) j) i
def Opt {α β:Type} (o:Option α) (f:α->R β):R β:=Option.rec .no f o
def O.items {β:Type} (o:O) (f:List W->R β):R β:=O.rec f f (fun _ _=>.no) (fun _=>.no) (fun _=>.no) o
def O.onL {β:Type} (o:O) (f:List W->R β):R β:=O.rec (fun _=>.no) f (fun _ _=>.no) (fun _=>.no) (fun _=>.no) o
def O.onT {β:Type} (o:O) (f:List W->R β):R β:=O.rec f (fun _=>.no) (fun _ _=>.no) (fun _=>.no) (fun _=>.no) o
def O.onS {β:Type} (o:O) (f:List W->R β):R β:=O.rec (fun _=>.no) f (fun _ _=>.no) (fun _=>.no) (fun _=>.no) o
def O.onI {β:Type} (o:O) (f:Nat->Fs->R β):R β:=O.rec (fun _=>.no) (fun _=>.no) f (fun _=>.no) (fun _=>.no) o
def Hs.at {β:Type} (h:Hs) (w:W) (f:Nat->O->R β):R β:=w.onR fun n=>Opt (h.get n) (f n)
def R.alloc (h:Hs) (o:O):R W:=.ok (.ref h.n) (h.push o)
def R.yes (b:Bool) (h:Hs):R W:=.ok (.bl b) h
inductive D where | non | bl (b:Bool) | int (i:Int) | str (c:List Nat) | lst (xs:List D) | tup (xs:List D)
def okC (c:List Nat):Bool:=List.rec true (fun x _ r=>ifB (Nat.ble (x + 1) 1114112) r false) c
def cA (f:W->Option D) (xs:List W):Option (List D):=List.rec (some []) (fun x _ r=>Option.rec none (fun d=>Option.rec none (fun ds=>some (d::ds)) r) (f x)) xs
def toD (h:Hs) (n:Nat):W->Option D:=Nat.rec (fun _=>none) (fun _ ih w=>W.elim w (some .non) (fun b=>some (.bl b)) (fun i=>some (.int i)) (fun c=>ifB (okC c) (some (.str c)) none) fun k=>
 Option.rec none (fun o=>O.rec (fun xs=>Option.rec none (fun ds=>some (.tup ds)) (cA ih xs)) (fun xs=>Option.rec none (fun ds=>some (.lst ds)) (cA ih xs)) (fun _ _=>none) (fun _=>none) (fun _=>none) o) (h.get k)) n
def D.bools (b:Bool) (d:D):Bool:=D.casesOn d false (fun c=>Bool.rec (!c) c b) (fun _=>false) (fun _=>false) (fun _=>false) (fun _=>false)
mutual
def bU:D->D->Bool
 | .non,.non=>true
 | .bl a,.bl b=>a == b
 | .int i,.int j=>ieq i j
 | .str x,.str y=>codes x y
 | .lst xs,.lst ys=>fQ xs ys
 | .tup xs,.tup ys=>fQ xs ys
 | .bl a,.int j=>ieq (if a then 1 else 0) j
 | .int i,.bl b=>ieq i (if b then 1 else 0)
 | _,_=>false
def fQ:List D->List D->Bool
 | [],[]=>true
 | x::xs,y::ys=>bU x y && fQ xs ys
 | _,_=>false
end
mutual
def bH:D->D->Bool
 | .non,.non=>true
 | .bl a,.bl b=>a == b
 | .int i,.int j=>ieq i j
 | .str x,.str y=>codes x y
 | .lst xs,.lst ys=>cY xs ys
 | .tup xs,.tup ys=>cY xs ys
 | _,_=>false
def cY:List D->List D->Bool
 | [],[]=>true
 | x::xs,y::ys=>bH x y && cY xs ys
 | _,_=>false
end
def j_ (i j:Int):Int:=Int.rec (fun a=>Int.rec (fun b=>.ofNat (Nat.add a b)) (fun b=>Int.subNatNat a (Nat.add b 1)) j) (fun a=>Int.rec (fun b=>Int.subNatNat b (Nat.add a 1)) (fun b=>.negSucc (Nat.add (Nat.add a b) 1)) j) i
def qm (i j:Int):Int:=Int.rec (fun a=>Int.rec (fun b=>Bool.rec (.negSucc (Nat.sub (Nat.sub b a) 1)) (.ofNat (Nat.sub a b)) (Nat.ble b a)) (fun b=>.ofNat (Nat.add (Nat.add a b) 1)) j) (fun a=>Int.rec (fun b=>.negSucc (Nat.add a b)) (fun b=>i - .negSucc b) j) i
def fmod (i j:Int):Int:=Int.rec (fun a=>Int.rec (fun b=>.ofNat (Nat.mod a b)) (fun b=>i % .negSucc b) j) (fun a=>Int.rec (fun b=>.negSucc a % .ofNat b) (fun b=>.negSucc a % .negSucc b) j) i
structure Pr where
 f:List W->Hs->R W
def Sml (i:Int):Bool:=Int.rec (fun a=>Nat.ble (a + 1) (2 ^ 4000)) (fun a=>Nat.ble (a + 2) (2 ^ 4000)) i
def size (xs:List W) (k:R W):R W:=ifB (Nat.ble (len xs) 16777215) k .no
def zu (h:Hs) (a b:W):R W:=h.at a fun _ x=>h.at b fun _ y=>O.casesOn x (fun _=>.no) (fun xs=>y.onL fun ys=>size (app xs ys) (.alloc h (.lst (app xs ys)))) (fun _ _=>.no) (fun _=>.no) (fun _=>.no)
def zA (h:Hs) (a b:W):R W:=W.elim a .no (fun _=>.no) (fun i=>b.onI fun j=>.ok (.int (j_ i j)) h) (fun _=>.no) (fun _=>zu h a b)
def zB (h:Hs) (i j:Int):R W:=.ok (.int (qm i j)) h
def uO (xs:List W) (k:Nat):List W:=Nat.rec [] (fun _ r=>app xs r) k
def zE (h:Hs) (a:W) (k:Int):R W:=h.at a fun _ x=>x.onL fun xs=>ifB (ilt k 100000) (ifB (ilt (-100000) k) (ifB (Nat.ble (len xs) 100) (.alloc h (.lst (uO xs k.toNat))) .no) .no) .no
def zF (h:Hs) (a b:W):R W:=b.onI fun j=>W.elim a .no (fun _=>.no) (fun i=>ifB (Sml i) (ifB (Sml j) (.ok (.int (i * j)) h) .no) .no) (fun _=>.no) (fun _=>zE h a j)
def DG (h:Hs) (i j:Int):R W:=ifB (ilt 0 j) (.ok (.int (fmod i j)) h) .no
def Cd (h:Hs) (i j:Int):R W:=ifB (ilt 0 j) (ifB (Sml j) (.ok (.int (i.fdiv j)) h) .no) .no
def zG (h:Hs) (i j:Int):R W:=ifB (ilt i 1000) (ifB (ilt 0 i) (ifB (ilt 0 j) (ifB (ilt j 1000) (.ok (.int (i ^ j.toNat)) h) .no) .no) .no) .no
def DN (h:Hs) (a:W):R W:=a.onI fun i=>.ok (.int (-i)) h
def DP (h:Hs) (a:W):R W:=a.onI fun i=>.ok (.int (Int.ofNat i.natAbs)) h
def DQ (h:Hs) (i j:Int):R W:=.ok (.int (ifB (ilt j i) j i)) h
def DR (h:Hs) (i j:Int):R W:=.ok (.int (ifB (ilt i j) j i)) h
def m7 (n:Nat) (i:Int):Nat:=Int.rec (fun k=>k) (fun k=>ifB (Nat.ble (k + 1) n) (n - (k + 1)) n) i
def pIx (h:Hs) (a b:W):R W:=h.at a fun _ o=>o.items fun xs=>b.onI fun i=>Opt (nth xs (m7 (len xs) i)) fun w=>.ok w h
def DW (h:Hs) (a:W):R W:=h.at a fun _ o=>o.items fun xs=>.ok (.int (.ofNat (len xs))) h
def wD (h:Hs) (w:W) (f:D->R W):R W:=Opt (toD h 12 w) f
def pEq (f:Bool->Bool) (h:Hs) (a b:W):R W:=wD h a fun x=>wD h b fun y=>.yes (f (bU x y)) h
def vK (h:Hs) (a b:W):R W:=wD h a fun x=>wD h b fun y=>.yes (bH x y) h
def uP (xs:List W):Bool:=List.rec false (fun _ _ _=>true) xs
def rZ (h:Hs) (a:W):R W:=W.elim a (.yes false h) (fun b=>.yes b h) (fun i=>.yes (!ieq i 0) h) (fun _=>.no) (fun _=>h.at a fun _ o=>o.items fun xs=>.yes (uP xs) h)
def gk (h:Hs) (a b:W):R W:=h.at a fun n o=>o.onL fun xs=>size xs (.ok .non (h.set n (.lst (app xs [b]))))
def init (xs:List W):List W:=List.rec [] (fun x r ih=>List.rec [] (fun _ _ _=>x::ih) r) xs
def zH (h:Hs) (a:W):R W:=h.at a fun n o=>o.onL fun _=>.ok .non (h.set n (.lst []))
def Ce (h:Hs) (a:W):R W:=h.at a fun _ o=>o.items fun xs=>.alloc h (.lst xs)
def eqF (a b:W):Option Bool:=W.elim a
 (W.elim b (some true) (fun _=>some false) (fun _=>some false) (fun _=>some false) (fun _=>none)) (fun _=>none)
 (fun i=>W.elim b (some false) (fun _=>none) (fun j=>some (ieq i j)) (fun _=>some false) (fun _=>none))
 (fun x=>W.elim b (some false) (fun _=>none) (fun _=>some false) (fun y=>some (codes x y)) (fun _=>none)) (fun _=>none)
def DX (a:W) (xs:List W):Option Bool:=List.rec (some false) (fun x _ ih=>Option.rec none (fun b=>Option.rec none (fun r=>some (ifB b true r)) ih) (eqF x a)) xs
def pIn (f:Bool->Bool) (h:Hs) (a b:W):R W:=h.at b fun _ o=>o.items fun xs=>Opt (eqF a a) fun _=>Opt (DX a xs) fun c=>.yes (f c) h
def bools (xs:List W):Option (List Bool):=List.rec (some []) (fun x _ ih=>W.elim x none (fun b=>Option.rec none (fun r=>some (b::r)) ih) (fun _=>none) (fun _=>none) (fun _=>none)) xs
def allB (xs:List Bool):Bool:=List.rec true (fun b _ r=>ifB b r false) xs
def anyB (xs:List Bool):Bool:=List.rec false (fun b _ r=>ifB b true r) xs
def zJ (f:List Bool->Bool) (h:Hs) (a:W):R W:=h.at a fun _ o=>o.onL fun xs=>Opt (bools xs) fun bs=>.yes (f bs) h
def DY (xs:List W):List W->Option Bool:=List.rec (fun ys=>some (List.rec false (fun _ _ _=>true) ys)) (fun x _ ih ys=>List.rec (some false) (fun y r _=>W.elim x none (fun _=>none) (fun i=>W.elim y none (fun _=>none) (fun j=>ifB (ieq i j) (ih r) (some (ilt i j))) (fun _=>none) (fun _=>none)) (fun _=>none) (fun _=>none)) ys) xs
def vL (xs:List W):Bool:=List.rec true (fun x _ r=>W.elim x false (fun _=>false) (fun _=>r) (fun _=>false) (fun _=>false)) xs
def pLt (h:Hs) (a b:W):R W:=W.elim a .no (fun _=>.no) (fun i=>b.onI fun j=>.yes (ilt i j) h) (fun _=>.no) (fun _=>h.at a fun _ x=>h.at b fun _ y=>x.onT fun xs=>y.onT fun ys=>ifB (vL xs) (ifB (vL ys) (Opt (DY xs ys) fun c=>.yes c h) .no) .no)
def D_ (i:Int) (xs:List Int):Bool:=List.rec false (fun x _ r=>ifB (ieq x i) true r) xs
def Cg (xs:List W):Option (List Int):=List.rec (some []) (fun x _ ih=>W.elim x none (fun _=>none) (fun i=>Option.rec none (fun r=>some (i::r)) ih) (fun _=>none) (fun _=>none)) xs
def dd (l:List Int):List Int->List Int:=List.rec (fun acc=>acc) (fun x _ ih acc=>ih (ifB (D_ x acc) acc (app acc [x]))) l
def Pr.add:Pr:=⟨fun ws h=>cF ws (zA h)⟩
def Pr.sub:Pr:=⟨fun ws h=>iw ws (zB h)⟩
def Pr.mul:Pr:=⟨fun ws h=>cF ws (zF h)⟩
def Pr.fdiv:Pr:=⟨fun ws h=>iw ws (Cd h)⟩
def Pr.mod:Pr:=⟨fun ws h=>iw ws (DG h)⟩
def Pr.pow:Pr:=⟨fun ws h=>iw ws (zG h)⟩
def Pr.neg:Pr:=⟨fun ws h=>cU ws (DN h)⟩
def Pr.abs:Pr:=⟨fun ws h=>cU ws (DP h)⟩
def Pr.min:Pr:=⟨fun ws h=>iw ws (DQ h)⟩
def Pr.max:Pr:=⟨fun ws h=>iw ws (DR h)⟩
def Pr.lt:Pr:=⟨fun ws h=>cF ws (pLt h)⟩
def Pr.le:Pr:=⟨fun ws h=>iw ws fun i j=>.yes (!ilt j i) h⟩
def Pr.gt:Pr:=⟨fun ws h=>iw ws fun i j=>.yes (ilt j i) h⟩
def Pr.eq:Pr:=⟨fun ws h=>cF ws (pEq id h)⟩
def Pr.ne:Pr:=⟨fun ws h=>cF ws (pEq not h)⟩
def Pr.ix:Pr:=⟨fun ws h=>cF ws (pIx h)⟩
def Pr.len:Pr:=⟨fun ws h=>cU ws (DW h)⟩
def Pr.tup:Pr:=⟨fun ws h=>size ws (.alloc h (.tup ws))⟩
def Pr.lst:Pr:=⟨fun ws h=>size ws (.alloc h (.lst ws))⟩
def Pr.kh:Pr:=⟨fun ws h=>cU ws fun a=>a.onB (.yes true h) (.yes false h)⟩
def Pr.truth:Pr:=⟨fun ws h=>cU ws (rZ h)⟩
def Pr.append:Pr:=⟨fun ws h=>cF ws (gk h)⟩
def Pr.clear:Pr:=⟨fun ws h=>cU ws (zH h)⟩
def Pr.list:Pr:=⟨fun ws h=>cU ws (Ce h)⟩
def Pr.Ci:Pr:=⟨fun ws h=>cF ws (pIn not h)⟩
def Pr.all:Pr:=⟨fun ws h=>cU ws (zJ allB h)⟩
def Pr.any:Pr:=⟨fun ws h=>cU ws (zJ anyB h)⟩
def Pr.same:Pr:=⟨fun ws h=>cF ws (vK h)⟩
def cV (p:Pr) (ws:List W) (h:Hs):R W:=p.f ws h
inductive Tg where | nm (i:Nat) | tup (ts:List Tg)
inductive Iv where | lst (n:Nat) | tup (n:Nat) | rng (lo:Int) (n:Nat) | zip (n m:Nat) | dwn (lo:Int) (n:Nat)
inductive A where | w (w:W) | ws (l:List W) | iv (v:Iv) | fl (f:Fl) | u
def A.toW {β:Type} (a:A) (f:W->R β):R β:=A.rec f (fun _=>.no) (fun _=>.no) (fun _=>.no) .no a
def A.toL {β:Type} (a:A) (f:List W->R β):R β:=A.rec (fun _=>.no) f (fun _=>.no) (fun _=>.no) .no a
def A.toV {β:Type} (a:A) (f:Iv->R β):R β:=A.rec (fun _=>.no) (fun _=>.no) f (fun _=>.no) .no a
def A.toF {β:Type} (a:A) (f:Fl->R β):R β:=A.rec (fun _=>.no) (fun _=>.no) (fun _=>.no) f .no a
abbrev Ks:=List (Nat->Nat->List W->Hs->R A)
abbrev Dn:=Ks->Nat->Sg->Hs->R A
structure X where
 f:Dn
structure I where
 f:Dn
structure S where
 f:Dn
inductive G where | mk (i:I) (t:Tg) (c:Option X)
inductive Fn where | mk (np n:Nat) (body:List S) | non
def ofW (r:R W):R A:=R.rec (fun w h=>.ok (.w w) h) (fun C f h=>.ex C f h) .no r
def goA (es:List X):Dn:=List.rec (fun _ _ _ h=>.ok (.ws []) h) (fun e _ ih K n τ h=>R.rec (motive:=fun _=>R A) (fun r h=>A.rec (motive:=fun _=>R A) (fun w=>R.rec (motive:=fun _=>R A) (fun r h=>A.rec (motive:=fun _=>R A) (fun _=>.no) (fun ws=>.ok (.ws (w::ws)) h) (fun _=>.no) (fun _=>.no) .no r) (fun C fs h=>.ex C fs h) .no (ih K n τ h)) (fun _=>.no) (fun _=>.no) (fun _=>.no) .no r) (fun C fs h=>.ex C fs h) .no (e.f K n τ h)) es
def cB (ss:List S):Dn:=List.rec (fun _ _ τ h=>.ok (.fl (.nx τ)) h) (fun s _ ih K n τ h=>R.rec (motive:=fun _=>R A) (fun r h=>A.rec (motive:=fun _=>R A) (fun _=>.no) (fun _=>.no) (fun _=>.no) (fun f=>Fl.rec (motive:=fun _=>R A) (fun τ=>ih K n τ h) (fun w=>.ok (.fl (.rt w)) h) (fun τ=>.ok (.fl (.bk τ)) h) (fun τ=>.ok (.fl (.ct τ)) h) f) .no r) (fun C fs h=>.ex C fs h) .no (s.f K n τ h)) ss
def bindL (f:Tg->W->Sg->Option Sg) (ts:List Tg):List W->Sg->Option Sg:=List.rec (fun ws τ=>List.rec (some τ) (fun _ _ _=>none) ws) (fun t _ ih ws τ=>List.rec none (fun w r _=>Option.rec none (fun τ=>ih r τ) (f t w τ)) ws) ts
def aQ (h:Hs) (n:Nat):Tg->W->Sg->Option Sg:=Nat.rec (fun _ _ _=>none) (fun _ ih t w τ=>Tg.casesOn t (fun i=>some (setAt τ (some w) i)) fun ts=>
 W.elim w none (fun _=>none) (fun _=>none) (fun _=>none) fun k=>Option.rec none (fun o=>O.rec (fun xs=>bindL ih ts xs τ) (fun _=>none) (fun _ _=>none) (fun _=>none) (fun _=>none) o) (h.get k)) n
def Iv.next {β:Type} (v:Iv) (i:Nat) (h:Hs) (fin:R β) (go:W->Hs->R β):R β:=
 Iv.rec (fun n=>Opt (h.get n) fun o=>o.onS fun xs=>Option.rec fin (fun w=>go w h) (nth xs i)) (fun n=>Opt (h.get n) fun o=>o.onT fun xs=>Option.rec fin (fun w=>go w h) (nth xs i)) (fun lo n=>Bool.rec fin (go (.int (lo + .ofNat i)) h) (Nat.ble (Nat.add i 1) n))
  (fun n m=>Opt (h.get n) fun o=>o.onS fun xs=>Opt (h.get m) fun o=>o.onS fun ys=>Option.rec fin (fun x=>Option.rec fin (fun y=>go (.ref h.n) (h.push (.tup [x,y]))) (nth ys i)) (nth xs i))
  (fun lo n=>Bool.rec fin (go (.int (lo - .ofNat i)) h) (Nat.ble (Nat.add i 1) n)) v
def iy (nt:Nat) (idx:List Nat) (τ:Sg):Sg:=Nat.rec (List.rec [] (fun i _ r=>aH τ i::r) idx) (fun _ r=>none::r) nt
def Ea (n:Nat) (i:Int):Nat:=Int.rec (fun k=>ifB (Nat.ble k n) k n) (fun k=>n - (k + 1)) i
def jr (K:Ks) (n:Nat) (e:Option X) (τ:Sg) (h:Hs) (k:Option Int->Hs->R A):R A:=
 Option.rec (k none h) (fun e=>(e.f K n τ h).bind fun a h=>a.toW fun w=>w.onI fun i=>k (some i) h) e
def sIx (n d:Nat) (o:Option Int):Nat:=Option.rec d (Ea n) o
def frame (n:Nat) (ws:List W):Sg:=app (List.rec [] (fun w _ r=>some w::r) ws) (Nat.rec [] (fun _ r=>none::r) (n - len ws))
def jG (h:Hs) (f:Fl):R A:=Fl.rec (fun _=>.ok (.w .non) h) (fun w=>.ok (.w w) h) (fun _=>.no) (fun _=>.no) f
def vM (K:Ks) (n:Nat) (h:Hs) (ws:List W) (F:Fn):R A:=Fn.rec (fun np k b=>ifB (Nat.beq (len ws) np) ((cB b K n (frame k ws) h).bind fun r h=>r.toF fun f=>jG h f) .no) .no F
def aZ (Pg:List Fn) (d:Nat):Ks:=Nat.rec [] (fun _ K=>(fun n f ws h=>Opt (nth Pg f) (vM K n h ws))::K) d
def jH (f:Nat) (ws:List W) (K:Ks) (n:Nat) (h:Hs):R A:=Nat.rec .no (fun n _=>List.rec .no (fun c _ _=>c n f ws h) K) n
def i_ (h:Hs) (f:Fl) (go:Sg->R A):R A:=Fl.rec go (fun w=>.ok (.fl (.rt w)) h) (fun τ=>.ok (.fl (.nx τ)) h) go f
def iz (v:Iv) (t:Tg) (b:List S) (K:Ks) (n:Nat):Nat->Sg->Hs->R A:=Nat.rec (fun _ _ _=>.no) (fun n ih i τ h=>v.next i h (.ok (.fl (.nx τ)) h) fun w h=>Opt (aQ h 9 t w τ) fun τ=>(cB b K n τ h).bind fun r h=>r.toF fun f=>i_ h f fun τ=>ih (Nat.add i 1) τ h) n
def Eb (c:X) (b:List S) (K:Ks) (n:Nat):Sg->Hs->R A:=Nat.rec (fun _ _=>.no) (fun n ih τ h=>(c.f K n τ h).bind fun r h=>r.toW fun w=>w.onB (.ok (.fl (.nx τ)) h) ((cB b K n τ h).bind fun r h=>r.toF fun f=>i_ h f fun τ=>ih τ h)) n
def test (K:Ks) (m:Nat) (τ:Sg) (h:Hs) (c:Option X) (n k:Hs->R A):R A:=Option.rec (k h) (fun c=>(c.f K m τ h).bind fun r h=>r.toW fun w=>w.onB (n h) (k h)) c
def emit (h:Hs) (D:Nat) (w:W) (k:Hs->R A):R A:=(gk h (.ref D) w).bind fun _ h=>k h
def Ec (v:Iv) (t:Tg) (c:Option X) (e:X) (D:Nat) (K:Ks) (n:Nat):Nat->Sg->Hs->R A:=Nat.rec (fun _ _ _=>.no) (fun n ih i τ h=>v.next i h (.ok .u h) fun w h=>Opt (aQ h 9 t w τ) fun τ1=>
 test K n τ1 h c (fun h=>ih (Nat.add i 1) τ h) (fun h=>(e.f K n τ1 h).bind fun r h=>r.toW fun w=>emit h D w fun h=>ih (Nat.add i 1) τ h)) n
def inner (K:Ks) (n:Nat) (τ:Sg) (h:Hs) (e:X) (D:Nat) (m:Option G) (k:Hs->R A):R A:=
 Option.rec ((e.f K n τ h).bind fun r h=>r.toW fun w=>emit h D w k) (fun g=>G.rec (fun i t c=>(i.f K n τ h).bind fun r h=>r.toV fun v=>(Ec v t c e D K n 0 τ h).bind fun _ h=>k h) g) m
def cW (v:Iv) (t:Tg) (c:Option X) (m:Option G) (e:X) (D:Nat) (K:Ks) (n:Nat):Nat->Sg->Hs->R A:=Nat.rec (fun _ _ _=>.no) (fun n ih i τ h=>v.next i h (.ok .u h) fun w h=>Opt (aQ h 9 t w τ) fun τ1=>
 test K n τ1 h c (fun h=>ih (Nat.add i 1) τ h) (fun h=>inner K n τ1 h e D m fun h=>ih (Nat.add i 1) τ h)) n
def X.var (i:Nat):X:=⟨fun _ _ τ h=>Option.rec (motive:=fun _=>R A) .no (fun w=>.ok (.w w) h) (aH τ i)⟩
def X.cst (w:W):X:=⟨fun _ _ _ h=>.ok (.w w) h⟩
def X.pr (p:Pr) (as:List X):X:=⟨fun K n τ h=>R.rec (motive:=fun _=>R A) (fun r h=>A.rec (motive:=fun _=>R A) (fun _=>.no) (fun ws=>R.rec (motive:=fun _=>R A) (fun w h=>.ok (.w w) h) (fun C f h=>.ex C f h) .no (p.f ws h)) (fun _=>.no) (fun _=>.no) .no r) (fun C fs h=>.ex C fs h) .no (goA as K n τ h)⟩
def X.or (a b:X):X:=⟨fun K n τ h=>R.rec (motive:=fun _=>R A) (fun r h=>A.rec (motive:=fun _=>R A) (fun w=>W.rec (motive:=fun _=>R A) .no (fun bb=>Bool.rec (motive:=fun _=>R A) (b.f K n τ h) (.ok (.w (.bl true)) h) bb) (fun _=>.no) (fun _=>.no) (fun _=>.no) w) (fun _=>.no) (fun _=>.no) (fun _=>.no) .no r) (fun C fs h=>.ex C fs h) .no (a.f K n τ h)⟩
def X.chain (p q:Pr) (a b c:X):X:=⟨fun K n τ h=>(a.f K n τ h).bind fun r h=>r.toW fun u=>(b.f K n τ h).bind fun r h=>r.toW fun v=>(ofW (cV p [u,v] h)).bind fun r h=>r.toW fun k=>
 k.onB (.ok (.w (.bl false)) h) ((c.f K n τ h).bind fun r h=>r.toW fun w=>ofW (cV q [v,w] h))⟩
def X.slice (a:X) (lo hi:Option X):X:=⟨fun K n τ h=>(a.f K n τ h).bind fun r h=>r.toW fun w=>jr K n lo τ h fun l h=>jr K n hi τ h fun u h=>h.at w fun _ o=>
 O.rec (fun xs=>ifB (ifB (Nat.beq (sIx (len xs) 0 l) 0) (Nat.beq (sIx (len xs) (len xs) u) (len xs)) false) .no (ofW (.alloc h (.tup (tak (drp xs (sIx (len xs) 0 l)) (sIx (len xs) (len xs) u - sIx (len xs) 0 l)))))) (fun xs=>ofW (.alloc h (.lst (tak (drp xs (sIx (len xs) 0 l)) (sIx (len xs) (len xs) u - sIx (len xs) 0 l))))) (fun _ _=>.no) (fun _=>.no) (fun _=>.no) o⟩
def X.call (f:Nat) (as:List X):X:=⟨fun K n τ h=>(goA as K n τ h).bind fun a h=>a.toL fun ws=>jH f ws K n h⟩
def X.comp (nt:Nat) (idx:List Nat) (it:I) (t:Tg) (c:Option X) (m:Option G) (e:X):X:=⟨fun K n τ h=>(it.f K n τ h).bind fun r h=>r.toV fun v=>
 (cW v t c m e h.n K n 0 (iy nt idx τ) (h.push (.lst []))).nox.bind fun _ h'=>.ok (.w (.ref h.n)) h'⟩
def X.lm (p:Pr) (a:X) (as:List X):X:=⟨fun K n τ h=>(a.f K n τ h).bind fun r h=>r.toW fun w=>h.at w fun _ o=>o.onL fun _=>(goA as K n τ h).bind fun r h=>r.toL fun ws=>ofW (cV p (w::ws) h)⟩
def I.seq (e:X):I:=⟨fun K n τ h=>(e.f K n τ h).bind fun r h=>r.toW fun w=>h.at w fun n o=>O.casesOn o (fun _=>.ok (.iv (.tup n)) h) (fun _=>.ok (.iv (.lst n)) h) (fun _ _=>.no) (fun _=>.no) (fun _=>.no)⟩
def within (i:Int) (k:R A):R A:=ifB (ilt i 1000000000) (ifB (ilt (-1000000000) i) k .no) .no
def qp (ws:List W) (f:W->R A):R A:=List.rec .no (fun a r _=>List.rec (f a) (fun _ _ _=>.no) r) ws
def zK (ws:List W) (f:W->W->R A):R A:=List.rec .no (fun a r _=>List.rec .no (fun b r _=>List.rec (f a b) (fun _ _ _=>.no) r) r) ws
def I.qt (as:List X):I:=⟨fun K n τ h=>(goA as K n τ h).bind fun r h=>r.toL fun ws=>qp ws fun w=>w.onI fun j=>within j (.ok (.iv (.rng 0 j.toNat)) h)⟩
def I.zip (as:List X):I:=⟨fun K n τ h=>(goA as K n τ h).bind fun r h=>r.toL fun ws=>zK ws fun v w=>h.at v fun n o=>o.onL fun _=>h.at w fun m o=>o.onL fun _=>.ok (.iv (.zip n m)) h⟩
def S.asg (t:Tg) (e:X):S:=⟨fun K n τ h=>(e.f K n τ h).bind fun r h=>r.toW fun w=>Opt (aQ h 9 t w τ) fun τ=>.ok (.fl (.nx τ)) h⟩
def S.expr (e:X):S:=⟨fun K n τ h=>(e.f K n τ h).bind fun r h=>r.toW fun _=>.ok (.fl (.nx τ)) h⟩
def S.ret (e:X):S:=⟨fun K n τ h=>(e.f K n τ h).bind fun r h=>r.toW fun w=>.ok (.fl (.rt w)) h⟩
def S.ife (c:X) (a b:List S):S:=⟨fun K n τ h=>(c.f K n τ h).bind fun r h=>r.toW fun w=>w.onB (cB b K n τ h) (cB a K n τ h)⟩
def S.for_ (i:I) (t:Tg) (b:List S):S:=⟨fun K n τ h=>(i.f K n τ h).bind fun r h=>r.toV fun v=>iz v t b K n 0 τ h⟩
def S.bk:S:=⟨fun _ _ τ h=>.ok (.fl (.bk τ)) h⟩
def S.ct:S:=⟨fun _ _ τ h=>.ok (.fl (.ct τ)) h⟩
def S.par (i j:Nat) (a b:X):S:=⟨fun K n τ h=>(goA [a,b] K n τ h).bind fun r h=>r.toL fun ws=>zK ws fun u w=>.ok (.fl (.nx (setAt (setAt τ (some u) i) (some w) j))) h⟩
inductive Q where
 | x (e:X) | a (es:List X) | i (e:I) | s (s:S) | ss (l:List S)
 | lp (v:Iv) (i:Nat) (t:Tg) (b:List S) | wh (c:X) (b:List S)
 | cl (v:Iv) (i:Nat) (t:Tg) (c:Option X) (m:Option G) (e:X) (D:Nat)
 | call (f:Nat) (ws:List W)
abbrev E:=Nat->Q->Sg->Hs->R A
def evs (Pg:List Fn) (n:Nat):E:=fun d q τ h=>Q.rec (fun e=>e.f (aZ Pg d) n τ h) (fun es=>goA es (aZ Pg d) n τ h) (fun e=>e.f (aZ Pg d) n τ h) (fun s=>s.f (aZ Pg d) n τ h) (fun l=>cB l (aZ Pg d) n τ h)
 (fun v i t b=>iz v t b (aZ Pg d) n i τ h) (fun c b=>Eb c b (aZ Pg d) n τ h) (fun v i t c m e D=>cW v t c m e D (aZ Pg d) n i τ h) (fun f ws=>jH f ws (aZ Pg d) n h) q
def body (V:E) (d:Nat) (h:Hs) (ws:List W) (F:Fn):R A:=Fn.rec (fun np n b=>ifB (Nat.beq (len ws) np) ((V d (.ss b) (frame n ws) h).bind fun r h=>r.toF fun f=>jG h f) .no) .no F
end
end Ev
namespace Ev
theorem cG {α:Type} (xs ys:List α):app xs ys=xs ++ ys:=by
 induction xs with
 | nil=>rfl
 | cons x xs ih=>exact congrArg (x::·) ih
theorem len_eq {α:Type} (xs:List α):len xs=xs.length:=by
 induction xs with
 | nil=>rfl
 | cons x xs ih=>exact congrArg (· + 1) ih
theorem cH {α:Type} (xs:List α) (i:Nat):nth xs i=xs[i]?:=by
 induction xs generalizing i with
 | nil=>rfl
 | cons x xs ih=>cases i with
   | zero=>rfl
   | succ i=>exact ih i
theorem m8 {α:Type} (xs:List α) (i:Nat):drp xs i=xs.drop i:=by
 induction xs generalizing i with
 | nil=>cases i <;> rfl
 | cons x xs ih=>cases i with
   | zero=>rfl
   | succ i=>exact ih i
theorem m9 {α:Type} (xs:List α) (i:Nat):tak xs i=xs.take i:=by
 induction xs generalizing i with
 | nil=>cases i <;> rfl
 | cons x xs ih=>cases i with
   | zero=>rfl
   | succ i=>exact congrArg (x::·) (ih i)
theorem dR {α:Type} (xs:List α) (w:α) (i:Nat):setAt xs w i=xs.set i w:=by
 induction xs generalizing i with
 | nil=>cases i <;> rfl
 | cons x xs ih=>cases i with
   | zero=>rfl
   | succ i=>exact congrArg (x::·) (ih i)
theorem dU (xs:Sg) (i:Nat):aH xs i=(xs[i]?).getD none:=by
 induction xs generalizing i with
 | nil=>cases i <;> rfl
 | cons x xs ih=>cases i with
   | zero=>rfl
   | succ i=>exact ih i
theorem cC {a b:Nat}:Nat.beq a b=true ↔ a=b:=⟨Nat.eq_of_beq_eq_true,fun h=>by subst h;exact Nat.beq_refl a⟩
theorem eO {a b:Nat}:Nat.beq a b=false ↔ a ≠ b:=by
 rw [<- Bool.not_eq_true,cC]
theorem ble_eq (a b:Nat):Nat.ble a b=decide (a <= b):=by
 cases h:Nat.ble a b with
 | true=>exact (decide_eq_true (Nat.le_of_ble_eq_true h)).symm
 | false=>exact (decide_eq_false fun z=>by rw [Nat.ble_eq_true_of_le z] at h;cases h).symm
theorem jb {x y:List Nat}:codes x y=true ↔ x=y:=by
 induction x generalizing y with
 | nil=>cases y with
   | nil=>exact ⟨fun _=>rfl,fun _=>rfl⟩
   | cons b r=>exact ⟨fun h=>Bool.noConfusion h,fun h=>nomatch h⟩
 | cons a x ih=>cases y with
   | nil=>exact ⟨fun h=>Bool.noConfusion h,fun h=>nomatch h⟩
   | cons b r=>
     show ifB (Nat.beq a b) (codes x r) false=true ↔ _
     cases e:Nat.beq a b with
     | true=>rw [cC.mp e];exact ih.trans ⟨fun h=>by rw [h],fun h=>(List.cons.inj h).2⟩
     | false=>exact ⟨fun h=>Bool.noConfusion h,fun h=>absurd (List.cons.inj h).1 (eO.mp e)⟩
theorem jJ (i j:Int):ieq i j=decide (i=j):=by
 cases i with
 | ofNat a=>cases j with
   | ofNat b=>
     show Nat.beq a b=_
     cases e:Nat.beq a b with
     | true=>rw [cC.mp e];exact (decide_eq_true rfl).symm
     | false=>exact (decide_eq_false fun z=>eO.mp e (Int.ofNat.inj z)).symm
   | negSucc b=>exact (decide_eq_false fun z=>nomatch z).symm
 | negSucc a=>cases j with
   | ofNat b=>exact (decide_eq_false fun z=>nomatch z).symm
   | negSucc b=>
     show Nat.beq a b=_
     cases e:Nat.beq a b with
     | true=>rw [cC.mp e];exact (decide_eq_true rfl).symm
     | false=>exact (decide_eq_false fun z=>eO.mp e (Int.negSucc.inj z)).symm
theorem bZ (i j:Int):ilt i j=decide (i < j):=by
 cases i with
 | ofNat a=>cases j with
   | ofNat b=>
     show Nat.ble (a + 1) b=_
     rw [ble_eq]
     exact decide_eq_decide.mpr ⟨fun h=>by have:(a:Int) < b:=by omega
                                           exact this,fun h=>by have:(a:Int) < b:=h
                                                                omega⟩
   | negSucc b=>exact (decide_eq_false (by intro h;have:(a:Int) < Int.negSucc b:=h;omega)).symm
 | negSucc a=>cases j with
   | ofNat b=>exact (decide_eq_true (by show Int.negSucc a < (b:Int);omega)).symm
   | negSucc b=>
     show Nat.ble (b + 1) a=_
     rw [ble_eq]
     exact decide_eq_decide.mpr ⟨fun h=>by omega,fun h=>by omega⟩
theorem get_set (d:Nat):∀ (t:Tr) (k k':Nat) (o:O),k < d->(t.set d k o).get k'=if k'=k then some o else t.get k':=by
 induction d with
 | zero=>intro t k k' o h;exact absurd h (Nat.not_lt_zero _)
 | succ d ih=>
   intro t k k' o h
   have half:∀ a b:Nat,a % 2=b % 2->(a / 2=b / 2 ↔ a + 1=b + 1):=fun a b e=>by omega
   cases t with
   | lf=>
     cases k with
     | zero=>cases k' with
       | zero=>rfl
       | succ k'=>
         show ifB (Nat.beq (k' % 2) 0) (Tr.get .lf (k' / 2)) (Tr.get .lf (k' / 2))=_
         rw [if_neg (by omega)]
         cases Nat.beq (k' % 2) 0 <;> rfl
     | succ k=>
       have hk:k / 2 < d:=by omega
       show (ifB (Nat.beq (k % 2) 0) (Tr.nd none (Tr.set d .lf (k / 2) o) .lf) (Tr.nd none .lf (Tr.set d .lf (k / 2) o)):Tr).get k'=_
       cases e:Nat.beq (k % 2) 0 with
       | true=>cases k' with
         | zero=>rfl
         | succ k'=>
           show ifB (Nat.beq (k' % 2) 0) (Tr.get (Tr.set d .lf (k / 2) o) (k' / 2)) (Tr.get .lf (k' / 2))=_
           have e1:=cC.mp e
           cases e':Nat.beq (k' % 2) 0 with
           | true=>
             have e2:=cC.mp e'
             show Tr.get (Tr.set d .lf (k / 2) o) (k' / 2)=_
             rw [ih .lf _ _ _ hk]
             by_cases z:k' / 2=k / 2
             · rw [if_pos z,if_pos (by omega)]
             · rw [if_neg z,if_neg (by omega)];rfl
           | false=>
             have e2:=eO.mp e'
             show none=_
             rw [if_neg (by intro z;apply e2;have:k'=k:=by omega
                            rw [this];exact e1)];rfl
       | false=>cases k' with
         | zero=>rfl
         | succ k'=>
           show ifB (Nat.beq (k' % 2) 0) (Tr.get .lf (k' / 2)) (Tr.get (Tr.set d .lf (k / 2) o) (k' / 2))=_
           have e1:=eO.mp e
           cases e':Nat.beq (k' % 2) 0 with
           | false=>
             have e2:=eO.mp e'
             show Tr.get (Tr.set d .lf (k / 2) o) (k' / 2)=_
             rw [ih .lf _ _ _ hk]
             by_cases z:k' / 2=k / 2
             · rw [if_pos z,if_pos (by omega)]
             · rw [if_neg z,if_neg (by omega)];rfl
           | true=>
             have e2:=cC.mp e'
             show none=_
             rw [if_neg (by intro z;apply e1;have:k'=k:=by omega
                            rw [<- this];exact e2)];rfl
   | nd x l r=>
     cases k with
     | zero=>cases k' with
       | zero=>rfl
       | succ k'=>rw [if_neg (by omega)];rfl
     | succ k=>
       have hk:k / 2 < d:=by omega
       show (ifB (Nat.beq (k % 2) 0) (Tr.nd x (Tr.set d l (k / 2) o) r) (Tr.nd x l (Tr.set d r (k / 2) o)):Tr).get k'=_
       cases e:Nat.beq (k % 2) 0 with
       | true=>cases k' with
         | zero=>rfl
         | succ k'=>
           show ifB (Nat.beq (k' % 2) 0) (Tr.get (Tr.set d l (k / 2) o) (k' / 2)) (Tr.get r (k' / 2))=(if k' + 1=k + 1 then some o else ifB (Nat.beq (k' % 2) 0) (Tr.get l (k' / 2)) (Tr.get r (k' / 2)))
           have e1:=cC.mp e
           cases e':Nat.beq (k' % 2) 0 with
           | true=>
             have e2:=cC.mp e'
             show Tr.get (Tr.set d l (k / 2) o) (k' / 2)=(if k' + 1=k + 1 then some o else Tr.get l (k' / 2))
             rw [ih l _ _ _ hk]
             by_cases z:k' / 2=k / 2
             · rw [if_pos z,if_pos (by omega)]
             · rw [if_neg z,if_neg (by omega)]
           | false=>
             have e2:=eO.mp e'
             show Tr.get r (k' / 2)=(if k' + 1=k + 1 then some o else Tr.get r (k' / 2))
             rw [if_neg (by intro z;apply e2;have:k'=k:=by omega
                            rw [this];exact e1)]
       | false=>cases k' with
         | zero=>rfl
         | succ k'=>
           show ifB (Nat.beq (k' % 2) 0) (Tr.get l (k' / 2)) (Tr.get (Tr.set d r (k / 2) o) (k' / 2))=(if k' + 1=k + 1 then some o else ifB (Nat.beq (k' % 2) 0) (Tr.get l (k' / 2)) (Tr.get r (k' / 2)))
           have e1:=eO.mp e
           cases e':Nat.beq (k' % 2) 0 with
           | false=>
             have e2:=eO.mp e'
             show Tr.get (Tr.set d r (k / 2) o) (k' / 2)=(if k' + 1=k + 1 then some o else Tr.get r (k' / 2))
             rw [ih r _ _ _ hk]
             by_cases z:k' / 2=k / 2
             · rw [if_pos z,if_pos (by omega)]
             · rw [if_neg z,if_neg (by omega)]
           | true=>
             have e2:=cC.mp e'
             show Tr.get l (k' / 2)=(if k' + 1=k + 1 then some o else Tr.get l (k' / 2))
             rw [if_neg (by intro z;apply e1;have:k'=k:=by omega
                            rw [<- this];exact e2)]
theorem Hs.iB (h:Hs) (o:O):(h.push o).n=h.n + 1:=by cases h;rfl
theorem Hs.jK (h:Hs) (k:Nat) (o:O):(h.set k o).n=h.n:=by cases h;rfl
theorem Hs.fC (h:Hs) (o:O) (k:Nat):(h.push o).get k=if k=h.n then some o else h.get k:=by
 cases h with | mk n t=>exact get_set (n + 1) t n k o (Nat.lt_succ_self n)
theorem Hs.get_set (h:Hs) (o:O) (j k:Nat):(h.set j o).get k=if k=j then some o else h.get k:=by
 cases h with | mk n t=>exact Ev.get_set (j + 1) t j k o (Nat.lt_succ_self j)
end Ev
set_option maxRecDepth 100000
set_option maxHeartbeats 4000000
namespace Ev
open PySem L2
inductive RW (ρ:List Addr):W->V->Prop
 | non:RW ρ .non .non
 | bl (b):RW ρ (.bl b) (.bl b)
 | int (i):RW ρ (.int i) (.int i)
 | str (c):RW ρ (.str c) (.str ⟨c.toArray⟩)
 | ref {n a}:ρ[n]? =some a->RW ρ (.ref n) (.ref a)
theorem dB {ρ ρ':List Addr} (e:ρ <+:ρ') {n:Nat} {a:Addr} (h:ρ[n]? =some a):ρ'[n]? =some a:=by
 obtain ⟨t,rfl⟩:=e
 have hn:n < ρ.length:=(List.getElem?_eq_some_iff.mp h).1
 rw [List.getElem?_append_left hn];exact h
theorem RW.mono {ρ ρ':List Addr} (e:ρ <+:ρ') {w:W} {v:V} (h:RW ρ w v):RW ρ' w v:=by
 cases h with
 | non=>exact .non
 | bl b=>exact .bl b
 | int i=>exact .int i
 | str c=>exact .str c
 | ref h=>exact .ref (dB e h)
abbrev RWs (ρ:List Addr):List W->List V->Prop:=Paired (RW ρ)
theorem RWs.mono {ρ ρ':List Addr} (e:ρ <+:ρ') {ws:List W} {vs:List V} (h:RWs ρ ws vs):RWs ρ' ws vs:=Paired.jo h fun _ _ r=>r.mono e
theorem RWs.get {ρ:List Addr}:∀ {ws:List W} {vs:List V} {i:Nat} {w:W},RWs ρ ws vs->ws[i]? =some w->∃ v,vs[i]? =some v/\RW ρ w v
 | _,_,_,_,.nil,e=>by simp at e
 | _,_,0,_,.cons r _,e=>by simp at e;subst e;exact ⟨_,rfl,r⟩
 | _,_,i + 1,w,.cons _ t,e=>by
   obtain ⟨u,h1,h2⟩:=RWs.get (i:=i) (w:=w) t (by simpa using e)
   exact ⟨u,by simpa using h1,h2⟩
theorem RWs.append {ρ:List Addr}:∀ {xs ys:List W} {us ws:List V},RWs ρ xs us->RWs ρ ys ws->RWs ρ (xs ++ ys) (us ++ ws)
 | _,_,_,_,.nil,s=>s
 | _,_,_,_,.cons r t,s=>.cons r (RWs.append t s)
theorem RWs.take {ρ:List Addr}:∀ {xs:List W} {us:List V} (n:Nat),RWs ρ xs us->RWs ρ (xs.take n) (us.take n)
 | _,_,0,_=>.nil
 | _,_,_ + 1,.nil=>.nil
 | _,_,n + 1,.cons r t=>.cons r (RWs.take n t)
theorem RWs.drop {ρ:List Addr}:∀ {xs:List W} {us:List V} (n:Nat),RWs ρ xs us->RWs ρ (xs.drop n) (us.drop n)
 | _,_,0,r=>r
 | _,_,_ + 1,.nil=>.nil
 | _,_,n + 1,.cons _ t=>RWs.drop n t
theorem RWs.length {ρ:List Addr} {ws:List W} {vs:List V} (h:RWs ρ ws vs):ws.length=vs.length:=Paired.length h
def RO (ρ:List Addr):Option W->Option V->Prop
 | none,_=>True
 | some w,some v=>RW ρ w v
 | some _,none=>False
theorem RO.mono {ρ ρ':List Addr} (e:ρ <+:ρ'):∀ {w:Option W} {v:Option V},RO ρ w v->RO ρ' w v
 | none,_,_=>trivial
 | some _,some _,h=>RW.mono e h
abbrev RS (ρ:List Addr):Sg->St->Prop:=Paired (RO ρ)
theorem RS.mono {ρ ρ':List Addr} (e:ρ <+:ρ') {τ:Sg} {σ:St} (h:RS ρ τ σ):RS ρ' τ σ:=Paired.jo h fun _ _ r=>r.mono e
theorem RS.get {ρ:List Addr}:∀ {τ:Sg} {σ:St} {i:Nat} {w:W},RS ρ τ σ->aH τ i=some w->∃ v,σ[i]? =some (some v)/\RW ρ w v
 | _,_,_,_,.nil,e=>nomatch e
 | some _::_,some v::_,0,_,.cons r _,e=>by cases e;exact ⟨v,rfl,r⟩
 | some _::_,none::_,0,_,.cons r _,e=>r.elim
 | none::_,_,0,_,_,e=>nomatch e
 | _::_,_::_,i + 1,w,.cons _ t,e=>by
   obtain ⟨u,h1,h2⟩:=RS.get (i:=i) (w:=w) t e
   exact ⟨u,by simpa using h1,h2⟩
theorem RS.set {ρ:List Addr} {w:W} {v:V} (r:RW ρ w v):∀ {τ:Sg} {σ:St} (i:Nat),RS ρ τ σ->RS ρ (setAt τ (some w) i) (σ.set i (some v))
 | _,_,_,.nil=>by rw [dR];exact .nil
 | _::_,_::_,0,.cons _ t=>.cons (show RO ρ (some w) (some v) from r) t
 | _::_,_::_,i + 1,.cons q t=>.cons q (RS.set r i t)
def nm (c:List Nat):Str:=⟨c.toArray⟩
theorem zL {a b:List Nat} (h:nm a=nm b):a=b:=by
 have:=congrArg (fun s:Str=>s.cps.toList) h
 simpa [nm] using this
def FR (ρ:List Addr):Fs->List (Str × V)->Prop:=Paired fun p q=>q.1=nm p.1/\RW ρ p.2 q.2
theorem FR.mono {ρ ρ':List Addr} (e:ρ <+:ρ') {fs:Fs} {gs:List (Str × V)} (h:FR ρ fs gs):FR ρ' fs gs:=Paired.jo h fun _ _ r=>⟨r.1,r.2.mono e⟩
inductive KW:W->Key->Prop
 | int (i):KW (.int i) (.inl i)
 | str (c):KW (.str c) (.inr ⟨c.toArray⟩)
structure Cn where
 c:Nat->Addr
 P:Addr
 q:Str
 on:Bool
instance:CoeFun Cn (fun _=>Nat->Addr):=⟨Cn.c⟩
section
variable (cl:Cn)
def Tb (H:Hp):Prop:=cl.on=true->∃ ps,H cl.P=some (.tbl ps)/\TriplesOk ps.toList/\∀ pos cv,codeAmong pos ps.toList=some cv->∃ c',cv= .ref c'/\H c'=some (.ext fun h=>h.CodeRec (.ref c') cl.q)
def OA (ρ:List Addr) (H:Hp) (a:Addr):O->Prop
 | .tup xs=>∃ vs,RWs ρ xs vs/\H a=some (.tup vs)
 | .lst xs=>∃ vs,RWs ρ xs vs/\H a=some (.lst vs)
 | .ins C fs=>∃ dx gs,FR ρ fs gs/\H a=some (.ins (cl C) dx gs)
 | .dk kvs=>∃ gs,Paired (fun p q=>KW p.1 q.1/\RW ρ p.2 q.2) kvs gs/\H a=some (.dK gs)
 | .dt kvs=>∃ gs,Paired (fun p q=>Paired KW p.1 q.1/\RW ρ p.2 q.2) kvs gs/\H a=some (.dT gs)
structure Sim (ρ:List Addr) (h:Hs) (H:Hp):Prop where
 len:ρ.length=h.n
 nd:ρ.Nodup
 obj:∀ n a,ρ[n]? =some a->∃ o,h.get n=some o/\OA cl ρ H a o
 tb:Tb cl H
end
section
variable {cl:Cn} {ρ ρ':List Addr} {h:Hs} {H H':Hp}
theorem OA.som {a:Addr} {o:O} (x:OA cl ρ H a o):∃ u,H a=some u:=by
 cases o with
 | tup xs=>exact ⟨_,x.choose_spec.2⟩
 | lst xs=>exact ⟨_,x.choose_spec.2⟩
 | ins C fs=>obtain ⟨_,_,_,e⟩:=x;exact ⟨_,e⟩
 | dk kvs=>exact ⟨_,x.choose_spec.2⟩
 | dt kvs=>exact ⟨_,x.choose_spec.2⟩
theorem OA.keep {a:Addr} {o:O} (x:OA cl ρ H a o) (e:ρ <+:ρ') (k:H' a=H a):OA cl ρ' H' a o:=by
 cases o with
 | tup xs=>obtain ⟨vs,r,q⟩:=x;exact ⟨vs,r.mono e,k.trans q⟩
 | lst xs=>obtain ⟨vs,r,q⟩:=x;exact ⟨vs,r.mono e,k.trans q⟩
 | ins C fs=>obtain ⟨dx,gs,r,q⟩:=x;exact ⟨dx,gs,r.mono e,k.trans q⟩
 | dk kvs=>obtain ⟨gs,r,q⟩:=x;exact ⟨gs,Paired.jo r fun _ _ z=>⟨z.1,z.2.mono e⟩,k.trans q⟩
 | dt kvs=>obtain ⟨gs,r,q⟩:=x;exact ⟨gs,Paired.jo r fun _ _ z=>⟨z.1,z.2.mono e⟩,k.trans q⟩
def Pl:Option HO->Prop
 | some (.tbl _)=>False
 | some (.ext _)=>False
 | _=>True
theorem Tb.upd {p:Addr} {u:HO} (t:Tb cl H) (n:Pl (H p)):Tb cl (upd H p u):=fun on=>by
 obtain ⟨ps,h1,h2,h3⟩:=t on
 have ne:∀ {b:Addr} {w:HO},H b=some w->¬ Pl (some w)->b ≠ p:=fun {b w} e z q=>by rw [q] at e;rw [e] at n;exact z n
 refine ⟨ps,by rw [aG (ne h1 (fun z=>z))];exact h1,h2,fun pos cv e=>?_⟩
 obtain ⟨c',e1,e2⟩:=h3 pos cv e
 exact ⟨c',e1,by rw [aG (ne e2 (fun z=>z))];exact e2⟩
theorem OA.pl {a:Addr} {o:O} (x:OA cl ρ H a o):Pl (H a):=by
 cases o with
 | tup xs=>rw [x.choose_spec.2];trivial
 | lst xs=>rw [x.choose_spec.2];trivial
 | ins C fs=>obtain ⟨_,_,_,e⟩:=x;rw [e];trivial
 | dk kvs=>rw [x.choose_spec.2];trivial
 | dt kvs=>rw [x.choose_spec.2];trivial
theorem Sim.som (s:Sim cl ρ h H) {a:Addr} (e:a ∈ ρ):∃ u,H a=some u:=by
 obtain ⟨n,hn⟩:=List.getElem?_of_mem e
 obtain ⟨o,_,x⟩:=s.obj n a hn
 exact x.som
theorem Sim.new (s:Sim cl ρ h H) {p:Addr} (e:H p=none):p ∉ ρ:=fun z=>by
 obtain ⟨u,q⟩:=s.som z
 rw [e] at q;cases q
theorem Sim.at (s:Sim cl ρ h H) {n:Nat} {a:Addr} {o:O} (e:ρ[n]? =some a) (q:h.get n=some o):OA cl ρ H a o:=by
 obtain ⟨o',q',x⟩:=s.obj n a e
 rw [q] at q';cases q';exact x
theorem Sim.push (s:Sim cl ρ h H) {p:Addr} {u:HO} {o:O} (e:H p=none) (x:OA cl (ρ ++ [p]) (upd H p u) p o):Sim cl (ρ ++ [p]) (h.push o) (upd H p u) where
 len:=by rw [List.length_append,Hs.iB,s.len];rfl
 nd:=List.nodup_append.mpr ⟨s.nd,by simp,fun a ha b hb z=>by
  simp only [List.mem_singleton] at hb
  exact s.new e (by rw [<- hb,<- z];exact ha)⟩
 obj:=fun n a hn=>by
  rw [Hs.fC]
  by_cases hlt:n < ρ.length
  · rw [List.getElem?_append_left hlt] at hn
    obtain ⟨o',q,y⟩:=s.obj n a hn
    refine ⟨o',by rw [if_neg (by rw [<- s.len];omega)];exact q,y.keep (List.prefix_append _ _) ?_⟩
    obtain ⟨w,hw⟩:=y.som
    exact aG (aR hw e)
  · have hn':n=ρ.length:=by
     have:=(List.getElem?_eq_some_iff.mp hn).1
     rw [List.length_append] at this
     simp at this;omega
    subst hn'
    rw [List.getElem?_append_right (Nat.le_refl _),Nat.sub_self] at hn
    simp at hn;subst hn
    exact ⟨o,by rw [if_pos s.len],x⟩
 tb:=s.tb.upd (by rw [e];trivial)
theorem Sim.put (s:Sim cl ρ h H) {n:Nat} {a:Addr} {u:HO} {o:O} (e:ρ[n]? =some a) (x:OA cl ρ (upd H a u) a o):Sim cl ρ (h.set n o) (upd H a u) where
 len:=by rw [Hs.jK,s.len]
 nd:=s.nd
 obj:=fun m b hm=>by
  rw [Hs.get_set]
  by_cases z:m=n
  · subst z;rw [e] at hm;cases hm
    exact ⟨o,if_pos rfl,x⟩
  · obtain ⟨o',q,y⟩:=s.obj m b hm
    refine ⟨o',by rw [if_neg z];exact q,y.keep (List.prefix_refl _) (aG fun zz=>z ?_)⟩
    subst zz
    exact (List.getElem?_inj (List.getElem?_eq_some_iff.mp hm).1 s.nd).mp (hm.trans e.symm)
 tb:=by
  obtain ⟨o',_,y⟩:=s.obj n a e
  exact s.tb.upd y.pl
def Bt (cl:Cn) (ρ:List Addr) (H:Hp) (ρ':List Addr) (H':Hp):Prop:=ρ <+:ρ'/\∀ b u,H b=some u->b ∉ ρ->b ∉ ρ'/\((cl.on=true->b ≠ cl.P)->H' b=some u)/\∃ u',H' b=some u'
theorem Bt.refl:Bt cl ρ H ρ H:=⟨List.prefix_refl _,fun _ u q n=>⟨n,fun _=>q,u,q⟩⟩
theorem Bt.trans {zM:List Addr} {H'':Hp} (x:Bt cl ρ H ρ' H') (y:Bt cl ρ' H' zM H''):Bt cl ρ H zM H'':=⟨x.1.trans y.1,fun b u q n=>by
 obtain ⟨n1,q1,u1,q2⟩:=x.2 b u q n
 obtain ⟨n2,q3,u2,q4⟩:=y.2 b u1 q2 n1
 refine ⟨n2,fun c=>?_,u2,q4⟩
 have e:=q1 c
 rw [q2] at e;cases e
 exact q3 c⟩
theorem Bt.new {p:Addr} {u:HO} (e:H p=none):Bt cl ρ H (ρ ++ [p]) (upd H p u):=⟨List.prefix_append _ _,fun b v q n=>by
 have ne:b ≠ p:=aR q e
 have q':upd H p u b=some v:=by rw [aG ne];exact q
 refine ⟨fun z=>?_,fun _=>q',v,q'⟩
 rcases List.mem_append.mp z with z | z
 · exact n z
 · simp at z;exact ne z⟩
theorem Bt.put {a:Addr} {u:HO} {n:Nat} (e:ρ[n]? =some a):Bt cl ρ H ρ (upd H a u):=⟨List.prefix_refl _,fun b v q nb=>by
 have q':upd H a u b=some v:=by rw [aG fun z=>nb (by rw [z];exact List.mem_of_getElem? e)];exact q
 exact ⟨nb,fun _=>q',v,q'⟩⟩
end
section
variable (cl:Cn)
def Post (ρ:List Addr) (H:Hp) (E:XK) {α:Type} (r:R α) (P:α->Hs->List Addr->Hp->Prop):Prop:=match r with
 | .ok a h=>∀ ρ' H',Bt cl ρ H ρ' H'->Sim cl ρ' h H'->P a h ρ' H'
 | .ex C fs h=>∀ ρ' H' dx gs,Bt cl ρ H ρ' H'->Sim cl ρ' h H'->FR ρ' fs gs->dx ∉ ρ'->H' dx=some (.xd gs)->E (.ref (cl C)) (some dx) H'
 | .no=>False
end
section
variable {cl:Cn} {ρ ρ':List Addr} {h:Hs} {H H':Hp} {E:XK} {α β:Type}
theorem Post.mono {r:R α} {P P':α->Hs->List Addr->Hp->Prop} (x:Post cl ρ H E r P) (f:∀ a h ρ' H',Bt cl ρ H ρ' H'->Sim cl ρ' h H'->P a h ρ' H'->P' a h ρ' H'):Post cl ρ H E r P':=by
 cases r with
 | ok a h=>exact fun ρ' H' b s=>f a h ρ' H' b s (x ρ' H' b s)
 | ex C fs h=>exact x
 | no=>exact x
theorem Post.later {r:R α} {P:α->Hs->List Addr->Hp->Prop} (x:Post cl ρ H E r P) (b:Bt cl ρ H ρ' H'):Post cl ρ' H' E r P:=by
 cases r with
 | ok a h=>exact fun ρ2 H2 b2 s=>x ρ2 H2 (b.trans b2) s
 | ex C fs h=>exact fun ρ2 H2 dx gs b2 s f n q=>x ρ2 H2 dx gs (b.trans b2) s f n q
 | no=>exact x
theorem Post.bind {r:R α} {f:α->Hs->R β} {P:β->Hs->List Addr->Hp->Prop} (x:Post cl ρ H E (r.bind f) P):Post cl ρ H E r fun a h1 ρ1 H1=>Post cl ρ1 H1 E (f a h1) P:=by
 cases r with
 | ok a h1=>exact fun ρ1 H1 b s1=>Post.later (ρ:=ρ) (H:=H) x b
 | ex C fs h1=>exact x
 | no=>exact x
end
end Ev
set_option maxRecDepth 100000
set_option maxHeartbeats 4000000
namespace Ev
open PySem L2
section
variable (Pg:List Fn) (cl:Cn) (E:XK) (d:Nat)
def VP (Q:VK):A->Hs->List Addr->Hp->Prop:=fun r _ ρ H=>∃ w,r= .w w/\∀ v,RW ρ w v->Q v H
def LP (Q:List V->Hp->Prop):A->Hs->List Addr->Hp->Prop:=fun r _ ρ H=>∃ ws,r= .ws ws/\∀ vs,RWs ρ ws vs->Q vs H
def Ag (σ0:St) (τ:Sg) (σ:St):Prop:=∀ i,aH τ i=none->σ[i]? =σ0[i]?
def FP (σ0:St) (D:Ends) (ρ:List Addr) (H:Hp):Fl->Prop
 | .nx τ=>∀ σ,RS ρ τ σ->Ag σ0 τ σ->D.nx σ H
 | .bk τ=>∀ σ,RS ρ τ σ->Ag σ0 τ σ->D.bk σ H
 | .ct τ=>∀ σ,RS ρ τ σ->Ag σ0 τ σ->D.ct σ H
 | .rt w=>∀ v,RW ρ w v->D.rt v H
def SPo (σ0:St) (D:Ends):A->Hs->List Addr->Hp->Prop:=fun r _ ρ H=>∃ f,r= .fl f/\FP σ0 D ρ H f
def ev (q:Q) (σ:St) (H:Hp) (P:A->Hs->List Addr->Hp->Prop):Prop:=∃ ρ τ h n,Sim cl ρ h H/\RS ρ τ σ/\Post cl ρ H E (evs Pg n d q τ h) P
def tE (a:X):TE:=fun σ H Q=>ev Pg cl E d (.x a) σ H (VP Q)
def tT (a:X):TT:=fun σ H Q=>ev Pg cl E d (.x a) σ H (VP fun v H'=>∃ b,v= .bl b/\Q b H')
def tA (as:List X):TA:=fun σ H Q=>ev Pg cl E d (.a as) σ H (LP Q)
def evS (σ0:St) (q:Q) (σ:St) (H:Hp) (P:A->Hs->List Addr->Hp->Prop):Prop:=∃ ρ τ h n,Sim cl ρ h H/\RS ρ τ σ/\Ag σ0 τ σ/\Post cl ρ H E (evs Pg n d q τ h) P
def tS (σ0:St) (s:S):TS:=fun D σ H=>evS Pg cl E d σ0 (.s s) σ H (SPo σ0 D)
def tSs (σ0:St) (s:List S):TS:=fun D σ H=>evS Pg cl E d σ0 (.ss s) σ H (SPo σ0 D)
end
section
variable {Pg:List Fn} {cl:Cn} {E:XK} {d:Nat} {X:Cx} {σ:St} {H:Hp} {P:A->Hs->List Addr->Hp->Prop}
theorem PE.of {e:Expr} {t t':TE} (h:PE X e t) (f:∀ σ H Q,t' σ H Q->t σ H Q):PE X e t':=fun pins s σ H Q I q=>h pins s σ H Q I (f σ H Q q)
theorem PT.of {e:Expr} {t t':TT} (h:PT X e t) (f:∀ σ H Q,t' σ H Q->t σ H Q):PT X e t':=fun pins s σ H Q I q=>h pins s σ H Q I (f σ H Q q)
theorem PA.of {es:List Expr} {t t':TA} (h:PA X es t) (f:∀ σ H Q,t' σ H Q->t σ H Q):PA X es t':=fun pos pins s σ H Q I q=>h pos pins s σ H Q I (f σ H Q q)
theorem PS.of {e:Stmt} {t t':TS} (h:PS X e t) (f:∀ D σ H,t' D σ H->t D σ H):PS X e t':=fun pins s σ H D I q=>h pins s σ H D I (f D σ H q)
theorem PSs.of {e:List Stmt} {t t':TS} (h:PSs X e t) (f:∀ D σ H,t' D σ H->t D σ H):PSs X e t':=fun pins s σ H D I q=>h pins s σ H D I (f D σ H q)
theorem ev.step {q:Q} (x:ev Pg cl E d q σ H P):∃ ρ τ h n,Sim cl ρ h H/\RS ρ τ σ/\Post cl ρ H E (evs Pg n d q τ h) P:=x
theorem evS.step {q:Q} {σ0:St} (x:evS Pg cl E d σ0 q σ H P):∃ ρ τ h n,Sim cl ρ h H/\RS ρ τ σ/\Ag σ0 τ σ/\Post cl ρ H E (evs Pg n d q τ h) P:=x
theorem ev.then {q:Q} {ρ:List Addr} {τ:Sg} {h:Hs} {n:Nat} {f:A->Hs->R A} {P P':A->Hs->List Addr->Hp->Prop} (s:Sim cl ρ h H) (r:RS ρ τ σ) (p:Post cl ρ H E ((evs Pg n d q τ h).bind f) P)
 (g:∀ a h1 ρ1 H1,Bt cl ρ H ρ1 H1->Sim cl ρ1 h1 H1->Post cl ρ1 H1 E (f a h1) P->P' a h1 ρ1 H1):ev Pg cl E d q σ H P':=⟨ρ,τ,h,n,s,r,p.bind.mono g⟩
theorem evS.then {q:Q} {σ0:St} {ρ:List Addr} {τ:Sg} {h:Hs} {n:Nat} {f:A->Hs->R A} {P P':A->Hs->List Addr->Hp->Prop} (s:Sim cl ρ h H) (r:RS ρ τ σ) (ag:Ag σ0 τ σ) (p:Post cl ρ H E ((evs Pg n d q τ h).bind f) P)
 (g:∀ a h1 ρ1 H1,Bt cl ρ H ρ1 H1->Sim cl ρ1 h1 H1->Post cl ρ1 H1 E (f a h1) P->P' a h1 ρ1 H1):evS Pg cl E d σ0 q σ H P':=⟨ρ,τ,h,n,s,r,ag,p.bind.mono g⟩
theorem bL {ρ:List Addr} {H:Hp} {a:A} {f:W->R A} (p:Post cl ρ H E (a.toW f) P):∃ w,a= .w w/\Post cl ρ H E (f w) P:=by
 cases a with
 | w w=>exact ⟨w,rfl,p⟩
 | _=>exact p.elim
theorem iC {ρ:List Addr} {H:Hp} {a:A} {f:List W->R A} (p:Post cl ρ H E (a.toL f) P):∃ w,a= .ws w/\Post cl ρ H E (f w) P:=by
 cases a with
 | ws w=>exact ⟨w,rfl,p⟩
 | _=>exact p.elim
theorem sr {ρ:List Addr} {H:Hp} {a:A} {f:Iv->R A} (p:Post cl ρ H E (a.toV f) P):∃ w,a= .iv w/\Post cl ρ H E (f w) P:=by
 cases a with
 | iv w=>exact ⟨w,rfl,p⟩
 | _=>exact p.elim
theorem jL {ρ:List Addr} {H:Hp} {a:A} {f:Fl->R A} (p:Post cl ρ H E (a.toF f) P):∃ w,a= .fl w/\Post cl ρ H E (f w) P:=by
 cases a with
 | fl w=>exact ⟨w,rfl,p⟩
 | _=>exact p.elim
theorem cI {ρ:List Addr} {H:Hp} {α β:Type} {o:Option α} {f:α->R β} {P:β->Hs->List Addr->Hp->Prop} (p:Post cl ρ H E (Opt o f) P):∃ w,o=some w/\Post cl ρ H E (f w) P:=by
 cases o with
 | some w=>exact ⟨w,rfl,p⟩
 | none=>exact p.elim
theorem su {ρ:List Addr} {H:Hp} {β:Type} {w:W} {f:Int->R β} {P:β->Hs->List Addr->Hp->Prop} (p:Post cl ρ H E (w.onI f) P):∃ i,w= .int i/\Post cl ρ H E (f i) P:=by
 cases w with
 | int w=>exact ⟨w,rfl,p⟩
 | _=>exact p.elim
theorem sE {ρ:List Addr} {H:Hp} {β:Type} {w:W} {f:Nat->R β} {P:β->Hs->List Addr->Hp->Prop} (p:Post cl ρ H E (w.onR f) P):∃ i,w= .ref i/\Post cl ρ H E (f i) P:=by
 cases w with
 | ref w=>exact ⟨w,rfl,p⟩
 | _=>exact p.elim
theorem sG {ρ:List Addr} {H:Hp} {β:Type} {w:W} {f t:R β} {P:β->Hs->List Addr->Hp->Prop} (p:Post cl ρ H E (w.onB f t) P):(w= .bl true/\Post cl ρ H E t P)\/(w= .bl false/\Post cl ρ H E f P):=by
 cases w with
 | bl b=>cases b with
   | true=>exact .inl ⟨rfl,p⟩
   | false=>exact .inr ⟨rfl,p⟩
 | _=>exact p.elim
theorem m_ {ρ:List Addr} {H:Hp} {β:Type} {b:Bool} {t:R β} {P:β->Hs->List Addr->Hp->Prop} (p:Post cl ρ H E (ifB b t .no) P):b=true/\Post cl ρ H E t P:=by
 cases b with
 | true=>exact ⟨rfl,p⟩
 | false=>exact p.elim
theorem at_of {ρ:List Addr} {H:Hp} {h:Hs} {β:Type} {w:W} {f:Nat->O->R β} {P:β->Hs->List Addr->Hp->Prop} (s:Sim cl ρ h H) {v:V} (r:RW ρ w v) (p:Post cl ρ H E (h.at w f) P):
 ∃ n o a,w= .ref n/\v= .ref a/\ρ[n]? =some a/\h.get n=some o/\OA cl ρ H a o/\Post cl ρ H E (f n o) P:=by
 obtain ⟨n,rfl,p⟩:=sE p
 obtain ⟨o,e,p⟩:=cI p
 cases r with
 | ref q=>exact ⟨n,o,_,rfl,rfl,q,e,s.at q e,p⟩
theorem zN {ρ:List Addr} {H:Hp} {β:Type} {o:O} {f:List W->R β} {P:β->Hs->List Addr->Hp->Prop} (p:Post cl ρ H E (o.onL f) P):∃ xs,o= .lst xs/\Post cl ρ H E (f xs) P:=by
 cases o with
 | lst xs=>exact ⟨xs,rfl,p⟩
 | _=>exact p.elim
theorem Post.now {ρ:List Addr} {H:Hp} {h:Hs} {α:Type} {a:α} {P:α->Hs->List Addr->Hp->Prop} (s:Sim cl ρ h H) (p:Post cl ρ H E (.ok a h) P):P a h ρ H:=p ρ H Bt.refl s
theorem Post.bO {ρ:List Addr} {H:Hp} {h:Hs} {w:W} {v:V} {Q:VK} (s:Sim cl ρ h H) (p:Post cl ρ H E (.ok (.w w) h) (VP Q)) (r:RW ρ w v):Q v H:=by
 obtain ⟨w',e,q⟩:=p.now s
 cases e;exact q v r
theorem Post.new {ρ:List Addr} {H:Hp} {h:Hs} {o:O} {u:HO} {p:Addr} {Q:VK} (s:Sim cl ρ h H) (x:Post cl ρ H E (ofW (.alloc h o)) (VP Q)) (e:H p=none) (z:OA cl (ρ ++ [p]) (upd H p u) p o):Q (.ref p) (upd H p u):=by
 obtain ⟨w',e',q⟩:=x (ρ ++ [p]) (upd H p u) (Bt.new e) (s.push e z)
 cases e'
 exact q _ (.ref (by rw [<- s.len,List.getElem?_append_right (Nat.le_refl _),Nat.sub_self];rfl))
theorem Post.newL {ρ:List Addr} {H:Hp} {h:Hs} {xs:List W} {vs:List V} {p:Addr} {Q:VK} (s:Sim cl ρ h H) (x:Post cl ρ H E (ofW (.alloc h (.lst xs))) (VP Q)) (e:H p=none) (r:RWs ρ xs vs):Q (.ref p) (upd H p (.lst vs)):=
 x.new s e ⟨vs,r.mono (List.prefix_append _ _),au⟩
theorem Post.qu {ρ:List Addr} {H:Hp} {h:Hs} {xs:List W} {vs:List V} {p:Addr} {Q:VK} (s:Sim cl ρ h H) (x:Post cl ρ H E (ofW (.alloc h (.tup xs))) (VP Q)) (e:H p=none) (r:RWs ρ xs vs):Q (.ref p) (upd H p (.tup vs)):=
 x.new s e ⟨vs,r.mono (List.prefix_append _ _),au⟩
theorem Post.putL {ρ:List Addr} {H:Hp} {h:Hs} {xs:List W} {vs:List V} {n:Nat} {a:Addr} {w:W} {v:V} {Q:VK} (s:Sim cl ρ h H) (x:Post cl ρ H E (ofW (.ok w (h.set n (.lst xs)))) (VP Q)) (e:ρ[n]? =some a) (r:RWs ρ xs vs) (rw:RW ρ w v):Q v (upd H a (.lst vs)):=by
 obtain ⟨w',e',q⟩:=x ρ (upd H a (.lst vs)) (Bt.put e) (s.put e ⟨vs,r,au⟩)
 cases e'
 exact q _ rw
theorem zO {i:Nat} {x:Str} {pos:Pos} (hN:X.N[i]? =some x:=by rfl) (hv:Vis X.env.scope x:=by first | exact Or.inl rfl | exact Or.inr (Or.inl rfl) | exact Or.inr (Or.inr rfl)) (hd:(x == ("__debug__":Str))=false:=by decide)
 (hcd:(x == ("__classdict__":Str))=false:=by decide):PE X (.Name x pos) (tE Pg cl E d (.var i)):=PE.of (qZ hN hv hd hcd) fun σ H Q x=>by
 obtain ⟨ρ,τ,h,n,s,r,p⟩:=x.step
 obtain ⟨w,e,p⟩:=cI (show Post cl ρ H E (Opt (aH τ i) fun w=>.ok (.w w) h) (VP Q) from p)
 obtain ⟨v,ev,rv⟩:=r.get e
 exact ⟨v,ev,p.bO s rv⟩
theorem ni {e:Expr} {w:W} {v:V} (h:PE X e (tC v)) (r:RW [] w v):PE X e (tE Pg cl E d (.cst w)):=PE.of h fun σ H Q x=>by
 obtain ⟨ρ,τ,h,n,s,_,p⟩:=x.step
 exact Post.bO s (show Post cl ρ H E (.ok (.w w) h) (VP Q) from p) (r.mono (List.nil_prefix))
theorem aK {i:Int} {j pos}:PE X (.Constant (.int i) j pos) (tE Pg cl E d (.cst (.int i))):=ni aA (.int i)
theorem Cj {b j pos}:PE X (.Constant (.bool b) j pos) (tE Pg cl E d (.cst (.bl b))):=ni pL (.bl b)
theorem cZ (c:List Nat) {x:Str} {j pos} (e:x= ⟨c.toArray⟩:=by decide +kernel):PE X (.Constant (.str x) j pos) (tE Pg cl E d (.cst (.str c))):=by
 subst e;exact ni q9 (.str c)
theorem bF:PA X [] (tA Pg cl E d []):=PA.of ak fun σ H Q x=>by
 obtain ⟨ρ,τ,h,n,s,_,p⟩:=x.step
 obtain ⟨ws,e,q⟩:=Post.now s (show Post cl ρ H E (.ok (.ws []) h) (LP Q) from p)
 cases e;exact q [] .nil
theorem eX {e:Expr} {es:List Expr} {a:Ev.X} {as:List Ev.X} (ha:PE X e (tE Pg cl E d a)) (hr:PA X es (tA Pg cl E d as)) (hs:starEach (e::es) X.env=(false,eval e X.env)::starEach es X.env:=by rfl):PA X (e::es) (tA Pg cl E d (a::as)):=
 PA.of (aa ha hr hs) fun σ H Q x=>by
 obtain ⟨ρ,τ,h,n,s,r,p⟩:=x.step
 refine ev.then s r (show Post cl ρ H E ((evs Pg n d (.x a) τ h).bind fun r h=>r.toW fun w=>(evs Pg n d (.a as) τ h).bind fun r h=>r.toL fun ws=>.ok (.ws (w::ws)) h) (LP Q) from p) fun a1 h1 ρ1 H1 b1 s1 p1=>?_
 obtain ⟨w,rfl,p1⟩:=bL p1
 refine ⟨w,rfl,fun v rv=>?_⟩
 refine ev.then s1 (r.mono b1.1) p1 fun a2 h2 ρ2 H2 b2 s2 p2=>?_
 obtain ⟨ws,rfl,p2⟩:=iC p2
 refine ⟨ws,rfl,fun vs rs=>?_⟩
 obtain ⟨ws',e,q⟩:=p2.now s2
 cases e
 exact q _ (.cons (rv.mono b2.1) rs)
def Op2 (cl:Cn) (p:Pr) (r:R2):Prop:=∀ (E:XK) (ρ:List Addr) (h:Hs) (H:Hp) (w1 w2:W) (v1 v2:V) (Q:VK),Sim cl ρ h H->RW ρ w1 v1->RW ρ w2 v2->Post cl ρ H E (ofW (cV p [w1,w2] h)) (VP Q)->r v1 v2 H Q
def Op1 (cl:Cn) (p:Pr) (r:V->Hp->VK->Prop):Prop:=∀ (E:XK) (ρ:List Addr) (h:Hs) (H:Hp) (w1:W) (v1:V) (Q:VK),Sim cl ρ h H->RW ρ w1 v1->Post cl ρ H E (ofW (cV p [w1] h)) (VP Q)->r v1 H Q
theorem jM {p:Pr} {r:R2} (o:Op2 cl p r) {a b:Ev.X} {Q:VK} (x:tE Pg cl E d (.pr p [a,b]) σ H Q):tOp r (tE Pg cl E d a) (tE Pg cl E d b) σ H Q:=by
 obtain ⟨ρ,τ,h,n,s,rs,q⟩:=x.step
 have q:Post cl ρ H E ((evs Pg n d (.a [a,b]) τ h).bind fun a h=>a.toL fun ws=>ofW (cV p ws h)) (VP Q):=q
 have q1:=q.bind
 refine ev.then s rs (show Post cl ρ H E ((evs Pg n d (.x a) τ h).bind fun r h=>r.toW fun w=>(evs Pg n d (.a [b]) τ h).bind fun r h=>r.toL fun ws=>.ok (.ws (w::ws)) h) _ from q1) fun a1 h1 ρ1 H1 b1 s1 p1=>?_
 obtain ⟨w1,rfl,pz⟩:=bL p1
 clear p1
 refine ⟨w1,rfl,fun v1 rv1=>?_⟩
 have p1':=pz.bind
 refine ev.then s1 (rs.mono b1.1) (show Post cl ρ1 H1 E ((evs Pg n d (.x b) τ h1).bind fun r h=>r.toW fun w=>(evs Pg n d (.a []) τ h).bind fun r h=>r.toL fun ws=>.ok (.ws (w::ws)) h) _ from p1') fun a2 h2 ρ2 H2 b2 s2 p2=>?_
 obtain ⟨w2,rfl,pz⟩:=bL p2
 clear p2
 refine ⟨w2,rfl,fun v2 rv2=>?_⟩
 have p3:=Post.now s2 (show Post cl ρ2 H2 E (.ok (A.ws [w2]) h2) _ from pz)
 have p4:=Post.now s2 (show Post cl ρ2 H2 E (.ok (A.ws [w1,w2]) h2) _ from p3)
 exact o E ρ2 h2 H2 w1 w2 v1 v2 Q s2 (rv1.mono b2.1) rv2 p4
theorem jN {p:Pr} {r:V->Hp->VK->Prop} (o:Op1 cl p r) {a:Ev.X} {Q:VK} (x:tE Pg cl E d (.pr p [a]) σ H Q):tUn r (tE Pg cl E d a) σ H Q:=by
 obtain ⟨ρ,τ,h,n,s,rs,q⟩:=x.step
 have q:Post cl ρ H E ((evs Pg n d (.a [a]) τ h).bind fun a h=>a.toL fun ws=>ofW (cV p ws h)) (VP Q):=q
 have q1:=q.bind
 refine ev.then s rs (show Post cl ρ H E ((evs Pg n d (.x a) τ h).bind fun r h=>r.toW fun w=>(evs Pg n d (.a []) τ h).bind fun r h=>r.toL fun ws=>.ok (.ws (w::ws)) h) _ from q1) fun a1 h1 ρ1 H1 b1 s1 p1=>?_
 obtain ⟨w1,rfl,pz⟩:=bL p1
 clear p1
 refine ⟨w1,rfl,fun v1 rv1=>?_⟩
 have p3:=Post.now s1 (show Post cl ρ1 H1 E (.ok (A.ws [w1]) h1) _ from pz)
 exact o E ρ1 h1 H1 w1 v1 Q s1 rv1 p3
def OpN (cl:Cn) (p:Pr) (r:List V->Hp->VK->Prop):Prop:=∀ (E:XK) (ρ:List Addr) (h:Hs) (H:Hp) (ws:List W) (vs:List V) (Q:VK),Sim cl ρ h H->RWs ρ ws vs->Post cl ρ H E (ofW (cV p ws h)) (VP Q)->r vs H Q
theorem qw {p:Pr} {r:List V->Hp->VK->Prop} (o:OpN cl p r) {as:List Ev.X} {Q:VK} (x:tE Pg cl E d (.pr p as) σ H Q):tCB r (tA Pg cl E d as) σ H Q:=by
 obtain ⟨ρ,τ,h,n,s,rs,q⟩:=x.step
 refine ev.then s rs (show Post cl ρ H E ((evs Pg n d (.a as) τ h).bind fun a h=>a.toL fun ws=>ofW (cV p ws h)) (VP Q) from q) fun a1 h1 ρ1 H1 b1 s1 p1=>?_
 obtain ⟨ws,rfl,p1⟩:=iC p1
 exact ⟨ws,rfl,fun vs rv=>o E ρ1 h1 H1 ws vs Q s1 rv p1⟩
end
end Ev
set_option maxRecDepth 100000
set_option maxHeartbeats 4000000
namespace Ev
open PySem L2
section
variable {cl:Cn} {E:XK} {ρ:List Addr} {H:Hp} {h:Hs} {P:A->Hs->List Addr->Hp->Prop}
theorem oI {w:W} {f:Int->R W} (p:Post cl ρ H E (ofW (w.onI f)) P):∃ i,w= .int i/\Post cl ρ H E (ofW (f i)) P:=by
 cases w with
 | int w=>exact ⟨w,rfl,p⟩
 | _=>exact p.elim
theorem oB {w:W} {f t:R W} (p:Post cl ρ H E (ofW (w.onB f t)) P):∃ b,w= .bl b/\Post cl ρ H E (ofW (ifB b t f)) P:=by
 cases w with
 | bl b=>exact ⟨b,rfl,p⟩
 | _=>exact p.elim
theorem oIf {b:Bool} {t:R W} (p:Post cl ρ H E (ofW (ifB b t .no)) P):b=true/\Post cl ρ H E (ofW t) P:=by
 cases b with
 | true=>exact ⟨rfl,p⟩
 | false=>exact p.elim
theorem iD {α:Type} {o:Option α} {f:α->R W} (p:Post cl ρ H E (ofW (Opt o f)) P):∃ w,o=some w/\Post cl ρ H E (ofW (f w)) P:=by
 cases o with
 | some w=>exact ⟨w,rfl,p⟩
 | none=>exact p.elim
theorem oAt {w:W} {f:Nat->O->R W} (s:Sim cl ρ h H) {v:V} (r:RW ρ w v) (p:Post cl ρ H E (ofW (h.at w f)) P):
 ∃ n o a,w= .ref n/\v= .ref a/\ρ[n]? =some a/\h.get n=some o/\OA cl ρ H a o/\Post cl ρ H E (ofW (f n o)) P:=by
 cases w with
 | ref n=>
   obtain ⟨o,e,p⟩:=iD (show Post cl ρ H E (ofW (Opt (h.get n) (f n))) P from p)
   cases r with
   | ref q=>exact ⟨n,o,_,rfl,rfl,q,e,s.at q e,p⟩
 | _=>exact p.elim
theorem oL {o:O} {f:List W->R W} (p:Post cl ρ H E (ofW (o.onL f)) P):∃ xs,o= .lst xs/\Post cl ρ H E (ofW (f xs)) P:=by
 cases o with
 | lst xs=>exact ⟨xs,rfl,p⟩
 | _=>exact p.elim
theorem oIt {o:O} {f:List W->R W} (p:Post cl ρ H E (ofW (o.items f)) P):∃ xs,(o= .lst xs\/o= .tup xs)/\Post cl ρ H E (ofW (f xs)) P:=by
 cases o with
 | lst xs=>exact ⟨xs,.inl rfl,p⟩
 | tup xs=>exact ⟨xs,.inr rfl,p⟩
 | _=>exact p.elim
theorem jc {xs:List W} {k:R W} (p:Post cl ρ H E (ofW (size xs k)) P):xs.length <= 16777215/\Post cl ρ H E (ofW k) P:=by
 obtain ⟨e,p⟩:=oIf p
 rw [ble_eq,len_eq] at e
 exact ⟨of_decide_eq_true e,p⟩
theorem b7:sizeLine=16777216:=sizeLine_eq
theorem Post.yes {b c:Bool} {Q:VK} (s:Sim cl ρ h H) (p:Post cl ρ H E (ofW (.yes b h)) (VP Q)) (e:b=c):Q (.bl c) H:=by subst e;exact Post.bO s p (.bl b)
end
section
variable {cl:Cn}
theorem o5 (i j:Int):j_ i j=i + j:=by cases i <;> cases j <;> rfl
theorem o6 (i j:Int):qm i j=i - j:=by
 cases i with
 | ofNat a=>
   cases j with
   | ofNat b=>
     show (Bool.rec (Int.negSucc (b - a - 1)) (Int.ofNat (a - b)) (Nat.ble b a):Int)=(a:Int) - (b:Int)
     cases z:Nat.ble b a with
     | true=>
       have:=Nat.le_of_ble_eq_true z
       show ((a - b:Nat):Int)=_
       omega
     | false=>
       have:¬ b <= a:=fun q=>by rw [Nat.ble_eq_true_of_le q] at z;cases z
       show Int.negSucc (b - a - 1)=_
       rw [Int.negSucc_eq]
       omega
   | negSucc b=>rfl
 | negSucc a=>
   cases j with
   | ofNat b=>
     show Int.negSucc (a + b)=Int.negSucc a - (b:Int)
     rw [Int.negSucc_eq,Int.negSucc_eq];omega
   | negSucc b=>rfl
theorem vN:Op2 cl .sub (rI0 fun i j=>.int (i - j)):=fun E ρ h H w1 w2 v1 v2 Q s r1 r2 p=>by
 obtain ⟨i,rfl,p⟩:=oI (show Post cl ρ H E (ofW (w1.onI fun i=>w2.onI fun j=>zB h i j)) (VP Q) from p)
 obtain ⟨j,rfl,p⟩:=oI p
 have p:Post cl ρ H E (ofW (.ok (.int (qm i j)) h)) (VP Q):=p
 rw [o6] at p
 cases r1;cases r2
 exact ⟨i,j,rfl,rfl,Post.bO s p (.int _)⟩
theorem sH {i:Int} (h:Sml i=true):L2.Sml i:=by
 unfold L2.Sml
 cases i with
 | ofNat a=>
   have:Nat.ble (a + 1) (2 ^ 4000)=true:=h
   rw [ble_eq] at this
   have:=of_decide_eq_true this
   show a < 2 ^ 4000
   omega
 | negSucc a=>
   have:Nat.ble (a + 2) (2 ^ 4000)=true:=h
   rw [ble_eq] at this
   have:=of_decide_eq_true this
   show a + 1 < 2 ^ 4000
   omega
theorem vO:Op2 cl .pow (rI uy fun i j=>.int (i ^ j.toNat)):=fun E ρ h H w1 w2 v1 v2 Q s r1 r2 p=>by
 obtain ⟨i,rfl,p⟩:=oI (show Post cl ρ H E (ofW (w1.onI fun i=>w2.onI fun j=>zG h i j)) (VP Q) from p)
 obtain ⟨j,rfl,p⟩:=oI p
 obtain ⟨c,p⟩:=oIf p
 obtain ⟨c2,p⟩:=oIf p
 obtain ⟨c3,p⟩:=oIf p
 obtain ⟨c4,p⟩:=oIf p
 rw [bZ] at c c2 c3 c4
 have c:=of_decide_eq_true c
 have c2:=of_decide_eq_true c2
 have c3:=of_decide_eq_true c3
 have c4:=of_decide_eq_true c4
 cases r1;cases r2
 exact ⟨i,j,rfl,rfl,⟨by omega,by omega,by omega⟩,Post.bO s p (.int _)⟩
theorem vP:Op1 cl .neg (rU fun i=>.int (-i)):=fun E ρ h H w1 v1 Q s r1 p=>by
 obtain ⟨i,rfl,p⟩:=oI (show Post cl ρ H E (ofW (w1.onI fun i=>.ok (.int (-i)) h)) (VP Q) from p)
 cases r1
 exact ⟨i,rfl,Post.bO s p (.int _)⟩
theorem oT {E:XK} {ρ:List Addr} {H:Hp} {P:A->Hs->List Addr->Hp->Prop} {o:O} {f:List W->R W} (p:Post cl ρ H E (ofW (o.onT f)) P):∃ xs,o= .tup xs/\Post cl ρ H E (ofW (f xs)) P:=by
 cases o with
 | tup xs=>exact ⟨xs,rfl,p⟩
 | _=>exact p.elim
theorem zP:Op1 cl .kh (fun x H Q=>∃ c,x= .bl c/\Q (.bl (!c)) H):=fun E ρ h H w1 v1 Q s r1 p=>by
 obtain ⟨b,rfl,p⟩:=oB (show Post cl ρ H E (ofW (w1.onB (.yes true h) (.yes false h))) (VP Q) from p)
 cases r1
 refine ⟨b,rfl,?_⟩
 cases b with
 | true=>exact Post.yes s p rfl
 | false=>exact Post.yes s p rfl
def xj:R2:=fun x y H Q=>rI0 (fun i j=>.int (i + j)) x y H Q\/y_ x y H Q
theorem qx:Op2 cl .add xj:=fun E ρ h H w1 w2 v1 v2 Q s r1 r2 p=>by
 have p:Post cl ρ H E (ofW (zA h w1 w2)) (VP Q):=p
 cases w1 with
 | int i=>
   obtain ⟨j,rfl,p⟩:=oI (show Post cl ρ H E (ofW (w2.onI fun j=>.ok (.int (j_ i j)) h)) (VP Q) from p)
   have p:Post cl ρ H E (ofW (.ok (.int (j_ i j)) h)) (VP Q):=p
   rw [o5] at p
   cases r1;cases r2
   exact .inl ⟨i,j,rfl,rfl,Post.bO s p (.int _)⟩
 | ref n=>
   obtain ⟨n,o,a,_,rfl,e1,g1,x1,p⟩:=oAt s r1 (show Post cl ρ H E (ofW (zu h (.ref n) w2)) (VP Q) from p)
   obtain ⟨m,o2,b,_,rfl,e2,g2,x2,p⟩:=oAt s r2 p
   cases o with
   | lst xs=>
     obtain ⟨ys,rfl,p⟩:=oL p
     obtain ⟨z,p⟩:=jc p
     obtain ⟨vs,rv,q1⟩:=x1
     obtain ⟨us,ru,q2⟩:=x2
     rw [cG] at z p
     have l1:=rv.length
     have l2:=ru.length
     rw [List.length_append] at z
     exact .inr ⟨a,b,vs,us,rfl,rfl,q1,q2,by rw [b7];omega,fun p' hp=>Post.newL s p hp (rv.append ru)⟩
   | _=>exact p.elim
 | _=>exact p.elim
def xm:R2:=fun x y H Q=>rI lW (fun i j=>.int (i * j)) x y H Q\/za x y H Q
theorem xq (xs:List W) (k:Nat):uO xs k=(List.replicate k xs).flatten:=by
 induction k with
 | zero=>rfl
 | succ k ih=>
   show app xs (uO xs k)=_
   rw [cG,ih,List.replicate_succ,List.flatten_cons]
theorem RWs.rep {ρ:List Addr} {xs:List W} {vs:List V} (r:RWs ρ xs vs):∀ k:Nat,RWs ρ (List.replicate k xs).flatten (List.replicate k vs).flatten
 | 0=>.nil
 | k + 1=>by rw [List.replicate_succ,List.replicate_succ,List.flatten_cons,List.flatten_cons];exact r.append (RWs.rep r k)
theorem vQ:Op2 cl .mul xm:=fun E ρ h H w1 w2 v1 v2 Q s r1 r2 p=>by
 obtain ⟨j,rfl,p⟩:=oI (show Post cl ρ H E (ofW (zF h w1 w2)) (VP Q) from p)
 cases r2
 cases w1 with
 | int i=>
   obtain ⟨c,p⟩:=oIf (show Post cl ρ H E (ofW (ifB (Sml i) (ifB (Sml j) (.ok (.int (i * j)) h) .no) .no)) (VP Q) from p)
   obtain ⟨c2,p⟩:=oIf p
   cases r1
   exact .inl ⟨i,j,rfl,rfl,.inr ⟨sH c,sH c2⟩,Post.bO s p (.int _)⟩
 | ref n=>
   obtain ⟨n,o,a,_,rfl,e1,g1,x1,p⟩:=oAt s r1 (show Post cl ρ H E (ofW (zE h (.ref n) j)) (VP Q) from p)
   obtain ⟨xs,rfl,p⟩:=oL p
   obtain ⟨c,p⟩:=oIf p
   obtain ⟨c2,p⟩:=oIf p
   obtain ⟨c3,p⟩:=oIf p
   rw [bZ] at c c2
   rw [ble_eq,len_eq] at c3
   have c:=of_decide_eq_true c
   have c2:=of_decide_eq_true c2
   have c3:=of_decide_eq_true c3
   obtain ⟨vs,rv,q1⟩:=x1
   have l:=rv.length
   rw [xq] at p
   refine .inr ⟨a,j,vs,rfl,rfl,q1,by omega,by omega,?_,fun p' hp=>Post.newL s p hp (rv.rep _)⟩
   have:vs.length * j.toNat <= 100 * 100000:=Nat.mul_le_mul (by omega) (by omega)
   rw [b7];omega
 | _=>exact p.elim
theorem sI {n:Nat} {i:Int} {j:Nat} (h:m7 n i=j) (hj:j < n):ixN n i=some j:=by
 unfold ixN
 cases i with
 | ofNat k=>
   have h:k=j:=h
   rw [if_pos (by show (0:Int) <= (k:Int);omega),if_pos (by show (k:Int) < n;omega)]
   exact congrArg some h
 | negSucc k=>
   have h:ifB (Nat.ble (k + 1) n) (n - (k + 1)) n=j:=h
   rw [ble_eq] at h
   by_cases c:k + 1 <= n
   · rw [decide_eq_true c] at h
     have h:n - (k + 1)=j:=h
     rw [if_neg (by omega),if_pos (by omega)]
     exact congrArg some (by omega)
   · rw [decide_eq_false c] at h
     have h:n=j:=h
     omega
theorem sJ {vs:List V} {xs:List W} {ρ:List Addr} {i:Int} {w:W} (r:RWs ρ xs vs) (e:nth xs (m7 (len xs) i)=some w):∃ v,atI vs i=some v/\RW ρ w v:=by
 rw [cH,len_eq] at e
 obtain ⟨v,ev,rv⟩:=r.get e
 refine ⟨v,?_,rv⟩
 unfold atI
 have hl:=r.length
 have hlt:=(List.getElem?_eq_some_iff.mp ev).1
 rw [hl] at ev hlt
 rw [sI rfl hlt]
 exact ev
theorem Ed {K:PySem.W.Frag}:Op2 cl .ix (rIx K):=fun E ρ h H w1 w2 v1 v2 Q s r1 r2 p=>by
 obtain ⟨n,o,a,rfl,rfl,e1,g1,x1,p⟩:=oAt s r1 (show Post cl ρ H E (ofW (pIx h w1 w2)) (VP Q) from p)
 obtain ⟨xs,e,p1⟩:=oIt p
 obtain ⟨i,rfl,p2⟩:=oI p1
 obtain ⟨w,ew,p3⟩:=iD p2
 cases r2
 rcases e with rfl | rfl
 · obtain ⟨vs,rv,q⟩:=x1
   obtain ⟨v,ev,rw⟩:=sJ rv ew
   exact .inl ⟨a,vs,i,v,rfl,rfl,SqL.of q,ev,Post.bO s p3 rw⟩
 · obtain ⟨vs,rv,q⟩:=x1
   obtain ⟨v,ev,rw⟩:=sJ rv ew
   exact .inr (.inl ⟨a,vs,i,v,rfl,rfl,SqT.of q,ev,Post.bO s p3 rw⟩)
theorem vR {ρ:List Addr} {ws:List W} {vs:List V} {f:W->R W} {P:A->Hs->List Addr->Hp->Prop} {H:Hp} {E:XK} (r:RWs ρ ws vs) (p:Post cl ρ H E (ofW (cU ws f)) P):∃ w v,ws= [w]/\vs= [v]/\RW ρ w v/\Post cl ρ H E (ofW (f w)) P:=by
 cases r with
 | nil=>exact p.elim
 | cons r1 t=>cases t with
   | nil=>exact ⟨_,_,rfl,rfl,r1,p⟩
   | cons _ _=>exact p.elim
theorem vU {ρ:List Addr} {ws:List W} {vs:List V} {f:W->W->R W} {P:A->Hs->List Addr->Hp->Prop} {H:Hp} {E:XK} (r:RWs ρ ws vs) (p:Post cl ρ H E (ofW (cF ws f)) P):∃ w v w' v',ws= [w,w']/\vs= [v,v']/\RW ρ w v/\RW ρ w' v'/\Post cl ρ H E (ofW (f w w')) P:=by
 cases r with
 | nil=>exact p.elim
 | cons r1 t=>cases t with
   | nil=>exact p.elim
   | cons r2 t=>cases t with
     | nil=>exact ⟨_,_,_,_,rfl,rfl,r1,r2,p⟩
     | cons _ _=>exact p.elim
theorem Ck:OpN cl .tup (fun xs H Q=>xs.length <= sizeLine/\∀ p,H p=none->Q (.ref p) (upd H p (.tup xs))):=fun E ρ h H ws vs Q s r p=>by
 obtain ⟨z,p⟩:=jc (show Post cl ρ H E (ofW (size ws (.alloc h (.tup ws)))) (VP Q) from p)
 have:=r.length
 exact ⟨by rw [b7];omega,fun p' hp=>Post.qu s p hp r⟩
theorem Cm:OpN cl .lst (fun xs H Q=>xs.length <= sizeLine/\∀ p,H p=none->Q (.ref p) (upd H p (.lst xs))):=fun E ρ h H ws vs Q s r p=>by
 obtain ⟨z,p⟩:=jc (show Post cl ρ H E (ofW (size ws (.alloc h (.lst ws)))) (VP Q) from p)
 have:=r.length
 exact ⟨by rw [b7];omega,fun p' hp=>Post.newL s p hp r⟩
end
end Ev
set_option maxRecDepth 100000
set_option maxHeartbeats 4000000
namespace Ev
open PySem PySem.Spec PySem.SeqAt PyProof.Rows L2
section
variable {cl:Cn}
def OpM (cl:Cn) (p:Pr) (r:V->List V->Hp->VK->Prop):Prop:=∀ (E:XK) (ρ:List Addr) (h:Hs) (H:Hp) (w:W) (v:V) (ws:List W) (vs:List V) (Q:VK),Sim cl ρ h H->RW ρ w v->RWs ρ ws vs->Post cl ρ H E (ofW (cV p (w::ws) h)) (VP Q)->r v vs H Q
theorem uQ:OpM cl .append oW:=fun E ρ h H w v ws vs Q s r rs p=>by
 obtain ⟨w1,v1,w2,v2,e,e',r1,r2,p1⟩:=vU (.cons r rs) (show Post cl ρ H E (ofW (cF (w::ws) (gk h))) (VP Q) from p)
 cases e;cases e'
 obtain ⟨n,o,a,rfl,rfl,e1,g1,x1,p2⟩:=oAt s r1 p1
 obtain ⟨xs,rfl,p3⟩:=oL p2
 obtain ⟨z,p4⟩:=jc p3
 obtain ⟨us,ru,q⟩:=x1
 have hl:=ru.length
 rw [cG] at p4
 exact ⟨a,us,v2,rfl,rfl,q,by rw [b7];omega,Post.putL s p4 e1 (ru.append (.cons r2 .nil)) .non⟩
theorem xr {K:PySem.W.Frag} {E:XK} {ρ:List Addr} {h:Hs} {H:Hp} {w:W} {v:V} {Q:VK} (s:Sim cl ρ h H) (r:RW ρ w v) (p:Post cl ρ H E (ofW (cV .truth [w] h)) (VP Q)):∃ k,pR K v H k/\Q (.bl k) H:=by
 have p:Post cl ρ H E (ofW (rZ h w)) (VP Q):=p
 cases r with
 | non=>exact ⟨false,rfl,Post.yes s p rfl⟩
 | bl b=>exact ⟨b,rfl,Post.yes s p rfl⟩
 | int i=>
   refine ⟨i != 0,rfl,Post.yes s p ?_⟩
   rw [jJ]
   by_cases z:i=0
   · subst z;rfl
   · rw [decide_eq_false z];exact (bne_iff_ne.mpr z).symm
 | str c=>exact p.elim
 | @ref n a q=>
   obtain ⟨n,o,a',e0,e0',e1,g1,x1,p1⟩:=oAt s (.ref q) (show Post cl ρ H E (ofW (h.at (.ref n) fun _ o=>o.items fun xs=>.yes (uP xs) h)) (VP Q) from p)
   cases e0;cases e0'
   obtain ⟨xs,e,p2⟩:=oIt p1
   have ne:∀ {vs:List V},RWs ρ xs vs->uP xs= !vs.isEmpty:=fun r=>by cases r <;> rfl
   rcases e with rfl | rfl
   · obtain ⟨us,ru,q2⟩:=x1
     exact ⟨_,.inl ⟨us,SqL.of q2,rfl⟩,Post.yes s p2 (ne ru)⟩
   · obtain ⟨us,ru,q2⟩:=x1
     exact ⟨_,.inr (.inl ⟨us,SqT.of q2,rfl⟩),Post.yes s p2 (ne ru)⟩
mutual
def pd:D->PyData
 | .non=>.none | .bl b=>.bool b | .int i=>.int i | .str c=>.str ⟨c.toArray⟩ | .lst xs=>.list (pds xs) | .tup xs=>.tuple (pds xs)
def pds:List D->List PyData
 | []=>[]
 | x::xs=>pd x::pds xs
end
theorem qy (i j:Int):(i == j)=ieq i j:=by
 rw [jJ]
 by_cases z:i=j
 · subst z;simp
 · rw [decide_eq_false z];exact beq_eq_false_iff_ne.mpr z
theorem vV (x y:List Nat):(({ cps:=x.toArray }:Str) == { cps:=y.toArray })=codes x y:=by
 cases z:codes x y with
 | true=>rw [jb.mp z];exact beq_self_eq_true _
 | false=>exact beq_eq_false_iff_ne.mpr fun q=>by rw [jb.mpr (zL q)] at z;cases z
mutual
theorem sO:∀ a b:D,PyData.eqv (pd a) (pd b)=bU a b
 | .non,b=>by cases b <;> simp only [pd,PyData.eqv,bU]
 | .bl x,b=>by cases b <;> simp only [pd,PyData.eqv,bU,qy]
 | .int x,b=>by cases b <;> simp only [pd,PyData.eqv,bU,qy]
 | .str x,b=>by cases b <;> simp only [pd,PyData.eqv,bU,vV]
 | .lst xs,b=>by
   cases b <;> simp only [pd,PyData.eqv,bU]
   exact kj xs _
 | .tup xs,b=>by
   cases b <;> simp only [pd,PyData.eqv,bU]
   exact kj xs _
theorem kj:∀ a b:List D,PyData.eqvAll (pds a) (pds b)=fQ a b
 | [],b=>by cases b <;> simp only [pds,PyData.eqvAll,fQ]
 | x::xs,b=>by
   cases b with
   | nil=>simp only [pds,PyData.eqvAll,fQ]
   | cons y ys=>simp only [pds,PyData.eqvAll,fQ,sO x y,kj xs ys]
end
theorem zQ:∀ c:List Nat,okC c=true->PySem.PyData.canLay0 (.str ⟨c.toArray⟩)=true:=fun c h=>by
 have:∀ x ∈ c,x < 1114112:=by
  induction c with
  | nil=>intro x hx;cases hx
  | cons y c ih=>
    have h:ifB (Nat.ble (y + 1) 1114112) (okC c) false=true:=h
    rw [ble_eq] at h
    by_cases z:y + 1 <= 1114112
    · rw [decide_eq_true z] at h
      intro x hx
      rcases List.mem_cons.mp hx with rfl | hx
      · omega
      · exact ih h x hx
    · rw [decide_eq_false z] at h;cases h
 simp only [PyData.canLay0]
 first | (unfold PyData.strOk;simpa using this) | simpa [PySem.strOk] using this
theorem gm {ρ:List Addr} {h:Hs} {H:Hp} (s:Sim cl ρ h H):∀ (n:Nat) {w:W} {v:V} {dd:D},RW ρ w v->toD h n w=some dd->Rep H v (pd dd)/\(pd dd).canLay0=true/\(pd dd).depth <= n
 | 0,_,_,_,_,e=>nomatch e
 | n + 1,w,v,dd,r,e=>by
   have all:∀ {xs:List W} {vs:List V} {ds:List D},RWs ρ xs vs->cA (toD h n) xs=some ds->aM H vs (pds ds)/\PyData.canLayAll0 (pds ds)=true/\PyData.depthAll (pds ds) <= n:=by
    intro xs
    induction xs with
    | nil=>
      intro vs ds r e
      cases r;cases e
      exact ⟨.nil,by simp only [pds,PyData.canLayAll0],by simp only [pds,PyData.depthAll];omega⟩
    | cons x xs ih=>
      intro vs ds r e
      cases r with
      | cons r1 t=>
        have e:Option.rec none (fun d=>Option.rec none (fun ds=>some (d::ds)) (cA (toD h n) xs)) (toD h n x)=some ds:=e
        cases h1:toD h n x with
        | none=>rw [h1] at e;cases e
        | some d1=>
          rw [h1] at e
          cases h2:cA (toD h n) xs with
          | none=>rw [h2] at e;cases e
          | some ds2=>
            rw [h2] at e
            have e:some (d1::ds2)=some ds:=e
            cases e
            obtain ⟨a1,a2,a3⟩:=gm s n r1 h1
            obtain ⟨b1,b2,b3⟩:=ih t h2
            refine ⟨.cons a1 b1,?_,?_⟩
            · simp only [pds,PyData.canLayAll0,a2,b2];rfl
            · simp only [pds,PyData.depthAll];omega
   cases r with
   | non=>cases e;exact ⟨.non,by simp only [pd,PyData.canLay0],by simp only [pd,PyData.depth];omega⟩
   | bl b=>cases e;exact ⟨.bl b,by simp only [pd,PyData.canLay0],by simp only [pd,PyData.depth];omega⟩
   | int i=>cases e;exact ⟨.int i,by simp only [pd,PyData.canLay0],by simp only [pd,PyData.depth];omega⟩
   | str c=>
     have e:ifB (okC c) (some (D.str c)) none=some dd:=e
     cases z:okC c with
     | false=>rw [z] at e;cases e
     | true=>
       rw [z] at e
       cases e
       exact ⟨.str _,zQ c z,by simp only [pd,PyData.depth];omega⟩
   | @ref k a q=>
     cases hg:h.get k with
     | none=>
       have:toD h (n + 1) (.ref k)=none:=by
        show Option.rec (motive:=fun _=>Option D) none _ (h.get k)=none
        rw [hg]
       rw [this] at e;cases e
     | some o=>
       have x:=s.at q hg
       cases o with
       | tup xs=>
         have:toD h (n + 1) (.ref k)=Option.rec none (fun ds=>some (D.tup ds)) (cA (toD h n) xs):=by
          show Option.rec (motive:=fun _=>Option D) none _ (h.get k)=_
          rw [hg]
          rfl
         rw [this] at e
         cases h2:cA (toD h n) xs with
         | none=>rw [h2] at e;cases e
         | some ds=>
           rw [h2] at e
           have e:some (D.tup ds)=some dd:=e
           cases e
           obtain ⟨vs,rv,qq⟩:=x
           obtain ⟨b1,b2,b3⟩:=all rv h2
           exact ⟨.tup qq b1,by simp only [pd,PyData.canLay0];exact b2,by simp only [pd,PyData.depth];omega⟩
       | lst xs=>
         have:toD h (n + 1) (.ref k)=Option.rec none (fun ds=>some (D.lst ds)) (cA (toD h n) xs):=by
          show Option.rec (motive:=fun _=>Option D) none _ (h.get k)=_
          rw [hg]
          rfl
         rw [this] at e
         cases h2:cA (toD h n) xs with
         | none=>rw [h2] at e;cases e
         | some ds=>
           rw [h2] at e
           have e:some (D.lst ds)=some dd:=e
           cases e
           obtain ⟨vs,rv,qq⟩:=x
           obtain ⟨b1,b2,b3⟩:=all rv h2
           exact ⟨.lst qq b1,by simp only [pd,PyData.canLay0];exact b2,by simp only [pd,PyData.depth];omega⟩
       | _=>
         have:toD h (n + 1) (.ref k)=none:=by
          show Option.rec (motive:=fun _=>Option D) none _ (h.get k)=none
          rw [hg]
         rw [this] at e;cases e
theorem lC {d:PyData} (h1:d.canLay0=true) (h2:d.depth <= 12):shaped d=true:=by
 unfold shaped
 rw [h1,decide_eq_true (by omega)];rfl
theorem Cp {p:Pr} {f:Bool->Bool} (hp:∀ h w1 w2,cV p [w1,w2] h=pEq f h w1 w2):Op2 cl p (fun x y H Q=>∃ dx dy,Rep H x dx/\Rep H y dy/\shaped dx=true/\shaped dy=true/\Q (.bl (f (PyData.eqv dx dy))) H):=fun E ρ h H w1 w2 v1 v2 Q s r1 r2 p=>by
 rw [hp] at p
 obtain ⟨x,ex,p1⟩:=iD p
 obtain ⟨y,ey,p2⟩:=iD p1
 obtain ⟨a1,a2,a3⟩:=gm s 12 r1 ex
 obtain ⟨b1,b2,b3⟩:=gm s 12 r2 ey
 exact ⟨_,_,a1,b1,lC a2 a3,lC b2 b3,Post.yes s p2 (by rw [sO])⟩
theorem Ef:Op2 cl .eq zb:=Cp (f:=id) fun _ _ _=>rfl
mutual
theorem o7:∀ a b:D,PySem.Spec.same (pd a) (pd b)=bH a b
 | .non,b=>by cases b <;> simp only [pd,PySem.Spec.same,bH]
 | .bl x,b=>by cases b <;> simp only [pd,PySem.Spec.same,bH]
 | .int x,b=>by cases b <;> simp only [pd,PySem.Spec.same,bH,qy]
 | .str x,b=>by cases b <;> simp only [pd,PySem.Spec.same,bH,vV]
 | .lst xs,b=>by
   cases b <;> simp only [pd,PySem.Spec.same,bH]
   exact jt xs _
 | .tup xs,b=>by
   cases b <;> simp only [pd,PySem.Spec.same,bH]
   exact jt xs _
theorem jt:∀ a b:List D,PySem.Spec.sameAll (pds a) (pds b)=cY a b
 | [],b=>by cases b <;> simp only [pds,PySem.Spec.sameAll,cY]
 | x::xs,b=>by
   cases b with
   | nil=>simp only [pds,PySem.Spec.sameAll,cY]
   | cons y ys=>simp only [pds,PySem.Spec.sameAll,cY,o7 x y,jt xs ys]
end
end
end Ev
set_option maxRecDepth 100000
set_option maxHeartbeats 4000000
namespace Ev
open PySem PySem.Spec PySem.SeqAt PyProof.Rows L2
section
variable {Pg:List Fn} {cl:Cn} {E:XK} {d:Nat} {X:Cx} {σ:L2.St} {H:Hp}
theorem cP {op:Operator} {p:Pr} {r:R2} {a b:Expr} {x y:Ev.X} {pos:Pos} (z:Op2 cl p r) (o:OpR X (binaryOp op) r) (ha:PE X a (tE Pg cl E d x)) (hb:PE X b (tE Pg cl E d y)):PE X (.BinOp a op b pos) (tE Pg cl E d (.pr p [x,y])):=
 PE.of (aN o ha hb) fun _ _ _ q=>jM z q
theorem vW {op:UnaryOp} {p:Pr} {r:V->Hp->VK->Prop} {a:Expr} {x:Ev.X} {pos:Pos} (z:Op1 cl p r) (o:UnR X (unaryOp op) r) (ha:PE X a (tE Pg cl E d x)):PE X (.UnaryOp op a pos) (tE Pg cl E d (.pr p [x])):=
 PE.of (By o ha) fun _ _ _ q=>jN z q
theorem zR {op:CmpOp} {p:Pr} {r:R2} {a b:Expr} {x y:Ev.X} {pos:Pos} (z:Op2 cl p r) (o:OpR X (compareOp op) r) (ha:PE X a (tE Pg cl E d x)) (hb:PE X b (tE Pg cl E d y)) (hm:behindInMarks op b=false):PT X (.Compare a [op] [b] pos) (tT Pg cl E d (.pr p [x,y])):=
 PT.of (gh o ha hb hm) fun _ _ _ q=>jM z q
theorem zT {a:Expr} {x:Ev.X} {pos} (ha:PT X a (tT Pg cl E d x)):PT X (.UnaryOp .Not a pos) (tT Pg cl E d (.pr .kh [x])):=PT.of (mH ha) fun σ H Q q=>by
 obtain ⟨ρ,τ,h,n,s,r,p⟩:=(show tE Pg cl E d x σ H (fun v H1=>∃ c,v= .bl c/\∃ b,V.bl (!c)= .bl b/\Q b H1) from jN zP q)
 refine ⟨ρ,τ,h,n,s,r,p.mono fun a h ρ H _ _ ⟨w,e,g⟩=>⟨w,e,fun v rv=>?_⟩⟩
 obtain ⟨c,ec,b,eb,qb⟩:=g v rv
 cases eb
 exact ⟨c,ec,qb⟩
theorem uR {a:Expr} {x:Ev.X} (ha:PE X a (tE Pg cl E d x)) (he:∀ whole,isTrue a X.env whole=(do let v <- whole;standAt a.pos;holding [v] (truthy v))):PT X a (tT Pg cl E d (.pr .truth [x])):=PT.of (uA ha he) fun σ H Q q=>
 jN (r:=fun v H1 Q'=>∃ k,pR X.K v H1 k/\Q' (.bl k) H1) (fun E ρ h H w v Q s r p=>xr s r p) q |> fun z=>by
 obtain ⟨ρ,τ,h,n,s,r,p⟩:=z
 refine ⟨ρ,τ,h,n,s,r,p.mono fun a h ρ H _ _ ⟨w,e,g⟩=>⟨w,e,fun v rv=>?_⟩⟩
 obtain ⟨k,t,b,eb,qb⟩:=g v rv
 cases eb
 exact ⟨k,t,qb⟩
theorem jO (n d:Nat) (o:Option Int):sIx n d o=HT.sIx n d o:=by
 cases o with
 | none=>rfl
 | some i=>cases i with
   | ofNat k=>
     show ifB (Nat.ble k n) k n=if (Int.ofNat k) < 0 then ((Int.ofNat k) + (n:Int)).toNat else min (Int.ofNat k).toNat n
     rw [if_neg (by show ¬ (k:Int) < 0;omega),ble_eq]
     show _=min k n
     by_cases c:k <= n
     · rw [decide_eq_true c,Nat.min_eq_left c];rfl
     · rw [decide_eq_false c,Nat.min_eq_right (by omega)];rfl
   | negSucc k=>
     show n - (k + 1)=if (Int.negSucc k) < 0 then ((Int.negSucc k) + (n:Int)).toNat else min (Int.negSucc k).toNat n
     rw [if_pos (by omega)]
     omega
def tO (o:Option Ev.X) (Pg:List Fn) (cl:Cn) (E:XK) (d:Nat):TO:=match o with
 | none=>oU
 | some e=>vD (tE Pg cl E d e)
theorem xu:PO X none (tO none Pg cl E d):=wR
theorem xF {e:Expr} {x:Ev.X} (h:PE X e (tE Pg cl E d x)):PO X (some e) (tO (some x) Pg cl E d):=wU h
theorem o8 {e:Option Ev.X} {ρ:List Addr} {τ:Sg} {h:Hs} {n:Nat} {k:Option Int->Hs->R A} {P:A->Hs->List Addr->Hp->Prop} {Q:Option Int->Hp->Prop} (s:Sim cl ρ h H) (rs:RS ρ τ σ) (p:Post cl ρ H E (jr (aZ Pg d) n e τ h k) P)
 (g:∀ i h1 ρ1 H1,Bt cl ρ H ρ1 H1->Sim cl ρ1 h1 H1->Post cl ρ1 H1 E (k i h1) P->Q i H1):tO e Pg cl E d σ H Q:=by
 cases e with
 | none=>exact g none h ρ H Bt.refl s p
 | some e=>
   refine ev.then s rs (show Post cl ρ H E ((evs Pg n d (.x e) τ h).bind fun a h=>a.toW fun w=>w.onI fun i=>k (some i) h) P from p) fun a1 h1 ρ1 H1 b1 s1 p1=>?_
   obtain ⟨w,rfl,p2⟩:=bL p1
   obtain ⟨i,rfl,p3⟩:=su p2
   refine ⟨_,rfl,fun v rv=>?_⟩
   cases rv
   exact ⟨i,rfl,g (some i) h1 ρ1 H1 b1 s1 p3⟩
def zU (K:PySem.W.Frag):V->Option Int->Option Int->Hp->VK->Prop:=fun x lo hi H Q=>yX K x lo hi H Q\/yP K x lo hi H Q
theorem uT {K:PySem.W.Frag} {a:Ev.X} {lo hi:Option Ev.X} {Q:VK} (x:tE Pg cl E d (.slice a lo hi) σ H Q):tSl (zU K) (tE Pg cl E d a) (tO lo Pg cl E d) (tO hi Pg cl E d) σ H Q:=by
 obtain ⟨ρ,τ,h,n,s,rs,z⟩:=x.step
 refine ev.then s rs (show Post cl ρ H E ((evs Pg n d (.x a) τ h).bind fun r h=>r.toW fun w=>jr (aZ Pg d) n lo τ h fun l h=>jr (aZ Pg d) n hi τ h fun u h=>h.at w fun _ o=>
  O.rec (fun xs=>ifB (ifB (Nat.beq (sIx (len xs) 0 l) 0) (Nat.beq (sIx (len xs) (len xs) u) (len xs)) false) .no (ofW (.alloc h (.tup (tak (drp xs (sIx (len xs) 0 l)) (sIx (len xs) (len xs) u - sIx (len xs) 0 l)))))) (fun xs=>ofW (.alloc h (.lst (tak (drp xs (sIx (len xs) 0 l)) (sIx (len xs) (len xs) u - sIx (len xs) 0 l))))) (fun _ _=>.no) (fun _=>.no) (fun _=>.no) o) (VP Q) from z) fun a1 h1 ρ1 H1 b1 s1 p1=>?_
 obtain ⟨w,rfl,p2⟩:=bL p1
 refine ⟨w,rfl,fun v rv=>?_⟩
 refine o8 s1 (rs.mono b1.1) p2 fun l h2 ρ2 H2 b2 s2 p3=>?_
 refine o8 s2 ((rs.mono b1.1).mono b2.1) p3 fun u h3 ρ3 H3 b3 s3 p4=>?_
 obtain ⟨k,o,ad,_,rfl,e1,g1,x1,p5⟩:=at_of s3 (rv.mono (b2.1.trans b3.1)) p4
 cases o with
 | lst xs=>
   obtain ⟨vs,ru,q⟩:=x1
   have p6:Post cl ρ3 H3 E (ofW (.alloc h3 (.lst (tak (drp xs (sIx (len xs) 0 l)) (sIx (len xs) (len xs) u - sIx (len xs) 0 l))))) (VP Q):=p5
   rw [m9,m8,len_eq,jO,jO,ru.length] at p6
   exact .inl ⟨ad,vs,rfl,SqL.of q,fun p hp=>Post.newL s3 p6 hp ((ru.drop _).take _)⟩
 | tup xs=>
   obtain ⟨vs,ru,q⟩:=x1
   have p6:Post cl ρ3 H3 E (ifB (ifB (Nat.beq (sIx (len xs) 0 l) 0) (Nat.beq (sIx (len xs) (len xs) u) (len xs)) false) .no (ofW (.alloc h3 (.tup (tak (drp xs (sIx (len xs) 0 l)) (sIx (len xs) (len xs) u - sIx (len xs) 0 l)))))) (VP Q):=p5
   rw [m9,m8,len_eq,jO,jO,ru.length] at p6
   refine .inr ⟨ad,vs,rfl,SqT.of q,?_,fun p hp=>?_⟩
   · rintro ⟨c1,c2⟩
     rw [cC.mpr c1,cC.mpr c2] at p6
     exact p6.elim
   · cases c:ifB (Nat.beq (HT.sIx vs.length 0 l) 0) (Nat.beq (HT.sIx vs.length vs.length u) vs.length) false with
     | true=>rw [c] at p6;exact p6.elim
     | false=>rw [c] at p6;exact Post.qu s3 p6 hp ((ru.drop _).take _)
 | _=>exact p5.elim
theorem uU {e:Expr} {lo hi:Option Expr} {x:Ev.X} {xl xh:Option Ev.X} {pos p2:Pos} (he:PE X e (tE Pg cl E d x)) (hl:PO X lo (tO xl Pg cl E d)) (hh:PO X hi (tO xh Pg cl E d)):PE X (.Subscript e (.Slice lo hi none p2) pos) (tE Pg cl E d (.slice x xl xh)):=
 PE.of (uE (wW.or yQ) he hl hh) fun _ _ _ q=>uT q
theorem d7 {a b:Expr} {x y:Ev.X} {pos:Pos} (ha:PE X a (tE Pg cl E d x)) (hb:PE X b (tE Pg cl E d y)) (hs:j7 b:=by exact fun _ _=>rfl):PE X (.Subscript a b pos) (tE Pg cl E d (.pr .ix [x,y])):=
 PE.of (iW mQ ha hb hs) fun _ _ _ q=>jM Ed q
theorem sS {es:List Expr} {xs:List Ev.X} {x1 pos} (h:PA X es (tA Pg cl E d xs)):PE X (.Tuple es x1 pos) (tE Pg cl E d (.pr .tup xs)):=PE.of (yL h) fun _ _ _ q=>qw Ck q
theorem jP {es:List Expr} {xs:List Ev.X} {pos} (h:PA X es (tA Pg cl E d xs)):PE X (.List es pos) (tE Pg cl E d (.pr .lst xs)):=PE.of (ig h) fun _ _ _ q=>qw Cm q
theorem xG {K:PySem.W.Frag} {p:Pr} {r:V->List V->Hp->VK->Prop} (o:OpM cl p r) {a:Ev.X} {as:List Ev.X} {Q:VK} (x:tE Pg cl E d (.lm p a as) σ H Q):tBM K "list" r (tE Pg cl E d a) (tA Pg cl E d as) σ H Q:=by
 obtain ⟨ρ,τ,h,n,s,rs,q⟩:=x.step
 refine ev.then s rs (show Post cl ρ H E ((evs Pg n d (.x a) τ h).bind fun r h=>r.toW fun w=>h.at w fun _ o=>o.onL fun _=>(evs Pg n d (.a as) τ h).bind fun r h=>r.toL fun ws=>ofW (cV p (w::ws) h)) (VP Q) from q) fun a1 h1 ρ1 H1 b1 s1 p1=>?_
 obtain ⟨w1,rfl,p2⟩:=bL p1
 refine ⟨w1,rfl,fun v1 rv1=>?_⟩
 obtain ⟨k,ob,ad,rfl,rfl,e1,g1,x1,p3⟩:=at_of s1 rv1 p2
 obtain ⟨xs,rfl,p4⟩:=zN p3
 obtain ⟨vs,ru,qh⟩:=x1
 refine ⟨.inl ⟨rfl,_,SqL.of qh⟩,?_⟩
 refine ev.then s1 (rs.mono b1.1) p4 fun a2 h2 ρ2 H2 b2 s2 p5=>?_
 obtain ⟨ws,rfl,p6⟩:=iC p5
 exact ⟨ws,rfl,fun us ru'=>o E ρ2 h2 H2 _ _ ws us Q s2 (rv1.mono b2.1) ru' p6⟩
theorem Cq {p:Pr} {r:V->List V->Hp->VK->Prop} {o e:Expr} {es:List Expr} {x y:Ev.X} {ys:List Ev.X} {name:Str} {id:String} {apos cpos:Pos} (z:OpM cl p r) (slot:Slot "list" name id) (hty:typeOf (.builtin id)=pure (.type "method_descriptor")) (hm:MtM X id r)
 (ho:PE X o (tE Pg cl E d x)) (ha:PA X (e::es) (tA Pg cl E d (y::ys))) (hbase:attributeBase o name X.env (eval o X.env)=eval o X.env:=by rfl)
 (hfew:((backTo cpos (starEach (e::es) X.env)).all (fun x=> !x.1) && (backToKw cpos (keywordEach [] X.env)).all (fun x=>x.1.isSome)
   && decide ((e::es).length + ([]:List Keyword).length + (if ([]:List Keyword).isEmpty then 0 else 1) < 30))=true:=by rfl)
 (hline:(apos.endLine == cpos.line)=true:=by rfl) (hs:starEach (e::es) X.env=(false,eval e X.env)::starEach es X.env:=by rfl) (hplain:(backTo cpos (starEach es X.env)).any (·.1)=false:=by rfl):
 PE X (.Call (.Attribute o name apos) (e::es) [] cpos) (tE Pg cl E d (.lm p x (y::ys))):=PE.of (lV PySem.F.plainAttrs_list slot hty hm ho ha hbase hfew hline hs hplain) fun _ _ _ q=>xG z q
theorem fL {p:Pr} {r:List V->Hp->VK->Prop} {x:Str} {e:Expr} {es:List Expr} {y:Ev.X} {ys:List Ev.X} {T:String} {pos q:Pos} (z:OpN cl p r) (hc:bT X (.type T) r) (hg:Gl X x) (hm:X.mg x=none) (hv:bootBuiltins x=some (.type T)) (ha:PA X (e::es) (tA Pg cl E d (y::ys))) (hn:x ≠ "__name__":=by decide) (hdb:(x == ("__debug__":Str))=false:=by decide)
 (he:starEach (e::es) X.env=(false,eval e X.env)::starEach es X.env:=by rfl) (hpl:(backTo pos (starEach es X.env)).any (·.1)=false:=by rfl):PE X (.Call (.Name x q) (e::es) [] pos) (tE Pg cl E d (.pr p (y::ys))):=
 PE.of (rJ hc hg hm hv ha hn hdb he hpl) fun _ _ _ q=>qw z q
end
end Ev
set_option maxRecDepth 100000
set_option maxHeartbeats 4000000
namespace Ev
open PySem PySem.Spec PySem.SeqAt PyProof.Rows L2
section
mutual
def vars:Tg->List Nat
 | .nm i=>[i]
 | .tup ts=>jQ ts
def jQ:List Tg->List Nat
 | []=>[]
 | t::ts=>vars t ++ jQ ts
end
def Off (vs:List Nat) (σ σ':L2.St):Prop:=σ'.length=σ.length/\∀ i,i ∉ vs->σ'[i]? =σ[i]?
def tG (cl:Cn) (t:Tg):TG:=fun v σ H Q=>∃ ρ h w τ n τ',Sim cl ρ h H/\RW ρ w v/\RS ρ τ σ/\aQ h n t w τ=some τ'/\∀ σ',RS ρ τ' σ'->Off (vars t) σ σ'->Q σ' H
variable {Pg:List Fn} {cl:Cn} {E:XK} {d:Nat} {X:Cx} {σ:L2.St} {H:Hp}
theorem PG.of {e:Expr} {t t':TG} (h:PG X e t) (f:∀ v σ H Q,t' v σ H Q->t v σ H Q):PG X e t':=fun pins s σ H v u Q I r q=>h pins s σ H v u Q I r (f v σ H Q q)
theorem nj {i:Nat} {v:V} {Q:L2.St->Hp->Prop} (x:tG cl (.nm i) v σ H Q):pM i v σ H Q:=by
 obtain ⟨ρ,h,w,τ,n,τ',s,r,rs,e,q⟩:=x
 cases n with
 | zero=>cases e
 | succ n=>
   have e:some (setAt τ (some w) i)=some τ':=e
   cases e
   refine q _ (rs.set r i) ⟨List.length_set,fun j hj=>?_⟩
   have ne:i ≠ j:=fun z=>hj (by simp [vars,z])
   rw [List.getElem?_set_ne ne]
theorem xH {i:Nat} {x:Str} {pos:Pos} (hN:X.N.Nodup) (hi:X.N[i]? =some x) (hx:Loc X.env.scope x) (hf:X.fn x=true\/X.env.scope.names.lookup x=some .local:=by first | exact .inl rfl | exact .inr rfl | assumption):PG X (.Name x pos) (tG cl (.nm i)):=PG.of (iU hN hi hx hf) fun _ _ _ _ q=>nj q
theorem sU {α:Type} (τ:Sg) (w:W) (i j:Nat):aH (setAt τ (some w) i) j=none->aH τ j=none/\(j=i->τ.length <= j):=by
 rw [dR,dU,dU]
 intro h
 by_cases z:i=j
 · subst z
   by_cases l:i < τ.length
   · rw [List.getElem?_set_self l] at h;cases h
   · refine ⟨?_,fun _=>Nat.not_lt.mp l⟩
     rw [List.getElem?_eq_none (Nat.not_lt.mp l)];rfl
 · rw [List.getElem?_set_ne z] at h
   exact ⟨h,fun q=>absurd q.symm z⟩
theorem bind_none {h:Hs}:∀ (n:Nat) {t:Tg} {w:W} {τ τ':Sg},aQ h n t w τ=some τ'->τ'.length=τ.length/\∀ i,aH τ' i=none->aH τ i=none/\(i ∈ vars t->τ.length <= i)
 | 0,_,_,_,_,e=>nomatch e
 | n + 1,t,w,τ,τ',e=>by
   have lst:∀ (ts:List Tg) (ws:List W) (τ τ':Sg),bindL (aQ h n) ts ws τ=some τ'->τ'.length=τ.length/\∀ i,aH τ' i=none->aH τ i=none/\(i ∈ jQ ts->τ.length <= i):=by
    intro ts
    induction ts with
    | nil=>
      intro ws τ τ' e
      cases ws with
      | nil=>cases e;exact ⟨rfl,fun i hi=>⟨hi,fun z=>by simp [jQ] at z⟩⟩
      | cons _ _=>cases e
    | cons t ts ih=>
      intro ws τ τ' e
      cases ws with
      | nil=>cases e
      | cons y ys=>
        have e:Option.rec none (fun τ=>bindL (aQ h n) ts ys τ) (aQ h n t y τ)=some τ':=e
        cases e1:aQ h n t y τ with
        | none=>rw [e1] at e;cases e
        | some τ1=>
          rw [e1] at e
          obtain ⟨l1,a1⟩:=bind_none n e1
          obtain ⟨l2,a2⟩:=ih ys τ1 τ' e
          refine ⟨l2.trans l1,fun i hi=>?_⟩
          obtain ⟨b1,b2⟩:=a2 i hi
          obtain ⟨c1,c2⟩:=a1 i b1
          refine ⟨c1,fun z=>?_⟩
          simp only [jQ,List.mem_append] at z
          rcases z with z | z
          · exact c2 z
          · rw [<- l1];exact b2 z
   cases t with
   | nm i=>
     have e:some (setAt τ (some w) i)=some τ':=e
     cases e
     refine ⟨by rw [dR,List.length_set],fun j hj=>?_⟩
     obtain ⟨a,b⟩:=sU (α:=Unit) τ w i j hj
     exact ⟨a,fun z=>b (by simpa [vars] using z)⟩
   | tup ts=>
     cases w with
     | ref k=>
       have e:Option.rec none (fun o=>O.rec (fun xs=>bindL (aQ h n) ts xs τ) (fun _=>none) (fun _ _=>none) (fun _=>none) (fun _=>none) o) (h.get k)=some τ':=e
       cases hg:h.get k with
       | none=>rw [hg] at e;cases e
       | some o=>
         rw [hg] at e
         cases o with
         | tup xs=>
           obtain ⟨a,b⟩:=lst ts xs τ τ' e
           exact ⟨a,fun i hi=>by simpa [vars] using b i hi⟩
         | _=>cases e
     | _=>cases e
theorem o9 {h:Hs} {n:Nat} {t:Tg} {w:W} {τ τ':Sg} {ρ:List Addr} {σ σ' σ0:L2.St} (e:aQ h n t w τ=some τ') (rs:RS ρ τ σ) (o:Off (vars t) σ σ') (ag:Ag σ0 τ σ):Ag σ0 τ' σ':=fun i hi=>by
 obtain ⟨l,a⟩:=bind_none n e
 obtain ⟨b1,b2⟩:=a i hi
 have len:τ.length=σ.length:=Paired.length rs
 by_cases z:i ∈ vars t
 · have h1:=b2 z
   rw [<- ag i b1,List.getElem?_eq_none (by rw [o.1];omega),List.getElem?_eq_none (by omega)]
 · rw [o.2 i z];exact ag i b1
section
variable {σ0:L2.St}
theorem zV {t:Tg} {e:Ev.X} {D:Ends} (x:tS Pg cl E d σ0 (.asg t e) D σ H):yG (tE Pg cl E d e) (tG cl t) D σ H:=by
 obtain ⟨ρ,τ,h,n,s,rs,ag,q⟩:=x.step
 refine ev.then s rs (show Post cl ρ H E ((evs Pg n d (.x e) τ h).bind fun r h=>r.toW fun w=>Opt (aQ h 9 t w τ) fun τ=>.ok (.fl (.nx τ)) h) (SPo σ0 D) from q) fun a1 h1 ρ1 H1 b1 s1 p1=>?_
 obtain ⟨w,rfl,p2⟩:=bL p1
 obtain ⟨τ',e1,p3⟩:=cI p2
 refine ⟨w,rfl,fun v rv=>⟨ρ1,h1,w,τ,9,τ',s1,rv,rs.mono b1.1,e1,fun σ' rs' o1=>?_⟩⟩
 obtain ⟨f,ef,qf⟩:=p3.now s1
 cases ef
 exact qf σ' rs' (o9 e1 rs o1 ag)
theorem zW {i:Nat} {x:Str} {e:Expr} {y:Ev.X} {pos pos':Pos} (hN:X.N.Nodup) (hi:X.N[i]? =some x) (hx:Loc X.env.scope x) (he:PE X e (tE Pg cl E d y)) (hs:swapsWith e (some (.Name x pos')) pos.line X.env=pure false:=by rfl) (hf:X.fn x=true\/X.env.scope.names.lookup x=some .local:=by first | exact .inl rfl | exact .inr rfl | assumption):
 PS X (.Assign [.Name x pos'] e pos) (tS Pg cl E d σ0 (.asg (.nm i) y)):=PS.of (eF hN hi hx he hs hf) fun D σ H q=>by
 obtain ⟨ρ,τ,h,n,s,rs,p⟩:=zV q
 exact ⟨ρ,τ,h,n,s,rs,p.mono fun a h ρ H _ _ ⟨w,e,g⟩=>⟨w,e,fun v rv=>nj (g v rv)⟩⟩
theorem xJ {e:Expr} {y:Ev.X} {pos:Pos} (he:PE X e (tE Pg cl E d y)) (hs:swapsWith e none pos.line X.env=pure false:=by rfl):PS X (.Expr e pos) (tS Pg cl E d σ0 (.expr y)):=PS.of (jY he hs) fun D σ H x=>by
 obtain ⟨ρ,τ,h,n,s,rs,ag,q⟩:=x.step
 refine ev.then s rs (show Post cl ρ H E ((evs Pg n d (.x y) τ h).bind fun r h=>r.toW fun _=>.ok (.fl (.nx τ)) h) (SPo σ0 D) from q) fun a1 h1 ρ1 H1 b1 s1 p1=>?_
 obtain ⟨w,rfl,p2⟩:=bL p1
 refine ⟨w,rfl,fun v rv=>?_⟩
 obtain ⟨f,ef,qf⟩:=p2.now s1
 cases ef
 exact qf σ (rs.mono b1.1) ag
theorem nq {e:Expr} {y:Ev.X} {pos:Pos} (he:PE X e (tE Pg cl E d y)):PS X (.Return (some e) pos) (tS Pg cl E d σ0 (.ret y)):=PS.of (bK he) fun D σ H x=>by
 obtain ⟨ρ,τ,h,n,s,rs,ag,q⟩:=x.step
 refine ev.then s rs (show Post cl ρ H E ((evs Pg n d (.x y) τ h).bind fun r h=>r.toW fun w=>.ok (.fl (.rt w)) h) (SPo σ0 D) from q) fun a1 h1 ρ1 H1 b1 s1 p1=>?_
 obtain ⟨w,rfl,p2⟩:=bL p1
 obtain ⟨f,ef,qf⟩:=p2.now s1
 cases ef
 exact ⟨w,rfl,qf⟩
theorem vX {c:Expr} {a b:List Stmt} {x:Ev.X} {sa sb:List S} {pos:Pos} (hc:PT X c (tT Pg cl E d x)) (ha:PSs X a (tSs Pg cl E d σ0 sa)) (hb:PSs X b (tSs Pg cl E d σ0 sb)):PS X (.If c a b pos) (tS Pg cl E d σ0 (.ife x sa sb)):=PS.of (eH hc ha hb) fun D σ H z=>by
 obtain ⟨ρ,τ,h,n,s,rs,ag,q⟩:=z.step
 refine ev.then s rs (show Post cl ρ H E ((evs Pg n d (.x x) τ h).bind fun r h=>r.toW fun w=>w.onB (evs Pg n d (.ss sb) τ h) (evs Pg n d (.ss sa) τ h)) (SPo σ0 D) from q) fun a1 h1 ρ1 H1 b1 s1 p1=>?_
 obtain ⟨w,rfl,p2⟩:=bL p1
 refine ⟨w,rfl,fun v rv=>?_⟩
 rcases sG p2 with ⟨rfl,p3⟩ | ⟨rfl,p3⟩
 · cases rv
   exact ⟨true,rfl,aY ⟨ρ1,τ,h1,n,s1,rs.mono b1.1,ag,p3⟩⟩
 · cases rv
   exact ⟨false,rfl,az ⟨ρ1,τ,h1,n,s1,rs.mono b1.1,ag,p3⟩⟩
theorem dW:PSs X [] (tSs Pg cl E d σ0 []):=PSs.of cM fun D σ H x=>by
 obtain ⟨ρ,τ,h,n,s,rs,ag,q⟩:=x.step
 obtain ⟨f,ef,qf⟩:=Post.now s (show Post cl ρ H E (.ok (.fl (.nx τ)) h) (SPo σ0 D) from q)
 cases ef
 exact qf σ rs ag
theorem dX {st:Stmt} {rest:List Stmt} {a:S} {as:List S} (h1:PS X st (tS Pg cl E d σ0 a)) (h2:PSs X rest (tSs Pg cl E d σ0 as)):PSs X (st::rest) (tSs Pg cl E d σ0 (a::as)):=PSs.of (aJ h1 h2) fun D σ H x=>by
 obtain ⟨ρ,τ,h,n,s,rs,ag,q⟩:=x.step
 refine evS.then s rs ag (show Post cl ρ H E ((evs Pg n d (.s a) τ h).bind fun r h=>r.toF fun f=>Fl.rec (fun τ=>evs Pg n d (.ss as) τ h) (fun w=>.ok (.fl (.rt w)) h) (fun τ=>.ok (.fl (.bk τ)) h) (fun τ=>.ok (.fl (.ct τ)) h) f) (SPo σ0 D) from q) fun a1 h1 ρ1 H1 b1 s1 p1=>?_
 obtain ⟨f,rfl,p2⟩:=jL p1
 refine ⟨f,rfl,?_⟩
 cases f with
 | nx τ1=>exact fun σ1 rs1 ag1=>⟨ρ1,τ1,h1,n,s1,rs1,ag1,p2⟩
 | rt w=>
   obtain ⟨f,ef,qf⟩:=Post.now s1 (show Post cl ρ1 H1 E (.ok (.fl (.rt w)) h1) (SPo σ0 D) from p2)
   cases ef;exact qf
 | bk τ1=>
   obtain ⟨f,ef,qf⟩:=Post.now s1 (show Post cl ρ1 H1 E (.ok (.fl (.bk τ1)) h1) (SPo σ0 D) from p2)
   cases ef;exact qf
 | ct τ1=>
   obtain ⟨f,ef,qf⟩:=Post.now s1 (show Post cl ρ1 H1 E (.ok (.fl (.ct τ1)) h1) (SPo σ0 D) from p2)
   cases ef;exact qf
end
inductive cX (K:PySem.W.Frag) (ρ:List Addr):Iv->It->Prop
 | lst {n a}:ρ[n]? =some a->cX K ρ (.lst n) (Itl K a)
 | tup {n a}:ρ[n]? =some a->cX K ρ (.tup n) (Itt K a)
 | rng (lo n):cX K ρ (.rng lo n) (Itr lo n)
 | zip {n m a b}:ρ[n]? =some a->ρ[m]? =some b->cX K ρ (.zip n m) (Itz K a b)
 | dwn (lo n):cX K ρ (.dwn lo n) (Itd lo n)
theorem cX.mono {K:PySem.W.Frag} {ρ ρ':List Addr} (e:ρ <+:ρ') {v:Iv} {J:It} (x:cX K ρ v J):cX K ρ' v J:=by
 cases x with
 | lst h=>exact .lst (dB e h)
 | tup h=>exact .tup (dB e h)
 | rng lo n=>exact .rng lo n
 | zip h h'=>exact .zip (dB e h) (dB e h')
 | dwn lo n=>exact .dwn lo n
theorem o_ {K:PySem.W.Frag} {ρ:List Addr} {h:Hs} {v:Iv} {J:It} {i:Nat} {fin:R A} {go:W->Hs->R A} {P:A->Hs->List Addr->Hp->Prop} (s:Sim cl ρ h H) (x:cX K ρ v J) (p:Post cl ρ H E (v.next i h fin go) P):
 (J.stop i H/\Post cl ρ H E fin P)\/(J.go i H/\∃ w h',∀ y H',J.yld i H y H'->∃ ρ',Bt cl ρ H ρ' H'/\Sim cl ρ' h' H'/\RW ρ' w y/\Post cl ρ' H' E (go w h') P):=by
 have here:∀ {w:W} {v':V},RW ρ w v'->Post cl ρ H E (go w h) P->(∀ y H',J.yld i H y H'->H'=H/\y=v')->∃ w h',∀ y H',J.yld i H y H'->∃ ρ',Bt cl ρ H ρ' H'/\Sim cl ρ' h' H'/\RW ρ' w y/\Post cl ρ' H' E (go w h') P:=fun {w v'} rw p f=>⟨w,h,fun y H' z=>by
  obtain ⟨rfl,rfl⟩:=f y H' z
  exact ⟨ρ,Bt.refl,s,rw,p⟩⟩
 cases x with
 | @lst n a e=>
   obtain ⟨o,ho,p1⟩:=cI (show Post cl ρ H E (Opt (h.get n) fun o=>o.onS fun xs=>Option.rec fin (fun w=>go w h) (nth xs i)) P from p)
   have x1:=s.at e ho
   cases o with
   | lst xs=>
     obtain ⟨vs,rv,q⟩:=x1
     have p2:Post cl ρ H E (Option.rec fin (fun w=>go w h) (nth xs i)) P:=p1
     rw [cH] at p2
     have hl:=rv.length
     cases hx:xs[i]? with
     | none=>
       rw [hx] at p2
       exact .inl ⟨⟨vs,SqL.of q,by have:=List.getElem?_eq_none_iff.mp hx;omega⟩,p2⟩
     | some w=>
       rw [hx] at p2
       obtain ⟨v',ev,rw⟩:=rv.get hx
       exact .inr ⟨⟨vs,v',SqL.of q,ev⟩,here rw p2 fun y H' z=>⟨z.1,by
        have:=z.2 vs (SqL.of q)
        rw [ev] at this
        exact (Option.some.inj this).symm⟩⟩
   | _=>exact p1.elim
 | @tup n a e=>
   obtain ⟨o,ho,p1⟩:=cI (show Post cl ρ H E (Opt (h.get n) fun o=>o.onT fun xs=>Option.rec fin (fun w=>go w h) (nth xs i)) P from p)
   have x1:=s.at e ho
   cases o with
   | tup xs=>
     obtain ⟨vs,rv,q⟩:=x1
     have p2:Post cl ρ H E (Option.rec fin (fun w=>go w h) (nth xs i)) P:=p1
     rw [cH] at p2
     have hl:=rv.length
     cases hx:xs[i]? with
     | none=>
       rw [hx] at p2
       exact .inl ⟨⟨vs,SqT.of q,by have:=List.getElem?_eq_none_iff.mp hx;omega⟩,p2⟩
     | some w=>
       rw [hx] at p2
       obtain ⟨v',ev,rw⟩:=rv.get hx
       exact .inr ⟨⟨vs,v',SqT.of q,ev⟩,here rw p2 fun y H' z=>⟨z.1,by
        have:=z.2 vs (SqT.of q)
        rw [ev] at this
        exact (Option.some.inj this).symm⟩⟩
   | _=>exact p1.elim
 | rng lo n=>
   have p1:Post cl ρ H E (Bool.rec fin (go (.int (lo + .ofNat i)) h) (Nat.ble (i + 1) n)) P:=p
   rw [ble_eq] at p1
   by_cases c:i + 1 <= n
   · rw [decide_eq_true c] at p1
     exact .inr ⟨c,here (.int _) p1 fun y H' z=>z⟩
   · rw [decide_eq_false c] at p1
     exact .inl ⟨by show n <= i;omega,p1⟩
 | dwn lo n=>
   have p1:Post cl ρ H E (Bool.rec fin (go (.int (lo - .ofNat i)) h) (Nat.ble (i + 1) n)) P:=p
   rw [ble_eq] at p1
   by_cases c:i + 1 <= n
   · rw [decide_eq_true c] at p1
     exact .inr ⟨c,here (.int _) p1 fun y H' z=>z⟩
   · rw [decide_eq_false c] at p1
     exact .inl ⟨by show n <= i;omega,p1⟩
 | @zip n m a b ea eb=>
   obtain ⟨o,ho,p1⟩:=cI (show Post cl ρ H E (Opt (h.get n) fun o=>o.onS fun xs=>Opt (h.get m) fun o=>o.onS fun ys=>Option.rec fin (fun x=>Option.rec fin (fun y=>go (.ref h.n) (h.push (.tup [x,y]))) (nth ys i)) (nth xs i)) P from p)
   have x1:=s.at ea ho
   cases o with
   | lst xs=>
     obtain ⟨vs,rv,q⟩:=x1
     obtain ⟨o2,ho2,p2⟩:=cI (show Post cl ρ H E (Opt (h.get m) fun o=>o.onS fun ys=>Option.rec fin (fun x=>Option.rec fin (fun y=>go (.ref h.n) (h.push (.tup [x,y]))) (nth ys i)) (nth xs i)) P from p1)
     have x2:=s.at eb ho2
     cases o2 with
     | lst ys=>
       obtain ⟨us,ru,q2⟩:=x2
       have p3:Post cl ρ H E (Option.rec fin (fun x=>Option.rec fin (fun y=>go (.ref h.n) (h.push (.tup [x,y]))) (nth ys i)) (nth xs i)) P:=p2
       rw [cH,cH] at p3
       have hl:=rv.length
       have hl2:=ru.length
       cases hx:xs[i]? with
       | none=>
         rw [hx] at p3
         exact .inl ⟨⟨vs,us,SqL.of q,SqL.of q2,.inl (by have:=List.getElem?_eq_none_iff.mp hx;omega)⟩,p3⟩
       | some x=>
         rw [hx] at p3
         cases hy:ys[i]? with
         | none=>
           have p4:Post cl ρ H E (Option.rec fin (fun y=>go (.ref h.n) (h.push (.tup [x,y]))) ys[i]?) P:=p3
           rw [hy] at p4
           exact .inl ⟨⟨vs,us,SqL.of q,SqL.of q2,.inr (by have:=List.getElem?_eq_none_iff.mp hy;omega)⟩,p4⟩
         | some y=>
           have p4:Post cl ρ H E (Option.rec fin (fun y=>go (.ref h.n) (h.push (.tup [x,y]))) ys[i]?) P:=p3
           rw [hy] at p4
           obtain ⟨x',ex,rx⟩:=rv.get hx
           obtain ⟨y',ey,ry⟩:=ru.get hy
           refine .inr ⟨⟨vs,us,x',y',SqL.of q,SqL.of q2,ex,ey⟩,.ref h.n,h.push (.tup [x,y]),fun v H' ⟨T,x2,y2,hT,hv,hH,f1,f2⟩=>?_⟩
           have e1:=f1 vs (SqL.of q)
           have e2:=f2 us (SqL.of q2)
           rw [ex] at e1
           rw [ey] at e2
           cases e1
           cases e2
           subst hv hH
           have pe:=List.prefix_append ρ [T]
           have s2:Sim cl (ρ ++ [T]) (h.push (.tup [x,y])) (upd H T (.tup [x',y'])):=s.push hT ⟨[x',y'],.cons (rx.mono pe) (.cons (ry.mono pe) .nil),au⟩
           exact ⟨ρ ++ [T],Bt.new hT,s2,.ref (by rw [<- s.len,List.getElem?_append_right (Nat.le_refl _),Nat.sub_self];rfl),p4.later (Bt.new hT)⟩
     | _=>exact p2.elim
   | _=>exact p1.elim
def DI (Pg:List Fn) (cl:Cn) (E:XK) (d:Nat) (K:PySem.W.Frag) (i:I) (wi:TI):Prop:=∀ (σ:L2.St) (H:Hp) (R:It->Hp->Prop),ev Pg cl E d (.i i) σ H (fun r _ ρ1 H1=>∃ v,r= .iv v/\∀ J,cX K ρ1 v J->R J H1)->wi σ H R
theorem PI.or {tg l:Expr} {w w':TI} (h:PI X tg l w) (h':PI X tg l w'):PI X tg l (fun σ H R=>w σ H R\/w' σ H R):=fun pins s σ H R I q=>q.elim (h pins s σ H R I) (h' pins s σ H R I)
theorem sV {K:PySem.W.Frag} {e:Ev.X}:DI Pg cl E d K (.seq e) (fun σ H R=>pQ K (tE Pg cl E d e) σ H R\/uo K (tE Pg cl E d e) σ H R):=fun σ H R x=>by
 obtain ⟨ρ,τ,h,n,s,rs,q⟩:=x.step
 have q1:Post cl ρ H E ((evs Pg n d (.x e) τ h).bind fun r h=>r.toW fun w=>h.at w fun n o=>(O.casesOn (motive:=fun _=>Ev.R A) o (fun _=>.ok (.iv (.tup n)) h) (fun _=>.ok (.iv (.lst n)) h) (fun _ _=>.no) (fun _=>.no) (fun _=>.no))) (fun r _ ρ1 H1=>∃ v,r= .iv v/\∀ J,cX K ρ1 v J->R J H1):=q
 have q2:=q1.bind
 cases er:evs Pg n d (.x e) τ h with
 | no=>rw [er] at q2;exact q2.elim
 | ex C fs h1=>exact .inl ⟨ρ,τ,h,n,s,rs,by rw [er] at q2 ⊢;exact q2⟩
 | ok a h1=>
   rw [er] at q1
   have q3:Post cl ρ H E (a.toW fun w=>h1.at w fun n o=>(O.casesOn (motive:=fun _=>Ev.R A) o (fun _=>.ok (.iv (.tup n)) h1) (fun _=>.ok (.iv (.lst n)) h1) (fun _ _=>.no) (fun _=>.no) (fun _=>.no))) (fun r _ ρ1 H1=>∃ v,r= .iv v/\∀ J,cX K ρ1 v J->R J H1):=q1
   obtain ⟨w,rfl,q4⟩:=bL q3
   obtain ⟨k,rfl,q5⟩:=sE q4
   obtain ⟨o,ho,q6⟩:=cI q5
   cases o with
   | lst xs=>
     refine .inl ⟨ρ,τ,h,n,s,rs,?_⟩
     rw [er]
     intro ρ1 H1 b1 s1
     refine ⟨_,rfl,fun v rv=>?_⟩
     cases rv with
     | @ref _ a ea=>
       obtain ⟨vs,rv,qh⟩:=s1.at ea ho
       obtain ⟨v,ev,g⟩:=(show Post cl ρ H E (.ok (A.iv (.lst k)) h1) _ from q6) ρ1 H1 b1 s1
       cases ev
       exact ⟨a,rfl,⟨vs,SqL.of qh⟩,g _ (.lst ea)⟩
   | tup xs=>
     refine .inr ⟨ρ,τ,h,n,s,rs,?_⟩
     rw [er]
     intro ρ1 H1 b1 s1
     refine ⟨_,rfl,fun v rv=>?_⟩
     cases rv with
     | @ref _ a ea=>
       obtain ⟨vs,rv,qh⟩:=s1.at ea ho
       obtain ⟨v,ev,g⟩:=(show Post cl ρ H E (.ok (A.iv (.tup k)) h1) _ from q6) ρ1 H1 b1 s1
       cases ev
       exact ⟨a,rfl,⟨vs,SqT.of qh⟩,g _ (.tup ea)⟩
   | _=>exact q6.elim
theorem sW {ρ:List Addr} {H:Hp} {i:Int} {k:R A} {P:A->Hs->List Addr->Hp->Prop} (p:Post cl ρ H E (within i k) P):(-(2 ^ 62) <= i/\i < 2 ^ 62)/\Post cl ρ H E k P:=by
 obtain ⟨c,p⟩:=m_ p
 obtain ⟨c2,p⟩:=m_ p
 rw [bZ] at c c2
 have c:=of_decide_eq_true c
 have c2:=of_decide_eq_true c2
 exact ⟨⟨by omega,by omega⟩,p⟩
theorem xK {ρ:List Addr} {H:Hp} {ws:List W} {vs:List V} {f:W->R A} {P:A->Hs->List Addr->Hp->Prop} (r:RWs ρ ws vs) (p:Post cl ρ H E (qp ws f) P):∃ w v,ws= [w]/\vs= [v]/\RW ρ w v/\Post cl ρ H E (f w) P:=by
 cases r with
 | nil=>exact p.elim
 | cons r1 t=>cases t with
   | nil=>exact ⟨_,_,rfl,rfl,r1,p⟩
   | cons _ _=>exact p.elim
theorem xM {K:PySem.W.Frag} {as:List Ev.X}:DI Pg cl E d K (.qt as) (L2.vC (tA Pg cl E d as)):=fun σ H R x=>by
 obtain ⟨ρ,τ,h,n,s,rs,q⟩:=x.step
 refine ev.then s rs (show Post cl ρ H E ((evs Pg n d (.a as) τ h).bind fun r h=>r.toL fun ws=>qp ws fun w=>w.onI fun j=>within j (.ok (A.iv (.rng 0 j.toNat)) h)) (fun r _ ρ1 H1=>∃ v,r= .iv v/\∀ J,cX K ρ1 v J->R J H1) from q) fun a1 h1 ρ1 H1 b1 s1 p1=>?_
 obtain ⟨ws,rfl,p2⟩:=iC p1
 refine ⟨ws,rfl,fun vs rv=>?_⟩
 obtain ⟨w,v,rfl,rfl,r1,p3⟩:=xK rv p2
 obtain ⟨j,rfl,p4⟩:=su p3
 obtain ⟨c,p5⟩:=sW p4
 cases r1
 obtain ⟨v,ev,g⟩:=p5.now s1
 cases ev
 exact ⟨j,rfl,c.1,c.2,g _ (.rng _ _)⟩
section
variable {σ0:L2.St}
theorem zX {K:PySem.W.Frag} {i:I} {t:Tg} {b:List S} {wi:TI} {D:Ends} (di:DI Pg cl E d K i wi) (x:tS Pg cl E d σ0 (.for_ i t b) D σ H):ur wi (tG cl t) (tSs Pg cl E d σ0 b) D σ H:=by
 obtain ⟨ρ,τ,h,n,s,rs,ag,q⟩:=x.step
 refine di σ H _ (ev.then s rs (show Post cl ρ H E ((evs Pg n d (.i i) τ h).bind fun r h=>r.toV fun v=>evs Pg n d (.lp v 0 t b) τ h) (SPo σ0 D) from q) fun a1 h1 ρ1 H1 b1 s1 p1=>?_)
 obtain ⟨v,rfl,p2⟩:=sr p1
 refine ⟨v,rfl,fun J hJ=>?_⟩
 refine ⟨fun i m σ H=>∃ ρ τ h,Sim cl ρ h H/\RS ρ τ σ/\Ag σ0 τ σ/\cX K ρ v J/\Post cl ρ H E (evs Pg m d (.lp v i t b) τ h) (SPo σ0 D),⟨n,ρ1,τ,h1,s1,rs.mono b1.1,ag,hJ,p2⟩,?_⟩
 rintro i m σ2 H2 ⟨ρ2,τ2,h2,s2,rs2,ag2,j2,p3⟩
 cases m with
 | zero=>exact p3.elim
 | succ m=>
   have p4:Post cl ρ2 H2 E (v.next i h2 (.ok (.fl (.nx τ2)) h2) fun w h2=>Opt (aQ h2 9 t w τ2) fun τ=>(evs Pg m d (.ss b) τ h2).bind fun r h=>r.toF fun f=>i_ h f fun τ=>evs Pg m d (.lp v (i + 1) t b) τ h) (SPo σ0 D):=p3
   rcases o_ s2 j2 p4 with ⟨st,p5⟩ | ⟨go,w,h2',yl⟩
   · obtain ⟨f,ef,qf⟩:=p5.now s2
     cases ef
     exact .inl ⟨st,qf σ2 rs2 ag2⟩
   · refine .inr ⟨go,fun σ' H'=>∃ ρ τ h,Sim cl ρ h H'/\RS ρ τ σ'/\Ag σ0 τ σ'/\cX K ρ v J/\Post cl ρ H' E (evs Pg m d (.lp v (i + 1) t b) τ h) (SPo σ0 D),fun σ' H' z=>⟨m,Nat.lt_succ_self m,z⟩,fun y H' yy=>?_⟩
     obtain ⟨nA,bb,s2',rw,p5⟩:=yl y H' yy
     obtain ⟨τ3,e3,p6⟩:=cI p5
     have zY:=rs2.mono bb.1
     have j2:=j2.mono bb.1
     refine ⟨nA,h2',w,τ2,9,τ3,s2',rw,zY,e3,fun σ3 rs3 o3=>?_⟩
     refine evS.then s2' rs3 (o9 e3 zY o3 ag2) p6 fun a4 h4 ρ4 H4 b4 s4 p7=>?_
     obtain ⟨f,rfl,p8⟩:=jL p7
     refine ⟨f,rfl,?_⟩
     cases f with
     | nx τ4=>exact fun σ4 rs4 ag4=>⟨ρ4,τ4,h4,s4,rs4,ag4,j2.mono b4.1,p8⟩
     | ct τ4=>exact fun σ4 rs4 ag4=>⟨ρ4,τ4,h4,s4,rs4,ag4,j2.mono b4.1,p8⟩
     | rt w4=>
       obtain ⟨f,ef,qf⟩:=Post.now s4 (show Post cl ρ4 H4 E (.ok (.fl (.rt w4)) h4) (SPo σ0 D) from p8)
       cases ef;exact qf
     | bk τ4=>
       obtain ⟨f,ef,qf⟩:=Post.now s4 (show Post cl ρ4 H4 E (.ok (.fl (.nx τ4)) h4) (SPo σ0 D) from p8)
       cases ef;exact qf
theorem zZ {iter tg:Expr} {body:List Stmt} {wi:TI} {i:I} {t:Tg} {b:List S} {pos:Pos} (hp:PassesOwn (model X.prog X.w) X.A X.env X.xe) (hc:X.calm=true) (di:DI Pg cl E d X.K i wi) (hi:PI X tg iter wi) (hg:PG X tg (tG cl t)) (hb:PSs X body (tSs Pg cl E d σ0 b))
 (hs:∀ x,foldedSetIterable iter X.env x=pure x:=by intro _;rfl):PS X (.For tg iter body [] pos) (tS Pg cl E d σ0 (.for_ i t b)):=PS.of (mJ hp hc hi hg hb hs) fun _ _ _ q=>zX di q
end
end
end Ev
set_option maxRecDepth 100000
set_option maxHeartbeats 4000000
namespace Ev
open PySem PySem.Spec PySem.SeqAt PyProof.Rows L2
section
variable {Pg:List Fn} {cl:Cn} {E:XK} {d:Nat} {X:Cx} {σ:L2.St} {H:Hp}
def tCd (Pg:List Fn) (cl:Cn) (d:Nat):Option Ev.X->TT
 | none=>vI
 | some c=>tT Pg cl E0 d c
theorem qz:∀ {σ σ':L2.St},σ'.length=σ.length->(∀ (i:Nat) (v:V),σ[i]? =some (some v)->σ'[i]? =some (some v))->Wk σ σ'
 | [],[],_,_=>trivial
 | [],_::_,h,_=>by simp at h
 | _::_,[],h,_=>by simp at h
 | none::r,b::r',h,f=>by
   show Wk r r'
   exact qz (by simpa using h) fun i v e=>by simpa using f (i + 1) v (by simpa using e)
 | some a::r,b::r',h,f=>by
   have hb:=f 0 a rfl
   refine ⟨by simpa using hb,qz (by simpa using h) fun i v e=>by simpa using f (i + 1) v (by simpa using e)⟩
theorem Off.wk {vs:List Nat} {σ σ':L2.St} (o:Off vs σ σ') (h:∀ i ∈ vs,σ[i]? =some none):Wk σ σ':=qz o.1 fun i v e=>by
 by_cases hi:i ∈ vs
 · rw [h i hi] at e;cases e
 · rw [o.2 i hi];exact e
def Inn (Pg:List Fn) (cl:Cn) (d:Nat) (e:Ev.X) (D0:Nat) (D:Addr) (m:Option G) (C:L2.St->Prop) (tin:TN):Prop:=∀ (σ1:L2.St) (τ1:Sg) (h:Hs) (ρ:List Addr) (H:Hp) (n:Nat) (k:Hs->R A) (P:A->Hs->List Addr->Hp->Prop) (N:Hp->Prop),Sim cl ρ h H->RS ρ τ1 σ1->ρ[D0]? =some D->C σ1->
 Post cl ρ H E0 (inner (aZ Pg d) n τ1 h e D0 m k) P->(∀ h' ρ' H',Bt cl ρ H ρ' H'->Sim cl ρ' h' H'->Post cl ρ' H' E0 (k h') P->N H')->tin σ1 H N
theorem xN {K:PySem.W.Frag} {v:Iv} {J:It} {t:Tg} {c:Option Ev.X} {m:Option G} {e:Ev.X} {D0:Nat} {D:Addr} {C:L2.St->Prop} {tin:TN} (hin:Inn Pg cl d e D0 D m C tin) {ρ:List Addr} {h:Hs} {τ:Sg} {n:Nat} {P:A->Hs->List Addr->Hp->Prop} {Q:Hp->Prop}
 (s:Sim cl ρ h H) (rs:RS ρ τ σ) (hJ:cX K ρ v J) (hD:ρ[D0]? =some D) (hv:∀ i ∈ vars t,σ[i]? =some none) (hC:∀ σ1,Off (vars t) σ σ1->C σ1) (p:Post cl ρ H E0 (evs Pg n d (.cl v 0 t c m e D0) τ h) P)
 (hQ:∀ r h' ρ' H',Bt cl ρ H ρ' H'->Sim cl ρ' h' H'->P r h' ρ' H'->Q H'):lX J (tG cl t) (tCd Pg cl d c) tin σ H Q:=by
 refine ⟨fun i m' H'=>∃ ρ' h',Bt cl ρ H ρ' H'/\Sim cl ρ' h' H'/\Post cl ρ' H' E0 (evs Pg m' d (.cl v i t c m e D0) τ h') P,⟨n,ρ,h,Bt.refl,s,p⟩,?_⟩
 rintro i m' H2 ⟨ρ2,h20,b2,s20,p2⟩
 cases m' with
 | zero=>exact p2.elim
 | succ m'=>
   have p3:Post cl ρ2 H2 E0 (v.next i h20 (.ok .u h20) fun w h2=>Opt (aQ h2 9 t w τ) fun τ1=>
    test (aZ Pg d) m' τ1 h2 c (fun h=>evs Pg m' d (.cl v (i + 1) t c m e D0) τ h) (fun h=>inner (aZ Pg d) m' τ1 h e D0 m fun h=>evs Pg m' d (.cl v (i + 1) t c m e D0) τ h)) P:=p2
   rcases o_ s20 (hJ.mono b2.1) p3 with ⟨st,p4⟩ | ⟨go,w,h2,yl⟩
   · exact .inl ⟨st,hQ _ _ _ _ b2 s20 (p4.now s20)⟩
   · refine .inr ⟨go,fun H'=>∃ ρ' h',Bt cl ρ H ρ' H'/\Sim cl ρ' h' H'/\Post cl ρ' H' E0 (evs Pg m' d (.cl v (i + 1) t c m e D0) τ h') P,fun H' z=>⟨m',Nat.lt_succ_self m',z⟩,fun y H' yy=>?_⟩
     obtain ⟨nA,bb,s2,rw,p4⟩:=yl y H' yy
     obtain ⟨τ1,e1,p5⟩:=cI p4
     have b2:=b2.trans bb
     refine ⟨nA,h2,w,τ,9,τ1,s2,rw,rs.mono b2.1,e1,fun σ1 rs1 o1=>⟨o1.wk hv,?_⟩⟩
     have fin:∀ {ρ3:List Addr} {h3:Hs} {H3:Hp},Bt cl nA H' ρ3 H3->Sim cl ρ3 h3 H3->Post cl ρ3 H3 E0 (inner (aZ Pg d) m' τ1 h3 e D0 m fun h=>evs Pg m' d (.cl v (i + 1) t c m e D0) τ h) P->
      tin σ1 H3 fun H'=>∃ ρ' h',Bt cl ρ H ρ' H'/\Sim cl ρ' h' H'/\Post cl ρ' H' E0 (evs Pg m' d (.cl v (i + 1) t c m e D0) τ h') P:=fun {ρ3 h3 H3} b3 s3 q3=>
      hin σ1 τ1 h3 ρ3 H3 m' _ P _ s3 (rs1.mono b3.1) (dB (b2.1.trans b3.1) hD) (hC σ1 o1) q3 fun h' ρ' H' b' s' q'=>⟨ρ',h',(b2.trans b3).trans b',s',q'⟩
     cases c with
     | none=>exact fin Bt.refl s2 p5
     | some c=>
       refine ev.then s2 rs1 (show Post cl nA H' E0 ((evs Pg m' d (.x c) τ1 h2).bind fun r h=>r.toW fun w=>w.onB (evs Pg m' d (.cl v (i + 1) t (some c) m e D0) τ h) (inner (aZ Pg d) m' τ1 h e D0 m fun h=>evs Pg m' d (.cl v (i + 1) t (some c) m e D0) τ h)) P from p5) fun a3 h3 ρ3 H3 b3 s3 p6=>?_
       obtain ⟨w3,rfl,p7⟩:=bL p6
       refine ⟨w3,rfl,fun v3 rv3=>?_⟩
       rcases sG p7 with ⟨rfl,p8⟩ | ⟨rfl,p8⟩
       · cases rv3
         exact ⟨true,rfl,aY (fin b3 s3 p8)⟩
       · cases rv3
         exact ⟨false,rfl,az ⟨ρ3,h3,b2.trans b3,s3,p8⟩⟩
theorem uV {e:Ev.X} {D0:Nat} {D:Addr} {C:L2.St->Prop}:Inn Pg cl d e D0 D none C (qi D (tE Pg cl E0 d e)):=fun σ1 τ1 h ρ H n k P N s rs hD _ p hN=>by
 refine ev.then s rs (show Post cl ρ H E0 ((evs Pg n d (.x e) τ1 h).bind fun r h=>r.toW fun w=>(gk h (.ref D0) w).bind fun _ h=>k h) P from p) fun a1 h1 ρ1 H1 b1 s1 p1=>?_
 obtain ⟨w,rfl,p2⟩:=bL p1
 refine ⟨w,rfl,fun v rv=>?_⟩
 have hD1:=dB b1.1 hD
 obtain ⟨o,ho,x1⟩:=s1.obj D0 D hD1
 have e1:gk h1 (.ref D0) w=Opt (h1.get D0) fun o=>o.onL fun xs=>size xs (.ok .non (h1.set D0 (.lst (app xs [w])))):=rfl
 rw [e1,ho] at p2
 cases o with
 | lst xs=>
   have p3:Post cl ρ1 H1 E0 ((size xs (.ok .non (h1.set D0 (.lst (app xs [w]))))).bind fun _ h=>k h) P:=p2
   unfold size at p3
   rw [ble_eq,len_eq] at p3
   by_cases z:xs.length <= 16777215
   · rw [decide_eq_true z] at p3
     obtain ⟨vs,rvs,q⟩:=x1
     have hl:=rvs.length
     refine ⟨vs,q,by rw [b7];omega,?_⟩
     have s2:Sim cl ρ1 (h1.set D0 (.lst (app xs [w]))) (upd H1 D (.lst (vs ++ [v]))):=s1.put hD1 ⟨_,by rw [cG];exact rvs.append (.cons rv .nil),au⟩
     refine hN _ ρ1 _ (b1.trans (Bt.put hD1)) s2 ?_
     exact (show Post cl ρ1 H1 E0 (k (h1.set D0 (.lst (app xs [w])))) P from p3).later (Bt.put hD1)
   · rw [decide_eq_false z] at p3
     exact p3.elim
 | _=>exact p2.elim
theorem z6 {ρ:List Addr} {H:Hp} {α:Type} {r:R α} {P:α->Hs->List Addr->Hp->Prop} (p:Post cl ρ H E r.nox P):Post cl ρ H E0 r P:=by
 cases r with
 | ok a h=>exact p
 | ex C fs h=>exact p.elim
 | no=>exact p
theorem z7 {ρ:List Addr} {τ:Sg} (rs:RS ρ τ σ) (nt:Nat) (idx:List Nat):RS ρ (iy nt idx τ) (sgb nt idx σ):=by
 have base:RS ρ (List.rec (motive:=fun _=>Sg) [] (fun i _ r=>aH τ i::r) idx) (idx.map fun j=>(σ[j]?).getD none):=by
  induction idx with
  | nil=>exact .nil
  | cons i idx ih=>
    refine .cons ?_ ih
    show RO ρ (aH τ i) ((σ[i]?).getD none)
    cases e:aH τ i with
    | none=>exact trivial
    | some w=>
      obtain ⟨v,ev,rv⟩:=rs.get e
      rw [ev];exact rv
 unfold sgb
 induction nt with
 | zero=>exact base
 | succ nt ih=>exact .cons trivial ih
theorem uW {nt:Nat} {idx:List Nat} {i:Nat} (h:i < nt):(sgb nt idx σ)[i]? =some none:=by
 unfold sgb
 rw [List.getElem?_append_left (by simpa using h),List.getElem?_replicate,if_pos h]
theorem xO {K:PySem.W.Frag} {nt:Nat} {idx:List Nat} {it:I} {t:Tg} {c:Option Ev.X} {m:Option G} {e:Ev.X} {wi:TI} {tin:Addr->TN} {Q:VK} (di:DI Pg cl E d K it wi) {C:L2.St->Prop} (hin:∀ D0 D,Inn Pg cl d e D0 D m C (tin D)) (hv:∀ i ∈ vars t,i < nt)
 (hC:∀ σ σ1,Off (vars t) (sgb nt idx σ) σ1->C σ1) (x:tE Pg cl E d (.comp nt idx it t c m e) σ H Q):qj nt idx wi (tG cl t) (tCd Pg cl d c) tin σ H Q:=by
 obtain ⟨ρ,τ,h,n,s,rs,q⟩:=x.step
 refine di σ H _ (ev.then s rs (show Post cl ρ H E ((evs Pg n d (.i it) τ h).bind fun r h=>r.toV fun v=>(evs Pg n d (.cl v 0 t c m e h.n) (iy nt idx τ) (h.push (.lst []))).nox.bind fun _ h'=>.ok (.w (.ref h.n)) h') (VP Q) from q) fun a1 h1 ρ1 H1 b1 s1 p1=>?_)
 obtain ⟨v,rfl,p2⟩:=sr p1
 refine ⟨v,rfl,fun J hJ D hD=>?_⟩
 have s2:Sim cl (ρ1 ++ [D]) (h1.push (.lst [])) (upd H1 D (.lst [])):=s1.push hD ⟨[],.nil,au⟩
 have gD:(ρ1 ++ [D])[h1.n]? =some D:=by rw [<- s1.len,List.getElem?_append_right (Nat.le_refl _),Nat.sub_self];rfl
 refine xN (hin h1.n D) s2 ((z7 rs nt idx).mono (b1.1.trans (List.prefix_append _ _))) (hJ.mono (List.prefix_append _ _)) gD (fun i hi=>uW (hv i hi)) (fun σ1 o=>hC σ σ1 o) (z6 (p2.later (Bt.new hD)).bind) fun r h' ρ' H' b' s' q'=>?_
 exact Post.bO s' q' (.ref (dB b'.1 gD))
theorem pq:PTs X [] (tCd Pg cl d none):=oY
variable {N':List Str} {sc:Scope} {nt:Nat} {idx:List Nat} {elt tg iter tg2 Cr:Expr} {ifs Eg:List Expr} {gs:List Comprehension} {pos:Pos} {wi wi2:TI} {it it2:I} {t t2:Tg} {c c2:Option Ev.X} {e:Ev.X}
theorem nD (B:jF X N' sc nt idx) (hc:X.calm=true) (di:DI Pg cl E d X.K it wi) (hi:PI X tg iter wi) (hg:∀ C s₀ H₀ fp,PG (blk X N' sc C s₀ H₀ fp) tg (tG cl t)) (hif:∀ C s₀ H₀ fp,PTs (blk X N' sc C s₀ H₀ fp) ifs (tCd Pg cl d c)) (he:∀ C s₀ H₀ fp,PE (blk X N' sc C s₀ H₀ fp) elt (tE Pg cl E0 d e)) (hv:∀ i ∈ vars t,i < nt)
 (hs:∀ x,foldedSetIterable iter X.env x=pure x:=by intro _;rfl):PE X (.ListComp elt [⟨tg,iter,ifs,0⟩] sc pos) (tE Pg cl E d (.comp nt idx it t c none e)):=
 PE.of (oZ B hc hi (vJ hg hif he) hs) fun _ _ _ q=>xO di (C:=fun _=>True) (fun _ _=>uV) hv (fun _ _ _=>trivial) q
end
section
variable {Pg:List Fn} {cl:Cn} {E:XK} {d:Nat} {X:Cx} {σ:L2.St} {H:Hp}
def spF (Pg:List Fn) (cl:Cn) (d f:Nat):Sp:=fun vs H Q E=>∃ ρ ws h n,Sim cl ρ h H/\RWs ρ ws vs/\Post cl ρ H E (evs Pg n d (.call f ws) [] h) (VP Q)
theorem call_of {f:Nat} {as:List Ev.X} {Q:VK} (x:tE Pg cl E d (.call f as) σ H Q):pY (spF Pg cl d f) [] E (tA Pg cl E d as) σ H Q:=by
 obtain ⟨ρ,τ,h,n,s,rs,q⟩:=x.step
 refine ev.then s rs (show Post cl ρ H E ((evs Pg n d (.a as) τ h).bind fun a h=>a.toL fun ws=>evs Pg n d (.call f ws) [] h) (VP Q) from q) fun a1 h1 ρ1 H1 b1 s1 p1=>?_
 obtain ⟨ws,rfl,p2⟩:=iC p1
 exact ⟨ws,rfl,fun vs rv=>⟨ρ1,ws,h1,n,s1,by rw [List.append_nil];exact rv,p2⟩⟩
theorem ju {f:Nat} {ws:List W} {h:Hs} {n:Nat} {ρ:List Addr} {P:A->Hs->List Addr->Hp->Prop} (p:Post cl ρ H E (evs Pg n d (.call f ws) [] h) P):∃ n' d' F,d=d' + 1/\Pg[f]? =some F/\Post cl ρ H E (body (evs Pg n') d' h ws F) P:=by
 cases n with
 | zero=>exact p.elim
 | succ n=>
   cases d with
   | zero=>exact p.elim
   | succ d=>
     obtain ⟨F,e,q⟩:=cI (show Post cl ρ H E (Opt (nth Pg f) (body (evs Pg n) d h ws)) P from p)
     rw [cH] at e
     exact ⟨n,d,F,rfl,e,q⟩
theorem pA {np nn:Nat} {b:List S} {ws:List W} {h:Hs} {n:Nat} {ρ:List Addr} {P:A->Hs->List Addr->Hp->Prop} (p:Post cl ρ H E (body (evs Pg n) d h ws (.mk np nn b)) P):ws.length=np/\Post cl ρ H E ((evs Pg n d (.ss b) (frame nn ws) h).bind fun r h=>r.toF fun f=>jG h f) P:=by
 obtain ⟨e,q⟩:=m_ (show Post cl ρ H E (ifB (Nat.beq (len ws) np) ((evs Pg n d (.ss b) (frame nn ws) h).bind fun r h=>r.toF fun f=>jG h f) .no) P from p)
 rw [len_eq] at e
 exact ⟨cC.mp e,q⟩
theorem uX {ρ:List Addr} {ws:List W} {vs:List V} (r:RWs ρ ws vs) (N:List Str):RS ρ (frame N.length ws) (L2.start N vs):=by
 unfold frame L2.start
 rw [cG,len_eq,r.length]
 have rep:∀ k:Nat,RS ρ (Nat.rec (motive:=fun _=>Sg) [] (fun _ r=>none::r) k) (List.replicate k none):=fun k=>by
  induction k with
  | zero=>exact .nil
  | succ k ih=>exact .cons trivial ih
 have app':∀ {a b:Sg} {u w:L2.St},RS ρ a u->RS ρ b w->RS ρ (a ++ b) (u ++ w):=by
  intro a b u w r1 r2
  induction r1 with
  | nil=>exact r2
  | cons x _ ih=>exact .cons x ih
 refine app' ?_ (rep _)
 have go:∀ {ws:List W} {vs:List V},RWs ρ ws vs->RS ρ (List.rec (motive:=fun _=>Sg) [] (fun w _ r=>some w::r) ws) (vs.map some):=by
  intro ws vs r
  induction r with
  | nil=>exact .nil
  | cons r1 _ ih=>exact .cons r1 ih
 exact go r
theorem vY {P:Program} {w:World} {K:PySem.W.Frag} {mg:Str->Option Value} {base:Heap} {k i:Nat} {x qual:Str} {st:Stmt} {f:Addr} {fd:FuncData} {N ps:List Str} {b:List S} (F:Fun K x qual st f fd) (Sc:bw N ps (aj st)) (hp:Pg[i]? =some (.mk ps.length N.length b))
 (hbody:∀ (σ0:L2.St) (cdv:Value) (A:Around) (outer:List Env) (s:Shared) (H:Hp) (E:XK),bA k (A.deeper (envOfC qual (aj st) s.heap.objs.size f cdv))->Passes (CXE P w) (fP (CXE P w) P w K mg base N qual (aj st) f cdv A outer s H E) E->
   PSs (fP (CXE P w) P w K mg base N qual (aj st) f cdv A outer s H E) (bx st) (tSs Pg cl E d σ0 b)):aU P w K mg base (CXE P w) (k + 1) f fd ps (spF Pg cl (d + 1) i):=by
 obtain ⟨oc,od,kV,doc,pm,an,cdv,ct,osl,rfl,lk,hcd⟩:=F.ex
 have Eh:∀ vs H Q E,spF Pg cl (d + 1) i vs H Q E->vs.length=ps.length:=fun vs H Q E ⟨ρ,ws,h,n,s,r,p⟩=>by
  obtain ⟨n',d',F',e1,e2,q⟩:=ju p
  rw [hp] at e2;cases e2
  rw [<- r.length];exact (pA q).1
 refine pZ lk hcd Sc Eh fun A outer s H vs Q E hr hsp=>?_
 obtain ⟨ρ,ws,h,n,s1,r,p⟩:=hsp
 obtain ⟨n',d',F',e1,e2,q⟩:=ju p
 rw [hp] at e2;cases e2
 cases e1
 obtain ⟨_,q2⟩:=pA q
 refine ⟨_,hbody (L2.start N vs) cdv A outer s H E hr (m6 ⟨rfl,rfl,rfl⟩ rfl (fun _ _ _ z=>z)),ρ,frame N.length ws,h,n',s1,uX r N,fun _ _=>rfl,q2.bind.mono fun a h1 ρ1 H1 b1 s2 p2=>?_⟩
 obtain ⟨fl,rfl,p3⟩:=jL p2
 refine ⟨fl,rfl,?_⟩
 cases fl with
 | nx τ=>exact fun σ' _ _=>Post.bO s2 (show Post cl ρ1 H1 E (.ok (.w .non) h1) (VP Q) from p3) .non
 | rt w=>exact fun v rv=>Post.bO s2 (show Post cl ρ1 H1 E (.ok (.w w) h1) (VP Q) from p3) rv
 | bk τ=>exact p3.elim
 | ct τ=>exact p3.elim
theorem xP {k f:Nat} {fa:Addr} {fd:FuncData} {ps:List Str} {x:Str} {e:Expr} {es:List Expr} {y:Ev.X} {ys:List Ev.X} {p pos:Pos} (F:aU X.prog X.w X.K X.mg X.base (CXE X.prog X.w) k fa fd ps (spF Pg cl d f)) (hr:bA k X.A) (hg:Gl X x) (hm:X.mg x=some (.ref fa)) (hk:PySem.W.keepIn X.K (.ref fa)=true) (hb:Binds X.K fd ps [])
 (hx:Passes (CXE X.prog X.w) X E) (ha:PA X (e::es) (tA Pg cl E d (y::ys))) (hdb:(x == ("__debug__":Str))=false:=by decide) (he:starEach (e::es) X.env=(false,eval e X.env)::starEach es X.env:=by rfl) (hpl:(backTo pos (starEach es X.env)).any (·.1)=false:=by rfl):
 PE X (.Call (.Name x p) (e::es) [] pos) (tE Pg cl E d (.call f (y::ys))):=PE.of (oO F hr hg hm hk hb .nil hx ha hdb he hpl) fun _ _ _ q=>call_of q
end
end Ev
set_option maxRecDepth 100000
set_option maxHeartbeats 4000000
namespace Ev
open PySem PySem.Spec PySem.SeqAt PyProof.Rows L2
section
variable {Pg:List Fn} {cl:Cn} {E:XK} {d:Nat} {X:Cx} {σ:L2.St} {H:Hp} {pins:List (Addr × Obj)} {s:Shared}
structure Fi (cl:Cn) (X:Cx) (c:Addr):Prop where
 on:cl.on=true
 code:X.env.code= .ref c
 hd:PySem.W.CodeHd X.base c cl.P
 bm:X.base.BuiltinsAt X.mg cl.P
 q:X.env.qual ++ "<lambda>" =cl.q
end
end Ev
set_option maxRecDepth 100000
set_option maxHeartbeats 4000000
namespace Ev
open PySem PySem.Spec PySem.SeqAt PyProof.Rows L2
section
variable {Pg:List Fn} {cl:Cn} {E:XK} {d:Nat} {X:Cx} {σ:L2.St} {H:Hp} {pins:List (Addr × Obj)} {s:Shared}
structure Fj (N':List Str) (sc:Scope):Prop where
 kind:sc.kind= .function
 co:sc.isCoroutine=false
 gen:sc.isGenerator=false
 free:∀ y ∈ sc.names,y.2 ≠ .cell
 isf:∀ x ∈ N',sc.names.lookup x=some .free
end
end Ev
set_option maxRecDepth 100000
set_option maxHeartbeats 4000000
namespace Ev
open PySem PySem.Spec PySem.SeqAt PyProof.Rows L2
section
variable {Pg:List Fn} {cl:Cn} {E:XK} {d:Nat} {X:Cx} {σ:L2.St} {H:Hp} {pins:List (Addr × Obj)} {s:Shared}
end
end Ev
set_option maxRecDepth 100000
set_option maxHeartbeats 4000000
namespace Ev
open PySem PySem.Spec PySem.SeqAt PyProof.Rows L2
section
variable {Pg:List Fn} {cl:Cn} {E:XK} {d:Nat} {X:Cx} {σ:L2.St} {H:Hp}
theorem pB {K:PySem.W.Frag} {tg l:Expr} {e:Ev.X} (hK:X.K=K) (he:PE X l (tE Pg cl E d e)):PI X tg l (fun σ H R=>pQ K (tE Pg cl E d e) σ H R\/uo K (tE Pg cl E d e) σ H R):=by
 subst hK;exact PI.or (oK he) (yH he)
theorem pC {P:Program} {w:World} {K:PySem.W.Frag} {mg:Str->Option Value} {base:Heap} {k i:Nat} {f:Addr} {fd:FuncData} {ps:List Str}:aU P w K mg base (CXE P w) k f fd ps (spF Pg cl 0 i):=by
 have no:∀ vs H Q E,¬ spF Pg cl 0 i vs H Q E:=fun vs H Q E ⟨ρ,ws,h,n,s,r,p⟩=>by
  obtain ⟨_,_,_,e,_⟩:=ju p
  cases e
 exact ⟨fun vs H Q E z=>(no vs H Q E z).elim,fun _ _ _ _ _ _ _ _ _ _ _ _ _ z=>(no _ _ _ _ z).elim⟩
end
end Ev
set_option maxRecDepth 100000
set_option maxHeartbeats 4000000
namespace Ev
open PySem PySem.Spec PySem.SeqAt PyProof.Rows L2
section
variable {Pg:List Fn} {cl:Cn} {E:XK} {d:Nat} {X:Cx} {σ:L2.St} {H:Hp}
def KTup (K:PySem.W.Frag) (a:Addr) (ns:List Int):Prop:=∀ H,SqT K H a (ns.map V.int)
inductive qC (K:PySem.W.Frag):List DictEntry->List (List Nat × List Int)->Prop
 | nil:qC K [] []
 | cons {hs c t a ns es tb}:KTup K a ns->qC K es tb->qC K (⟨hs,.str (nm c) t,.ref a⟩::es) ((c,ns)::tb)
structure FW (K:PySem.W.Frag) (w:World) (da:Addr) (tb:List (List Nat × List Int)):Prop where
 ex:∃ (es:List DictEntry) (n:Nat),K.lookup da=some ⟨.type "dict",none,.dict es.toArray n,#[]⟩/\PySem.W.KeysLit w.params es/\qC K es tb
 ns:(da == sysModules)=false
end
end Ev
set_option maxRecDepth 100000
set_option maxHeartbeats 4000000
namespace Ev
open PySem PySem.Spec PySem.SeqAt PyProof.Rows L2
section
variable {Pg:List Fn} {cl:Cn} {E:XK} {d:Nat} {X:Cx} {σ:L2.St} {H:Hp}
def jd (n:Nat):Sp:=fun vs H Q _=>∃ (x y:V) (dx dy:PyData),vs= [x,y]/\Rep H x dx/\Rep H y dy/\dy.depth < n/\∀ H',bz H H'->Q (.bl (PySem.Spec.same dx dy)) H'
theorem Sim.same {ρ:List Addr} {h:Hs} {H':Hp} (s:Sim cl ρ h H) (e:bz H H'):Sim cl ρ h H'/\Bt cl ρ H ρ H':=by
 refine ⟨⟨s.len,s.nd,fun n a q=>?_,fun on=>?_⟩,List.prefix_refl _,fun b u q nb=>⟨nb,fun _=>e b u q,u,e b u q⟩⟩
 · obtain ⟨o,ho,x⟩:=s.obj n a q
   obtain ⟨u,hu⟩:=x.som
   exact ⟨o,ho,x.keep (List.prefix_refl _) ((e a u hu).trans hu.symm)⟩
 · obtain ⟨ps,h1,h2,h3⟩:=s.tb on
   refine ⟨ps,e _ _ h1,h2,fun pos cv z=>?_⟩
   obtain ⟨c',e1,e2⟩:=h3 pos cv z
   exact ⟨c',e1,e _ _ e2⟩
theorem z8:OpN cl .same (fun vs H Q=>jd 13 vs H Q E0):=fun E ρ h H ws vs Q s r p=>by
 obtain ⟨w,v,w',v',rfl,rfl,r1,r2,p1⟩:=vU r (show Post cl ρ H E (ofW (cF ws (vK h))) (VP Q) from p)
 obtain ⟨x,ex,p2⟩:=iD p1
 obtain ⟨y,ey,p3⟩:=iD p2
 obtain ⟨a1,a2,a3⟩:=gm s 12 r1 ex
 obtain ⟨b1,b2,b3⟩:=gm s 12 r2 ey
 refine ⟨v,v',pd x,pd y,rfl,a1,b1,by omega,fun H' e=>?_⟩
 obtain ⟨s',bt⟩:=s.same e
 exact Post.yes s' (p3.later bt) (o7 x y).symm
theorem xQ {k:Nat} {fa:Addr} {fd:FuncData} {ps:List Str} {st:Stmt} {x:Str} {e:Expr} {es:List Expr} {y:Ev.X} {ys:List Ev.X} {p pos:Pos} (D:Df X.K X.mg x st ps fa fd) (F:aU X.prog X.w X.K X.mg X.base CX0 k fa fd ps (jd 13)) (hr:bA k X.A) (hg:Gl X x) (ha:PA X (e::es) (tA Pg cl E d (y::ys))) (hdb:(x == ("__debug__":Str))=false:=by decide)
 (he:starEach (e::es) X.env=(false,eval e X.env)::starEach es X.env:=by rfl) (hpl:(backTo pos (starEach es X.env)).any (·.1)=false:=by rfl):
 PE X (.Call (.Name x p) (e::es) [] pos) (tE Pg cl E d (.pr .same (y::ys))):=PE.of (iY D F hr hg ha hdb he hpl) fun σ H Q q=>by
 obtain ⟨ρ,τ,h,n,s,rs,z⟩:=qw z8 q
 exact ⟨ρ,τ,h,n,s,rs,z.mono fun a h ρ H _ _ ⟨ws,e,g⟩=>⟨ws,e,fun vs rv=>by show jd 13 (vs ++ []) H Q E0;rw [List.append_nil];exact g vs rv⟩⟩
end
end Ev
set_option maxRecDepth 100000
set_option maxHeartbeats 4000000
namespace Ev
open PySem L2
section
variable {Pg:List Fn} {cl:Cn} {E:XK} {d:Nat} {X:Cx} {σ σ0:L2.St} {H:Hp}
noncomputable def never:S:=.expr (.pr .neg [])
theorem z9 {a:S} {as:List S} {D:Ends} (x:tSs Pg cl E d σ0 (a::as) D σ H):uh (tS Pg cl E d σ0 a) (tSs Pg cl E d σ0 as) D σ H:=by
 obtain ⟨ρ,τ,h,n,s,rs,ag,q⟩:=x.step
 refine evS.then s rs ag (show Post cl ρ H E ((evs Pg n d (.s a) τ h).bind fun r h=>r.toF fun f=>Fl.rec (fun τ=>evs Pg n d (.ss as) τ h) (fun w=>.ok (.fl (.rt w)) h) (fun τ=>.ok (.fl (.bk τ)) h) (fun τ=>.ok (.fl (.ct τ)) h) f) (SPo σ0 D) from q) fun a1 h1 ρ1 H1 b1 s1 p1=>?_
 obtain ⟨f,rfl,p2⟩:=jL p1
 refine ⟨f,rfl,?_⟩
 cases f with
 | nx τ1=>exact fun σ1 rs1 ag1=>⟨ρ1,τ1,h1,n,s1,rs1,ag1,p2⟩
 | rt w=>
   obtain ⟨f,ef,qf⟩:=Post.now s1 (show Post cl ρ1 H1 E (.ok (.fl (.rt w)) h1) (SPo σ0 D) from p2)
   cases ef;exact qf
 | bk τ1=>
   obtain ⟨f,ef,qf⟩:=Post.now s1 (show Post cl ρ1 H1 E (.ok (.fl (.bk τ1)) h1) (SPo σ0 D) from p2)
   cases ef;exact qf
 | ct τ1=>
   obtain ⟨f,ef,qf⟩:=Post.now s1 (show Post cl ρ1 H1 E (.ok (.fl (.ct τ1)) h1) (SPo σ0 D) from p2)
   cases ef;exact qf
theorem nil_of {D:Ends} (x:tSs Pg cl E d σ0 [] D σ H):D.nx σ H:=by
 obtain ⟨ρ,τ,h,n,s,rs,ag,q⟩:=x.step
 obtain ⟨f,ef,qf⟩:=Post.now s (show Post cl ρ H E (.ok (.fl (.nx τ)) h) (SPo σ0 D) from q)
 cases ef
 exact qf σ rs ag
def tSx (Pg:List Fn) (cl:Cn) (E:XK) (d:Nat) (σ0:L2.St) (as:List S) (u:TS):TS:=fun D σ H=>tSs Pg cl E d σ0 as { D with nx:=u D } σ H
theorem uY {st:Stmt} {rest:List Stmt} {a:S} {as:List S} {u:TS} (h1:PS X st (tS Pg cl E d σ0 a)) (h2:PSs X rest (tSx Pg cl E d σ0 as u)):PSs X (st::rest) (tSx Pg cl E d σ0 (a::as) u):=
 PSs.of (aJ h1 h2) fun D σ H x=>z9 (D:={ D with nx:=u D }) x
theorem xR {rest:List Stmt} {u:TS} (h2:PSs X rest u):PSs X rest (tSx Pg cl E d σ0 [] u):=PSs.of h2 fun D σ H x=>nil_of (D:={ D with nx:=u D }) x
def tSt (Pg:List Fn) (cl:Cn) (E:XK) (d:Nat) (as:List S) (u:TS):TS:=fun D σ H=>tSx Pg cl E d σ as u D σ H
theorem z_ {b:List Stmt} {a:List S} {u:TS} (h:∀ σ0,PSs X b (tSx Pg cl E d σ0 a u)):PSs X b (tSt Pg cl E d a u):=fun pins s σ H D I q=>h σ pins s σ H D I q
theorem RS.of {ρ:List Addr}:∀ {τ:Sg} {σ:L2.St},τ.length=σ.length->(∀ i w,aH τ i=some w->∃ v,σ[i]? =some (some v)/\RW ρ w v)->RS ρ τ σ
 | [],[],_,_=>.nil
 | [],_::_,e,_=>by simp at e
 | _::_,[],e,_=>by simp at e
 | o::τ,p::σ,e,h=>by
   refine .cons ?_ (RS.of (by simpa using e) fun i w q=>by simpa using h (i + 1) w q)
   cases o with
   | none=>cases p <;> trivial
   | some w=>
     obtain ⟨v,e1,r⟩:=h 0 w rfl
     simp at e1;subst e1
     exact r
theorem RS.len {ρ:List Addr} {τ:Sg} {σ:L2.St} (h:RS ρ τ σ):τ.length=σ.length:=Paired.length h
theorem Sim.none (t:Tb cl H):Sim cl [] (.mk 0 .lf) H:=⟨rfl,by simp,fun n a h=>by simp at h,t⟩
theorem Sim.adopt {ρ:List Addr} {h:Hs} {p:Addr} {o:O} (s:Sim cl ρ h H) (e:p ∉ ρ) (x:OA cl (ρ ++ [p]) H p o):Sim cl (ρ ++ [p]) (h.push o) H where
 len:=by rw [List.length_append,Hs.iB,s.len];rfl
 nd:=List.nodup_append.mpr ⟨s.nd,by simp,fun a ha b hb z=>by
  simp only [List.mem_singleton] at hb
  exact e (by rw [<- hb,<- z];exact ha)⟩
 obj:=fun n a hn=>by
  rw [Hs.fC]
  by_cases hlt:n < ρ.length
  · rw [List.getElem?_append_left hlt] at hn
    obtain ⟨o',q,y⟩:=s.obj n a hn
    exact ⟨o',by rw [if_neg (by rw [<- s.len];omega)];exact q,y.keep (List.prefix_append _ _) rfl⟩
  · have hn':n=ρ.length:=by
     have:=(List.getElem?_eq_some_iff.mp hn).1
     rw [List.length_append] at this
     simp at this;omega
    subst hn'
    rw [List.getElem?_append_right (Nat.le_refl _),Nat.sub_self] at hn
    simp at hn;subst hn
    exact ⟨o,by rw [if_pos s.len],x⟩
 tb:=s.tb
theorem xT {a:Addr} {u:HO} (t:Tb cl H) (e:H a=some u) (n:∀ ps,u ≠ .tbl ps):cl.on=true->a ≠ cl.P:=fun on z=>by
 obtain ⟨ps,q,_⟩:=t on
 rw [<- z,e] at q
 exact n ps (Option.some.inj q)
theorem SqL.kept {K:PySem.W.Frag} {H':Hp} {a:Addr} {xs:List V} (h:SqL K H a xs) (f:∀ u,(∀ ps,u ≠ .tbl ps)->H a=some u->H' a=some u):SqL K H' a xs:=by
 rcases h with (e | ⟨o,e⟩) | h
 · exact .inl (.inl (f _ (fun _ z=>by cases z) e))
 · exact .inl (.inr ⟨o,f _ (fun _ z=>by cases z) e⟩)
 · exact .inr h
theorem Bt.kept {ρ ρ':List Addr} {H':Hp} {a:Addr} {u:HO} (b:Bt cl ρ H ρ' H') (t:Tb cl H) (n:∀ ps,u ≠ .tbl ps) (h:a ∉ ρ) (e:H a=some u):H' a=some u:=(b.2 a u e h).2.1 (xT t e n)
theorem uZ {α:Type} {xs:List α} {i:Nat} {x:α} (h:xs[i]? =some x):xs.set i x=xs:=by
 apply List.ext_getElem?
 intro j
 rw [List.getElem?_set]
 by_cases e:i=j
 · subst e
   rw [if_pos rfl,h,if_pos (List.getElem?_eq_some_iff.mp h).1]
 · rw [if_neg e]
theorem rw_ints (ρ:List Addr):∀ ns:List Int,RWs ρ (ns.map W.int) (ns.map V.int)
 | []=>.nil
 | n::ns=>.cons (.int n) (rw_ints ρ ns)
theorem eY {x p} {es:List Expr} {a:Ev.X} {as:List Ev.X} (ha:PE X (.Name x p) (tE Pg cl E d a)) (hr:PA X es (tA Pg cl E d as)):PA X (.Name x p::es) (tA Pg cl E d (a::as)):=eX ha hr rfl
theorem ao {x k p} {es:List Expr} {a:Ev.X} {as:List Ev.X} (ha:PE X (.Constant x k p) (tE Pg cl E d a)) (hr:PA X es (tA Pg cl E d as)):PA X (.Constant x k p::es) (tA Pg cl E d (a::as)):=eX ha hr rfl
theorem gJ {x o y p} {es:List Expr} {a:Ev.X} {as:List Ev.X} (ha:PE X (.BinOp x o y p) (tE Pg cl E d a)) (hr:PA X es (tA Pg cl E d as)):PA X (.BinOp x o y p::es) (tA Pg cl E d (a::as)):=eX ha hr rfl
theorem pD {f x k p} {es:List Expr} {a:Ev.X} {as:List Ev.X} (ha:PE X (.Call f x k p) (tE Pg cl E d a)) (hr:PA X es (tA Pg cl E d as)):PA X (.Call f x k p::es) (tA Pg cl E d (a::as)):=eX ha hr rfl
theorem fD {x i p} {es:List Expr} {a:Ev.X} {as:List Ev.X} (ha:PE X (.Subscript x i p) (tE Pg cl E d a)) (hr:PA X es (tA Pg cl E d as)):PA X (.Subscript x i p::es) (tA Pg cl E d (a::as)):=eX ha hr rfl
theorem qD {o x p} {es:List Expr} {a:Ev.X} {as:List Ev.X} (ha:PE X (.UnaryOp o x p) (tE Pg cl E d a)) (hr:PA X es (tA Pg cl E d as)):PA X (.UnaryOp o x p::es) (tA Pg cl E d (a::as)):=eX ha hr rfl
end
end Ev
set_option maxRecDepth 100000
set_option maxHeartbeats 4000000
namespace Ev
open PySem L2
structure QE (X:Cx) (e:Expr) (t:TE):Prop where
 h:PE X e t
structure QA (X:Cx) (e:List Expr) (t:TA):Prop where
 h:PA X e t
structure QS (X:Cx) (e:Stmt) (t:TS):Prop where
 h:PS X e t
structure QSs (X:Cx) (e:List Stmt) (t:TS):Prop where
 h:PSs X e t
section
variable {Pg:List Fn} {cl:Cn} {E:XK} {d:Nat} {X:Cx} {σ0:L2.St}
theorem dY {st:Stmt} {rest:List Stmt} {a:S} {as:List S} {u:TS} (h1:QS X st (tS Pg cl E d σ0 a)) (h2:QSs X rest (tSx Pg cl E d σ0 as u)):QSs X (st::rest) (tSx Pg cl E d σ0 (a::as) u):=⟨uY h1.h h2.h⟩
theorem xU {rest:List Stmt} {u:TS} (h2:QSs X rest u):QSs X rest (tSx Pg cl E d σ0 [] u):=⟨xR h2.h⟩
theorem xV:QSs X [] lR:=⟨cM⟩
theorem Aa {b:List Stmt} {a:List S} {u:TS} (h:∀ σ0,QSs X b (tSx Pg cl E d σ0 a u)):QSs X b (tSt Pg cl E d a u):=⟨z_ fun σ0=>(h σ0).h⟩
theorem u5 {st:Stmt} {rest:List Stmt} {t u:TS} (h1:PS X st t) (h2:QSs X rest u):QSs X (st::rest) (uh t u):=⟨aJ h1 h2.h⟩
theorem Ab {tg iter:Expr} {body:List Stmt} {wi:TI} {g:TG} {tb:TS} {pos:Pos} (hp:PassesOwn (model X.prog X.w) X.A X.env X.xe) (hc:X.calm=true) (hi:PI X tg iter wi) (hg:PG X tg g) (hb:QSs X body tb)
 (hs:∀ x,foldedSetIterable iter X.env x=pure x:=by intro _;rfl):PS X (.For tg iter body [] pos) (ur wi g tb):=mJ hp hc hi hg hb.h hs
end
end Ev
set_option maxRecDepth 100000
set_option maxHeartbeats 4000000
namespace Ev
open PySem PyProof.Rows L2
section
variable {X:Cx}
variable {Pg:List Fn} {cl:Cn} {E:XK} {d:Nat}
end
end Ev
set_option maxRecDepth 100000
set_option maxHeartbeats 4000000
namespace Ev
open PySem PyProof.Rows L2
section
variable {X:Cx}
variable {Pg:List Fn} {cl:Cn} {E:XK} {d:Nat}
end
end Ev
set_option maxRecDepth 100000
set_option maxHeartbeats 4000000
namespace Ev
open PySem PySem.Spec PySem.SeqAt PyProof.Rows L2
section
variable {Pg:List Fn} {cl:Cn} {E:XK} {d:Nat} {X:Cx} {σ σ0:L2.St} {H:Hp}
noncomputable def frm (n:Nat) (kv:List (Nat × W)):Sg:=kv.foldr (fun p τ=>setAt τ (some p.2) p.1) (List.replicate n none)
theorem pF {n:Nat}:∀ {kv:List (Nat × W)},(frm n kv).length=n
 | []=>List.length_replicate
 | p::kv=>by
   show (setAt (frm n kv) (some p.2) p.1).length=n
   rw [dR,List.length_set];exact pF
theorem pG {n i:Nat} {w:W}:∀ {kv:List (Nat × W)},aH (frm n kv) i=some w->∃ p ∈ kv,p=(i,w)
 | [],e=>by
   exfalso
   rw [dU] at e
   rw [show frm n [] =List.replicate n none from rfl,List.getElem?_replicate] at e
   split at e <;> cases e
 | p::kv,e=>by
   have e':aH (setAt (frm n kv) (some p.2) p.1) i=some w:=e
   by_cases z:p.1=i
   · refine ⟨p,by simp,?_⟩
     rw [dR,dU,z,List.getElem?_set] at e'
     rw [if_pos rfl] at e'
     split at e'
     · have:p.2=w:=by simpa using e'
       rw [<- z,<- this]
     · cases e'
   · rw [dR,dU,List.getElem?_set_ne z,<- dU] at e'
     obtain ⟨q,hq,e2⟩:=pG e'
     exact ⟨q,List.mem_cons_of_mem _ hq,e2⟩
theorem Ac {n:Nat} {kv:List (Nat × W)} {ρ:List Addr} (hn:σ.length=n) (hk:∀ i w,(i,w) ∈ kv->∃ v,σ[i]? =some (some v)/\RW ρ w v):RS ρ (frm n kv) σ:=RS.of (by rw [pF,hn]) fun i w e=>by
 obtain ⟨p,hp,rfl⟩:=pG e
 exact hk i w hp
end
end Ev
set_option maxRecDepth 100000
set_option maxHeartbeats 4000000
namespace Ev
open PySem PySem.Spec PySem.SeqAt PyProof.Rows L2
section
variable {P:Program} {w:World} {K:PySem.W.Frag} {mg:Str->Option Value} {base:Heap}
theorem okE {CX:CXT} {x qual:Str} {st:Stmt} {f:Addr} {fd:FuncData} {N ps:List Str} {k:Nat} {sp:Sp} (F:Fun K x qual st f fd) (S:bw N ps (aj st)) (len:∀ vs H Q E,sp vs H Q E->vs.length=ps.length)
 (hbody:∀ (cdv:Value) (A:Around) (outer:List Env) (s:Shared) (H:Hp) (vs:List V) (Q:VK) (E:XK),bA k (A.deeper (envOfC qual (aj st) s.heap.objs.size f cdv))->sp vs H Q E->
   ∃ t,PSs (fP CX P w K mg base N qual (aj st) f cdv A outer s H E) (bx st) t/\t { nx:=fun _ H'=>Q .non H',rt:=Q } (L2.start N vs) H):aU P w K mg base CX (k + 1) f fd ps sp:=by
 obtain ⟨oc,od,kV,doc,pm,an,cdv,ct,osl,rfl,lk,hcd⟩:=F.ex
 exact pZ lk hcd S len fun A outer s H vs Q E hr hsp=>hbody cdv A outer s H vs Q E hr hsp
def lZ (K:PySem.W.Frag):Sp:=fun vs H Q _=>∃ (a:Addr) (ns:List Int),vs= [.ref a]/\SqL K H a (ns.map V.int)/\ns.length <= 63/\∀ H',Q (.bl true) H'
theorem Ad {cl:Cn} {H:Hp} (h:cl.on=false):Tb cl H:=fun on=>by rw [h] at on;cases on
theorem sX {i:Int} (h1: -(2 ^ 20) < i) (h2:i < 2 ^ 20):L2.Sml i:=by
 unfold L2.Sml
 exact Nat.lt_of_lt_of_le (show i.natAbs < 2 ^ 20 by omega) (Nat.pow_le_pow_right (by decide) (by decide))
end
section
variable {Pg:List Fn} {cl:Cn} {E:XK} {d:Nat} {X:Cx} {σ σ0:L2.St} {H:Hp}
noncomputable def nF (row:List Int):Hs:=(Hs.mk 0 .lf).push (.lst (row.map W.int))
def Kept (cl:Cn) (n:Nat) (r:Addr) (σ:L2.St) (H:Hp) (σ':L2.St) (H':Hp):Prop:=σ'.length=n/\σ'[0]? =σ[0]?/\Tb cl H'/\∀ a u,a ≠ r->(∀ ps,u ≠ .tbl ps)->H a=some u->H' a=some u
noncomputable def again (Pg:List Fn) (m d i:Nat) (tl:List S) (row:List Int) (τ:Sg) (h:Hs):R A:=evs Pg m d (.ss tl) (setAt τ (some (.ref h.n)) i) (h.push (.lst (row.map W.int)))
end
end Ev
namespace Ev
open L2
end Ev
namespace Ev
open PySem L2
end Ev
namespace Ev
open PySem PySem.Spec PySem.SeqAt PyProof.Rows L2
section
variable {Pg:List Fn} {cl:Cn} {E:XK} {d:Nat} {X:Cx} {σ σ0:L2.St} {H:Hp}
noncomputable def post (i:Nat) (r:R A):Option (Nat × Option W × Option O):=R.rec (fun a h=>A.rec (fun _=>none) (fun _=>none) (fun _=>none) (fun f=>Fl.rec (fun τ=>some (len τ,aH τ i,h.get 0)) (fun _=>none) (fun _=>none) (fun _=>none) f) none a) (fun _ _ _=>none) none r
end
end Ev
set_option maxRecDepth 100000
set_option maxHeartbeats 4000000
namespace Ev
open PySem PySem.Spec PySem.SeqAt PyProof.Rows L2
section
variable {ρ:List Addr}
end
section
variable {Pg:List Fn} {cl:Cn} {E:XK} {d:Nat} {X:Cx} {σ σ0:L2.St} {H:Hp}
end
end Ev
namespace L2
end L2
namespace Ev
open PySem PySem.Spec PySem.SeqAt PyProof.Rows L2
section
variable {Pg:List Fn} {cl:Cn} {E:XK} {d:Nat} {X:Cx} {σ0:L2.St}
end
end Ev
set_option maxRecDepth 100000
set_option maxHeartbeats 4000000
namespace Ev
open PySem PySem.Spec PySem.SeqAt PyProof.Rows L2
noncomputable section
def heapOf (os:List O):Hs:=os.foldl (fun h o=>h.push o) (.mk 0 .lf)
def Ci (n:Nat) (ns:List Nat):Bool:=List.rec true (fun x _ r=>ifB (Nat.beq x n) false r) ns
end
section
variable {Pg:List Fn} {cl:Cn} {E:XK} {d:Nat} {X:Cx} {σ σ0:L2.St} {H:Hp} {ρ:List Addr} {h:Hs} {m:List Nat}
theorem vZ {b c:Bool} (e:ifB b c false=true):b=true/\c=true:=by cases b with | true=>exact ⟨rfl,e⟩ | false=>cases e
theorem jm (os:List O) (o:O):heapOf (os ++ [o])=(heapOf os).push o:=by unfold heapOf;rw [List.foldl_append];rfl
theorem oh:∀ (os:List O),(heapOf os).n=os.length/\∀ k,(heapOf os).get k=os[k]?:=by
 intro os
 generalize e:os.length=n
 induction n generalizing os with
 | zero=>
   have:os= []:=List.length_eq_zero_iff.mp e
   subst this
   exact ⟨rfl,fun k=>by cases k <;> rfl⟩
 | succ n ih=>
   obtain ⟨xs,x,rfl⟩:∃ xs x,os=xs ++ [x]:=⟨os.dropLast,os.getLast (by intro z;rw [z] at e;cases e),(List.dropLast_concat_getLast _).symm⟩
   have l:xs.length=n:=by simpa using e
   obtain ⟨h1,h2⟩:=ih xs l
   rw [jm]
   refine ⟨by rw [Hs.iB,h1],fun k=>?_⟩
   rw [Hs.fC,h1]
   by_cases z:k=n
   · subst z
     rw [if_pos rfl,List.getElem?_append_right (by omega),l,Nat.sub_self];rfl
   · rw [if_neg z,h2]
     by_cases q:k < n
     · rw [List.getElem?_append_left (by omega)]
     · rw [List.getElem?_eq_none (by omega),List.getElem?_eq_none (by rw [List.length_append,l];simp;omega)]
structure CS (cl:Cn) (n i:Nat) (kv:List (Nat × W)) (os:List O) (r:Addr) (row:List V) (σ:L2.St) (H:Hp):Prop where
 len:σ.length=n
 at_:σ[i]? =some (some (.ref r))
 row:H r=some (.lst row)
 sim:∃ ρ,Sim cl ρ (heapOf os) H/\RS ρ (frm n kv) σ/\r ∉ ρ
end
end Ev
set_option maxRecDepth 100000
set_option maxHeartbeats 4000000
namespace Ev
open PySem PySem.Spec PySem.SeqAt PyProof.Rows L2
section
variable {Pg:List Fn} {cl:Cn} {E:XK} {d:Nat} {X:Cx} {σ σ0:L2.St} {H:Hp} {ρ:List Addr} {h:Hs}
end
end Ev
set_option maxRecDepth 100000
set_option maxHeartbeats 4000000
namespace Ev
open PySem PySem.Spec PySem.SeqAt PyProof.Rows L2
section
variable {Pg:List Fn} {cl:Cn} {E:XK} {d:Nat} {X:Cx} {H H' H'':Hp} {ρ:List Addr}
end
end Ev
set_option maxRecDepth 100000
set_option maxHeartbeats 4000000
namespace Ev
open PySem PySem.Spec PySem.SeqAt PyProof.Rows L2
section
variable {Pg:List Fn} {cl:Cn} {E:XK} {d:Nat} {X:Cx} {H H' H'':Hp} {ρ:List Addr}
end
end Ev
set_option maxRecDepth 100000
set_option maxHeartbeats 4000000
namespace Ev
open PySem PySem.Spec PySem.SeqAt PyProof.Rows L2
end Ev
set_option maxRecDepth 100000
set_option maxHeartbeats 4000000
namespace Ev
open PySem PySem.Spec PySem.SeqAt PyProof.Rows L2
variable {Pg:List Fn} {cl:Cn} {E:XK} {d:Nat} {X:Cx}
end Ev
set_option maxRecDepth 100000
set_option maxHeartbeats 4000000
namespace Ev
open PySem L2
section
variable {Pg:List Fn} {cl:Cn} {E:XK} {d:Nat} {X:Cx} {σ0:L2.St}
theorem fsc {N P:List Str} {sc:Scope} (h4:N.Nodup) (h6:∀ x ∈ P,sc.names.lookup x=some .local\/sc.names.lookup x=some .cell) (h7:∀ y ∈ sc.names,y.2 ≠ .free) (h1:sc.kind= .function:=by rfl) (h2:sc.isCoroutine=false:=by rfl) (h3:sc.isGenerator=false:=by rfl) (h5:N.take P.length=P:=by rfl):bw N P sc:=⟨h1,h2,h3,h4,h5,h6,h7⟩
theorem dv (i:Nat) {x:Str} {pos:Pos} (hN:X.N[i]? =some x:=by rfl) (hv:Vis X.env.scope x:=by first | exact Or.inl rfl | exact Or.inr (Or.inl rfl) | exact Or.inr (Or.inr rfl)) (hd:(x == ("__debug__":Str))=false:=by decide)
 (hcd:(x == ("__classdict__":Str))=false:=by decide):PE X (.Name x pos) (tE Pg cl E d (.var i)):=zO hN hv hd hcd
theorem qF (i:Nat) {x:Str} {pos:Pos} (hN:X.N.Nodup) (hi:X.N[i]? =some x:=by rfl) (hx:Loc X.env.scope x:=by first | exact Or.inl rfl | exact Or.inr rfl) (hf:X.fn x=true\/X.env.scope.names.lookup x=some .local:=by first | exact .inl rfl | exact .inr rfl | assumption):PG X (.Name x pos) (tG cl (.nm i)):=xH hN hi hx hf
theorem jR (i:Nat) {x:Str} {e:Expr} {y:Ev.X} {pos pos':Pos} (hN:X.N.Nodup) (he:PE X e (tE Pg cl E d y)) (hi:X.N[i]? =some x:=by rfl) (hx:Loc X.env.scope x:=by first | exact Or.inl rfl | exact Or.inr rfl) (hs:swapsWith e (some (.Name x pos')) pos.line X.env=pure false:=by rfl) (hf:X.fn x=true\/X.env.scope.names.lookup x=some .local:=by first | exact .inl rfl | exact .inr rfl | assumption):
 PS X (.Assign [.Name x pos'] e pos) (tS Pg cl E d σ0 (.asg (.nm i) y)):=zW hN hi hx he hs hf
theorem v5 {k k' f:Nat} {fa:Addr} {fd:FuncData} {ps:List Str} {x:Str} {st:Stmt} {e:Expr} {es:List Expr} {y:Ev.X} {ys:List Ev.X} {p pos:Pos} (F:aU X.prog X.w X.K X.mg X.base (CXE X.prog X.w) k fa fd ps (spF Pg cl d f)) (D:Df X.K X.mg x st ps fa fd) (hr:bA k' X.A)
 (hx:Passes (CXE X.prog X.w) X E) (ha:PA X (e::es) (tA Pg cl E d (y::ys))) (hk:k <= k':=by omega) (hg:Gl X x:=by rfl) (hdb:(x == ("__debug__":Str))=false:=by decide) (he:starEach (e::es) X.env=(false,eval e X.env)::starEach es X.env:=by rfl) (hpl:(backTo pos (starEach es X.env)).any (·.1)=false:=by rfl):
 PE X (.Call (.Name x p) (e::es) [] pos) (tE Pg cl E d (.call f (y::ys))):=xP F (hr.mono hk) hg D.mg D.fn.kp D.bd hx ha hdb he hpl
end
end Ev
namespace Ev
open PySem L2
def Qn (ps:List Str) (P:List Value->Prop):Prop:=match ps with
 | []=>P []
 | _::ps=>∀ v,Qn ps fun us=>P (v::us)
theorem sY:∀ {ps:List Str} {P:List Value->Prop},Qn ps P->∀ us:List Value,us.length=ps.length->P us
 | [],_,h,[],_=>h
 | [],_,_,_::_,e=>by simp at e
 | _::_,_,_,[],e=>by simp at e
 | _::_,_,h,v::us,e=>sY (h v) us (by simpa using e)
section
variable {K:PySem.W.Frag} {x q m:Str} {st:Stmt} {f C:Addr} {fd:FuncData} {ps:List Str} {h:Heap} {mg:Str->Option Value}
theorem fbn (F:Fun K x q st f fd) (b:∀ kV doc pm an cdv ct,Qn ps fun us=>bindArgs (PySem.W.fnOf x q (cN st) (bx st) (aj st) .none kV doc pm an cdv ct) ⟨us,[]⟩ =pure (ps.zip us):=by (repeat intro _);exact rfl):Binds K fd ps []:=
 F.binds fun kV doc pm an cdv ct us hl=>sY (b kV doc pm an cdv ct) us hl
structure DK (K:PySem.W.Frag) (x:Str) (st:Stmt) (f:Addr) (fd:FuncData):Prop where
 F:Fun K x x st f fd
 a:PySem.W.nsIn K mainGlobals x=some (some (.ref f))
theorem DK.df (D:DK K x st f fd) (X:K.In h) (G:h.Ns mainGlobals mg) (b:∀ kV doc pm an cdv ct,Qn ps fun us=>bindArgs (PySem.W.fnOf x x (cN st) (bx st) (aj st) .none kV doc pm an cdv ct) ⟨us,[]⟩ =pure (ps.zip us):=by (repeat intro _);exact rfl):Df K mg x st ps f fd:=⟨D.F,fbn D.F b,PySem.W.mg_of X G D.a⟩
theorem gK {oc:Value} {od an:Option Addr} {osl:Array (Option Value)} {kV doc pm cdv ct:Value} (a:PySem.W.nsIn K mainGlobals x=some (some (.ref f))) (l:K.lookup f=some ⟨oc,od,.func (PySem.W.fnOf x x (cN st) (bx st) (aj st) .none kV doc pm an cdv ct),osl⟩)
 (c:PySem.W.codeIn K cdv x=true) (k:PySem.W.keepIn K (.ref f)=true):∃ fd,DK K x st f fd:=⟨_,rN l c k,a⟩
structure MK (K:PySem.W.Frag) (C:Addr) (m q:Str) (st:Stmt) (f:Addr) (fd:FuncData):Prop where
 F:Fun K m q st f fd
 a:PySem.W.findIn K (.ref C) m=some (some (.ref f))
 n:PySem.W.isFn K (.ref f)=true
structure IK (K:PySem.W.Frag) (C:Addr) (m q:Str) (st:Stmt) (f:Addr) (fd:FuncData):Prop where
 F:Fun K m q st f fd
 a:PySem.W.findIn K (.ref C) m=some (some (.ref f))
 n:PySem.W.typeIn K (.ref f)=some (.type "function")
section
variable {n q':Str} {N S:Addr} {bs sub:List Value} {sn:List Str} {ab:Bool} {col:Option Bool} {dd:Option Addr} {k0 k1 k2 k3 k5:Option Value}
structure XK1 (K:PySem.W.Frag) (C S:Addr):Prop where
 X:zq K C
 k:PySem.W.keepIn K (.ref C)=true
 w:yK K C "word"
 s:Dz K C S
end
end
end Ev
set_option maxRecDepth 100000
set_option maxHeartbeats 4000000
namespace Ev
open PySem PyProof.Rows L2
noncomputable section
end
section
variable {X:Cx}
variable {cl:Cn}
end
end Ev
namespace Ev
open PySem PyProof.Rows L2
section
variable {Pg:List Fn} {cl:Cn} {E:XK} {d:Nat} {X:Cx}
end
end Ev
set_option maxRecDepth 100000
set_option maxHeartbeats 4000000
namespace Ev
open PySem PySem.Spec PySem.SeqAt PyProof.Rows L2
section
variable {Pg:List Fn} {cl:Cn} {E:XK} {d:Nat} {X:Cx} {σ σ0:L2.St} {H H0:Hp} {ρ:List Addr} {h:Hs}
def Far (r:Addr) (H0 H:Hp) (ρ:List Addr):Prop:=∀ a u,a ≠ r->(∀ ps,u ≠ .tbl ps)->H0 a=some u->a ∉ ρ/\H a=some u
theorem Far.bt {r:Addr} {H':Hp} {ρ':List Addr} (f:Far r H0 H ρ) (b:Bt cl ρ H ρ' H') (t:Tb cl H):Far r H0 H' ρ':=fun a u na nu e=>by
 obtain ⟨n,q⟩:=f a u na nu e
 exact ⟨(b.2 a u q n).1,b.kept t nu n q⟩
structure CT (cl:Cn) (n i:Nat) (kv:List (Nat × W)) (os:List O) (r:Addr) (row:List V) (σ0:L2.St) (H0:Hp) (σ:L2.St) (H:Hp):Prop where
 len:σ.length=n
 z:σ[0]? =σ0[0]?
 at_:σ[i]? =some (some (.ref r))
 row:H r=some (.lst row)
 sim:∃ ρ,Sim cl ρ (heapOf os) H/\RS ρ (frm n kv) σ/\r ∉ ρ/\Far r H0 H ρ
noncomputable def off (τ:Sg) (i:Nat):Bool:=Option.rec true (fun _=>false) (aH τ i)
theorem Ae {τ:Sg} {i:Nat} (e:off τ i=true):aH τ i=none:=by
 unfold off at e
 cases z:aH τ i with
 | none=>rfl
 | some _=>rw [z] at e;cases e
theorem CT.in {n i:Nat} {kv:List (Nat × W)} {os:List O} {r:Addr} {row:List Int} (c:CT cl n i kv os r (row.map V.int) σ0 H0 σ H):∃ ρ,Sim cl (ρ ++ [r]) (heapOf (os ++ [.lst (row.map W.int)])) H/\RS (ρ ++ [r]) (frm n ((i,.ref os.length)::kv)) σ/\(ρ ++ [r])[os.length]? =some r/\Far r H0 H (ρ ++ [r]):=by
 obtain ⟨ρ,s,rs,nr,fa⟩:=c.sim
 have s2:=s.adopt (o:=.lst (row.map W.int)) nr ⟨_,rw_ints _ row,c.row⟩
 rw [<- jm] at s2
 have hl:ρ.length=os.length:=by rw [s.len,(oh os).1]
 have g:(ρ ++ [r])[os.length]? =some r:=by rw [<- hl,List.getElem?_append_right (Nat.le_refl _),Nat.sub_self];rfl
 have z:=(rs.mono (List.prefix_append ρ [r])).set (w:=.ref os.length) (v:=.ref r) (.ref g) i
 rw [uZ c.at_] at z
 refine ⟨ρ,s2,z,g,fun a u na nu eu=>?_⟩
 obtain ⟨n1,q⟩:=fa a u na nu eu
 exact ⟨fun y=>(List.mem_append.mp y).elim n1 fun y=>na (by simpa using y),q⟩
noncomputable def u6 (n:Nat) (r:R A):Bool:=R.rec (fun a _=>A.rec (fun _=>false) (fun _=>false) (fun _=>false) (fun fl=>Fl.rec (fun τ=>ifB (Nat.beq (len τ) n) (off τ 0) false) (fun _=>false) (fun _=>false) (fun τ=>ifB (Nat.beq (len τ) n) (off τ 0) false) fl) false a) (fun _ _ _=>false) false r
theorem Af {n i m:Nat} {kv:List (Nat × W)} {os:List O} {tl:List S} {D:Ends} {r:Addr} {row:List Int} (c:CT cl n i kv os r (row.map V.int) σ0 H0 σ H)
 (run:u6 n (evs Pg m d (.ss tl) (frm n ((i,.ref os.length)::kv)) (heapOf (os ++ [.lst (row.map W.int)])))=true) (k:∀ σ' H',Kept cl n r σ0 H0 σ' H'->D.nx σ' H'/\D.ct σ' H'):tSt Pg cl E d tl lR D σ H:=by
 obtain ⟨ρ,s,rs,g,fa⟩:=c.in
 have key:∀ ρ' H' σ' τ' h',Bt cl (ρ ++ [r]) H ρ' H'->Sim cl ρ' h' H'->RS ρ' τ' σ'->Ag σ τ' σ'->ifB (Nat.beq (Ev.len τ') n) (off τ' 0) false=true->D.nx σ' H'/\D.ct σ' H':=fun ρ' H' σ' τ' h' b s' rs' ag e=>by
  obtain ⟨e1,e2⟩:=vZ e
  rw [len_eq] at e1
  have fa':=fa.bt b s.tb
  exact k σ' H' ⟨by rw [<- rs'.len];exact Nat.eq_of_beq_eq_true e1,(ag 0 (Ae e2)).trans c.z,s'.tb,fun a u na nu eu=>(fa' a u na nu eu).2⟩
 refine ⟨_,_,_,m,s,rs,fun _ _=>rfl,?_⟩
 generalize evs Pg m d (.ss tl) (frm n ((i,.ref os.length)::kv)) (heapOf (os ++ [.lst (row.map W.int)]))=rr at run
 cases rr with
 | ok a h'=>
   cases a with
   | fl fl=>
     cases fl with
     | nx τ'=>exact fun ρ' H' bt s'=>⟨_,rfl,fun σ' rs' ag=>(key ρ' H' σ' τ' h' bt s' rs' ag run).1⟩
     | ct τ'=>exact fun ρ' H' bt s'=>⟨_,rfl,fun σ' rs' ag=>(key ρ' H' σ' τ' h' bt s' rs' ag run).2⟩
     | _=>cases run
   | _=>cases run
 | _=>cases run
end
end Ev
set_option maxRecDepth 100000
set_option maxHeartbeats 4000000
namespace Ev
open PySem PySem.Spec PySem.SeqAt PyProof.Rows L2
section
variable {Pg:List Fn} {cl:Cn} {E:XK} {d:Nat} {X:Cx} {σ σ0:L2.St} {H H':Hp} {ρ ρ' ρ2:List Addr} {h h2:Hs}
def KVs (ρ:List Addr) (kv:List (Nat × W)) (σ:L2.St):Prop:=∀ j w,(j,w) ∈ kv->∃ v,σ[j]? =some (some v)/\RW ρ w v
structure C2 (cl:Cn) (n i:Nat) (kv:List (Nat × W)) (os:List O) (kw:List (Nat × W)) (ot:List O) (r:Addr) (row:List V) (σ:L2.St) (H:Hp):Prop where
 len:σ.length=n
 at_:σ[i]? =some (some (.ref r))
 row:H r=some (.lst row)
 sim:∃ ρ ρ2,Sim cl ρ (heapOf os) H/\KVs ρ kv σ/\r ∉ ρ/\Sim cl ρ2 (heapOf ot) H/\KVs ρ2 kw σ/\r ∉ ρ2/\∀ a ∈ ρ2,a ∉ ρ
end
end Ev
set_option maxRecDepth 100000
set_option maxHeartbeats 4000000
namespace Ev
open PySem PySem.Spec PySem.SeqAt PyProof.Rows L2
noncomputable section
end
section
variable {Pg:List Fn} {cl:Cn} {E:XK} {d:Nat} {X:Cx} {σ:L2.St} {H:Hp}
end
end Ev
set_option maxRecDepth 100000
set_option maxHeartbeats 4000000
namespace Ev
open PySem PySem.Spec PySem.SeqAt PyProof.Rows L2
noncomputable section
end
section
variable {Pg:List Fn} {cl:Cn} {E:XK} {d:Nat} {X:Cx} {σ:L2.St} {H:Hp} {ρ:List Addr}
abbrev Ei (Pg:List Fn) (cl:Cn) (E:XK) (d:Nat) (cs:List (List Nat)) (es:List Ev.X):List (TE × TE):=List.zipWith (fun c e=>(tE Pg cl E d (.cst (.str c)),tE Pg cl E d e)) cs es
end
end Ev
namespace Ev
open PySem L2
noncomputable section
end
section
variable {Pg:List Fn} {cl:Cn} {E:XK} {d:Nat} {X:Cx}
end
end Ev
namespace Ev
open PySem L2
section
variable {Pg:List Fn} {cl:Cn} {E:XK} {d:Nat} {X:Cx}
structure QPs (X:Cx) (pos:Pos) (keys:List (Option Expr)) (values:List Expr) (Pg:List Fn) (cl:Cn) (E:XK) (d:Nat) (cs:List (List Nat)) (es:List Ev.X):Prop where
 h:PPs X pos keys values (Ei Pg cl E d cs es)
end
end Ev
namespace Ev
open PySem L2
section
variable {Pg:List Fn} {cl:Cn} {E:XK} {d:Nat} {X:Cx}
end
end Ev
namespace Ev
open PySem L2
section
variable {cl:Cn}
end
end Ev
set_option maxRecDepth 100000
set_option maxHeartbeats 4000000
namespace Ev
open PySem PyProof.Rows L2
noncomputable section
end
section
variable {X:Cx}
variable {cl:Cn}
end
end Ev
set_option maxRecDepth 100000
set_option maxHeartbeats 4000000
namespace L2
open PySem PySem.Spec PySem.SeqAt PyProof.Rows
def nG (X:Cx) (N':List Str) (sc:Scope) (y:Str) (C:Addr) (s₀:Shared) (H₀:Hp) (fp:List Addr):Cx:=
 { X with N:=N',s₀:=s₀,H₀:=H₀,env:=compEnvC sc ((y,C + 1)::dw X.env.cells sc.names []) C X.env,outer:=X.stack,ex:=fp,fn:=fun x=>x == y,pn:=[],xe:=fun _ _=>False }
structure EY (X:Cx) (N':List Str) (sc:Scope) (nt:Nat) (idx:List Nat) (y:Str):Prop where
 kind:sc.kind= .function
 cf:∀ n acc,cellsFrom n sc.names acc=(y,n)::acc
 pc:∀ h,pushCells h sc.names=h.push { cls:=.type "cell",data:=.cell none }
 nc:∀ z ∈ sc.names,z.2= .cell->z.1=y
 nf:∀ z ∈ sc.names,z.2= .free->z.1 ≠ y
 loc:∀ y ∈ sc.names,y.2= .local->sc.names.lookup y.1=some .local
 fr:∀ y ∈ sc.names,y.2= .free->X.env.kindOf y.1=some .cell\/X.env.kindOf y.1=some .free
 len:nt + idx.length=N'.length
 ix:∀ p ∈ idx.zip (N'.drop nt),X.N[p.1]? =some p.2/\sc.names.lookup p.2=some .free
section
variable {X:Cx} {N':List Str} {sc:Scope} {yc:Str} {nt:Nat} {idx:List Nat} {elt tg iter:Expr} {ifs:List Expr} {gs:List Comprehension} {pos:Pos} {wi:TI} {g:TG} {tif:TT} {tin:Addr->TN}
structure Ew (X:Cx) (N':List Str) (sc:Scope) (yc:Str) (elt tg iter:Expr) (ifs:List Expr) (gs:List Comprehension) (pos:Pos) (g:TG) (tif:TT) (tin:Addr->TN):Prop where
 ok:∀ (C:Addr) (s₀:Shared) (H₀:Hp) (fp:List Addr) (D it:Addr),∃ inner:Sem Unit,
  compTurn (.ListComp elt (⟨tg,iter,ifs,0⟩::gs) sc pos) 0 (.ref it) (.ref D) (nG X N' sc yc C s₀ H₀ fp).env=fB (.ListComp elt (⟨tg,iter,ifs,0⟩::gs) sc pos) 0 (.ref it) (.ref D) (nG X N' sc yc C s₀ H₀ fp).env tg ifs iter.pos inner/\
  PG (nG X N' sc yc C s₀ H₀ fp) tg g/\PTs (nG X N' sc yc C s₀ H₀ fp) ifs tif/\PN (nG X N' sc yc C s₀ H₀ fp) inner (tin D)
end
end L2
namespace L2
open PySem PySem.Spec PySem.SeqAt PyProof.Rows
end L2
namespace Ev
open PySem PyProof.Rows L2
section
variable {Pg:List Fn} {cl:Cn} {E:XK} {d:Nat} {X:Cx} {σ:L2.St} {H:Hp} {yc:Str}
variable {N':List Str} {sc:Scope} {nt:Nat} {idx:List Nat} {elt tg iter tg2 Cr:Expr} {ifs Eg:List Expr} {gs:List Comprehension} {pos:Pos} {wi wi2:TI} {it it2:I} {t t2:Tg} {c c2:Option Ev.X} {e:Ev.X}
end
end Ev
set_option maxRecDepth 100000
set_option maxHeartbeats 4000000
namespace Ev
open PySem PyProof.Rows L2 PySem.W
section
variable {X:Cx}
end
section
variable {cl:Cn}
end
end Ev
set_option maxRecDepth 100000
set_option maxHeartbeats 4000000
namespace Ev
open PySem PyProof.Rows L2 PySem.W
section
variable {X:Cx}
end
section
variable {cl:Cn}
end
end Ev
set_option maxRecDepth 100000
set_option maxHeartbeats 4000000
namespace Ev
noncomputable section
def okQ {α:Type} (r:R α) (Q:α->Hs->Prop):Prop:=R.rec Q (fun _ _ _=>False) False r
def aW (Q:W->Hs->Prop) (a:A) (h:Hs):Prop:=A.rec (fun w=>Q w h) (fun _=>False) (fun _=>False) (fun _=>False) False a
def aL (Q:List W->Hs->Prop) (a:A) (h:Hs):Prop:=A.rec (fun _=>False) (fun w=>Q w h) (fun _=>False) (fun _=>False) False a
def aV (Q:Iv->Hs->Prop) (a:A) (h:Hs):Prop:=A.rec (fun _=>False) (fun _=>False) (fun w=>Q w h) (fun _=>False) False a
def aF (Q:Fl->Hs->Prop) (a:A) (h:Hs):Prop:=A.rec (fun _=>False) (fun _=>False) (fun _=>False) (fun w=>Q w h) False a
def wX (e:X) (K:Ks) (n:Nat) (τ:Sg) (h:Hs) (Q:W->Hs->Prop):Prop:=okQ (e.f K n τ h) (aW Q)
def wA (es:List X) (K:Ks) (n:Nat) (τ:Sg) (h:Hs) (Q:List W->Hs->Prop):Prop:=okQ (goA es K n τ h) (aL Q)
def wI (e:I) (K:Ks) (n:Nat) (τ:Sg) (h:Hs) (Q:Iv->Hs->Prop):Prop:=okQ (e.f K n τ h) (aV Q)
def w1 (s:S) (K:Ks) (n:Nat) (τ:Sg) (h:Hs) (Q:Fl->Hs->Prop):Prop:=okQ (s.f K n τ h) (aF Q)
def wS (s:List S) (K:Ks) (n:Nat) (τ:Sg) (h:Hs) (Q:Fl->Hs->Prop):Prop:=okQ (cB s K n τ h) (aF Q)
def wP (p:Pr) (ws:List W) (h:Hs) (Q:W->Hs->Prop):Prop:=okQ (p.f ws h) Q
def wC (f:Nat) (ws:List W) (K:Ks) (n:Nat) (h:Hs) (Q:W->Hs->Prop):Prop:=okQ (jH f ws K n h) (aW Q)
def qG (ss:List S) (K:Ks) (n:Nat) (h:Hs) (Q:Fl->Hs->Prop) (f:Fl):Prop:=Fl.rec (fun τ=>wS ss K n τ h Q) (fun w=>Q (.rt w) h) (fun τ=>Q (.bk τ) h) (fun τ=>Q (.ct τ) h) f
def u9 (Q:W->Hs->Prop) (f:Fl) (h:Hs):Prop:=Fl.rec (fun _=>Q .non h) (fun w=>Q w h) (fun _=>False) (fun _=>False) f
def bW (w:W) (t f:Prop):Prop:=W.rec False (fun b=>Bool.rec f t b) (fun _=>False) (fun _=>False) (fun _=>False) w
end
section
variable {K:Ks} {n:Nat} {τ:Sg} {h:Hs}
theorem nH {α:Type} {r:R α} {Q Q':α->Hs->Prop} (x:okQ r Q) (f:∀ a h,Q a h->Q' a h):okQ r Q':=by
 cases r with
 | ok a h=>exact f a h x
 | _=>exact x
theorem xW {Q Q':W->Hs->Prop} (f:∀ w h,Q w h->Q' w h):∀ a h,aW Q a h->aW Q' a h:=fun a h x=>by
 cases a with
 | w w=>exact f w h x
 | _=>exact x
theorem xX {e:X} {Q Q':W->Hs->Prop} (x:wX e K n τ h Q) (f:∀ w h,Q w h->Q' w h):wX e K n τ h Q':=nH x (xW f)
theorem fM {e:X} {Q:W->Hs->Prop} (x:wX e K n τ h Q):∃ w h',e.f K n τ h= .ok (.w w) h'/\Q w h':=by
 unfold wX at x
 generalize e.f K n τ h=r at x
 cases r with
 | ok a h'=>cases a with
   | w w=>exact ⟨w,h',rfl,x⟩
   | _=>exact x.elim
 | _=>exact x.elim
theorem Cu {s:List S} {Q:Fl->Hs->Prop} (x:wS s K n τ h Q):∃ w h',cB s K n τ h= .ok (.fl w) h'/\Q w h':=by
 unfold wS at x
 generalize cB s K n τ h=r at x
 cases r with
 | ok a h'=>cases a with
   | fl w=>exact ⟨w,h',rfl,x⟩
   | _=>exact x.elim
 | _=>exact x.elim
theorem Ah {i:Nat} {w:W} {Q:W->Hs->Prop} (e:aH τ i=some w):wX (.var i) K n τ h Q ↔ Q w h:=by
 show okQ (Option.rec (motive:=fun _=>R A) .no (fun w=>.ok (.w w) h) (aH τ i)) _ ↔ _
 rw [e];exact Iff.rfl
theorem iG {w:W} {Q:W->Hs->Prop}:wX (.cst w) K n τ h Q ↔ Q w h:=Iff.rfl
theorem bQ {Q:List W->Hs->Prop}:wA [] K n τ h Q ↔ Q [] h:=Iff.rfl
theorem aC {e:X} {es:List X} {Q:List W->Hs->Prop}:wA (e::es) K n τ h Q ↔ wX e K n τ h fun w h=>wA es K n τ h fun ws h=>Q (w::ws) h:=by
 show okQ (R.rec (motive:=fun _=>R A) (fun r h=>A.rec (motive:=fun _=>R A) (fun w=>R.rec (motive:=fun _=>R A) (fun r h=>A.rec (motive:=fun _=>R A) (fun _=>.no) (fun ws=>.ok (.ws (w::ws)) h) (fun _=>.no) (fun _=>.no) .no r) (fun C fs h=>.ex C fs h) .no (goA es K n τ h)) (fun _=>.no) (fun _=>.no) (fun _=>.no) .no r) (fun C fs h=>.ex C fs h) .no (e.f K n τ h)) _ ↔ okQ (e.f K n τ h) _
 generalize e.f K n τ h=r
 cases r with
 | ok a h1=>cases a with
   | w w=>
     show okQ (R.rec (motive:=fun _=>R A) (fun r h=>A.rec (motive:=fun _=>R A) (fun _=>.no) (fun ws=>.ok (.ws (w::ws)) h) (fun _=>.no) (fun _=>.no) .no r) (fun C fs h=>.ex C fs h) .no (goA es K n τ h1)) _ ↔ okQ (goA es K n τ h1) _
     generalize goA es K n τ h1=r
     cases r with
     | ok a h2=>cases a <;> exact Iff.rfl
     | _=>exact Iff.rfl
   | _=>exact Iff.rfl
 | _=>exact Iff.rfl
theorem cQ {p:Pr} {es:List X} {Q:W->Hs->Prop}:wX (.pr p es) K n τ h Q ↔ wA es K n τ h fun ws h=>wP p ws h Q:=by
 show okQ (R.rec (motive:=fun _=>R A) (fun r h=>A.rec (motive:=fun _=>R A) (fun _=>.no) (fun ws=>R.rec (motive:=fun _=>R A) (fun w h=>.ok (.w w) h) (fun C f h=>.ex C f h) .no (p.f ws h)) (fun _=>.no) (fun _=>.no) .no r) (fun C fs h=>.ex C fs h) .no (goA es K n τ h)) _ ↔ okQ (goA es K n τ h) _
 generalize goA es K n τ h=r
 cases r with
 | ok a h1=>cases a with
   | ws ws=>
     show okQ (R.rec (motive:=fun _=>R A) (fun w h=>.ok (.w w) h) (fun C f h=>.ex C f h) .no (p.f ws h1)) _ ↔ okQ (p.f ws h1) Q
     generalize p.f ws h1=r
     cases r <;> exact Iff.rfl
   | _=>exact Iff.rfl
 | _=>exact Iff.rfl
theorem kE {f:Nat} {es:List X} {Q:W->Hs->Prop}:wX (.call f es) K n τ h Q ↔ wA es K n τ h fun ws h=>wC f ws K n h Q:=by
 show okQ ((goA es K n τ h).bind fun a h=>a.toL fun ws=>jH f ws K n h) _ ↔ okQ (goA es K n τ h) _
 generalize goA es K n τ h=r
 cases r with
 | ok a h1=>cases a <;> exact Iff.rfl
 | _=>exact Iff.rfl
theorem nJ {Q:Fl->Hs->Prop}:wS [] K n τ h Q ↔ Q (.nx τ) h:=Iff.rfl
theorem kI {s:S} {ss:List S} {Q:Fl->Hs->Prop}:wS (s::ss) K n τ h Q ↔ w1 s K n τ h fun f h=>qG ss K n h Q f:=by
 show okQ ((s.f K n τ h).bind fun r h=>r.toF fun f=>Fl.rec (motive:=fun _=>R A) (fun τ=>cB ss K n τ h) (fun w=>.ok (.fl (.rt w)) h) (fun τ=>.ok (.fl (.bk τ)) h) (fun τ=>.ok (.fl (.ct τ)) h) f) _ ↔ okQ (s.f K n τ h) _
 generalize s.f K n τ h=r
 cases r with
 | ok x h1=>cases x with
   | fl f=>cases f <;> exact Iff.rfl
   | _=>exact Iff.rfl
 | _=>exact Iff.rfl
theorem sZ {i:Nat} {e:X} {Q:Fl->Hs->Prop}:w1 (.asg (.nm i) e) K n τ h Q ↔ wX e K n τ h fun w h=>Q (.nx (setAt τ (some w) i)) h:=by
 show okQ ((e.f K n τ h).bind fun r h=>r.toW fun w=>R.ok (A.fl (.nx (setAt τ (some w) i))) h) (aF Q) ↔ okQ (e.f K n τ h) _
 generalize e.f K n τ h=r
 cases r with
 | ok x h1=>cases x <;> exact Iff.rfl
 | _=>exact Iff.rfl
theorem Ai {e:X} {Q:Fl->Hs->Prop}:w1 (.ret e) K n τ h Q ↔ wX e K n τ h fun w h=>Q (.rt w) h:=by
 show okQ ((e.f K n τ h).bind fun r h=>r.toW fun w=>R.ok (A.fl (.rt w)) h) (aF Q) ↔ okQ (e.f K n τ h) _
 generalize e.f K n τ h=r
 cases r with
 | ok x h1=>cases x <;> exact Iff.rfl
 | _=>exact Iff.rfl
theorem xY {e:X} {Q:Fl->Hs->Prop}:w1 (.expr e) K n τ h Q ↔ wX e K n τ h fun w h=>Q (.nx τ) h:=by
 show okQ ((e.f K n τ h).bind fun r h=>r.toW fun w=>R.ok (A.fl (.nx τ)) h) (aF Q) ↔ okQ (e.f K n τ h) _
 generalize e.f K n τ h=r
 cases r with
 | ok x h1=>cases x <;> exact Iff.rfl
 | _=>exact Iff.rfl
theorem tu {c:X} {a b:List S} {Q:Fl->Hs->Prop}:w1 (.ife c a b) K n τ h Q ↔ wX c K n τ h fun w h=>bW w (wS a K n τ h Q) (wS b K n τ h Q):=by
 show okQ ((c.f K n τ h).bind fun r h=>r.toW fun w=>w.onB (cB b K n τ h) (cB a K n τ h)) _ ↔ okQ (c.f K n τ h) _
 generalize c.f K n τ h=r
 cases r with
 | ok x h1=>cases x with
   | w w=>cases w with
     | bl k=>cases k <;> exact Iff.rfl
     | _=>exact Iff.rfl
   | _=>exact Iff.rfl
 | _=>exact Iff.rfl
theorem tD {Pg:List Fn} {d f np k:Nat} {b:List S} {ws:List W} {Q:W->Hs->Prop} (e:nth Pg f=some (.mk np k b)) (l:Nat.beq (len ws) np=true):wC f ws (aZ Pg (d + 1)) (n + 1) h Q ↔ wS b (aZ Pg d) n (frame k ws) h (u9 Q):=by
 show okQ (Opt (nth Pg f) (vM (aZ Pg d) n h ws)) _ ↔ _
 rw [e]
 show okQ (ifB (Nat.beq (len ws) np) ((cB b (aZ Pg d) n (frame k ws) h).bind fun r h=>r.toF fun f=>jG h f) .no) _ ↔ okQ (cB b (aZ Pg d) n (frame k ws) h) _
 rw [l]
 generalize cB b (aZ Pg d) n (frame k ws) h=r
 cases r with
 | ok x h1=>cases x with
   | fl f=>cases f <;> exact Iff.rfl
   | _=>exact Iff.rfl
 | _=>exact Iff.rfl
end
end Ev
set_option maxRecDepth 100000
set_option maxHeartbeats 4000000
namespace Ev
def Ext (h h':Hs):Prop:=h.n <= h'.n/\∀ k,k < h.n->h'.get k=h.get k
theorem Ext.refl {h:Hs}:Ext h h:=⟨Nat.le_refl _,fun _ _=>rfl⟩
theorem Ext.trans {a b c:Hs} (x:Ext a b) (y:Ext b c):Ext a c:=⟨Nat.le_trans x.1 y.1,fun k l=>(y.2 k (Nat.lt_of_lt_of_le l x.1)).trans (x.2 k l)⟩
theorem Ext.push {h:Hs} {o:O}:Ext h (h.push o):=⟨by rw [Hs.iB];omega,fun k l=>by rw [Hs.fC,if_neg (by omega)]⟩
theorem Ext.set {h h':Hs} {k:Nat} {o:O} (x:Ext h h') (l:h.n <= k):Ext h (h'.set k o):=⟨by rw [Hs.jK];exact x.1,fun j g=>by rw [Hs.get_set,if_neg (by omega)];exact x.2 j g⟩
theorem Ext.get {h h':Hs} {k:Nat} {o:O} (x:Ext h h') (l:k < h.n) (e:h.get k=some o):h'.get k=some o:=(x.2 k l).trans e
theorem bu {h:Hs} {o:O}:(h.push o).get h.n=some o:=by rw [Hs.fC,if_pos rfl]
theorem eZ {h:Hs} {o:O}:h.n < (h.push o).n:=by rw [Hs.iB];omega
mutual
def Rd (h:Hs) (A:Nat->Prop):D->W->Prop
 | .non,w=>w= .non
 | .bl b,w=>w= .bl b
 | .int i,w=>w= .int i
 | .str c,w=>w= .str c
 | .lst ds,w=>∃ p ws,w= .ref p/\p < h.n/\A p/\h.get p=some (.lst ws)/\Rds h A ds ws
 | .tup ds,w=>∃ p ws,w= .ref p/\p < h.n/\A p/\h.get p=some (.tup ws)/\Rds h A ds ws
def Rds (h:Hs) (A:Nat->Prop):List D->List W->Prop
 | [],ws=>ws= []
 | d::ds,ws=>∃ w r,ws=w::r/\Rd h A d w/\Rds h A ds r
end
mutual
theorem Rd.to {h h':Hs} {A A':Nat->Prop} (n:h.n <= h'.n) (x:∀ k,k < h.n->A k->h'.get k=h.get k/\A' k):∀ (d:D) (w:W),Rd h A d w->Rd h' A' d w
 | .non,_,z | .bl _,_,z | .int _,_,z | .str _,_,z=>by simpa [Rd] using z
 | .lst ds,w,z=>by
   simp only [Rd] at z ⊢
   obtain ⟨p,ws,e,l,a,g,r⟩:=z
   exact ⟨p,ws,e,Nat.lt_of_lt_of_le l n,(x p l a).2,(x p l a).1.trans g,Rds.to n x ds ws r⟩
 | .tup ds,w,z=>by
   simp only [Rd] at z ⊢
   obtain ⟨p,ws,e,l,a,g,r⟩:=z
   exact ⟨p,ws,e,Nat.lt_of_lt_of_le l n,(x p l a).2,(x p l a).1.trans g,Rds.to n x ds ws r⟩
theorem Rds.to {h h':Hs} {A A':Nat->Prop} (n:h.n <= h'.n) (x:∀ k,k < h.n->A k->h'.get k=h.get k/\A' k):∀ (ds:List D) (ws:List W),Rds h A ds ws->Rds h' A' ds ws
 | [],_,z=>by simpa [Rds] using z
 | d::ds,ws,z=>by
   simp only [Rds] at z ⊢
   obtain ⟨w,r,e,a,b⟩:=z
   exact ⟨w,r,e,Rd.to n x d w a,Rds.to n x ds r b⟩
end
theorem Rds.ext {h h':Hs} {A:Nat->Prop} {d:List D} {w:List W} (z:Rds h A d w) (x:Ext h h'):Rds h' A d w:=Rds.to x.1 (fun k l a=>⟨x.2 k l,a⟩) d w z
theorem Rd.imp {h:Hs} {A A':Nat->Prop} {d:D} {w:W} (z:Rd h A d w) (x:∀ k,k < h.n->A k->A' k):Rd h A' d w:=Rd.to (Nat.le_refl _) (fun k l a=>⟨rfl,x k l a⟩) d w z
theorem Rds.imp {h:Hs} {A A':Nat->Prop} {d:List D} {w:List W} (z:Rds h A d w) (x:∀ k,k < h.n->A k->A' k):Rds h A' d w:=Rds.to (Nat.le_refl _) (fun k l a=>⟨rfl,x k l a⟩) d w z
theorem Rds.snoc {h:Hs} {A:Nat->Prop}:∀ {ds:List D} {ws:List W} {d:D} {w:W},Rds h A ds ws->Rd h A d w->Rds h A (ds ++ [d]) (ws ++ [w])
 | [],_,d,w,z,e=>by simp only [Rds] at z;subst z;simp only [List.nil_append,Rds];exact ⟨w,[],rfl,e,rfl⟩
 | d::ds,ws,d',w',z,e=>by
   simp only [Rds] at z
   obtain ⟨w,r,rfl,a,b⟩:=z
   simp only [List.cons_append,Rds]
   exact ⟨w,r ++ [w'],rfl,a,b.snoc e⟩
mutual
def dZ:D->Nat
 | .lst ds | .tup ds=>l_ ds + 1
 | _=>1
def l_:List D->Nat
 | []=>0
 | d::ds=>max (dZ d) (l_ ds)
end
noncomputable section
mutual
def okD:D->Bool
 | .str c=>okC c
 | .lst ds | .tup ds=>qH ds
 | _=>true
def qH:List D->Bool
 | []=>true
 | d::ds=>okD d && qH ds
end
end
mutual
theorem tH {h:Hs} {A:Nat->Prop}:∀ (d:D) (w:W) (k:Nat),Rd h A d w->dZ d <= k->okD d=true->toD h k w=some d
 | .non,w,0,z,l,_ | .bl _,w,0,z,l,_ | .int _,w,0,z,l,_ | .str _,w,0,z,l,_=>by simp [dZ] at l
 | .lst _,w,0,z,l,_ | .tup _,w,0,z,l,_=>by simp [dZ] at l
 | .non,w,k + 1,z,_,_=>by simp only [Rd] at z;subst z;rfl
 | .bl _,w,k + 1,z,_,_=>by simp only [Rd] at z;subst z;rfl
 | .int _,w,k + 1,z,_,_=>by simp only [Rd] at z;subst z;rfl
 | .str c,w,k + 1,z,_,o=>by
   simp only [Rd] at z;subst z
   have o:okC c=true:=by simpa [okD] using o
   show ifB (okC c) (some (D.str c)) none=_
   rw [o];rfl
 | .lst ds,w,k + 1,z,l,o=>by
   simp only [Rd] at z
   obtain ⟨p,ws,rfl,_,_,g,r⟩:=z
   have e:=kJ ds ws k r (by simpa [dZ] using l) (by simpa [okD] using o)
   show Option.rec (motive:=fun _=>Option D) none (fun o=>O.rec (motive:=fun _=>Option D) (fun xs=>Option.rec (motive:=fun _=>Option D) none (fun ds=>some (D.tup ds)) (cA (toD h k) xs)) (fun xs=>Option.rec (motive:=fun _=>Option D) none (fun ds=>some (D.lst ds)) (cA (toD h k) xs)) (fun _ _=>none) (fun _=>none) (fun _=>none) o) (h.get p)=_
   rw [g]
   show Option.rec (motive:=fun _=>Option D) none (fun ds=>some (D.lst ds)) (cA (toD h k) ws)=_
   rw [e]
 | .tup ds,w,k + 1,z,l,o=>by
   simp only [Rd] at z
   obtain ⟨p,ws,rfl,_,_,g,r⟩:=z
   have e:=kJ ds ws k r (by simpa [dZ] using l) (by simpa [okD] using o)
   show Option.rec (motive:=fun _=>Option D) none (fun o=>O.rec (motive:=fun _=>Option D) (fun xs=>Option.rec (motive:=fun _=>Option D) none (fun ds=>some (D.tup ds)) (cA (toD h k) xs)) (fun xs=>Option.rec (motive:=fun _=>Option D) none (fun ds=>some (D.lst ds)) (cA (toD h k) xs)) (fun _ _=>none) (fun _=>none) (fun _=>none) o) (h.get p)=_
   rw [g]
   show Option.rec (motive:=fun _=>Option D) none (fun ds=>some (D.tup ds)) (cA (toD h k) ws)=_
   rw [e]
theorem kJ {h:Hs} {A:Nat->Prop}:∀ (ds:List D) (ws:List W) (k:Nat),Rds h A ds ws->l_ ds <= k->qH ds=true->cA (toD h k) ws=some ds
 | [],ws,k,z,_,_=>by simp only [Rds] at z;subst z;rfl
 | d::ds,ws,k,z,l,o=>by
   simp only [Rds] at z
   obtain ⟨w,r,rfl,a,b⟩:=z
   simp only [l_,qH,Bool.and_eq_true] at l o
   have e1:=tH d w k a (by omega) o.1
   have e2:=kJ ds r k b (by omega) o.2
   show Option.rec (motive:=fun _=>Option (List D)) none (fun d=>Option.rec (motive:=fun _=>Option (List D)) none (fun ds=>some (d::ds)) (cA (toD h k) r)) (toD h k w)=_
   rw [e1]
   show Option.rec (motive:=fun _=>Option (List D)) none (fun ds=>some (d::ds)) (cA (toD h k) r)=_
   rw [e2]
end
mutual
theorem tK:∀ d:D,bU d d=true
 | .non=>by simp [bU]
 | .bl b=>by simp [bU]
 | .int i=>by simp [bU,jJ]
 | .str c=>by simp [bU,jb.mpr]
 | .lst ds=>by simp [bU,iH ds]
 | .tup ds=>by simp [bU,iH ds]
theorem iH:∀ ds:List D,fQ ds ds=true
 | []=>by simp [fQ]
 | d::ds=>by simp [fQ,tK d,iH ds]
end
mutual
theorem jT:∀ d:D,bH d d=true
 | .non=>by simp [bH]
 | .bl b=>by simp [bH]
 | .int i=>by simp [bH,jJ]
 | .str c=>by simp [bH,jb.mpr]
 | .lst ds=>by simp [bH,fU ds]
 | .tup ds=>by simp [bH,fU ds]
theorem fU:∀ ds:List D,cY ds ds=true
 | []=>by simp [cY]
 | d::ds=>by simp [cY,jT d,fU ds]
end
end Ev
set_option maxRecDepth 100000
set_option maxHeartbeats 4000000
namespace Ev
section
variable {K:Ks} {n:Nat} {τ:Sg} {h:Hs}
def Its (v:Iv) (ws:List W) (h:Hs):Prop:=(∃ p,v= .lst p/\h.get p=some (.lst ws))\/(∃ p,v= .tup p/\h.get p=some (.tup ws))\/(∃ lo:Int,v= .rng lo ws.length/\∀ i,i < ws.length->ws[i]? =some (.int (lo + Int.ofNat i)))
theorem Its.next {v:Iv} {ws:List W} {β:Type} {i:Nat} {fin:R β} {go:W->Hs->R β} (x:Its v ws h):v.next i h fin go=Option.rec fin (fun w=>go w h) (ws[i]?):=by
 rcases x with ⟨p,rfl,g⟩ | ⟨p,rfl,g⟩ | ⟨lo,rfl,g⟩
 · show Opt (h.get p) (fun o=>o.onS fun xs=>Option.rec fin (fun w=>go w h) (nth xs i))=_
   rw [g,<- cH];rfl
 · show Opt (h.get p) (fun o=>o.onT fun xs=>Option.rec fin (fun w=>go w h) (nth xs i))=_
   rw [g,<- cH];rfl
 · show Bool.rec (motive:=fun _=>R β) fin (go (.int (lo + .ofNat i)) h) (Nat.ble (i + 1) ws.length)=_
   by_cases l:i < ws.length
   · rw [g i l,ble_eq,decide_eq_true (show i + 1 <= ws.length from l)]
   · rw [List.getElem?_eq_none (by omega),ble_eq,decide_eq_false (show ¬ i + 1 <= ws.length from by omega)]
def lpQ (I:Sg->Hs->Prop) (Q:Fl->Hs->Prop) (f:Fl) (h:Hs):Prop:=Fl.rec (fun τ=>I τ h) (fun w=>Q (.rt w) h) (fun τ=>Q (.nx τ) h) (fun τ=>I τ h) f
theorem qI {v:Iv} {t:Tg} {b:List S} {ws:List W} {Q:Fl->Hs->Prop} (I:Nat->Sg->Hs->Prop) (its:∀ i τ h,I i τ h->Its v ws h)
 (turn:∀ i w τ h m,ws[i]? =some w->n <= m + ws.length->I i τ h->∃ τ1,aQ h 9 t w τ=some τ1/\wS b K m τ1 h (lpQ (I (i + 1)) Q)) (fin:∀ τ h,I ws.length τ h->Q (.nx τ) h):
 ∀ (k i m:Nat) (τ:Sg) (h:Hs),i + k=ws.length->k < m->n + i <= m + ws.length + i->n <= m + i->I i τ h->okQ (iz v t b K m i τ h) (aF Q)
 | k,i,0,τ,h,e,l,_,_,x=>absurd l (by omega)
 | k,i,m + 1,τ,h,e,l,l1,l2,x=>by
   have u:iz v t b K (m + 1) i τ h=v.next i h (.ok (.fl (.nx τ)) h) fun w h=>Opt (aQ h 9 t w τ) fun τ=>(cB b K m τ h).bind fun r h=>r.toF fun f=>i_ h f fun τ=>iz v t b K m (i + 1) τ h:=rfl
   rw [u,(its i τ h x).next]
   cases k with
   | zero=>
     rw [List.getElem?_eq_none (by omega)]
     rw [Nat.add_zero] at e;subst e
     exact fin τ h x
   | succ k=>
     have li:i < ws.length:=by omega
     rw [List.getElem?_eq_getElem li]
     obtain ⟨τ1,e1,y⟩:=turn i ws[i] τ h m (List.getElem?_eq_getElem li) (by omega) x
     show okQ (Opt (aQ h 9 t ws[i] τ) fun τ=>(cB b K m τ h).bind fun r h=>r.toF fun f=>i_ h f fun τ=>iz v t b K m (i + 1) τ h) (aF Q)
     rw [e1]
     show okQ ((cB b K m τ1 h).bind fun r h=>r.toF fun f=>i_ h f fun τ=>iz v t b K m (i + 1) τ h) (aF Q)
     obtain ⟨f,h',z,q⟩:=Cu y
     rw [z]
     cases f with
     | nx τ2=>exact qI I its turn fin k (i + 1) m τ2 h' (by omega) (by omega) (by omega) (by omega) q
     | ct τ2=>exact qI I its turn fin k (i + 1) m τ2 h' (by omega) (by omega) (by omega) (by omega) q
     | rt w=>exact q
     | bk τ2=>exact q
theorem Aj {i:I} {t:Tg} {b:List S} {Q:Fl->Hs->Prop} (x:wI i K n τ h fun v h1=>∃ (ws:List W) (J:Nat->Sg->Hs->Prop),(∀ i τ h,J i τ h->Its v ws h)/\ws.length < n/\J 0 τ h1/\
 (∀ i w τ h m,ws[i]? =some w->n <= m + ws.length->J i τ h->∃ τ1,aQ h 9 t w τ=some τ1/\wS b K m τ1 h (lpQ (J (i + 1)) Q))/\∀ τ h,J ws.length τ h->Q (.nx τ) h):w1 (.for_ i t b) K n τ h Q:=by
 show okQ ((i.f K n τ h).bind fun r h=>r.toV fun v=>iz v t b K n 0 τ h) (aF Q)
 unfold wI at x
 generalize i.f K n τ h=r at x
 cases r with
 | ok a h1=>cases a with
   | iv v=>
     obtain ⟨ws,J,its,l,s,turn,fin⟩:=x
     exact qI J its turn fin ws.length 0 n τ h1 (by omega) l (by omega) (by omega) s
   | _=>exact x.elim
 | _=>exact x.elim
theorem xZ {D:Nat} {w:W} {acc:List W} {k:Hs->R A} (g:h.get D=some (.lst acc)) (l:acc.length <= 16777215):emit h D w k=k (h.set D (.lst (acc ++ [w]))):=by
 show R.bind (Opt (h.get D) fun o=>o.onL fun xs=>size xs (.ok W.non (h.set D (.lst (app xs [w]))))) (fun _ h=>k h)=_
 rw [g]
 show R.bind (ifB (Nat.ble (len acc) 16777215) (.ok W.non (h.set D (.lst (app acc [w])))) .no) (fun _ h=>k h)=_
 rw [len_eq,ble_eq,decide_eq_true l,cG];rfl
def v7 (c:Option X) (e:X) (K:Ks) (m:Nat) (τ:Sg) (h:Hs) (no:Hs->Prop) (yes:W->Hs->Prop):Prop:=Option.rec (wX e K m τ h yes) (fun c=>wX c K m τ h fun w h=>bW w (wX e K m τ h yes) (no h)) c
theorem qJ {v:Iv} {t:Tg} {c:Option X} {e:X} {D:Nat} {ws:List W} {Q:A->Hs->Prop} (b:Nat) (J:Nat->List W->Hs->Prop) (its:∀ i acc h,J i acc h->Its v ws h/\h.get D=some (.lst acc)/\acc.length <= b + i) (lw:b + ws.length <= 16777215)
 (turn:∀ i w acc h m,ws[i]? =some w->n <= m + ws.length->J i acc h->∃ τ1,aQ h 9 t w τ=some τ1/\v7 c e K m τ1 h (fun h=>J (i + 1) acc h) (fun w h=>h.get D=some (.lst acc)/\J (i + 1) (acc ++ [w]) (h.set D (.lst (acc ++ [w]))))) (fin:∀ acc h,J ws.length acc h->Q .u h):
 ∀ (k i m:Nat) (acc:List W) (h:Hs),i + k=ws.length->k < m->n <= m + i->J i acc h->okQ (cW v t c none e D K m i τ h) Q
 | k,i,0,acc,h,_,l,_,_=>absurd l (by omega)
 | k,i,m + 1,acc,h,ek,l,l2,x=>by
   have u:cW v t c none e D K (m + 1) i τ h=v.next i h (.ok .u h) fun w h=>Opt (aQ h 9 t w τ) fun τ1=>test K m τ1 h c (fun h=>cW v t c none e D K m (i + 1) τ h) (fun h=>inner K m τ1 h e D none fun h=>cW v t c none e D K m (i + 1) τ h):=rfl
   obtain ⟨it,gD,la⟩:=its i acc h x
   rw [u,it.next]
   cases k with
   | zero=>
     rw [List.getElem?_eq_none (by omega)]
     rw [Nat.add_zero] at ek;subst ek
     exact fin acc h x
   | succ k=>
     have li:i < ws.length:=by omega
     rw [List.getElem?_eq_getElem li]
     obtain ⟨τ1,e1,y⟩:=turn i ws[i] acc h m (List.getElem?_eq_getElem li) (by omega) x
     show okQ (Opt (aQ h 9 t ws[i] τ) fun τ1=>test K m τ1 h c (fun h=>cW v t c none e D K m (i + 1) τ h) (fun h=>inner K m τ1 h e D none fun h=>cW v t c none e D K m (i + 1) τ h)) Q
     rw [e1]
     have yes:∀ h2,wX e K m τ1 h2 (fun w h=>h.get D=some (.lst acc)/\J (i + 1) (acc ++ [w]) (h.set D (.lst (acc ++ [w]))))->okQ (inner K m τ1 h2 e D none fun h=>cW v t c none e D K m (i + 1) τ h) Q:=fun h2 z=>by
      obtain ⟨w,h3,ez,g3,j3⟩:=fM z
      show okQ ((e.f K m τ1 h2).bind fun r h=>r.toW fun w=>emit h D w fun h=>cW v t c none e D K m (i + 1) τ h) Q
      rw [ez]
      show okQ (emit h3 D w fun h=>cW v t c none e D K m (i + 1) τ h) Q
      rw [xZ g3 (by omega)]
      exact qJ b J its lw turn fin k (i + 1) m (acc ++ [w]) _ (by omega) (by omega) (by omega) j3
     cases c with
     | none=>exact yes h y
     | some c=>
       obtain ⟨w,h2,ez,q⟩:=fM (show wX c K m τ1 h _ from y)
       show okQ ((c.f K m τ1 h).bind fun r h=>r.toW fun w=>w.onB (cW v t (some c) none e D K m (i + 1) τ h) (inner K m τ1 h e D none fun h=>cW v t (some c) none e D K m (i + 1) τ h)) Q
       rw [ez]
       cases w with
       | bl bb=>cases bb with
         | false=>exact qJ b J its lw turn fin k (i + 1) m acc h2 (by omega) (by omega) (by omega) q
         | true=>exact yes h2 q
       | _=>exact q.elim
theorem x_ {nt:Nat} {idx:List Nat} {it:I} {t:Tg} {c:Option X} {e:X} {Q:W->Hs->Prop} (x:wI it K n τ h fun v h1=>∃ (ws:List W) (J:Nat->List W->Hs->Prop),(∀ i acc h,J i acc h->Its v ws h/\h.get h1.n=some (.lst acc)/\acc.length <= i)/\ws.length <= 16777215/\ws.length < n/\J 0 [] (h1.push (.lst []))/\
 (∀ i w acc h m,ws[i]? =some w->n <= m + ws.length->J i acc h->∃ τ1,aQ h 9 t w (iy nt idx τ)=some τ1/\v7 c e K m τ1 h (fun h=>J (i + 1) acc h) (fun w h=>h.get h1.n=some (.lst acc)/\J (i + 1) (acc ++ [w]) (h.set h1.n (.lst (acc ++ [w])))))/\∀ acc h,J ws.length acc h->Q (.ref h1.n) h):wX (.comp nt idx it t c none e) K n τ h Q:=by
 show okQ ((it.f K n τ h).bind fun r h=>r.toV fun v=>(cW v t c none e h.n K n 0 (iy nt idx τ) (h.push (.lst []))).nox.bind fun _ h'=>.ok (.w (.ref h.n)) h') (aW Q)
 unfold wI at x
 generalize it.f K n τ h=r at x
 cases r with
 | ok a h1=>cases a with
   | iv v=>
     obtain ⟨ws,J,its,lw,l,s,turn,fin⟩:=x
     have z:=qJ (Q:=fun a h=>a= .u/\Q (.ref h1.n) h) 0 J (fun i acc h j=>by rw [Nat.zero_add];exact its i acc h j) (by rw [Nat.zero_add];exact lw) turn (fun acc h j=>⟨rfl,fin acc h j⟩) ws.length 0 n [] (h1.push (.lst [])) (by omega) l (by omega) s
     show okQ ((cW v t c none e h1.n K n 0 (iy nt idx τ) (h1.push (.lst []))).nox.bind fun _ h'=>.ok (.w (.ref h1.n)) h') (aW Q)
     generalize cW v t c none e h1.n K n 0 (iy nt idx τ) (h1.push (.lst []))=r at z
     cases r with
     | ok a h'=>exact z.2
     | _=>exact z.elim
   | _=>exact x.elim
 | _=>exact x.elim
theorem comp_map {nt:Nat} {idx:List Nat} {it:I} {t:Tg} {e:X} {Q:W->Hs->Prop} (x:wI it K n τ h fun v h1=>Ext h h1/\∃ (ws:List W) (ds:List D) (B:Nat->Prop),(∀ h2,Ext h1 h2->Its v ws h2)/\(∀ p,B p->p < h1.n)/\ws.length=ds.length/\ws.length <= 16777215/\ws.length < n/\
 (∀ (i:Nat) w d h2 m,ws[i]? =some w->ds[i]? =some d->n <= m + ws.length->Ext h1 h2->h1.n < h2.n->∃ τ1,aQ h2 9 t w (iy nt idx τ)=some τ1/\wX e K m τ1 h2 (fun w h3=>Ext h2 h3/\Rd h3 (fun p=>B p\/h2.n <= p) d w))/\
 ∀ h3,Ext h1 h3->Rd h3 (fun p=>B p\/h1.n <= p) (.lst ds) (.ref h1.n)->Q (.ref h1.n) h3):wX (.comp nt idx it t none none e) K n τ h Q:=by
 refine x_ ?_
 refine nH x fun a h1 z=>?_
 cases a with
 | iv v=>
   obtain ⟨x1,ws,ds,B,its,hB,le,l1,l2,turn,fin⟩:=z
   refine ⟨ws,fun i acc h2=>Ext h1 h2/\h1.n < h2.n/\h2.get h1.n=some (.lst acc)/\acc.length=i/\Rds h2 (fun p=>p ≠ h1.n/\(B p\/h1.n <= p)) (ds.take i) acc,fun i acc h2 j=>⟨its h2 j.1,j.2.2.1,by omega⟩,l1,l2,⟨.push,eZ,bu,rfl,by simp [Rds]⟩,?_,?_⟩
   · rintro i w acc h2 m ei lm ⟨j1,j2,j3,j4,j5⟩
     have li:i < ws.length:=(List.getElem?_eq_some_iff.mp ei).1
     have ed:ds[i]? =some (ds[i]'(by omega)):=List.getElem?_eq_getElem (by omega)
     obtain ⟨τ1,eb,y⟩:=turn i w _ h2 m ei ed lm j1 j2
     refine ⟨τ1,eb,?_⟩
     refine xX y fun w' h3 ⟨y1,y2⟩=>?_
     have g3:h3.get h1.n=some (.lst acc):=y1.get j2 j3
     refine ⟨g3,(j1.trans y1).set (Nat.le_refl _),by rw [Hs.jK];exact Nat.lt_of_lt_of_le j2 y1.1,by rw [Hs.get_set,if_pos rfl],by simp [j4],?_⟩
     rw [List.take_add_one,ed]
     have z1:Rds h3 (fun p=>p ≠ h1.n/\(B p\/h1.n <= p)) (ds.take i ++ (some (ds[i]'(by omega))).toList) (acc ++ [w']):=(j5.ext y1).snoc (y2.imp fun p _ q=>by
      rcases q with q | q
      · have:=hB p q;exact ⟨by omega,.inl q⟩
      · exact ⟨by omega,.inr (by omega)⟩)
     exact Rds.to (by rw [Hs.jK];exact Nat.le_refl _) (fun k _ a=>⟨by rw [Hs.get_set,if_neg a.1],a⟩) _ _ z1
   · rintro acc h2 ⟨j1,j2,j3,j4,j5⟩
     refine fin h2 j1 ?_
     rw [le,List.take_length] at j5
     simp only [Rd]
     exact ⟨_,acc,rfl,j2,.inr (Nat.le_refl _),j3,j5.imp fun p _ q=>q.2⟩
 | _=>exact z.elim
end
end Ev
set_option maxRecDepth 100000
set_option maxHeartbeats 4000000
namespace Ev
open PySem PySem.Spec PySem.SeqAt PyProof.Rows L2
noncomputable section
def sumZ (xs:List Int):Int:=List.rec 0 (fun x _ r=>j_ x r) xs
def Ej (h:Hs) (a:W):R W:=h.at a fun _ o=>o.onL fun xs=>Opt (Cg xs) fun ns=>.ok (.int (sumZ ns)) h
def Pr.sum:Pr:=⟨fun ws h=>cU ws (Ej h)⟩
end
section
variable {X:Cx}
variable {Pg:List Fn} {cl:Cn} {E:XK} {d:Nat} {σ:L2.St} {H:Hp}
end
end Ev
set_option maxRecDepth 100000
set_option maxHeartbeats 4000000
namespace Ev
section
variable {K:Ks} {n:Nat} {τ:Sg} {h:Hs} {Q:W->Hs->Prop} {i j:Int} {p q:Nat} {xs ys:List W} {ns:List Int} {A B:Nat->Prop} {d d':D} {w w':W}
theorem p_add (z:Q (.int (i + j)) h):wP .add [.int i,.int j] h Q:=by show Q (.int (j_ i j)) h;rw [o5];exact z
theorem Cv (z:Q (.int (i - j)) h):wP .sub [.int i,.int j] h Q:=by show Q (.int (qm i j)) h;rw [o6];exact z
theorem Cw (z:Q (.int (-i)) h):wP .neg [.int i] h Q:=z
theorem bI {β:Type} {b:Bool} {t f:β} (e:b=true):ifB b t f=t:=by subst e;rfl
theorem tL (l:i.natAbs < 2 ^ 64):Sml i=true:=by
 have b:(2:Nat) ^ 64 <= 2 ^ 4000:=Nat.pow_le_pow_right (by decide) (by decide)
 cases i with
 | ofNat a=>
   show Nat.ble (a + 1) (2 ^ 4000)=true
   have:a < 2 ^ 64:=l
   exact Nat.ble_eq_true_of_le (Nat.le_trans this b)
 | negSucc a=>
   show Nat.ble (a + 2) (2 ^ 4000)=true
   have:a + 1 < 2 ^ 64:=l
   exact Nat.ble_eq_true_of_le (Nat.le_trans (by omega) b)
theorem Cy (a:i.natAbs < 2 ^ 64) (b:j.natAbs < 2 ^ 64) (z:Q (.int (i * j)) h):wP .mul [.int i,.int j] h Q:=by
 show okQ (ifB (Sml i) (ifB (Sml j) (.ok (.int (i * j)) h) .no) .no) Q
 rw [bI (tL a),bI (tL b)];exact z
theorem mj {f:D->R W} (a:Rd h A d w) (l:dZ d <= 12:=by decide) (o:okD d=true:=by rfl):wD h w f=f d:=by
 show Opt (toD h 12 w) f=_
 rw [tH d w 12 a l o];rfl
theorem Cz (a:Rd h A d w) (b:Rd h B d' w') (l:dZ d <= 12) (l':dZ d' <= 12) (o:okD d=true) (o':okD d'=true) (z:Q (.bl (bU d d')) h):wP .eq [w,w'] h Q:=by
 show okQ (wD h w fun x=>wD h w' fun y=>.yes (id (bU x y)) h) Q
 rw [mj a l o,mj b l' o'];exact z
theorem Ak (a:Rd h A d w) (b:Rd h B d' w') (l:dZ d <= 12) (l':dZ d' <= 12) (o:okD d=true) (o':okD d'=true) (z:Q (.bl (bH d d')) h):wP .same [w,w'] h Q:=by
 show okQ (wD h w fun x=>wD h w' fun y=>.yes (bH x y) h) Q
 rw [mj a l o,mj b l' o'];exact z
theorem eU {β:Type} {f:Nat->O->R β} {o:O} (e:h.get p=some o):h.at (.ref p) f=f p o:=by
 show Opt (h.get p) (f p)=_
 rw [e];rfl
theorem Ek (e:h.get p=some (.lst xs)) (e2:xs[q]? =some w) (z:Q w h):wP .ix [.ref p,.int (Int.ofNat q)] h Q:=by
 show okQ (h.at (.ref p) fun _ o=>o.items fun xs=>Opt (nth xs q) fun w=>.ok w h) Q
 rw [eU e]
 show okQ (Opt (nth xs q) fun w=>.ok w h) Q
 rw [cH,e2];exact z
theorem mq (e:h.get p=some (.lst xs)) (l:0 <= i) (e2:xs[i.toNat]? =some w) (z:Q w h):wP .ix [.ref p,.int i] h Q:=by
 rw [show i=Int.ofNat i.toNat by show i=((i.toNat:Nat):Int);omega];exact Ek e e2 z
theorem CG (l:xs.length <= 16777215) (z:Q (.ref h.n) (h.push (.lst xs))):wP .lst xs h Q:=by
 show okQ (ifB (Nat.ble (len xs) 16777215) (.alloc h (.lst xs)) .no) Q
 rw [len_eq,ble_eq,bI (decide_eq_true l)];exact z
theorem v8 (l:xs.length <= 16777215) (z:Q (.ref h.n) (h.push (.tup xs))):wP .tup xs h Q:=by
 show okQ (ifB (Nat.ble (len xs) 16777215) (.alloc h (.tup xs)) .no) Q
 rw [len_eq,ble_eq,bI (decide_eq_true l)];exact z
theorem Al {b:Bool} (z:Q (.bl (!b)) h):wP .kh [.bl b] h Q:=by cases b <;> exact z
theorem u_ {b:Bool} (z:Q (.bl b) h):wP .truth [.bl b] h Q:=z
theorem vd {a e:X} (x:wX a K n τ h fun w h1=>∃ p xs,w= .ref p/\h1.get p=some (.lst xs)/\wX e K n τ h1 fun u h2=>∃ ys,h2.get p=some (.lst ys)/\ys.length <= 16777215/\Q .non (h2.set p (.lst (ys ++ [u])))):wX (.lm .append a [e]) K n τ h Q:=by
 show okQ ((a.f K n τ h).bind fun r h=>r.toW fun w=>h.at w fun _ o=>o.onL fun _=>(goA [e] K n τ h).bind fun r h=>r.toL fun ws=>ofW (cV .append (w::ws) h)) (aW Q)
 obtain ⟨w,h1,ea,p,xs,rfl,g,y⟩:=fM x
 rw [ea]
 show okQ (h1.at (.ref p) fun _ o=>o.onL fun _=>(goA [e] K n τ h1).bind fun r h=>r.toL fun ws=>ofW (cV .append (.ref p::ws) h)) (aW Q)
 rw [eU g]
 show okQ ((goA [e] K n τ h1).bind fun r h=>r.toL fun ws=>ofW (cV .append (.ref p::ws) h)) (aW Q)
 obtain ⟨u,h2,eb,ys,g2,l2,q⟩:=fM y
 have:goA [e] K n τ h1= .ok (.ws [u]) h2:=by
  show R.rec (motive:=fun _=>R Ev.A) (fun r h=>A.rec (motive:=fun _=>R Ev.A) (fun w=>R.rec (motive:=fun _=>R Ev.A) (fun r h=>A.rec (motive:=fun _=>R Ev.A) (fun _=>.no) (fun ws=>.ok (.ws (w::ws)) h) (fun _=>.no) (fun _=>.no) .no r) (fun C fs h=>.ex C fs h) .no (goA [] K n τ h)) (fun _=>.no) (fun _=>.no) (fun _=>.no) .no r) (fun C fs h=>.ex C fs h) .no (e.f K n τ h1)=_
  rw [eb];rfl
 rw [this]
 show okQ (ofW (h2.at (.ref p) fun n o=>o.onL fun xs=>ifB (Nat.ble (len xs) 16777215) (.ok W.non (h2.set n (.lst (app xs [u])))) .no)) (aW Q)
 rw [eU g2]
 show okQ (ofW (ifB (Nat.ble (len ys) 16777215) (.ok W.non (h2.set p (.lst (app ys [u])))) .no)) (aW Q)
 rw [len_eq,ble_eq,bI (decide_eq_true l2),cG];exact q
theorem CJ {e:X} {Q:Iv->Hs->Prop} (x:wX e K n τ h fun w h1=>∃ p ws,w= .ref p/\((h1.get p=some (.lst ws)/\Q (.lst p) h1)\/(h1.get p=some (.tup ws)/\Q (.tup p) h1))):wI (.seq e) K n τ h Q:=by
 show okQ ((e.f K n τ h).bind fun r h=>r.toW fun w=>h.at w fun n o=>O.casesOn o (fun _=>.ok (.iv (.tup n)) h) (fun _=>.ok (.iv (.lst n)) h) (fun _ _=>.no) (fun _=>.no) (fun _=>.no)) (aV Q)
 obtain ⟨w,h1,ea,p,ws,rfl,g⟩:=fM x
 rw [ea]
 show okQ (h1.at (.ref p) fun n o=>O.casesOn o (fun _=>.ok (.iv (.tup n)) h1) (fun _=>.ok (.iv (.lst n)) h1) (fun _ _=>.no) (fun _=>.no) (fun _=>.no)) (aV Q)
 rcases g with ⟨g,q⟩ | ⟨g,q⟩ <;> rw [eU g] <;> exact q
theorem tM {k:R Ev.A} (a:j < 1000000000) (b: -1000000000 < j):within j k=k:=by
 show ifB (ilt j 1000000000) (ifB (ilt (-1000000000) j) k .no) .no=_
 rw [bZ,bZ,bI (decide_eq_true a),bI (decide_eq_true b)]
theorem Am {e:X} {Q:Iv->Hs->Prop} (x:wX e K n τ h fun w h1=>∃ j:Int,w= .int j/\j < 1000000000/\-1000000000 < j/\Q (.rng 0 j.toNat) h1):wI (.qt [e]) K n τ h Q:=by
 show okQ ((goA [e] K n τ h).bind fun r h=>r.toL fun ws=>qp ws fun w=>w.onI fun j=>within j (.ok (.iv (.rng 0 j.toNat)) h)) (aV Q)
 obtain ⟨w,h1,ea,j,rfl,l1,l2,q⟩:=fM x
 have:goA [e] K n τ h= .ok (.ws [.int j]) h1:=by
  show R.rec (motive:=fun _=>R Ev.A) (fun r h=>A.rec (motive:=fun _=>R Ev.A) (fun w=>R.rec (motive:=fun _=>R Ev.A) (fun r h=>A.rec (motive:=fun _=>R Ev.A) (fun _=>.no) (fun ws=>.ok (.ws (w::ws)) h) (fun _=>.no) (fun _=>.no) .no r) (fun C fs h=>.ex C fs h) .no (goA [] K n τ h)) (fun _=>.no) (fun _=>.no) (fun _=>.no) .no r) (fun C fs h=>.ex C fs h) .no (e.f K n τ h)=_
  rw [ea];rfl
 rw [this]
 show okQ (within j (.ok (.iv (.rng 0 j.toNat)) h1)) (aV Q)
 rw [tM l1 l2];exact q
def kO (lo:Int) (m:Nat):List W:=(List.range m).map fun k=>.int (lo + Int.ofNat k)
theorem gM {lo:Int} {m:Nat}:(kO lo m).length=m:=by simp [kO]
theorem nM {lo:Int} {m k:Nat} (l:k < m):(kO lo m)[k]? =some (.int (lo + Int.ofNat k)):=by simp [kO,l]
theorem yd {lo:Int} {m:Nat} {h:Hs}:Its (.rng lo m) (kO lo m) h:=.inr (.inr ⟨lo,by rw [gM],fun i l=>nM (by rw [gM] at l;exact l)⟩)
end
end Ev
set_option maxRecDepth 100000
set_option maxHeartbeats 4000000
namespace Ev
section
variable {K:Ks} {n:Nat} {τ:Sg} {h:Hs} {ss:List S}
theorem gO {i:Nat} {w:W} {Q:W->Hs->Prop} (e:aH τ i=some w) (q:Q w h):wX (.var i) K n τ h Q:=(Ah e).mpr q
theorem je {Q:Fl->Hs->Prop} (x:wS ss K n τ h Q):qG ss K n h Q (.nx τ):=x
theorem ye {w:W} {Q:Fl->Hs->Prop} (x:Q (.rt w) h):qG ss K n h Q (.rt w):=x
theorem An {w:W} {Q:W->Hs->Prop} (x:Q w h):u9 Q (.rt w) h:=x
theorem CK {J:Sg->Hs->Prop} {Q:Fl->Hs->Prop} (x:J τ h):lpQ J Q (.nx τ) h:=x
theorem Ao {t f:Prop} (x:t):bW (.bl true) t f:=x
theorem Aq {t f:Prop} (x:f):bW (.bl false) t f:=x
theorem CN {t f:Prop} (x:f):bW (.bl (!true)) t f:=x
theorem kW {l:List Int} {k:Nat} (z:k < l.length):(l.map W.int)[k]? =some (.int (l.getD k 0)):=by
 rw [List.getElem?_map,List.getElem?_eq_getElem z];simp [List.getD,List.getElem?_eq_getElem z]
theorem lD:∀ {row ls:List Int},L2.Drawn row ls->row.length=ls.length
 | _,_,.nil=>rfl
 | _,_,.cons _ t=>by simp [lD t]
theorem aO:∀ {row ls:List Int} {k:Nat},L2.Drawn row ls->k < ls.length->0 <= row.getD k 0/\row.getD k 0 < ls.getD k 0
 | _,_,k,.nil,l=>by simp at l
 | _,_,0,.cons a _,_=>by simpa using a
 | _,_,k + 1,.cons _ t,l=>by simpa using aO (k:=k) t (by simpa using l)
theorem Ar {n:Nat} {r:R A} (x:okQ r (aF fun f _=>∃ τ,(f= .nx τ\/f= .ct τ)/\τ.length=n/\aH τ 0=none)):u6 n r=true:=by
 cases r with
 | ok a h=>cases a with
   | fl f=>
     obtain ⟨τ,e,l,g⟩:=x
     have z:ifB (Nat.beq (len τ) n) (off τ 0) false=true:=by
      rw [len_eq,cC.mpr l]
      show Option.rec (motive:=fun _=>Bool) true (fun _=>false) (aH τ 0)=true
      rw [g]
     rcases e with rfl | rfl <;> exact z
   | _=>exact x.elim
 | _=>exact x.elim
end
end Ev
set_option maxRecDepth 100000
set_option maxHeartbeats 4000000
namespace Ev
section
variable {K:Ks} {n:Nat} {τ:Sg} {h:Hs} {Q:W->Hs->Prop} {i j:Int} {p q:Nat} {xs ys:List W} {A B:Nat->Prop}
end
end Ev
set_option maxRecDepth 100000
set_option maxHeartbeats 4000000
namespace Ev
open PySem PySem.Spec PySem.SeqAt PyProof.Rows L2
noncomputable section
end
section
variable {Pg:List Fn} {cl:Cn} {E:XK} {d:Nat} {X:Cx} {σ σ0:L2.St} {H:Hp}
end
end Ev
set_option maxRecDepth 100000
set_option maxHeartbeats 4000000
namespace Ev
open PySem PyProof.Rows L2 PySem.W
section
variable {X:Cx}
end
section
variable {cl:Cn}
end
end Ev
set_option maxRecDepth 100000
set_option maxHeartbeats 4000000
namespace Ev
section
variable {K:Ks} {n:Nat} {τ:Sg} {h:Hs} {Q:W->Hs->Prop} {i j:Int} {p q:Nat} {xs ys:List W} {ns:List Int} {A B:Nat->Prop}
theorem v9 {a b:Int} (ha:0 < a/\a < 1000) (hb:0 < b/\b < 1000) (z:Q (.int (a ^ b.toNat)) h):wP .pow [.int a,.int b] h Q:=by
 show okQ (ifB (ilt a 1000) (ifB (ilt 0 a) (ifB (ilt 0 b) (ifB (ilt b 1000) (.ok (.int (a ^ b.toNat)) h) .no) .no) .no) .no) Q
 rw [bZ,bZ,bZ,bZ,bI (decide_eq_true ha.2),bI (decide_eq_true ha.1),bI (decide_eq_true hb.1),bI (decide_eq_true hb.2)];exact z
end
end Ev
set_option maxRecDepth 100000
set_option maxHeartbeats 4000000
namespace Ev
section
variable {K:Ks} {n:Nat} {τ:Sg} {h:Hs} {Q:W->Hs->Prop}
end
end Ev
set_option maxRecDepth 100000
set_option maxHeartbeats 4000000
namespace Ev
section
variable {K:Ks} {n:Nat} {τ:Sg} {h:Hs} {Q:W->Hs->Prop} {i j:Int} {p q:Nat} {xs ys:List W} {ns:List Int} {A B:Nat->Prop}
end
end Ev
set_option maxRecDepth 100000
set_option maxHeartbeats 4000000
namespace Ev
open PySem PySem.W
section
variable {ps:List (Int × Int)}
end
end Ev
set_option maxRecDepth 100000
set_option maxHeartbeats 4000000
namespace Ev
section
variable {K:Ks} {n:Nat} {τ:Sg} {h:Hs} {Q:W->Hs->Prop} {p q:Nat} {xs ys:List W} {A B:Nat->Prop}
end
end Ev
set_option maxRecDepth 100000
set_option maxHeartbeats 4000000
namespace L2
open PySem PySem.Spec PySem.SeqAt PyProof.Rows
section
variable {X:Cx}
end
end L2
namespace Ev
open PySem PySem.Spec PySem.SeqAt PyProof.Rows L2
noncomputable section
end
section
variable {ρ:List Addr}
end
section
variable {Pg:List Fn} {cl:Cn} {E:XK} {d:Nat} {X:Cx} {σ σ0:L2.St} {H:Hp}
end
end Ev
set_option maxRecDepth 100000
set_option maxHeartbeats 4000000
namespace L2
open PySem
end L2
namespace Ev
open PySem PySem.Spec PySem.SeqAt PyProof.Rows L2
noncomputable section
end
section
variable {X:Cx}
variable {Pg:List Fn} {cl:Cn} {E:XK} {d:Nat}
end
end Ev
set_option maxRecDepth 100000
set_option maxHeartbeats 4000000
namespace L2
open PySem PySem.Spec PySem.SeqAt PyProof.Rows
section
variable {X:Cx}
end
end L2
namespace Ev
open PySem PySem.Spec PySem.SeqAt PyProof.Rows L2
noncomputable section
end
section
variable {X:Cx} {Pg:List Fn} {cl:Cn} {E:XK} {d:Nat}
end
end Ev
set_option maxRecDepth 100000
set_option maxHeartbeats 4000000
namespace L2
open PySem PySem.Spec PySem.SeqAt PyProof.Rows
section
variable {X:Cx}
def Av:List V->Hp->VK->Prop:=fun xs H Q=>(∃ i,xs= [.int i]/\i.natAbs.log2 < 1920/\Q (.str (toString i)) H)\/∃ z,xs= [.str z]/\Q (.str z) H
theorem iI:bT X (.type "str") Av:=mL.or fun pins s σ H xs us Q I r h=>by
 obtain ⟨z,rfl,q⟩:=h
 obtain ⟨u,rfl,t,rfl⟩:=vals1 r
 exact PySem.P.str_of_str ⟨.str z,H,I,⟨t,rfl⟩,q⟩
theorem lE:∀ {ys:List Str} {us:List Value},Vals (ys.map V.str) us->StrsAre us ys
 | [],_,.nil=>.nil
 | y::ys,_,.cons ⟨t,e⟩ r=>by subst e;exact .cons y t (lE r)
def rJoin (K:PySem.W.Frag):V->List V->Hp->VK->Prop:=fun x xs H Q=>∃ z p ys,x= .str z/\xs= [.ref p]/\SqL K H p (ys.map V.str)/\(ys.map (·.length)).sum + ys.length * z.length <= 16777216/\Q (.str (PySem.Txt.join z ys)) H
theorem yf:MtR X "str.join" (rJoin X.K):=by
 intro pins s σ H x xs v us Q I rx rs h
 obtain ⟨z,p,ys,rfl,rfl,hq,hb,q⟩:=h
 obtain ⟨t,rfl⟩:=rx
 obtain ⟨u,rfl,ru⟩:=vals1 rs
 cases ru
 obtain ⟨its,r,pl,hz⟩:=I.list hq
 exact join_list pl.isList (by simpa using lE r) hb fun t' k=>⟨.str _,H,I.tok _,⟨_,rfl⟩,q⟩
def iJ (z:Str) (n:Int):Str:=if n < 1 then Str.empty else if (n == 1 || z.length == 0)=true then z else ⟨(List.replicate n.toNat z.cps).foldl (· ++ ·) #[]⟩
theorem iK (a:Array Nat):∀ (n:Nat) (b:Array Nat),((List.replicate n a).foldl (· ++ ·) b).size=b.size + n * a.size
 | 0,b=>by simp
 | n + 1,b=>by
   rw [List.replicate_succ,List.foldl_cons,iK a n,Array.size_append,Nat.succ_mul];omega
def v_:R2:=fun x y H Q=>∃ z n,x= .str z/\y= .int n/\0 <= n/\n <= 10/\z.length <= 1000/\Q (.str (iJ z n)) H
theorem yg:OpR X (binaryOp .Mult) v_:=by
 intro pins s σ H x y v u Q I rx ry h
 obtain ⟨z,n,rfl,rfl,h0,h1,hz,q⟩:=h
 obtain ⟨t,rfl⟩:=rx
 obtain ⟨t',rfl⟩:=ry
 have hm:z.length * n.toNat <= 1000 * 10:=Nat.mul_le_mul hz (by omega)
 have hL:(10000:Nat) <= sizeLine:=by decide
 refine PySem.P.mul_str ?_ (fun h2 _ h3=>?_) (fun _ _=>?_) ?_
 · rw [decide_eq_false (show ¬ n < -(2 ^ 63:Int) by omega),decide_eq_false (show ¬ n >= (2 ^ 63:Int) by omega)];rfl
 · have:(2 ^ 63 - 1) / (10:Int) <= (2 ^ 63 - 1) / n:=by
    have hn:n=1\/n=2\/n=3\/n=4\/n=5\/n=6\/n=7\/n=8\/n=9\/n=10:=by omega
    rcases hn with rfl | rfl | rfl | rfl | rfl | rfl | rfl | rfl | rfl | rfl <;> decide
   have h9:(1000:Int) <= (2 ^ 63 - 1) / (10:Int):=by decide
   omega
 · show decide (z.length * n.toNat > sizeLine)=false
   exact decide_eq_false (by omega)
 · unfold iJ at q
   split
   · rename_i h2
     rw [if_pos h2] at q
     exact ⟨by decide,⟨.str _,H,I.tok _,⟨_,rfl⟩,q⟩⟩
   · rename_i h2
     rw [if_neg h2] at q
     split
     · rename_i h3
       rw [if_pos h3] at q
       exact ⟨.str _,H,I,⟨_,rfl⟩,q⟩
     · rename_i h3
       rw [if_neg h3] at q
       refine ⟨?_,⟨.str _,H,I.tok _,⟨_,rfl⟩,q⟩⟩
       show Array.size _ <= _
       rw [iK]
       have:n.toNat * z.cps.size=z.length * n.toNat:=Nat.mul_comm _ _
       have:(#[]:Array Nat).size=0:=rfl
       omega
end
end L2
namespace Ev
open PySem PySem.Spec PySem.SeqAt PyProof.Rows L2
noncomputable section
def W.onS {β:Type} (w:W) (f:List Nat->R β):R β:=W.rec .no (fun _=>.no) (fun _=>.no) f (fun _=>.no) w
def cJ (i:Int):List Nat:=(Str.ofString (toString i)).cps.toList
def Aw (h:Hs) (a:W):R W:=W.elim a .no (fun _=>.no) (fun i=>ifB (Nat.ble (i.natAbs.log2 + 1) 1920) (.ok (.str (cJ i)) h) .no) (fun c=>.ok (.str c) h) (fun _=>.no)
def Pr.jw:Pr:=⟨fun ws h=>cU ws (Aw h)⟩
def fO (xs:List W):Option (List (List Nat)):=List.rec (some []) (fun x _ r=>W.elim x none (fun _=>none) (fun _=>none) (fun c=>Option.rec none (fun cs=>some (c::cs)) r) (fun _=>none)) xs
def dI (cs:List (List Nat)):Nat:=List.rec 0 (fun c _ r=>len c + r) cs
def cR (z:List Nat) (cs:List (List Nat)):List Nat:=(PySem.Txt.join (nm z) (cs.map nm)).cps.toList
def wg (z:List Nat) (h:Hs) (a:W):R W:=h.at a fun _ o=>o.onL fun xs=>Opt (fO xs) fun cs=>ifB (Nat.ble (dI cs + len cs * len z) 16777216) (.ok (.str (cR z cs)) h) .no
def Pr.join (z:List Nat):Pr:=⟨fun ws h=>cU ws (wg z h)⟩
def wj (h:Hs) (a:W):R W:=h.at a fun _ o=>o.onL fun xs=>.alloc h (.tup xs)
def Pr.qK:Pr:=⟨fun ws h=>cU ws (wj h)⟩
def wu (h:Hs) (a b:W):R W:=h.at a fun _ o=>o.onT fun xs=>h.at b fun _ o=>o.onT fun ys=>List.rec .no (fun _ _ _=>List.rec (size xs (.ok a h)) (fun _ _ _=>size (app xs ys) (.alloc h (.tup (app xs ys)))) ys) xs
def Pr.kY:Pr:=⟨fun ws h=>cF ws (wu h)⟩
def wz (h:Hs) (a b:W):R W:=a.onS fun c=>b.onS fun e=>ifB (Nat.ble (len c + len e) 100000) (.ok (.str (app c e)) h) .no
def Pr.qL:Pr:=⟨fun ws h=>cF ws (wz h)⟩
def mulC (c:List Nat) (n:Int):List Nat:=(iJ (nm c) n).cps.toList
def wB (h:Hs) (a b:W):R W:=a.onS fun c=>b.onI fun n=>ifB (ilt (-1) n) (ifB (ilt n 11) (ifB (Nat.ble (len c) 1000) (.ok (.str (mulC c n)) h) .no) .no) .no
def Pr.qM:Pr:=⟨fun ws h=>cF ws (wB h)⟩
def Ax (h:Hs) (a b:W):R W:=a.onS fun c=>b.onI fun i=>ifB (Nat.ble (len c) 1000) (Opt (nth c (m7 (len c) i)) fun x=>.ok (.str [x]) h) .no
def Pr.ixS:Pr:=⟨fun ws h=>cF ws (Ax h)⟩
end
section
variable {X:Cx} {Pg:List Fn} {cl:Cn} {E:XK} {d:Nat} {ρ:List Addr} {H:Hp} {P:A->Hs->List Addr->Hp->Prop}
theorem qN {w:W} {f:List Nat->R W} (p:Post cl ρ H E (ofW (w.onS f)) P):∃ c,w= .str c/\Post cl ρ H E (ofW (f c)) P:=by
 cases w with
 | str c=>exact ⟨c,rfl,p⟩
 | _=>exact absurd p id
theorem rw_str (z:Str):RW ρ (.str z.cps.toList) (.str z):=by
 have:=RW.str (ρ:=ρ) z.cps.toList
 simpa using this
theorem qO:OpN cl .jw Av:=fun E ρ h H ws vs Q s r p=>by
 obtain ⟨w,v,rfl,rfl,r1,p⟩:=vR r (show Post cl ρ H E (ofW (cU ws (Aw h))) (VP Q) from p)
 cases w with
 | int i=>
   cases r1
   obtain ⟨c,p⟩:=oIf (show Post cl ρ H E (ofW (ifB (Nat.ble (i.natAbs.log2 + 1) 1920) (.ok (.str (cJ i)) h) .no)) (VP Q) from p)
   have c:=Nat.le_of_ble_eq_true c
   exact .inl ⟨i,rfl,by omega,Post.bO s p (rw_str _)⟩
 | str c=>
   cases r1
   exact .inr ⟨_,rfl,Post.bO s (show Post cl ρ H E (ofW (.ok (.str c) h)) (VP Q) from p) (.str c)⟩
 | _=>exact absurd p id
theorem nO:∀ {xs:List W} {vs:List V} {cs:List (List Nat)},RWs ρ xs vs->fO xs=some cs->vs=(cs.map nm).map V.str
 | [],_,_,.nil,e=>by cases e;rfl
 | x::xs,_,cs,.cons r t,e=>by
   cases x with
   | str c=>
     cases r
     have e:Option.rec none (fun cs=>some (c::cs)) (fO xs)=some cs:=e
     cases z:fO xs with
     | none=>rw [z] at e;cases e
     | some ds=>
       rw [z] at e
       have e:some (c::ds)=some cs:=e
       cases e
       rw [nO t z];rfl
   | _=>cases e
theorem lF:∀ cs:List (List Nat),dI cs=((cs.map nm).map (·.length)).sum
 | []=>rfl
 | c::cs=>by
   show len c + dI cs=_
   rw [lF cs,len_eq];simp [nm,Str.length]
theorem Ay {K:PySem.W.Frag} {z:List Nat}:Op1 cl (.join z) (fun y H Q=>rJoin K (.str (nm z)) [y] H Q):=fun E ρ h H w1 v1 Q s r1 p=>by
 obtain ⟨n,o,a,rfl,rfl,e1,g1,x1,p⟩:=oAt s r1 (show Post cl ρ H E (ofW (wg z h w1)) (VP Q) from p)
 obtain ⟨xs,rfl,p⟩:=oL p
 obtain ⟨cs,ec,p⟩:=iD p
 obtain ⟨c,p⟩:=oIf p
 obtain ⟨us,ru,q⟩:=x1
 rw [nO ru ec] at q
 have c:=Nat.le_of_ble_eq_true c
 rw [lF,len_eq,len_eq] at c
 exact ⟨nm z,a,cs.map nm,rfl,rfl,SqL.of q,by simpa [nm,Str.length] using c,Post.bO s p (rw_str _)⟩
theorem pH {z:List Nat} {xx:Str} {jj:Nat} {pp:Pos} {e:Expr} {y:Ev.X} {apos cpos:Pos} (ex:xx=nm z) (ha:PE X e (tE Pg cl E d y)) (hbase:attributeBase (.Constant (.str xx) jj pp) "join" X.env (eval (.Constant (.str xx) jj pp) X.env)=eval (.Constant (.str xx) jj pp) X.env:=by rfl)
 (hfew:((backTo cpos (starEach [e] X.env)).all (fun x=> !x.1) && (backToKw cpos (keywordEach [] X.env)).all (fun x=>x.1.isSome)
   && decide ([e].length + ([]:List Keyword).length + (if ([]:List Keyword).isEmpty then 0 else 1) < 30))=true:=by rfl)
 (hline:(apos.endLine == cpos.line)=true:=by rfl) (hs:starEach [e] X.env=(false,eval e X.env)::starEach [] X.env:=by rfl) (hplain:(backTo cpos (starEach [] X.env)).any (·.1)=false:=by rfl):
 PE X (.Call (.Attribute (.Constant (.str xx) jj pp) "join" apos) [e] [] cpos) (tE Pg cl E d (.pr (.join z) [y])):=
 PE.of (lV PySem.F.plainAttrs_str PySem.F.slot_str_join PySem.F.type_str_join yf (show PE X (.Constant (.str xx) jj pp) (tC (.str (nm z))) by subst ex;exact q9) (aa ha ak hs) hbase hfew hline hs hplain) fun σ H Q q=>⟨rfl,jN Ay q⟩
theorem Az {K:PySem.W.Frag}:OpN cl .qK (fun xs H Q=>∃ p ys,xs= [.ref p]/\((SqL K H p ys/\∀ l,H l=none->Q (.ref l) (upd H l (.tup ys)))\/(SqT K H p ys/\Q (.ref p) H))):=fun E ρ h H ws vs Q s r p=>by
 obtain ⟨w,v,rfl,rfl,r1,p⟩:=vR r (show Post cl ρ H E (ofW (cU ws (wj h))) (VP Q) from p)
 obtain ⟨n,o,a,rfl,rfl,e1,g1,x1,p⟩:=oAt s r1 p
 obtain ⟨xs,rfl,p⟩:=oL p
 obtain ⟨us,ru,q⟩:=x1
 exact ⟨a,us,rfl,.inl ⟨SqL.of q,fun l hl=>Post.qu s p hl ru⟩⟩
theorem tQ {K:PySem.W.Frag}:Op2 cl .kY (vG K):=fun E ρ h H w1 w2 v1 v2 Q s r1 r2 p=>by
 obtain ⟨n,o,a,rfl,rfl,e1,g1,x1,p⟩:=oAt s r1 (show Post cl ρ H E (ofW (wu h w1 w2)) (VP Q) from p)
 obtain ⟨xs,rfl,p⟩:=oT p
 obtain ⟨m,o2,b,rfl,rfl,e2,g2,x2,p⟩:=oAt s r2 p
 obtain ⟨ys,rfl,p⟩:=oT p
 obtain ⟨vs,rv,q1⟩:=x1
 obtain ⟨us,ru,q2⟩:=x2
 cases xs with
 | nil=>exact absurd p id
 | cons x xs=>
 cases ys with
 | nil=>
   obtain ⟨z,p⟩:=jc (show Post cl ρ H E (ofW (size (x::xs) (.ok (.ref n) h))) (VP Q) from p)
   have l1:=rv.length
   cases ru
   cases rv with
   | cons r t=>
   refine ⟨a,b,_,_,rfl,rfl,SqT.of q1,SqT.of q2,by simp,?_,fun _=>?_,fun z=>absurd rfl z⟩
   · rw [b7];simp only [List.length_cons,List.length_nil] at l1 z ⊢;omega
   · exact Post.bO s p r1
 | cons y ys=>
   obtain ⟨z,p⟩:=jc (show Post cl ρ H E (ofW (size (app (x::xs) (y::ys)) (.alloc h (.tup (app (x::xs) (y::ys)))))) (VP Q) from p)
   rw [cG] at z p
   have l1:=rv.length
   have l2:=ru.length
   rw [List.length_append] at z
   refine ⟨a,b,vs,us,rfl,rfl,SqT.of q1,SqT.of q2,?_,by rw [b7];omega,fun z=>?_,fun _ p' hp=>?_⟩
   · intro z;rw [z] at l1;cases l1
   · rw [z] at l2;cases l2
   · exact Post.qu s p hp (rv.append ru)
theorem A_:Op2 cl .qL (fun x y H Q=>∃ i j,x= .str i/\y= .str j/\i.length + j.length <= sizeLine/\Q (.str (i ++ j)) H):=fun E ρ h H w1 w2 v1 v2 Q s r1 r2 p=>by
 obtain ⟨c,rfl,p⟩:=qN (show Post cl ρ H E (ofW (wz h w1 w2)) (VP Q) from p)
 obtain ⟨e,rfl,p⟩:=qN p
 obtain ⟨z,p⟩:=oIf p
 have z:=Nat.le_of_ble_eq_true z
 rw [len_eq,len_eq] at z
 cases r1;cases r2
 rw [cG] at p
 refine ⟨_,_,rfl,rfl,by rw [b7];simp only [Str.length,List.size_toArray];omega,Post.bO s p ?_⟩
 have:=RW.str (ρ:=ρ) (c ++ e)
 rw [<- List.append_toArray] at this
 exact this
theorem Ba:Op2 cl .qM v_:=fun E ρ h H w1 w2 v1 v2 Q s r1 r2 p=>by
 obtain ⟨c,rfl,p⟩:=qN (show Post cl ρ H E (ofW (wB h w1 w2)) (VP Q) from p)
 obtain ⟨n,rfl,p⟩:=oI p
 obtain ⟨c1,p⟩:=oIf p
 obtain ⟨c2,p⟩:=oIf p
 obtain ⟨c3,p⟩:=oIf p
 rw [bZ] at c1 c2
 have c1:=of_decide_eq_true c1
 have c2:=of_decide_eq_true c2
 have c3:=Nat.le_of_ble_eq_true c3
 rw [len_eq] at c3
 cases r1;cases r2
 exact ⟨_,_,rfl,rfl,by omega,by omega,by simpa [Str.length] using c3,Post.bO s p (rw_str _)⟩
theorem CP {K:PySem.W.Frag}:Op2 cl .ixS (rIx K):=fun E ρ h H w1 w2 v1 v2 Q s r1 r2 p=>by
 obtain ⟨c,rfl,p⟩:=qN (show Post cl ρ H E (ofW (Ax h w1 w2)) (VP Q) from p)
 obtain ⟨i,rfl,p⟩:=oI p
 obtain ⟨c3,p⟩:=oIf p
 obtain ⟨x,ex,p⟩:=iD p
 have c3:=Nat.le_of_ble_eq_true c3
 rw [len_eq] at c3
 cases r1;cases r2
 refine .inr (.inr ⟨_,i,x,rfl,rfl,?_,?_,Post.bO s p (.str [x])⟩)
 · rw [b7];simp only [Str.length,List.size_toArray];omega
 · rw [cH,len_eq] at ex
   show atI c.toArray.toList i=some x
   rw [List.toList_toArray]
   unfold atI
   rw [sI rfl (List.getElem?_eq_some_iff.mp ex).1]
   exact ex
theorem Bb {a b:Expr} {x y:Ev.X} {pos:Pos} (ha:PE X a (tE Pg cl E d x)) (hb:PE X b (tE Pg cl E d y)) (hs:j7 b:=by exact fun _ _=>rfl):PE X (.Subscript a b pos) (tE Pg cl E d (.pr .ixS [x,y])):=
 PE.of (iW mQ ha hb hs) fun _ _ _ q=>jM CP q
end
end Ev
set_option maxRecDepth 100000
set_option maxHeartbeats 4000000
namespace Ev
open PySem PySem.Spec PySem.SeqAt PyProof.Rows L2
section
variable {h:Hs} {Q:W->Hs->Prop} {K:Ks} {n:Nat} {τ:Sg} {A:Nat->Prop}
theorem tR {i:Int} (l:i.natAbs.log2 < 1920) (z:Q (.str (cJ i)) h):wP .jw [.int i] h Q:=by
 show okQ (ifB (Nat.ble (i.natAbs.log2 + 1) 1920) (.ok (.str (cJ i)) h) .no) Q
 rw [Nat.ble_eq_true_of_le (by omega)];exact z
theorem Bc {c:List Nat} (z:Q (.str c) h):wP .jw [.str c] h Q:=z
theorem lG:∀ cs:List (List Nat),fO (cs.map W.str)=some cs
 | []=>rfl
 | c::cs=>by
   show Option.rec (motive:=fun _=>Option (List (List Nat))) none (fun cs=>some (c::cs)) (fO (cs.map W.str))=some (c::cs)
   rw [lG cs]
theorem Bd {z:List Nat} {p:Nat} {cs:List (List Nat)} (e:h.get p=some (.lst (cs.map W.str))) (l:dI cs + cs.length * z.length <= 16777216) (q:Q (.str (cR z cs)) h):wP (.join z) [.ref p] h Q:=by
 show okQ (h.at (.ref p) fun _ o=>o.onL fun xs=>Opt (fO xs) fun cs=>ifB (Nat.ble (dI cs + len cs * len z) 16777216) (.ok (.str (cR z cs)) h) .no) Q
 rw [eU e]
 show okQ (Opt (fO (cs.map W.str)) fun cs=>ifB (Nat.ble (dI cs + len cs * len z) 16777216) (.ok (.str (cR z cs)) h) .no) Q
 rw [lG]
 show okQ (ifB (Nat.ble (dI cs + len cs * len z) 16777216) (.ok (.str (cR z cs)) h) .no) Q
 rw [len_eq,len_eq,Nat.ble_eq_true_of_le l];exact q
theorem Be {p:Nat} {xs:List W} (e:h.get p=some (.lst xs)) (z:Q (.ref h.n) (h.push (.tup xs))):wP .qK [.ref p] h Q:=by
 show okQ (h.at (.ref p) fun _ o=>o.onL fun xs=>.alloc h (.tup xs)) Q
 rw [eU e];exact z
theorem tU {p q:Nat} {xs ys:List W} (lp:p < h.n) (e:h.get p=some (.tup xs)) (e2:h.get q=some (.tup ys)) (hx:xs ≠ []) (l:xs.length + ys.length <= 1000) (z:∀ r h2,Ext h h2->r < h2.n->h2.get r=some (.tup (xs ++ ys))->Q (.ref r) h2):wP .kY [.ref p,.ref q] h Q:=by
 show okQ (h.at (.ref p) fun _ o=>o.onT fun xs=>h.at (.ref q) fun _ o=>o.onT fun ys=>List.rec .no (fun _ _ _=>List.rec (size xs (.ok (.ref p) h)) (fun _ _ _=>size (app xs ys) (.alloc h (.tup (app xs ys)))) ys) xs) Q
 rw [eU e]
 show okQ (h.at (.ref q) fun _ o=>o.onT fun ys=>List.rec .no (fun _ _ _=>List.rec (size xs (.ok (.ref p) h)) (fun _ _ _=>size (app xs ys) (.alloc h (.tup (app xs ys)))) ys) xs) Q
 rw [eU e2]
 cases xs with
 | nil=>exact absurd rfl hx
 | cons x xs=>
 cases ys with
 | nil=>
   show okQ (ifB (Nat.ble (len (x::xs)) 16777215) (.ok (.ref p) h) .no) Q
   rw [len_eq,Nat.ble_eq_true_of_le (by simp only [List.length_nil] at l;omega)]
   exact z p h .refl lp (by rw [List.append_nil];exact e)
 | cons y ys=>
   show okQ (ifB (Nat.ble (len (app (x::xs) (y::ys))) 16777215) (.alloc h (.tup (app (x::xs) (y::ys)))) .no) Q
   rw [cG,len_eq,Nat.ble_eq_true_of_le (by rw [List.length_append];omega)]
   exact z h.n _ .push eZ bu
theorem Bf {c e:List Nat} (l:c.length + e.length <= 100000) (z:Q (.str (c ++ e)) h):wP .qL [.str c,.str e] h Q:=by
 show okQ (ifB (Nat.ble (len c + len e) 100000) (.ok (.str (app c e)) h) .no) Q
 rw [len_eq,len_eq,cG,Nat.ble_eq_true_of_le l];exact z
theorem Bg {c:List Nat} {m:Int} (l:0 <= m/\m <= 10) (k:c.length <= 1000) (z:Q (.str (mulC c m)) h):wP .qM [.str c,.int m] h Q:=by
 show okQ (ifB (ilt (-1) m) (ifB (ilt m 11) (ifB (Nat.ble (len c) 1000) (.ok (.str (mulC c m)) h) .no) .no) .no) Q
 rw [bZ,bZ,len_eq,decide_eq_true (by omega),decide_eq_true (by omega),Nat.ble_eq_true_of_le k];exact z
theorem CQ {c:List Nat} {i:Int} (k:c.length <= 1000) (l:0 <= i) (l2:i < c.length) (z:∀ x ∈ c,Q (.str [x]) h):wP .ixS [.str c,.int i] h Q:=by
 show okQ (ifB (Nat.ble (len c) 1000) (Opt (nth c (m7 (len c) i)) fun x=>.ok (.str [x]) h) .no) Q
 rw [len_eq,Nat.ble_eq_true_of_le k]
 obtain ⟨j,rfl⟩:∃ j:Nat,i=Int.ofNat j:=⟨i.toNat,by show i=(i.toNat:Int);omega⟩
 have hj:j < c.length:=by have:(Int.ofNat j)=(j:Int):=rfl;omega
 show okQ (Opt (nth c j) fun x=>.ok (.str [x]) h) Q
 rw [cH,List.getElem?_eq_getElem hj]
 exact z _ (List.getElem_mem hj)
theorem bJ:∀ {c:List Nat},okC c=true ↔ ∀ x ∈ c,x < 1114112
 | []=>by simp [okC]
 | x::c=>by
   have e:okC (x::c)=ifB (Nat.ble (x + 1) 1114112) (okC c) false:=rfl
   rw [e]
   constructor
   · intro z
     obtain ⟨a,b⟩:=vZ z
     have a:=Nat.le_of_ble_eq_true a
     intro y hy
     rcases List.mem_cons.mp hy with rfl | hy
     · omega
     · exact bJ.mp b y hy
   · intro z
     rw [Nat.ble_eq_true_of_le (z x (List.mem_cons_self ..))]
     exact bJ.mpr fun y hy=>z y (List.mem_cons_of_mem _ hy)
theorem lH (i:Int):okC (cJ i)=true:=bJ.mpr fun x hx=>by
 unfold cJ at hx
 rw [Str.ofString_eq_toList] at hx
 simp only [List.toList_toArray,List.mem_map] at hx
 obtain ⟨c,_,rfl⟩:=hx
 have:=c.valid
 unfold UInt32.isValidChar Nat.isValidChar at this
 show c.val.toNat < _
 omega
theorem jU {i:Int} {k:Nat} (hk:0 < k) (l:i.natAbs < 10 ^ k):(cJ i).length <= k + 1:=by
 have:=int_text_length_le10 hk l
 unfold cJ
 rw [Str.ofString_eq_toList]
 show ((toString i).toList.map Char.toNat).toArray.toList.length <= _
 rw [List.toList_toArray,List.length_map]
 exact this
theorem pI (z:List Nat) (oz:okC z=true):∀ cs:List (List Nat),(∀ c ∈ cs,okC c=true)->okC (Str.join (nm z) (cs.map nm)).cps.toList=true
 | [],_=>rfl
 | [c],o=>by simpa [Str.join,nm] using o c (by simp)
 | c::e::cs,o=>by
   have ih:=pI z oz (e::cs) (fun c hc=>o c (List.mem_cons_of_mem _ hc))
   have oc:=o c (by simp)
   show okC ((nm c ++ nm z ++ Str.join (nm z) ((e::cs).map nm)).cps).toList=true
   have e1:(nm c ++ nm z ++ Str.join (nm z) ((e::cs).map nm)).cps.toList=c ++ z ++ (Str.join (nm z) ((e::cs).map nm)).cps.toList:=by
    show ((nm c).cps ++ (nm z).cps ++ (Str.join (nm z) ((e::cs).map nm)).cps).toList=_
    simp [nm]
   rw [e1]
   refine bJ.mpr fun x hx=>?_
   rcases List.mem_append.mp hx with hx | hx
   · rcases List.mem_append.mp hx with hx | hx
     · exact bJ.mp oc x hx
     · exact bJ.mp oz x hx
   · exact bJ.mp ih x hx
theorem vf {z:List Nat} (oz:okC z=true) {cs:List (List Nat)} (o:∀ c ∈ cs,okC c=true):okC (cR z cs)=true:=by
 unfold cR
 rw [show PySem.Txt.join (nm z) (cs.map nm)=Str.join (nm z) (cs.map nm) from StrLaws.glued_eq_join _ _]
 exact pI z oz cs o
theorem nP (a:Array Nat) (x:Nat):∀ (k:Nat) (b:Array Nat),x ∈ ((List.replicate k a).foldl (· ++ ·) b).toList->x ∈ b.toList\/x ∈ a.toList
 | 0,b,z=>.inl z
 | k + 1,b,z=>by
   rw [List.replicate_succ,List.foldl_cons] at z
   rcases nP a x k _ z with z | z
   · rw [Array.toList_append] at z
     exact List.mem_append.mp z
   · exact .inr z
theorem yh {c:List Nat} (o:okC c=true) (m:Int):okC (mulC c m)=true:=bJ.mpr fun x hx=>by
 unfold mulC iJ at hx
 split at hx
 · simp [Str.empty] at hx
 · split at hx
   · exact bJ.mp o x (by simpa [nm] using hx)
   · rcases nP _ x _ _ hx with z | z
     · simp at z
     · exact bJ.mp o x (by simpa [nm] using z)
theorem vg {c:List Nat} {m:Int} (l:0 <= m/\m <= 10):(mulC c m).length <= 10 * c.length:=by
 unfold mulC iJ
 split
 · simp [Str.empty]
 · split
   · simp [nm];omega
   · show ((List.replicate m.toNat (nm c).cps).foldl (· ++ ·) #[]).toList.length <= _
     rw [Array.length_toList,iK]
     have:(nm c).cps.size=c.length:=by simp [nm]
     rw [this]
     have:=Nat.mul_le_mul (show m.toNat <= 10 by omega) (Nat.le_refl c.length)
     simpa using this
theorem Rds.strs:∀ {cs:List (List Nat)} {ws:List W},Rds h A (cs.map D.str) ws ↔ ws=cs.map W.str
 | [],ws=>by simp [Rds]
 | n::ns,ws=>by
   simp only [List.map_cons,Rds,Rd]
   constructor
   · rintro ⟨w,r,rfl,rfl,b⟩;rw [Rds.strs.mp b]
   · rintro rfl;exact ⟨_,_,rfl,rfl,Rds.strs.mpr rfl⟩
theorem yj {cs:List (List Nat)} {w:W}:Rd h A (.lst (cs.map D.str)) w ↔ ∃ p,w= .ref p/\p < h.n/\A p/\h.get p=some (.lst (cs.map W.str)):=by
 simp only [Rd,Rds.strs]
 constructor
 · rintro ⟨p,ws,e,l,a,g,rfl⟩;exact ⟨p,e,l,a,g⟩
 · rintro ⟨p,e,l,a,g⟩;exact ⟨p,_,e,l,a,g,rfl⟩
theorem gn {c:List Nat}:Rd h A (.str c) (.str c):=by simp only [Rd]
theorem vh {a hi:X} (x:wX a K n τ h fun w h1=>wX hi K n τ h1 fun u h3=>∃ (p:Nat) (xs:List W) (j:Nat),w= .ref p/\u= .int (Int.ofNat j)/\j <= xs.length/\h3.get p=some (.lst xs)/\Q (.ref h3.n) (h3.push (.lst (xs.take j)))):wX (.slice a none (some hi)) K n τ h Q:=by
 obtain ⟨w,h1,e1,x⟩:=fM x
 obtain ⟨u,h3,e2,p,xs,j,rfl,rfl,lj,g,q⟩:=fM x
 have si:sIx (len xs) (len xs) (some (Int.ofNat j))=j:=by
  show ifB (Nat.ble j (len xs)) j (len xs)=j
  rw [len_eq,ble_eq,bI (decide_eq_true lj)]
 show okQ ((a.f K n τ h).bind fun r h=>r.toW fun w=>jr K n none τ h fun l h=>jr K n (some hi) τ h fun u h=>h.at w fun _ o=>
  O.rec (fun xs=>ifB (ifB (Nat.beq (sIx (len xs) 0 l) 0) (Nat.beq (sIx (len xs) (len xs) u) (len xs)) false) .no (ofW (.alloc h (.tup (tak (drp xs (sIx (len xs) 0 l)) (sIx (len xs) (len xs) u - sIx (len xs) 0 l)))))) (fun xs=>ofW (.alloc h (.lst (tak (drp xs (sIx (len xs) 0 l)) (sIx (len xs) (len xs) u - sIx (len xs) 0 l))))) (fun _ _=>.no) (fun _=>.no) (fun _=>.no) o) (aW Q)
 rw [e1]
 show okQ ((hi.f K n τ h1).bind fun r h=>r.toW fun w=>w.onI fun u=>h.at (.ref p) fun _ o=>
  O.rec (fun xs=>ifB (ifB (Nat.beq (sIx (len xs) 0 none) 0) (Nat.beq (sIx (len xs) (len xs) (some u)) (len xs)) false) .no (ofW (.alloc h (.tup (tak (drp xs (sIx (len xs) 0 none)) (sIx (len xs) (len xs) (some u) - sIx (len xs) 0 none)))))) (fun xs=>ofW (.alloc h (.lst (tak (drp xs (sIx (len xs) 0 none)) (sIx (len xs) (len xs) (some u) - sIx (len xs) 0 none))))) (fun _ _=>.no) (fun _=>.no) (fun _=>.no) o) (aW Q)
 rw [e2]
 show okQ (h3.at (.ref p) fun _ o=>O.rec (fun xs=>ifB (ifB (Nat.beq (sIx (len xs) 0 none) 0) (Nat.beq (sIx (len xs) (len xs) (some (Int.ofNat j))) (len xs)) false) .no (ofW (.alloc h3 (.tup (tak (drp xs (sIx (len xs) 0 none)) (sIx (len xs) (len xs) (some (Int.ofNat j)) - sIx (len xs) 0 none)))))) (fun xs=>ofW (.alloc h3 (.lst (tak (drp xs (sIx (len xs) 0 none)) (sIx (len xs) (len xs) (some (Int.ofNat j)) - sIx (len xs) 0 none))))) (fun _ _=>.no) (fun _=>.no) (fun _=>.no) o) (aW Q)
 rw [eU g]
 show Q (.ref h3.n) (h3.push (.lst (tak (drp xs 0) (sIx (len xs) (len xs) (some (Int.ofNat j)) - 0))))
 rw [si,m9,m8,List.drop_zero,Nat.sub_zero];exact q
end
end Ev
set_option maxRecDepth 100000
set_option maxHeartbeats 4000000
namespace My
open PySem L2 PyProof.Rows
def top (i:Nat):Stmt:=PySem.Challenge.pw_byestand_k49_deeds_written.main.body.getD i (.Pass ⟨0,0,0,0⟩)
section
open Ev
abbrev d8:Stmt:=top 1
theorem nQ:bw ["deed"] ["deed"] (aj d8):=fsc (by decide +kernel) (by decide +kernel) (by decide +kernel)
abbrev fG:Stmt:=top 3
theorem gY:bw ["_law_seed","_law_k","_law_square"] ["_law_seed","_law_k"] (aj fG):=fsc (by decide +kernel) (by decide +kernel) (by decide +kernel)
abbrev fV:Stmt:=top 4
theorem bG:bw ["_law_cell_here","_law_limits","_law_rest","_law_seed","_law_found","_law_limit"] ["_law_cell_here","_law_limits"] (aj fV):=fsc (by decide +kernel) (by decide +kernel) (by decide +kernel)
abbrev fW:Stmt:=top 5
theorem nR:bw ["_law_script","_law_k"] ["_law_script","_law_k"] (aj fW):=fsc (by decide +kernel) (by decide +kernel) (by decide +kernel)
abbrev gP:Stmt:=top 6
theorem ou:bw ["_law_found"] ["_law_found"] (aj gP):=fsc (by decide +kernel) (by decide +kernel) (by decide +kernel)
abbrev d9:Stmt:=top 7
theorem nT:bw ["_law_found","_law_due"] ["_law_found","_law_due"] (aj d9):=fsc (by decide +kernel) (by decide +kernel) (by decide +kernel)
abbrev bV:Stmt:=top 8
theorem jh:bw ["_law_deed"] ["_law_deed"] (aj bV):=fsc (by decide +kernel) (by decide +kernel) (by decide +kernel)
abbrev dj:Stmt:=top 9
theorem dJ:bw ["_law_script","_law_k","_law_row","_law_numbers","_law_j","_law_more","_law_word","_law_deed"] ["_law_script"] (aj dj):=fsc (by decide +kernel) (by decide +kernel) (by decide +kernel)
noncomputable def fX:List S:=[(.ret (.pr (.join [32]) [(.comp 1 [] (.seq (.var 0)) (.nm 0) none none (.pr .jw [(.var 0)]))]))]
noncomputable def jx:List S:=[(.ret (.pr (.join [32]) [(.comp 1 [] (.seq (.var 0)) (.nm 0) none none (.pr .jw [(.var 0)]))]))]
noncomputable def Pg:List Fn:=[.mk 1 1 fX,.mk 1 1 jx]
set_option genInjectivity false in
set_option genSizeOf false in
structure Adr where
 b8:Addr
 d_:FuncData
 cL:Addr
 fH:FuncData
 c7:Addr
 fZ:FuncData
 dg:Addr
 f9:FuncData
 dM:Addr
 gQ:FuncData
 bB:Addr
 b_:FuncData
 a_:Addr
 bY:FuncData
 gR:Addr
 wF:FuncData
def cn (a:Adr):Cn where
 c:=fun k=>match k with  | _=>0
 P:=0
 q:="law" ++ ".<locals>." ++ "<lambda>"
 on:=false
structure Txt (w:World) (K:PySem.W.Frag) (mg:Str->Option Value) (a:Adr):Prop where
 cg:Df K mg "deed_text" d8 ["deed"] a.b8 a.d_
 bR:Df K mg "_law_mixed" fG ["_law_seed","_law_k"] a.cL a.fH
 cj:Df K mg "_law_draw" fV ["_law_cell_here","_law_limits"] a.c7 a.fZ
 cu:Df K mg "_law_cell" fW ["_law_script","_law_k"] a.dg a.f9
 cT:Df K mg "_law_num" gP ["_law_found"] a.dM a.gQ
 bM:Df K mg "_law_same" d9 ["_law_found","_law_due"] a.bB a.b_
 bf:Df K mg "_law_deed_text" bV ["_law_deed"] a.a_ a.bY
 CV:Df K mg "law" dj ["_law_script"] a.gR a.wF
 qP:mg "abs" =none
 qQ:mg "all" =none
 iM:mg "bool" =none
 mz:mg "int" =none
 aD:mg "isinstance" =none
 eV:mg "len" =none
 jV:mg "list" =none
 gq:mg "range" =none
 gU:mg "str" =none
 gw:mg "tuple" =none
theorem jf {i j:Int} (h1: -(2 ^ 64) < i) (h2:i < 2 ^ 64):lW i j:=.inl (.inl ⟨h1,h2⟩)
theorem nU {i j:Int} (h1: -(2 ^ 64) < j) (h2:j < 2 ^ 64):lW i j:=.inl (.inr ⟨h1,h2⟩)
section
variable {P:Program} {w:World} {K:PySem.W.Frag} {mg:Str->Option Value} {base:Heap}
end
end
section
variable {P:Program} {w:World} {K:PySem.W.Frag} {mg:Str->Option Value} {base:Heap}
def ym:Sp:=fun vs H Q _=>∃ a k:Int,vs= [.int a,.int k]/\0 <= a/\a < 2147483647/\∀ z:Int,0 <= z->z < 2147483647->Q (.int z) H
theorem lQ {a:Adr} (T:Txt w K mg a):aU P w K mg base CX0 1 a.cL a.fH ["_law_seed","_law_k"] ym:=by
 refine T.bR.fn.ok gY (fun vs H Q E h=>?_) (fun cdv A outer s H vs Q E hr h=>?_)
 · obtain ⟨a,k,rfl,_⟩:=h
   rfl
 obtain ⟨x,k,rfl,h0,h1,q⟩:=h
 refine ⟨_,(aJ (eF (i:=2) gY.nd rfl (Or.inl rfl) (aN fu (aN dz (pv 0) (pv 0)) aA))
  (aX (bK (aN fu (aN eG (aN eG (aN dz (pv 2) (aN eG (aN fu (pv 0) aA) aA)) (aN dz (pv 1) aA)) aA) aA)))),?_⟩
 have m31:(0:Int) < 2147483647:=by decide
 refine ⟨_,rfl,_,rfl,_,_,rfl,rfl,jf (by omega) (by omega),_,_,rfl,rfl,m31,?_⟩
 have s0:=Int.emod_nonneg (x * x) (show (2147483647:Int) ≠ 0 by decide)
 have s1:=Int.emod_lt_of_pos (x * x) m31
 refine ⟨_,rfl,_,rfl,_,_,rfl,rfl,(by show (0:Int) < 65521;decide),_,_,rfl,rfl,_,_,rfl,rfl,jf (by omega) (by omega),_,rfl,_,_,rfl,rfl,nU (by decide) (by decide),_,_,rfl,rfl,_,_,rfl,rfl,_,_,rfl,rfl,m31,?_⟩
 exact q _ (Int.emod_nonneg _ (by decide)) (Int.emod_lt_of_pos _ m31)
def Bh:Sp:=fun vs H Q _=>∃ (c:Int) (l:Addr) (ls:List Int),vs= [.int c,.ref l]/\H l=some (.lst (ls.map V.int))/\ls.length <= 63/\(∀ z ∈ ls,0 < z/\Sml z)/\
 ∀ (r:Addr) (ns:List Int) (H':Hp),H r=none->bz H H'->Drawn ns ls->H' r=some (.lst (ns.map V.int))->Q (.ref r) H'
theorem nW {a:Adr} (T:Txt w K mg a):aU P w K mg base CX0 2 a.c7 a.fZ ["_law_cell_here","_law_limits"] Bh:=by
 have nY:=lQ (P:=P) (w:=w) (base:=base) T
 refine T.cj.fn.ok bG (fun vs H Q E h=>?_) (fun cdv A outer s H vs Q E hr h=>?_)
 · obtain ⟨_,_,_,rfl,_⟩:=h
   rfl
 obtain ⟨c,l,ls,rfl,hl,h63,hz,q⟩:=h
 refine ⟨_,(aJ (eF (i:=2) bG.nd rfl (Or.inl rfl) (uf (gh BL (pv 0) (aN mK aA aA) (dG _)) (pv 0) aA))
  (aJ (eF (i:=3) bG.nd rfl (Or.inl rfl) (aN fu (aN eG (aN dz (aB uB rfl T.qP boot_abs (aa (pv 0) ak)) aA) aA) aA))
  (aJ (eF (i:=4) bG.nd rfl (Or.inl rfl) (ig ak))
  (aJ (mJ PassesOwn.never rfl (oK (pv 1)) (iU (i:=5) bG.nd rfl (Or.inl rfl))
    (aX (eH (gh BK (pv 2) aA (dG _)) (aJ (jY (lV PySem.F.plainAttrs_list PySem.F.slot_list_append PySem.F.type_list_append fK (pv 4) (aa (aN fu (pv 2) (pv 5)) ak)))
      (aX (eF (i:=2) bG.nd rfl (Or.inl rfl) (aN mV (pv 2) (pv 5))))) (aJ (eF (i:=3) bG.nd rfl (Or.inl rfl) (iY T.bR nY (hr.mono (by omega)) rfl (aa (pv 3) (aa (aB cD rfl T.eV boot_len (aa (pv 4) ak)) ak))))
      (aX (jY (lV PySem.F.plainAttrs_list PySem.F.slot_list_append PySem.F.type_list_append fK (pv 4) (aa (aN fu (aN mV (pv 3) aA) (pv 5)) ak))))))))
  (aX (bK (pv 4))))))),?_⟩
 have m31:(0:Int) < 2147483647:=by decide
 have s31:Sml 61:=by unfold Sml;exact Nat.lt_of_lt_of_le (show (61:Int).natAbs < 2 ^ 10 by decide) (Nat.pow_le_pow_right (by decide) (by decide))
 refine ⟨_,rfl,_,_,rfl,rfl,(by show uy 10 18;exact ⟨by decide,by decide,by decide⟩),_,_,rfl,rfl,_,rfl,?_⟩
 refine qg (fun cc=>?gA) (fun cc=>?gB)
 case' gA=>
  have c0:(0:Int) <= c:=by
   have z:(10:Int) ^ (18:Int).toNat <= c:=of_decide_eq_true cc
   have z2:(0:Int) <= (10:Int) ^ (18:Int).toNat:=by decide
   omega
  refine ⟨_,rfl,?_⟩
 case' gB=>have c0:(0:Int) <= 0:=by decide
 all_goals
  refine ⟨_,rfl,_,rfl,_,_,rfl,rfl,nU (by decide) (by decide),_,_,rfl,rfl,_,_,rfl,rfl,m31,?_⟩
  refine ⟨(by show 0 <= sizeLine;decide),fun r hr'=>?_⟩
  have g0:bz H (upd H r (.lst [])):=aq hr' _
  refine ⟨_,rfl,l,rfl,⟨_,SqL.of (g0 _ _ hl)⟩,uv (K:=K) (a:=l) (xs:=ls.map V.int) (fun i σ H2=>∃ (rest seed:Int) (ns:List Int) (v:Option V),σ= [some (.int c),some (.ref l),some (.int rest),some (.int seed),some (.ref r),v]/\
   0 <= rest/\0 <= seed/\seed < 2147483647/\bz H H2/\H2 r=some (.lst (ns.map V.int))/\Drawn ns (ls.take i))
   ⟨_,_,[],none,rfl,c0,Int.emod_nonneg _ (by decide),Int.emod_lt_of_pos _ m31,g0,au,by simpa using Paired.nil⟩ (fun i σ H2 _ ⟨_,_,_,_,_,_,_,_,s2,_⟩=>SqL.of (s2 _ _ hl)) ?_ ?_⟩
  · rintro i y σ H2 hi ⟨rest,seed,ns,v,rfl,r0,s0,s1,s2,hr2,hD⟩
    obtain ⟨z,hzi,rfl⟩:∃ z,ls[i]? =some z/\y=V.int z:=by
     rw [List.getElem?_map] at hi
     cases e:ls[i]? with
     | none=>rw [e] at hi;cases hi
     | some z=>rw [e] at hi;exact ⟨z,rfl,(Option.some.inj hi).symm⟩
    obtain ⟨z0,zS⟩:=hz z (List.mem_of_getElem? hzi)
    have hil:i < ls.length:=(List.getElem?_eq_some_iff.mp hzi).1
    have hlen:ns.length=i:=by have:=hD.length;rw [List.length_take] at this;omega
    have hlt:(ns.map V.int).length < sizeLine:=by rw [List.length_map];exact rO (by omega)
    have nlr:r ≠ l:=fun e=>by rw [e] at hr';rw [hl] at hr';cases hr'
    have etk:ls.take (i + 1)=ls.take i ++ [z]:=by rw [List.take_add_one,hzi];rfl
    have next:∀ v:Int,0 <= v->v < z->Drawn (ns ++ [v]) (ls.take (i + 1)):=fun v h0 h1=>by rw [etk];exact hD.snoc ⟨h0,h1⟩
    have wG:∀ o,bz H (upd H2 r o):=fun o b u e=>by rw [aG (aR e hr')];exact s2 _ _ e
    have em:∀ v:Int,ns.map V.int ++ [V.int v] =(ns ++ [v]).map V.int:=fun v=>by rw [List.map_append];rfl
    refine ⟨_,rfl,_,_,rfl,rfl,_,rfl,?_⟩
    refine qg (fun cr=>?_) (fun cr=>?_)
    · have cr':0 < rest:=of_decide_eq_true cr
      refine ⟨_,rfl,.inl ⟨rfl,_,SqL.of hr2⟩,_,rfl,_,rfl,_,_,rfl,rfl,z0,r,_,_,rfl,rfl,hr2,hlt,?_⟩
      refine ⟨_,rfl,_,rfl,_,_,rfl,rfl,⟨by omega,zS⟩,?_⟩
      refine ⟨_,seed,ns ++ [rest % z],_,rfl,Int.fdiv_nonneg r0 (by omega),s0,s1,wG _,by rw [au,em],next _ (Int.emod_nonneg _ (by omega)) (Int.emod_lt_of_pos _ z0)⟩
    · refine ⟨_,rfl,_,rfl,r,_,rfl,.inl (SqL.of hr2),_,_,rfl,s0,s1,fun sd sd0 sd1=>?_⟩
      refine ⟨_,rfl,.inl ⟨rfl,_,SqL.of hr2⟩,_,rfl,_,_,rfl,rfl,⟨by decide,s31⟩,_,rfl,_,_,rfl,rfl,z0,r,_,_,rfl,rfl,hr2,hlt,?_⟩
      refine ⟨rest,sd,ns ++ [(sd.fdiv 61) % z],_,rfl,r0,sd0,sd1,wG _,by rw [au,em],next _ (Int.emod_nonneg _ (by omega)) (Int.emod_lt_of_pos _ z0)⟩
  · rintro σ H2 ⟨rest,seed,ns,v,rfl,r0,s0,s1,s2,hr2,hD⟩
    rw [List.length_map,List.take_length] at hD
    exact ⟨_,rfl,q r ns H2 hr' s2 hD hr2⟩
def Bj (K:PySem.W.Frag):Sp:=fun vs H Q _=>∃ (a:Addr) (ns:List Int) (k:Int),vs= [.ref a,.int k]/\SqL K H a (ns.map V.int)/\ns.length <= 63/\0 <= k/\∀ z:Int,Q (.int z) H
theorem int_at {ns:List Int} {k:Int} (h0:0 <= k) (h1:k < (ns.length:Int)):∃ z:Int,atI (ns.map V.int) k=some (.int z):=by
 have hk:k.toNat < ns.length:=by omega
 have ek:k=((k.toNat:Nat):Int):=by omega
 have q:atI (ns.map V.int) ((k.toNat:Nat):Int)=some (.int ns[k.toNat]):=gj (by rw [List.getElem?_map,List.getElem?_eq_getElem hk] <;> rfl)
 rw [<- ek] at q
 exact ⟨_,q⟩
theorem nZ {a:Adr} (T:Txt w K mg a):aU P w K mg base CX0 1 a.dg a.f9 ["_law_script","_law_k"] (Bj K):=by
 refine T.cu.fn.ok nR (fun vs H Q E h=>?_) (fun cdv A outer s H vs Q E hr h=>?_)
 · obtain ⟨_,_,_,rfl,_⟩:=h
   rfl
 obtain ⟨l,ns,k,rfl,hS,h63,k0,q⟩:=h
 refine ⟨_,(aJ (eH (gh BJ (pv 1) (aB cD rfl T.eV boot_len (aa (pv 0) ak)) (dG _)) (aX (bK (iW j8 (pv 0) (pv 1) (fun _ _=>rfl)))) cM)
  (aJ (eH (gh jB (aB cD rfl T.eV boot_len (aa (pv 0) ak)) aA (dG _)) (aX (bK (aN dz aA (pv 1)))) cM)
  (aX (bK (aN eG (iW j8 (pv 0) (aN fu (pv 1) (aB cD rfl T.eV boot_len (aa (pv 0) ak))) (fun _ _=>rfl)) (aN dz aA (pv 1))))))),?_⟩
 have hl:(ns.map V.int).length=ns.length:=List.length_map _
 refine ⟨_,rfl,_,rfl,l,_,rfl,.inl hS,_,_,rfl,rfl,_,rfl,?_⟩
 refine qg (fun c=>?_) (fun c=>?_)
 · have c':k < (((ns.map V.int).length:Nat):Int):=of_decide_eq_true c
   rw [hl] at c'
   obtain ⟨z,hz⟩:=int_at k0 c'
   exact ⟨_,rfl,_,rfl,l,_,_,_,rfl,rfl,hS,hz,q z⟩
 · refine ⟨_,rfl,l,_,rfl,.inl hS,rfl,_,rfl,?_⟩
   refine qg (fun c2=>?_) (fun c2=>?_)
   · exact ⟨_,rfl,_,_,rfl,rfl,jf (by decide) (by decide),q _⟩
   · have c3:¬ V.int (((ns.map V.int).length:Nat):Int)=V.int 0:=fun z=>c2 (decide_eq_true z)
     have c4:0 < ns.length:=by
      rw [hl] at c3
      rcases Nat.eq_zero_or_pos ns.length with z | z
      · rw [z] at c3;exact absurd rfl c3
      · exact z
     have p0:(0:Int) < (((ns.map V.int).length:Nat):Int):=by rw [hl];omega
     obtain ⟨z,hz⟩:=int_at (ns:=ns) (k:=k % (((ns.map V.int).length:Nat):Int)) (Int.emod_nonneg _ (by omega)) (by have:=Int.emod_lt_of_pos k p0;rw [hl] at this ⊢;exact this)
     exact ⟨_,rfl,_,rfl,_,rfl,l,_,rfl,.inl hS,_,_,rfl,rfl,p0,l,_,_,_,rfl,rfl,hS,hz,_,rfl,_,_,rfl,rfl,jf (by decide) (by decide),_,_,rfl,rfl,q _⟩
theorem gb:∀ {xs ys:List PyData},xs.length ≠ ys.length->PySem.Spec.sameAll xs ys=false
 | [],[],h=>absurd rfl h
 | [],_::_,_=>by simp [PySem.Spec.sameAll]
 | _::_,[],_=>by simp [PySem.Spec.sameAll]
 | x::xs,y::ys,h=>by
   simp only [PySem.Spec.sameAll]
   rw [gb (xs:=xs) (ys:=ys) (by simpa using h),Bool.and_false]
theorem gf:∀ {xs ys:List PyData},xs.length=ys.length->PySem.Spec.sameAll xs ys=(List.zipWith PySem.Spec.same xs ys).all id
 | [],[],_=>by simp [PySem.Spec.sameAll]
 | [],_::_,h=>by simp at h
 | _::_,[],h=>by simp at h
 | x::xs,y::ys,h=>by
   simp only [PySem.Spec.sameAll,List.zipWith_cons_cons,List.all_cons,id]
   rw [gf (xs:=xs) (ys:=ys) (by simpa using h)]
def Bk:Sp:=fun vs H Q _=>∃ (x:V) (d:PyData),vs= [x]/\Rep H x d/\Q (.bl (match d with | .int _=>true | _=>false)) H
theorem oA {a:Adr} (T:Txt w K mg a):aU P w K mg base CX0 1 a.dM a.gQ ["_law_found"] Bk:=by
 refine T.cT.fn.ok ou (fun vs H Q E h=>?_) (fun cdv A outer s H vs Q E hr h=>?_)
 · obtain ⟨_,_,rfl,_⟩:=h
   rfl
 obtain ⟨x,d,rfl,rx,q⟩:=h
 refine ⟨_,(aX (bK (g8 (aB bD rfl T.aD boot_isinstance (aa (pv 0) (aa (bN (v:=.ty "int") rfl T.mz boot_int rfl) ak))) (gZ (yF (aB bD rfl T.aD boot_isinstance (aa (pv 0) (aa (bN (v:=.ty "bool") rfl T.iM boot_bool rfl) ak)))))))),?_⟩
 have ty:=rx.ty (K:=K)
 cases rx with
 | int i=>
   refine ⟨_,rfl,_,"int",_,true,rfl,ty,rfl,true,rfl,?_⟩
   refine aY ?_
   exact ⟨_,rfl,_,"bool",_,false,rfl,ty,rfl,false,rfl,q⟩
 | bl b=>
   refine ⟨_,rfl,_,"int",_,true,rfl,ty,rfl,true,rfl,?_⟩
   refine aY ?_
   exact ⟨_,rfl,_,"bool",_,true,rfl,ty,rfl,true,rfl,q⟩
 | non=>exact ⟨_,rfl,_,"int",_,false,rfl,ty,rfl,false,rfl,az q⟩
 | str z=>exact ⟨_,rfl,_,"int",_,false,rfl,ty,rfl,false,rfl,az q⟩
 | lst e t=>exact ⟨_,rfl,_,"int",_,false,rfl,ty,rfl,false,rfl,az q⟩
 | tup e t=>exact ⟨_,rfl,_,"int",_,false,rfl,ty,rfl,false,rfl,az q⟩
def iQ (n:Nat):Sp:=fun vs H Q _=>∃ (x y:V) (dx dy:PyData),vs= [x,y]/\Rep H x dx/\Rep H y dy/\dy.depth < n/\∀ H',bz H H'->Q (.bl (PySem.Spec.same dx dy)) H'
theorem same_none {f:Addr} {fd:FuncData}:aU P w K mg base CX0 2 f fd ["_law_found","_law_due"] (iQ 0):=by
 have no:∀ vs H Q E,¬ iQ 0 vs H Q E:=fun vs H Q E h=>by
  obtain ⟨_,_,_,_,_,_,_,h,_⟩:=h
  exact absurd h (Nat.not_lt_zero _)
 exact ⟨fun vs H Q E h=>absurd h (no vs H Q E),fun A outer s H args us vs Q E _ _ _ _ h=>absurd h (no vs H Q E)⟩
theorem tV {a:Adr} (T:Txt w K mg a) {n:Nat} (oE:aU P w K mg base CX0 (n + 2) a.bB a.b_ ["_law_found","_law_due"] (iQ n)):
 aU P w K mg base CX0 (n + 3) a.bB a.b_ ["_law_found","_law_due"] (iQ (n + 1)):=by
 have qR:=oA (P:=P) (w:=w) (base:=base) T
 refine T.bM.fn.ok nT (fun vs H Q E h=>?_) (fun cdv A outer s H vs Q E hr h=>?_)
 · obtain ⟨_,_,_,_,rfl,_⟩:=h
   rfl
 obtain ⟨x,y,dx,dy,rfl,rx,ry,Bl,q⟩:=h
 refine ⟨_,(aJ (eH (yE (q_ (pv 1))) (aX (bK (yD (q_ (pv 0))))) cM)
  (aJ (eH (fj (aB bD rfl T.aD boot_isinstance (aa (pv 1) (aa (bN (v:=.ty "bool") rfl T.iM boot_bool rfl) ak)))) (aX (bK (g8 (aB bD rfl T.aD boot_isinstance (aa (pv 0) (aa (bN (v:=.ty "bool") rfl T.iM boot_bool rfl) ak))) (gZ (iV jB (pv 0) (pv 1) (dG _)))))) cM)
  (aJ (eH (fj (aB bD rfl T.aD boot_isinstance (aa (pv 1) (aa (bN (v:=.ty "int") rfl T.mz boot_int rfl) ak)))) (aX (bK (g8 (iY T.cT qR (hr.mono (by omega)) rfl (aa (pv 0) ak)) (gZ (iV jB (pv 0) (pv 1) (dG _)))))) cM)
  (aJ (eH (fj (aB bD rfl T.aD boot_isinstance (aa (pv 1) (aa (bN (v:=.ty "str") rfl T.gU boot_str rfl) ak)))) (aX (bK (g8 (aB bD rfl T.aD boot_isinstance (aa (pv 0) (aa (bN (v:=.ty "str") rfl T.gU boot_str rfl) ak))) (gZ (iV jB (pv 0) (pv 1) (dG _)))))) cM)
  (aJ (eH (PW.pt (pw_or (PW.pt (pw_and (fj (aB bD rfl T.aD boot_isinstance (aa (pv 1) (aa (bN (v:=.ty "tuple") rfl T.gw boot_tuple rfl) ak)))) (pw_and1 (mH (fj (aB bD rfl T.aD boot_isinstance (aa (pv 0) (aa (bN (v:=.ty "tuple") rfl T.gw boot_tuple rfl) ak)))))))) (pw_or1 (PW.pt (pw_and (fj (aB bD rfl T.aD boot_isinstance (aa (pv 1) (aa (bN (v:=.ty "list") rfl T.jV boot_list rfl) ak)))) (pw_and1 (mH (fj (aB bD rfl T.aD boot_isinstance (aa (pv 0) (aa (bN (v:=.ty "list") rfl T.jV boot_list rfl) ak))))))))))) (aX (bK pL)) cM)
  (aX (bK (g8 (iV jB (aB iu rfl T.eV boot_len (aa (pv 0) ak)) (aB iu rfl T.eV boot_len (aa (pv 1) ak)) (dG _)) (gZ (aB (rT rfl) rfl T.qQ boot_all (aa (oZ (mZ (N':=["_law_k","_law_found","_law_due"]) (nt:=1) (idx:=[0,1]) (N:=["_law_found","_law_due"]) (osc:=aj d9) rfl rfl (by decide +kernel)) rfl (g_ rfl T.gq (aa (aB iu rfl T.eV boot_len (aa (pv 1) ak)) ak)) (vJ (fun _ _ _ _=>iU (i:=0) (show List.Nodup (["_law_k","_law_found","_law_due"]:List Str) by decide +kernel) rfl (Or.inl rfl)) (fun _ _ _ _=>oY) (fun _ _ _ _=>(iY T.bM oE (hr.mono (by omega)) rfl (aa (iW (o4 (K:=K) rfl) (pv 1) (pv 0) (fun _ _=>rfl)) (aa (iW (o4 (K:=K) rfl) (pv 2) (pv 0) (fun _ _=>rfl)) ak)))))) ak))))))))))),?_⟩
 have tx:=rx.ty (K:=K)
 have ty:=ry.ty (K:=K)
 have q0:=q H (bz.refl H)
 refine ⟨_,rfl,_,rfl,?_⟩
 cases ry with
 | non=>
   refine aY ?_
   refine ⟨_,rfl,?_⟩
   cases rx <;> exact q0
 | bl b=>
   refine az ?_
   refine ⟨_,rfl,_,"bool",_,true,rfl,ty,rfl,true,rfl,aY ?_⟩
   cases rx with
   | bl c=>
     refine ⟨_,rfl,_,"bool",_,true,rfl,tx,rfl,true,rfl,aY ?_⟩
     refine ⟨_,rfl,_,rfl,rfl,?_⟩
     have e:decide (V.bl c=V.bl b)=(c == b):=rE
     rw [e]
     simpa [PySem.Spec.same] using q0
   | non=>exact ⟨_,rfl,_,"bool",_,false,rfl,tx,rfl,false,rfl,az q0⟩
   | int i=>exact ⟨_,rfl,_,"bool",_,false,rfl,tx,rfl,false,rfl,az q0⟩
   | str z=>exact ⟨_,rfl,_,"bool",_,false,rfl,tx,rfl,false,rfl,az q0⟩
   | lst e t=>exact ⟨_,rfl,_,"bool",_,false,rfl,tx,rfl,false,rfl,az q0⟩
   | tup e t=>exact ⟨_,rfl,_,"bool",_,false,rfl,tx,rfl,false,rfl,az q0⟩
 | int i=>
   refine az ?_
   refine ⟨_,rfl,_,"bool",_,false,rfl,ty,rfl,false,rfl,az ?_⟩
   refine ⟨_,rfl,_,"int",_,true,rfl,ty,rfl,true,rfl,aY ?_⟩
   cases rx with
   | int j=>
     refine ⟨_,rfl,_,_,rfl,.int j,true,rfl,aY ?_⟩
     refine ⟨_,rfl,_,rfl,rfl,?_⟩
     have e:decide (V.int j=V.int i)=(j == i):=oM
     rw [e]
     simpa [PySem.Spec.same] using q0
   | non=>exact ⟨_,rfl,_,_,rfl,.non,false,rfl,az q0⟩
   | bl c=>exact ⟨_,rfl,_,_,rfl,.bl c,false,rfl,az q0⟩
   | str z=>exact ⟨_,rfl,_,_,rfl,.str z,false,rfl,az q0⟩
   | lst e t=>exact ⟨_,rfl,_,_,rfl,.lst e t,false,rfl,az q0⟩
   | tup e t=>exact ⟨_,rfl,_,_,rfl,.tup e t,false,rfl,az q0⟩
 | str z=>
   refine az ?_
   refine ⟨_,rfl,_,"bool",_,false,rfl,ty,rfl,false,rfl,az ?_⟩
   refine ⟨_,rfl,_,"int",_,false,rfl,ty,rfl,false,rfl,az ?_⟩
   refine ⟨_,rfl,_,"str",_,true,rfl,ty,rfl,true,rfl,aY ?_⟩
   cases rx with
   | str z'=>
     refine ⟨_,rfl,_,"str",_,true,rfl,tx,rfl,true,rfl,aY ?_⟩
     refine ⟨_,rfl,_,rfl,rfl,?_⟩
     have e:decide (V.str z'=V.str z)=(z' == z):=oN
     rw [e]
     simpa [PySem.Spec.same] using q0
   | non=>exact ⟨_,rfl,_,"str",_,false,rfl,tx,rfl,false,rfl,az q0⟩
   | bl c=>exact ⟨_,rfl,_,"str",_,false,rfl,tx,rfl,false,rfl,az q0⟩
   | int i=>exact ⟨_,rfl,_,"str",_,false,rfl,tx,rfl,false,rfl,az q0⟩
   | lst e t=>exact ⟨_,rfl,_,"str",_,false,rfl,tx,rfl,false,rfl,az q0⟩
   | tup e t=>exact ⟨_,rfl,_,"str",_,false,rfl,tx,rfl,false,rfl,az q0⟩
 | @lst ay ys dys ey ryA=>
   refine az ?_
   refine ⟨_,rfl,_,"bool",_,false,rfl,ty,rfl,false,rfl,az ?_⟩
   refine ⟨_,rfl,_,"int",_,false,rfl,ty,rfl,false,rfl,az ?_⟩
   refine ⟨_,rfl,_,"str",_,false,rfl,ty,rfl,false,rfl,az ?_⟩
   refine ⟨_,rfl,_,"tuple",_,false,rfl,ty,rfl,false,rfl,az ?_⟩
   refine az ?_
   refine ⟨_,rfl,_,"list",_,true,rfl,ty,rfl,true,rfl,aY ?_⟩
   cases rx with
   | @lst ax xs dxs ex rxA=>
     refine ⟨_,rfl,_,"list",_,true,rfl,tx,rfl,true,rfl,az ?_⟩
     have lx:=rxA.length
     have ly:=ryA.length
     refine ⟨_,rfl,ax,_,rfl,.inl (SqL.of ex),fun zx=>⟨_,rfl,ay,_,rfl,.inl (SqL.of ey),fun zy=>⟨rfl,_,rfl,?_⟩⟩⟩
     have ez:sizeLine=16777216:=sizeLine_eq
     by_cases hl:xs.length=ys.length
     · have el:V.int (xs.length:Int)=V.int (ys.length:Int):=by rw [hl]
       rw [if_pos (decide_eq_true el)]
       have hld:dxs.length=dys.length:=by omega
       refine ⟨_,rfl,ay,_,rfl,.inl (SqL.of ey),fun _=>⟨_,rfl,by omega,by omega,fun D hD=>?_⟩⟩
       have s0:∀ o,bz H (upd H D o):=fun o=>aq hD o
       refine m5 (fun i H2=>bz H H2/\H2 D=some (.lst (((List.zipWith PySem.Spec.same dxs dys).take i).map V.bl))) ⟨s0 _,au⟩ ?_ ?_
       · rintro i H2 hi ⟨s2,hD2⟩
         have hi':i < ys.length:=by simpa using hi
         have hix:i < xs.length:=by omega
         obtain ⟨d1,e1,r1⟩:=rxA.mW (i:=i) (List.getElem?_eq_getElem hix)
         obtain ⟨d2,e2,r2⟩:=ryA.mW (i:=i) (List.getElem?_eq_getElem hi')
         have ax1:atI xs ((0:Int) + (i:Int))=some xs[i]:=by rw [Int.zero_add];exact gj (List.getElem?_eq_getElem hix)
         have ay1:atI ys ((0:Int) + (i:Int))=some ys[i]:=by rw [Int.zero_add];exact gj (List.getElem?_eq_getElem hi')
         have hdi:d2.depth < n:=by
          have z1:=PyData.depth_le_depthAll dys d2 (List.mem_of_getElem? e2)
          have z2:PyData.depthAll dys + 1 < n + 1:=by simpa only [PyData.depth] using Bl
          omega
         refine ⟨⟨rfl,rfl,trivial⟩,?_⟩
         refine ⟨_,rfl,_,rfl,.inl ⟨ax,_,_,_,rfl,rfl,SqL.of (s2 _ _ ex),ax1,_,rfl,_,rfl,.inl ⟨ay,_,_,_,rfl,rfl,SqL.of (s2 _ _ ey),ay1,xs[i],ys[i],d1,d2,rfl,r1.mono s2,r2.mono s2,hdi,fun H3 s3=>?_⟩⟩⟩
         refine ⟨_,s3 _ _ hD2,?_,fun b o e=>?_,?_⟩
         · rw [List.length_map,List.length_take];omega
         · rw [aG (aR e hD)];exact s3 _ _ (s2 _ _ e)
         · rw [au]
           have ez:(List.zipWith PySem.Spec.same dxs dys)[i]? =some (PySem.Spec.same d1 d2):=by rw [List.getElem?_zipWith,e1,e2]
           rw [List.take_add_one,ez,List.map_append]
           rfl
       · rintro H2 ⟨s2,hD2⟩
         have et:(List.zipWith PySem.Spec.same dxs dys).take ((ys.length:Int).toNat)=List.zipWith PySem.Spec.same dxs dys:=List.take_of_length_le (by rw [List.length_zipWith];omega)
         rw [et] at hD2
         refine ⟨D,_,rfl,hD2,?_⟩
         have es:=gf hld
         show Q (.bl ((List.zipWith PySem.Spec.same dxs dys).all id)) H2
         rw [<- es]
         have qq:=q H2 s2
         simpa only [PySem.Spec.same] using qq
     · have el:¬ V.int (xs.length:Int)=V.int (ys.length:Int):=fun z=>hl (by injection z;omega)
       rw [decide_eq_false el]
       refine az ?_
       have es:=gb (xs:=dxs) (ys:=dys) (by omega)
       have qq:=q0
       simp only [PySem.Spec.same] at qq
       rw [es] at qq
       exact qq
   | non=>exact ⟨_,rfl,_,"list",_,false,rfl,tx,rfl,false,rfl,aY q0⟩
   | bl c=>exact ⟨_,rfl,_,"list",_,false,rfl,tx,rfl,false,rfl,aY q0⟩
   | int i=>exact ⟨_,rfl,_,"list",_,false,rfl,tx,rfl,false,rfl,aY q0⟩
   | str z=>exact ⟨_,rfl,_,"list",_,false,rfl,tx,rfl,false,rfl,aY q0⟩
   | tup e t=>exact ⟨_,rfl,_,"list",_,false,rfl,tx,rfl,false,rfl,aY q0⟩
 | @tup ay ys dys ey ryA=>
   refine az ?_
   refine ⟨_,rfl,_,"bool",_,false,rfl,ty,rfl,false,rfl,az ?_⟩
   refine ⟨_,rfl,_,"int",_,false,rfl,ty,rfl,false,rfl,az ?_⟩
   refine ⟨_,rfl,_,"str",_,false,rfl,ty,rfl,false,rfl,az ?_⟩
   refine ⟨_,rfl,_,"tuple",_,true,rfl,ty,rfl,true,rfl,aY ?_⟩
   cases rx with
   | @tup ax xs dxs ex rxA=>
     refine ⟨_,rfl,_,"tuple",_,true,rfl,tx,rfl,true,rfl,az ?_⟩
     refine ⟨_,rfl,_,"list",_,false,rfl,ty,rfl,false,rfl,az ?_⟩
     have lx:=rxA.length
     have ly:=ryA.length
     refine ⟨_,rfl,ax,_,rfl,.inr (SqT.of ex),fun zx=>⟨_,rfl,ay,_,rfl,.inr (SqT.of ey),fun zy=>⟨rfl,_,rfl,?_⟩⟩⟩
     have ez:sizeLine=16777216:=sizeLine_eq
     by_cases hl:xs.length=ys.length
     · have el:V.int (xs.length:Int)=V.int (ys.length:Int):=by rw [hl]
       rw [if_pos (decide_eq_true el)]
       have hld:dxs.length=dys.length:=by omega
       refine ⟨_,rfl,ay,_,rfl,.inr (SqT.of ey),fun _=>⟨_,rfl,by omega,by omega,fun D hD=>?_⟩⟩
       have s0:∀ o,bz H (upd H D o):=fun o=>aq hD o
       refine m5 (fun i H2=>bz H H2/\H2 D=some (.lst (((List.zipWith PySem.Spec.same dxs dys).take i).map V.bl))) ⟨s0 _,au⟩ ?_ ?_
       · rintro i H2 hi ⟨s2,hD2⟩
         have hi':i < ys.length:=by simpa using hi
         have hix:i < xs.length:=by omega
         obtain ⟨d1,e1,r1⟩:=rxA.mW (i:=i) (List.getElem?_eq_getElem hix)
         obtain ⟨d2,e2,r2⟩:=ryA.mW (i:=i) (List.getElem?_eq_getElem hi')
         have ax1:atI xs ((0:Int) + (i:Int))=some xs[i]:=by rw [Int.zero_add];exact gj (List.getElem?_eq_getElem hix)
         have ay1:atI ys ((0:Int) + (i:Int))=some ys[i]:=by rw [Int.zero_add];exact gj (List.getElem?_eq_getElem hi')
         have hdi:d2.depth < n:=by
          have z1:=PyData.depth_le_depthAll dys d2 (List.mem_of_getElem? e2)
          have z2:PyData.depthAll dys + 1 < n + 1:=by simpa only [PyData.depth] using Bl
          omega
         refine ⟨⟨rfl,rfl,trivial⟩,?_⟩
         refine ⟨_,rfl,_,rfl,.inr (.inl ⟨ax,_,_,_,rfl,rfl,SqT.of (s2 _ _ ex),ax1,_,rfl,_,rfl,.inr (.inl ⟨ay,_,_,_,rfl,rfl,SqT.of (s2 _ _ ey),ay1,xs[i],ys[i],d1,d2,rfl,r1.mono s2,r2.mono s2,hdi,fun H3 s3=>?_⟩)⟩)⟩
         refine ⟨_,s3 _ _ hD2,?_,fun b o e=>?_,?_⟩
         · rw [List.length_map,List.length_take];omega
         · rw [aG (aR e hD)];exact s3 _ _ (s2 _ _ e)
         · rw [au]
           have ez:(List.zipWith PySem.Spec.same dxs dys)[i]? =some (PySem.Spec.same d1 d2):=by rw [List.getElem?_zipWith,e1,e2]
           rw [List.take_add_one,ez,List.map_append]
           rfl
       · rintro H2 ⟨s2,hD2⟩
         have et:(List.zipWith PySem.Spec.same dxs dys).take ((ys.length:Int).toNat)=List.zipWith PySem.Spec.same dxs dys:=List.take_of_length_le (by rw [List.length_zipWith];omega)
         rw [et] at hD2
         refine ⟨D,_,rfl,hD2,?_⟩
         have es:=gf hld
         show Q (.bl ((List.zipWith PySem.Spec.same dxs dys).all id)) H2
         rw [<- es]
         have qq:=q H2 s2
         simpa only [PySem.Spec.same] using qq
     · have el:¬ V.int (xs.length:Int)=V.int (ys.length:Int):=fun z=>hl (by injection z;omega)
       rw [decide_eq_false el]
       refine az ?_
       have es:=gb (xs:=dxs) (ys:=dys) (by omega)
       have qq:=q0
       simp only [PySem.Spec.same] at qq
       rw [es] at qq
       exact qq
   | non=>exact ⟨_,rfl,_,"tuple",_,false,rfl,tx,rfl,false,rfl,aY (aY q0)⟩
   | bl c=>exact ⟨_,rfl,_,"tuple",_,false,rfl,tx,rfl,false,rfl,aY (aY q0)⟩
   | int i=>exact ⟨_,rfl,_,"tuple",_,false,rfl,tx,rfl,false,rfl,aY (aY q0)⟩
   | str z=>exact ⟨_,rfl,_,"tuple",_,false,rfl,tx,rfl,false,rfl,aY (aY q0)⟩
   | lst e t=>exact ⟨_,rfl,_,"tuple",_,false,rfl,tx,rfl,false,rfl,aY (aY q0)⟩
theorem iR {a:Adr} (T:Txt w K mg a):∀ n:Nat,aU P w K mg base CX0 (n + 2) a.bB a.b_ ["_law_found","_law_due"] (iQ n)
 | 0=>same_none
 | n + 1=>tV T (iR T n)
end
section
open Ev
variable {P:Program} {w:World} {K:PySem.W.Frag} {mg:Str->Option Value} {base:Heap}
abbrev Fq (P:Program) (w:World) (K:PySem.W.Frag) (mg:Str->Option Value) (base:Heap) (a:Adr) (n d:Nat) (f:Addr) (fd:FuncData) (ps:List Str) (i:Nat):Prop:=aU P w K mg base (CXE P w) n f fd ps (spF Pg (cn a) d i)
variable {a:Adr} {d:Nat}
structure All (P:Program) (w:World) (K:PySem.W.Frag) (mg:Str->Option Value) (base:Heap) (a:Adr) (d:Nat):Prop where
 oF:Fq P w K mg base a (4 * d + 8) d a.b8 a.d_ ["deed"] 0
 jy:Fq P w K mg base a (4 * d + 8) d a.a_ a.bY ["_law_deed"] 1
theorem all_zero {a:Adr}:All P w K mg base a 0:=⟨pC,pC⟩
theorem n6 (T:Txt w K mg a) (A0:All P w K mg base a d):Fq P w K mg base a (4 * (d + 1) + 8) (d + 1) a.b8 a.d_ ["deed"] 0:=by
 refine (vY (k:=4 * d + 11) T.cg.fn nQ rfl fun σ0 cdv A outer s H E hr hp=>?_).mono (by omega)
 exact (dX (nq (pH (z:=[32]) (by decide +kernel) (nD (mZ (N':=["part"]) (nt:=1) (idx:=[]) (N:=["deed"]) (osc:=aj d8) rfl rfl (by decide +kernel)) rfl sV (pB rfl (dv 0)) (fun C0 s0 H0 fp0=>(qF 0 (show List.Nodup (["part"]:List Str) by decide +kernel))) (fun C0 s0 H0 fp0=>pq) (fun C0 s0 H0 fp0=>(fL qO iI rfl T.gU boot_str (eY (dv 0) bF))) (by decide))))
  dW)
theorem ji (T:Txt w K mg a) (A0:All P w K mg base a d):Fq P w K mg base a (4 * (d + 1) + 8) (d + 1) a.a_ a.bY ["_law_deed"] 1:=by
 refine (vY (k:=4 * d + 11) T.bf.fn jh rfl fun σ0 cdv A outer s H E hr hp=>?_).mono (by omega)
 exact (dX (nq (pH (z:=[32]) (by decide +kernel) (nD (mZ (N':=["_law_part"]) (nt:=1) (idx:=[]) (N:=["_law_deed"]) (osc:=aj bV) rfl rfl (by decide +kernel)) rfl sV (pB rfl (dv 0)) (fun C0 s0 H0 fp0=>(qF 0 (show List.Nodup (["_law_part"]:List Str) by decide +kernel))) (fun C0 s0 H0 fp0=>pq) (fun C0 s0 H0 fp0=>(fL qO iI rfl T.gU boot_str (eY (dv 0) bF))) (by decide))))
  dW)
theorem vm {a:Adr} {d:Nat} (T:Txt w K mg a) (A0:All P w K mg base a d):All P w K mg base a (d + 1):=⟨n6 T A0,ji T A0⟩
theorem tW {a:Adr} (T:Txt w K mg a):∀ d,All P w K mg base a d
 | 0=>all_zero
 | d + 1=>vm T (tW T d)
end
end My
set_option maxRecDepth 1000000
set_option maxHeartbeats 4000000
namespace My
open PySem L2 PyProof.Rows
open Ev
noncomputable def tl0:List S:=[(.asg (.nm 3) (.pr .lst [])),
 (.for_ (.qt [(.cst (.int 5))]) (.nm 4) [(.asg (.nm 5) (.pr .ix [(.var 2),(.pr .add [(.cst (.int 2)),(.pr .mul [(.cst (.int 2)),(.var 4)])])])),
   (.expr (.lm .append (.var 3) [(.pr .ix [(.pr .lst [(.var 5),(.pr .neg [(.var 5)]),(.pr .sub [(.var 5),(.cst (.int 10000))]),(.pr .add [(.pr .pow [(.cst (.int 10)),(.cst (.int 59))]),(.var 5)]),(.pr .sub [(.pr .neg [(.pr .pow [(.cst (.int 10)),(.cst (.int 59))])]),(.var 5)]),(.cst (.int 0))]),(.pr .ix [(.var 2),(.pr .add [(.cst (.int 3)),(.pr .mul [(.cst (.int 2)),(.var 4)])])])])]))]),
 (.asg (.nm 6) (.pr .ix [(.pr .lst [(.cst (.str [99,111,109,101])),(.cst (.str [108,101,97,118,101])),(.cst (.str [99,97,108,108])),(.cst (.str [101,110,116,101,114])),(.cst (.str [114,117,108,101])),(.cst (.str [97,109,101,110,100])),(.cst (.str [114,117,108,105,110,103])),(.cst (.str [115,116,114,105,107,101]))]),(.pr .ix [(.var 2),(.cst (.int 0))])])),
 (.asg (.nm 7) (.pr .kY [(.pr .tup [(.var 6)]),(.pr .qK [(.slice (.var 3) none (some (.pr .ix [(.pr .lst [(.cst (.int 1)),(.cst (.int 1)),(.cst (.int 0)),(.cst (.int 4)),(.cst (.int 5)),(.cst (.int 2)),(.cst (.int 3)),(.cst (.int 1))]),(.pr .ix [(.var 2),(.cst (.int 0))])])))])])),
 (.ife (.pr .eq [(.var 6),(.cst (.str [99,111,109,101]))]) [(.asg (.nm 7) (.pr .kY [(.var 7),(.pr .tup [(.pr .qL [(.pr .ixS [(.cst (.str [97,98,99,100,101,102,103,104,105,106,107,108,109,110,111,112,113,114,115,116,117,118,119,120,121,122])),(.pr .ix [(.var 2),(.cst (.int 12))])]),(.pr .qM [(.pr .jw [(.pr .ix [(.var 2),(.cst (.int 13))])]),(.pr .ix [(.var 2),(.cst (.int 14))])])])])]))] []),
 (.ife (.pr .kh [(.pr .truth [(.pr .same [(.call 0 [(.var 7)]),(.call 1 [(.var 7)])])])]) [(.ret (.cst (.bl false)))] [])]
abbrev Q0 (row:List Int):Prop:=u6 8 (evs Pg 200 6 (.ss tl0) (frm 8 [(2,.ref 0)]) (nF row))=true
end My
set_option maxRecDepth 100000
set_option maxHeartbeats 4000000
namespace My
open PySem L2 PyProof.Rows
open Ev
local macro_rules | `(tactic| walk_at "sy")=>`(tactic| first
 | with_reducible refine kI.mpr ?_
 | with_reducible refine sZ.mpr ?_
 | with_reducible refine Ai.mpr ?_
 | with_reducible refine xY.mpr ?_
 | with_reducible refine tu.mpr ?_
 | with_reducible refine E_.mpr ?_
 | with_reducible refine cQ.mpr ?_
 | with_reducible refine kE.mpr ?_
 | with_reducible refine aC.mpr ?_
 | with_reducible refine bQ.mpr ?_
 | with_reducible refine iG.mpr ?_
 | ((with_reducible refine gO (w:=?w) ?e ?_);(case e=>exact rfl))
 | with_reducible refine Fb.mpr ?_
 | with_reducible refine Fd.mpr ?_
 | with_reducible refine Fo.mpr ?_
 | with_reducible refine je ?_
 | with_reducible refine ye ?_
 | with_reducible refine An ?_
 | with_reducible refine Fe ?_
 | with_reducible refine nJ.mpr ?_
 | with_reducible refine CK ?_
 | with_reducible refine Ao ?_
 | with_reducible refine Aq ?_
 | with_reducible refine CN ?_
 | with_reducible refine Fp ?_
 | with_reducible refine p_add ?_
 | with_reducible refine Cv ?_
 | with_reducible refine Cw ?_
 | with_reducible refine Ft ?_
 | with_reducible refine Ex ?_
 | with_reducible refine Ey ?_
 | with_reducible refine FZ ?_
 | with_reducible refine F_ ?_
 | with_reducible refine Ga ?_
 | with_reducible refine Gb ?_
 | with_reducible refine Fv ?_
 | with_reducible refine Fw ?_
 | with_reducible refine Fx ?_
 | with_reducible refine Ff ?_
 | with_reducible refine Fy ?_
 | with_reducible refine Fz ?_
 | with_reducible refine Al ?_
 | with_reducible refine u_ ?_
 | ((with_reducible refine FJ ?e ?_);(case e=>first | decide | omega))
 | ((with_reducible refine CG ?e ?_);(case e=>exact Nat.le_of_ble_eq_true rfl))
 | ((with_reducible refine v8 ?e ?_);(case e=>exact Nat.le_of_ble_eq_true rfl))
 | ((with_reducible refine Cy ?e ?f ?_);(case e=>first | decide | omega);(case f=>first | decide | omega)))
def txt:W->List Nat
 | .int i=>cJ i
 | .str c=>c
 | _=>[]
def goodW (w:W):Prop:=(∃ i:Int,w= .int i/\i.natAbs < 10 ^ 60)\/∃ c,w= .str c/\okC c=true/\c.length <= 1000
theorem lJ {i:Int} (l:i.natAbs < 10 ^ 60):i.natAbs.log2 < 1920:=by
 by_cases z:i.natAbs=0
 · rw [z];decide
 · exact Nat.lt_of_lt_of_le ((Nat.log2_lt z).mpr (Nat.lt_of_lt_of_le l (show 10 ^ 60 <= 2 ^ 200 by decide))) (by decide)
theorem vo {w:W} (g:goodW w):(txt w).length <= 1000:=by
 rcases g with ⟨i,rfl,l⟩ | ⟨c,rfl,_,l⟩
 · exact Nat.le_trans (jU (k:=60) (by decide) l) (by decide)
 · exact l
theorem yo {w:W} (g:goodW w):okC (txt w)=true:=by
 rcases g with ⟨i,rfl,l⟩ | ⟨c,rfl,o,_⟩
 · exact lH i
 · exact o
theorem lK:∀ cs:List (List Nat),(∀ c ∈ cs,c.length <= 1000)->dI cs <= 1000 * cs.length
 | [],_=>Nat.le_refl _
 | c::cs,z=>by
   show len c + dI cs <= _
   have a:=z c (List.mem_cons_self ..)
   have b:=lK cs fun c hc=>z c (List.mem_cons_of_mem _ hc)
   rw [len_eq,List.length_cons];omega
section
variable {d n:Nat} {h:Hs} {Q:W->Hs->Prop}
theorem pJ {ws:List W} {p:Nat} (hp:p < h.n) (e:h.get p=some (.tup ws)) (g:∀ w ∈ ws,goodW w) (l:ws.length <= 10) (q:∀ h',Ext h h'->Q (.str (cR [32] (ws.map txt))) h'):wS fX (aZ Pg d) (n + 50) (frame 1 [.ref p]) h (u9 Q):=by
 unfold fX
 repeat walk_at "sy"
 refine comp_map (CJ ?_)
 repeat walk_at "sy"
 refine ⟨p,_,rfl,.inr ⟨e,.refl,_,(ws.map txt).map D.str,fun _=>False,fun h2 x2=>.inr (.inl ⟨p,rfl,x2.get hp e⟩),fun _ z=>z.elim,by simp,by omega,by omega,?_,?_⟩⟩
 · intro i w d' h2 m ei ed lm x2 l2
   rw [List.getElem?_map,List.getElem?_map,ei] at ed
   simp only [Option.map_some,Option.some.injEq] at ed
   subst ed
   refine ⟨_,rfl,?_⟩
   repeat walk_at "sy"
   rcases g w (List.mem_of_getElem? ei) with ⟨i,rfl,li⟩ | ⟨c,rfl,_,_⟩
   · exact tR (lJ li) ⟨.refl,gn⟩
   · exact Bc ⟨.refl,gn⟩
 · intro h3 x3 r3
   obtain ⟨p3,e3,l3,_,g3⟩:=yj.mp r3
   cases e3
   repeat walk_at "sy"
   have b:=lK (ws.map txt) fun c hc=>by
    obtain ⟨w,hw,rfl⟩:=List.mem_map.mp hc
    exact vo (g w hw)
   rw [List.length_map] at b
   refine Bd g3 (by simp only [List.length_map,List.length_cons,List.length_nil];omega) ?_
   repeat walk_at "sy"
   exact q h3 x3
theorem Bm {ws:List W} {p:Nat} (hp:p < h.n) (e:h.get p=some (.tup ws)) (g:∀ w ∈ ws,goodW w) (l:ws.length <= 10) (q:∀ h',Ext h h'->Q (.str (cR [32] (ws.map txt))) h'):wC 0 [.ref p] (aZ Pg (d + 1)) (n + 51) h Q:=
 (tD rfl rfl).mpr (pJ hp e g l q)
theorem yp {ws:List W} {p:Nat} (hp:p < h.n) (e:h.get p=some (.tup ws)) (g:∀ w ∈ ws,goodW w) (l:ws.length <= 10) (q:∀ h',Ext h h'->Q (.str (cR [32] (ws.map txt))) h'):wC 1 [.ref p] (aZ Pg (d + 1)) (n + 51) h Q:=
 (tD rfl rfl).mpr (pJ hp e g l q)
end
def dh:List (List Nat):=[[99,111,109,101],[108,101,97,118,101],[99,97,108,108],[101,110,116,101,114],[114,117,108,101],[97,109,101,110,100],[114,117,108,105,110,103],[115,116,114,105,107,101]]
def fJ:List Int:=[1,1,0,4,5,2,3,1]
theorem yq {l:List (List Nat)} {k:Nat} (z:k < l.length):(l.map W.str)[k]? =some (.str (l.getD k [])):=by
 rw [List.getElem?_map,List.getElem?_eq_getElem z];simp [List.getD,List.getElem?_eq_getElem z]
theorem getD_mem' {α:Type} {l:List α} {k:Nat} {a:α} (z:k < l.length):l.getD k a ∈ l:=by
 rw [List.getD,List.getElem?_eq_getElem z];exact List.getElem_mem z
theorem mC {c:List Nat}:dZ (.str c) <= 12:=by simp [dZ]
theorem CW:(10:Int) ^ (59:Int).toNat=100000000000000000000000000000000000000000000000000000000000:=by decide
theorem tX {m:Int} (a:0 <= m) (b:m < 20000):∀ x ∈ ([m,-m,m - 10000,(10:Int) ^ (59:Int).toNat + m,-((10:Int) ^ (59:Int).toNat) - m,0]:List Int),x.natAbs < 10 ^ 60:=by
 rw [CW]
 have e:10 ^ 60=1000000000000000000000000000000000000000000000000000000000000:=by decide
 rw [e]
 intro x hx
 simp only [List.mem_cons,List.not_mem_nil,or_false] at hx
 omega
theorem runs {row:List Int} (hD:L2.Drawn row [8,4,20000,6,20000,6,20000,6,20000,6,20000,6,26,40,3]):Q0 row:=by
 have hlen:row.length=15:=lD hD
 have h0:0 <= row.getD 0 0/\row.getD 0 0 < 8:=aO (k:=0) hD (by decide)
 have h12:0 <= row.getD 12 0/\row.getD 12 0 < 26:=aO (k:=12) hD (by decide)
 have h13:0 <= row.getD 13 0/\row.getD 13 0 < 40:=aO (k:=13) hD (by decide)
 have h14:0 <= row.getD 14 0/\row.getD 14 0 < 3:=aO (k:=14) hD (by decide)
 have hm:∀ j,j < 5->(0 <= row.getD (2 + 2 * j) 0/\row.getD (2 + 2 * j) 0 < 20000)/\0 <= row.getD (3 + 2 * j) 0/\row.getD (3 + 2 * j) 0 < 6:=fun j lj=>by
  match j,lj with
  | 0,_=>exact ⟨aO (k:=2) hD (by decide),aO (k:=3) hD (by decide)⟩
  | 1,_=>exact ⟨aO (k:=4) hD (by decide),aO (k:=5) hD (by decide)⟩
  | 2,_=>exact ⟨aO (k:=6) hD (by decide),aO (k:=7) hD (by decide)⟩
  | 3,_=>exact ⟨aO (k:=8) hD (by decide),aO (k:=9) hD (by decide)⟩
  | 4,_=>exact ⟨aO (k:=10) hD (by decide),aO (k:=11) hD (by decide)⟩
  | j + 5,l=>omega
 refine Ar ?_
 show wS tl0 (aZ Pg 6) 200 _ (nF row) _
 have gr:(nF row).get 0=some (.lst (row.map W.int)):=bu (h:=.mk 0 .lf)
 have lr:0 < (nF row).n:=eZ (h:=.mk 0 .lf)
 generalize nF row=hh at gr lr
 have ix:∀ {h3:Hs} {Q':W->Hs->Prop} (i:Int),Ext hh h3->0 <= i->i < 15->Q' (.int (row.getD i.toNat 0)) h3->wP .ix [.ref 0,.int i] h3 Q':=fun i x a b q=>mq (x.get lr gr) a (kW (by omega)) q
 unfold tl0
 repeat walk_at "sy"
 refine Aj (Am ?_)
 repeat walk_at "sy"
 refine ⟨5,rfl,by decide,by decide,kO 0 5,fun i τ h2=>∃ (u v:Option W) (ns:List Int),τ= [none,none,some (.ref 0),some (.ref hh.n),u,v,none,none]/\Ext hh h2/\hh.n < h2.n/\h2.get hh.n=some (.lst (ns.map W.int))/\ns.length=i/\∀ x ∈ ns,x.natAbs < 10 ^ 60,fun _ _ _ _=>yd,by decide,⟨none,none,[],rfl,.push,eZ,bu,rfl,by simp⟩,?_,?_⟩
 · rintro i w τ h2 m ei lm ⟨u,v,ns,rfl,x2,l2,g2,ln,al⟩
   have li:i < 5:=by have:=(List.getElem?_eq_some_iff.mp ei).1;rw [gM] at this;exact this
   rw [nM li] at ei
   cases ei
   rw [show (0:Int) + Int.ofNat i=(i:Int) by show 0 + (i:Int)=i;omega]
   obtain ⟨b1,b2⟩:=hm i li
   refine ⟨[none,none,some (.ref 0),some (.ref hh.n),some (.int i),v,none,none],rfl,?_⟩
   repeat walk_at "sy"
   refine ix _ x2 (by omega) (by omega) ?_
   rw [show (2 + 2 * (i:Int)).toNat=2 + 2 * i by omega]
   generalize row.getD (2 + 2 * i) 0=mo at b1
   repeat walk_at "sy"
   refine vd ?_
   repeat walk_at "sy"
   refine ⟨hh.n,_,rfl,g2,?_⟩
   repeat walk_at "sy"
   refine v9 (by decide) (by decide) ?_
   repeat walk_at "sy"
   refine v9 (by decide) (by decide) ?_
   repeat walk_at "sy"
   refine ix _ (x2.trans .push) (by omega) (by omega) ?_
   rw [show (3 + 2 * (i:Int)).toNat=3 + 2 * i by omega]
   generalize row.getD (3 + 2 * i) 0=ki at b2
   repeat walk_at "sy"
   have lk:ki.toNat < 6:=by omega
   refine mq (xs:=([mo,-mo,mo - 10000,(10:Int) ^ (59:Int).toNat + mo,-((10:Int) ^ (59:Int).toNat) - mo,0]:List Int).map W.int) bu b2.1 (kW lk) ?_
   have sm:=tX b1.1 b1.2 _ (getD_mem' (a:=(0:Int)) (l:=[mo,-mo,mo - 10000,(10:Int) ^ (59:Int).toNat + mo,-((10:Int) ^ (59:Int).toNat) - mo,0]) lk)
   generalize ([mo,-mo,mo - 10000,(10:Int) ^ (59:Int).toNat + mo,-((10:Int) ^ (59:Int).toNat) - mo,0]:List Int).getD ki.toNat 0=y at sm
   refine ⟨_,Ext.push.get l2 g2,by simp;omega,?_⟩
   repeat walk_at "sy"
   refine ⟨_,_,ns ++ [y],rfl,(x2.trans .push).set (Nat.le_refl _),?_,?_,by simp [ln],?_⟩
   · rw [Hs.jK];exact Nat.lt_of_lt_of_le l2 Ext.push.1
   · rw [Hs.get_set,if_pos rfl,List.map_append];rfl
   · intro x hx
     rcases List.mem_append.mp hx with hx | hx
     · exact al x hx
     · rw [List.mem_singleton.mp hx];exact sm
 rintro τ h1 ⟨u,v,ns,rfl,x1,l1,g1,ln,al⟩
 rw [gM] at ln
 repeat walk_at "sy"
 refine ix 0 (x1.trans .push) (by decide) (by decide) ?_
 have e0:(0:Int).toNat=0:=rfl
 rw [e0]
 have h0b:=h0
 generalize row.getD 0 0=z0 at h0
 have lz:z0.toNat < 8:=by omega
 repeat walk_at "sy"
 refine mq (xs:=dh.map W.str) bu h0.1 (yq lz) ?_
 have wok:okC (dh.getD z0.toNat [])=true/\(dh.getD z0.toNat []).length <= 1000:=by
  have:∀ c ∈ dh,okC c=true/\c.length <= 1000:=by decide
  exact this _ (getD_mem' lz)
 generalize dh.getD z0.toNat [] =word at wok
 have x2:Ext hh (h1.push (.lst (dh.map W.str))):=x1.trans .push
 have l2:=Nat.lt_of_lt_of_le l1 (Ext.push (h:=h1) (o:=.lst (dh.map W.str))).1
 have g2:=(Ext.push (h:=h1) (o:=.lst (dh.map W.str))).get l1 g1
 change wS _ _ _ _ (h1.push (.lst (dh.map W.str))) _
 generalize h1.push (.lst (dh.map W.str))=h2 at *
 repeat walk_at "sy"
 refine vh ?_
 repeat walk_at "sy"
 refine ix 0 (x2.trans (Ext.push.trans .push)) (by decide) (by decide) ?_
 rw [e0]
 generalize row.getD 0 0=z1 at h0b
 have lz1:z1.toNat < 8:=by omega
 repeat walk_at "sy"
 refine mq (xs:=fJ.map W.int) bu h0b.1 (kW lz1) ?_
 obtain ⟨jn,ej,lj⟩:∃ j:Nat,fJ.getD z1.toNat 0=Int.ofNat j/\j <= 5:=by
  have:∀ c ∈ fJ,c=Int.ofNat c.toNat/\c.toNat <= 5:=by decide
  exact ⟨_,this _ (getD_mem' lz1)⟩
 rw [ej]
 have x3:Ext h2 ((h2.push (.tup [W.str word])).push (.lst (fJ.map W.int))):=Ext.push.trans .push
 have gt:=(Ext.push (h:=h2.push (.tup [W.str word])) (o:=.lst (fJ.map W.int))).get eZ (bu (h:=h2) (o:=.tup [W.str word]))
 have lt:h2.n < ((h2.push (.tup [W.str word])).push (.lst (fJ.map W.int))).n:=Nat.lt_of_lt_of_le eZ Ext.push.1
 refine ⟨hh.n,ns.map W.int,jn,rfl,rfl,by rw [List.length_map];omega,x3.get l2 g2,?_⟩
 generalize hd3:(h2.push (.tup [W.str word])).push (.lst (fJ.map W.int))=h3 at x3 gt lt
 have e3:(h2.push (O.tup [W.str word])).push (O.lst [W.int 1,W.int 1,W.int 0,W.int 4,W.int 5,W.int 2,W.int 3,W.int 1])=h3:=hd3
 rw [e3]
 repeat walk_at "sy"
 refine Be bu ?_
 repeat walk_at "sy"
 rw [<- List.map_take]
 have x4:Ext h3 ((h3.push (.lst ((ns.take jn).map W.int))).push (.tup ((ns.take jn).map W.int))):=Ext.push.trans .push
 refine tU (xs:=[W.str word]) (ys:=(ns.take jn).map W.int) (Nat.lt_of_lt_of_le lt x4.1) (x4.get lt gt) bu (by simp) (by simp;omega) fun r h5 x5 lr5 g5=>?_
 have y5:=x2.trans (x3.trans (x4.trans x5))
 clear x5 x4 x3
 have good:∀ w ∈ [W.str word] ++ (ns.take jn).map W.int,goodW w:=by
  intro w hw
  rcases List.mem_append.mp hw with hw | hw
  · rw [List.mem_singleton.mp hw];exact .inr ⟨word,rfl,wok⟩
  · obtain ⟨x,hx,rfl⟩:=List.mem_map.mp hw
    exact .inl ⟨x,rfl,al x (List.mem_of_mem_take hx)⟩
 have El:([W.str word] ++ (ns.take jn).map W.int).length <= 6:=by simp;omega
 have wne:[W.str word] ++ (ns.take jn).map W.int ≠ []:=by simp
 generalize [W.str word] ++ (ns.take jn).map W.int=ws at g5 good El wne
 repeat walk_at "sy"
 refine Cz (d:=.str word) (d':=.str [99,111,109,101]) (A:=fun _=>True) (B:=fun _=>True) gn gn mC mC wok.1 (by decide) ?_
 have fin:∀ (τ:Sg) (r:Nat) (h6:Hs) (ws:List W),r < h6.n->h6.get r=some (.tup ws)->(∀ w ∈ ws,goodW w)->ws.length <= 10->aH τ 7=some (.ref r)->aH τ 0=none->List.length τ=8->
  wS [S.ife (X.pr Pr.kh [X.pr Pr.truth [X.pr Pr.same [X.call 0 [X.var 7],X.call 1 [X.var 7]]]]) [S.ret (X.cst (W.bl false))] []] (aZ Pg 6) 200 τ h6 (fun f x=>∃ τ,(f=Fl.nx τ\/f=Fl.ct τ)/\List.length τ=8/\aH τ 0=none):=by
  intro τ r h6 ws lr6 g6 go l6 t7 t0 tl
  refine kI.mpr (tu.mpr (cQ.mpr (aC.mpr (cQ.mpr (aC.mpr (cQ.mpr (aC.mpr (kE.mpr (aC.mpr (gO (w:=.ref r) t7 (bQ.mpr ?_)))))))))))
  refine Bm (d:=5) (n:=149) lr6 g6 go l6 fun h7 x7=>?_
  refine aC.mpr (kE.mpr (aC.mpr (gO (w:=.ref r) t7 (bQ.mpr ?_))))
  refine yp (d:=5) (n:=149) (Nat.lt_of_lt_of_le lr6 x7.1) (x7.get lr6 g6) go l6 fun h8 x8=>?_
  refine bQ.mpr ?_
  have oj:okC (cR [32] (ws.map txt))=true:=vf (by decide) fun c hc=>by
   obtain ⟨w,hw,rfl⟩:=List.mem_map.mp hc
   exact yo (go w hw)
  refine Ak (d:=.str (cR [32] (ws.map txt))) (d':=.str (cR [32] (ws.map txt))) (A:=fun _=>True) (B:=fun _=>True) gn gn mC mC oj oj ?_
  rw [jT]
  repeat walk_at "sy"
  exact ⟨τ,.inl rfl,tl,t0⟩
 cases hb:bU (D.str word) (D.str [99,111,109,101]) with
 | false=>
   refine Aq (nJ.mpr (je ?_))
   exact fin _ r h5 ws lr5 g5 good (by omega) rfl rfl rfl
 | true=>
   refine Ao ?_
   refine kI.mpr (sZ.mpr (cQ.mpr (aC.mpr ((gO (w:=.ref r) rfl (aC.mpr (cQ.mpr ?_)))))))
   refine aC.mpr (cQ.mpr (aC.mpr (cQ.mpr (aC.mpr (iG.mpr (aC.mpr (cQ.mpr (aC.mpr (gO (w:=.ref 0) rfl (aC.mpr (iG.mpr (bQ.mpr ?_))))))))))))
   refine ix 12 y5 (by decide) (by decide) ?_
   refine bQ.mpr ?_
   refine CQ (by decide) h12.1 h12.2 fun x hx=>?_
   have ox:x < 1114112:=by
    have:∀ y ∈ ([97,98,99,100,101,102,103,104,105,106,107,108,109,110,111,112,113,114,115,116,117,118,119,120,121,122]:List Nat),y < 1114112:=by decide
    exact this x hx
   refine aC.mpr (cQ.mpr (aC.mpr (cQ.mpr (aC.mpr (cQ.mpr (aC.mpr (gO (w:=.ref 0) rfl (aC.mpr (iG.mpr (bQ.mpr ?_))))))))))
   refine ix 13 y5 (by decide) (by decide) ?_
   have b13:(row.getD (13:Int).toNat 0).natAbs < 10 ^ 2:=by have:(13:Int).toNat=13:=rfl;rw [this];have:10 ^ 2=100:=rfl;omega
   generalize row.getD (13:Int).toNat 0=z13 at b13
   have c13:=jU (k:=2) (by decide) b13
   refine bQ.mpr (tR (lJ (Nat.lt_of_lt_of_le b13 (by decide))) ?_)
   refine aC.mpr (cQ.mpr (aC.mpr (gO (w:=.ref 0) rfl (aC.mpr (iG.mpr (bQ.mpr ?_))))))
   refine ix 14 y5 (by decide) (by decide) ?_
   have b14:0 <= row.getD (14:Int).toNat 0/\row.getD (14:Int).toNat 0 < 3:=h14
   generalize row.getD (14:Int).toNat 0=z14 at b14
   refine bQ.mpr (Bg (by omega) (by omega) ?_)
   have c14:=vg (c:=cJ z13) (m:=z14) (by omega)
   have o14:=yh (lH z13) z14
   generalize mulC (cJ z13) z14=cm at c14 o14
   refine bQ.mpr (Bf (by simp;omega) ?_)
   refine bQ.mpr (v8 (by simp) ?_)
   refine bQ.mpr ?_
   have gx:goodW (.str ([x] ++ cm)):=.inr ⟨_,rfl,bJ.mpr fun y hy=>by
    rcases List.mem_append.mp hy with hy | hy
    · rw [List.mem_singleton.mp hy];exact ox
    · exact bJ.mp o14 y hy,by simp;omega⟩
   refine tU (Nat.lt_of_lt_of_le lr5 Ext.push.1) (Ext.push.get lr5 g5) bu wne (by simp;omega) fun r2 h6 x6 l6 g6=>?_
   refine je ?_
   refine nJ.mpr ?_
   refine je ?_
   refine fin _ r2 h6 _ l6 g6 ?_ (by simp;omega) rfl rfl rfl
   intro w hw
   rcases List.mem_append.mp hw with hw | hw
   · exact good w hw
   · rw [List.mem_singleton.mp hw];exact gx
end My
set_option maxRecDepth 1000000
set_option maxHeartbeats 4000000
namespace My
open PySem L2 PyProof.Rows
open Ev
abbrev NL:List Str:=["_law_script","_law_k","_law_row","_law_numbers","_law_j","_law_more","_law_word","_law_deed"]
abbrev XL (P:Program) (w:World) (K:PySem.W.Frag) (mg:Str->Option Value) (base:Heap) (a:Adr) (cdv:Value) (A:Around) (outer:List Env) (s:Shared) (H:Hp) (E:XK):Cx:=fP (CXE P w) P w K mg base NL "law" (aj dj) a.gR cdv A outer s H E
def bodyOf:Stmt->List Stmt
 | .For _ _ b _ _=>b
 | _=>[]
abbrev kZ (j:Nat):Stmt:=(bodyOf ((bx dj).getD 0 (.Pass ⟨0,0,0,0⟩))).getD j (.Pass ⟨0,0,0,0⟩)
section
variable {P:Program} {w:World} {K:PySem.W.Frag} {mg:Str->Option Value} {base:Heap} {a:Adr}
structure LC (P:Program) (w:World) (K:PySem.W.Frag) (mg:Str->Option Value) (base:Heap) (a:Adr) (X:Cx) (E:XK):Prop where
 T:Txt w K mg a
 S0:aU P w K mg base CX0 15 a.bB a.b_ ["_law_found","_law_due"] (jd 13)
 A2:All P w K mg base a 6
 hr:bA 95 X.A
 hp:Passes (CXE P w) X E
theorem Em {σ0:L2.St} {cdv:Value} {A:Around} {outer:List Env} {s:Shared} {H:Hp} {E:XK} (C:LC P w K mg base a (XL P w K mg base a cdv A outer s H E) E):QS (XL P w K mg base a cdv A outer s H E) (kZ 1) (tS Pg (cn a) E 6 σ0 (.asg (.nm 3) (.pr .lst []))):=by
 have T:=C.T
 have A2:=C.A2
 have hr:=C.hr
 have hp:=C.hp
 exact ⟨(jR 3 dJ.nd (jP bF))⟩
theorem En {σ0:L2.St} {cdv:Value} {A:Around} {outer:List Env} {s:Shared} {H:Hp} {E:XK} (C:LC P w K mg base a (XL P w K mg base a cdv A outer s H E) E):QS (XL P w K mg base a cdv A outer s H E) (kZ 2) (tS Pg (cn a) E 6 σ0 (.for_ (.qt [(.cst (.int 5))]) (.nm 4) [(.asg (.nm 5) (.pr .ix [(.var 2),(.pr .add [(.cst (.int 2)),(.pr .mul [(.cst (.int 2)),(.var 4)])])])),
 (.expr (.lm .append (.var 3) [(.pr .ix [(.pr .lst [(.var 5),(.pr .neg [(.var 5)]),(.pr .sub [(.var 5),(.cst (.int 10000))]),(.pr .add [(.pr .pow [(.cst (.int 10)),(.cst (.int 59))]),(.var 5)]),(.pr .sub [(.pr .neg [(.pr .pow [(.cst (.int 10)),(.cst (.int 59))])]),(.var 5)]),(.cst (.int 0))]),(.pr .ix [(.var 2),(.pr .add [(.cst (.int 3)),(.pr .mul [(.cst (.int 2)),(.var 4)])])])])]))])):=by
 have T:=C.T
 have A2:=C.A2
 have hr:=C.hr
 have hp:=C.hp
 exact ⟨(zZ PassesOwn.leaving rfl xM (g_ rfl T.gq (ao aK bF)) (qF 4 dJ.nd)
  (dX (jR 5 dJ.nd (d7 (dv 2) (cP qx (L2.OpR.or eG ir) aK (cP vQ (L2.OpR.or dz mU) aK (dv 4)))))
  (dX (xJ (Cq uQ PySem.F.slot_list_append PySem.F.type_list_append fK (dv 3) (fD (d7 (jP (eY (dv 5) (qD (vW vP rD (dv 5)) (gJ (cP vN rC (dv 5) aK) (gJ (cP qx (L2.OpR.or eG ir) (cP vO mK aK aK) (dv 5)) (gJ (cP vN rC (vW vP rD (cP vO mK aK aK)) (dv 5)) (ao aK bF))))))) (d7 (dv 2) (cP qx (L2.OpR.or eG ir) aK (cP vQ (L2.OpR.or dz mU) aK (dv 4))))) bF)))
  dW)))⟩
theorem Eo {σ0:L2.St} {cdv:Value} {A:Around} {outer:List Env} {s:Shared} {H:Hp} {E:XK} (C:LC P w K mg base a (XL P w K mg base a cdv A outer s H E) E):QS (XL P w K mg base a cdv A outer s H E) (kZ 3) (tS Pg (cn a) E 6 σ0 (.asg (.nm 6) (.pr .ix [(.pr .lst [(.cst (.str [99,111,109,101])),(.cst (.str [108,101,97,118,101])),(.cst (.str [99,97,108,108])),(.cst (.str [101,110,116,101,114])),(.cst (.str [114,117,108,101])),(.cst (.str [97,109,101,110,100])),(.cst (.str [114,117,108,105,110,103])),(.cst (.str [115,116,114,105,107,101]))]),(.pr .ix [(.var 2),(.cst (.int 0))])]))):=by
 have T:=C.T
 have A2:=C.A2
 have hr:=C.hr
 have hp:=C.hp
 exact ⟨(jR 6 dJ.nd (d7 (jP (ao (cZ [99,111,109,101]) (ao (cZ [108,101,97,118,101]) (ao (cZ [99,97,108,108]) (ao (cZ [101,110,116,101,114]) (ao (cZ [114,117,108,101]) (ao (cZ [97,109,101,110,100]) (ao (cZ [114,117,108,105,110,103]) (ao (cZ [115,116,114,105,107,101]) bF))))))))) (d7 (dv 2) aK)))⟩
theorem Ep {σ0:L2.St} {cdv:Value} {A:Around} {outer:List Env} {s:Shared} {H:Hp} {E:XK} (C:LC P w K mg base a (XL P w K mg base a cdv A outer s H E) E):QS (XL P w K mg base a cdv A outer s H E) (kZ 4) (tS Pg (cn a) E 6 σ0 (.asg (.nm 7) (.pr .kY [(.pr .tup [(.var 6)]),(.pr .qK [(.slice (.var 3) none (some (.pr .ix [(.pr .lst [(.cst (.int 1)),(.cst (.int 1)),(.cst (.int 0)),(.cst (.int 4)),(.cst (.int 5)),(.cst (.int 2)),(.cst (.int 3)),(.cst (.int 1))]),(.pr .ix [(.var 2),(.cst (.int 0))])])))])]))):=by
 have T:=C.T
 have A2:=C.A2
 have hr:=C.hr
 have hp:=C.hp
 exact ⟨(jR 7 dJ.nd (cP (tQ (K:=K)) oV (sS (eY (dv 6) bF)) (fL (Az (K:=K)) lN rfl T.gw boot_tuple (fD (uU (dv 3) xu (xF (d7 (jP (ao aK (ao aK (ao aK (ao aK (ao aK (ao aK (ao aK (ao aK bF))))))))) (d7 (dv 2) aK)))) bF))))⟩
theorem Er {σ0:L2.St} {cdv:Value} {A:Around} {outer:List Env} {s:Shared} {H:Hp} {E:XK} (C:LC P w K mg base a (XL P w K mg base a cdv A outer s H E) E):QS (XL P w K mg base a cdv A outer s H E) (kZ 5) (tS Pg (cn a) E 6 σ0 (.ife (.pr .eq [(.var 6),(.cst (.str [99,111,109,101]))]) [(.asg (.nm 7) (.pr .kY [(.var 7),(.pr .tup [(.pr .qL [(.pr .ixS [(.cst (.str [97,98,99,100,101,102,103,104,105,106,107,108,109,110,111,112,113,114,115,116,117,118,119,120,121,122])),(.pr .ix [(.var 2),(.cst (.int 12))])]),(.pr .qM [(.pr .jw [(.pr .ix [(.var 2),(.cst (.int 13))])]),(.pr .ix [(.var 2),(.cst (.int 14))])])])])]))] [])):=by
 have T:=C.T
 have A2:=C.A2
 have hr:=C.hr
 have hp:=C.hp
 exact ⟨(vX (zR Ef (zc hr.units) (dv 6) (cZ [99,111,109,101]) (dG _)) (dX (jR 7 dJ.nd (cP (tQ (K:=K)) oV (dv 7) (sS (gJ (cP A_ pW (Bb (cZ [97,98,99,100,101,102,103,104,105,106,107,108,109,110,111,112,113,114,115,116,117,118,119,120,121,122]) (d7 (dv 2) aK)) (cP Ba yg (fL qO iI rfl T.gU boot_str (fD (d7 (dv 2) aK) bF)) (d7 (dv 2) aK))) bF))))
  dW) dW)⟩
theorem Es {σ0:L2.St} {cdv:Value} {A:Around} {outer:List Env} {s:Shared} {H:Hp} {E:XK} (C:LC P w K mg base a (XL P w K mg base a cdv A outer s H E) E):QS (XL P w K mg base a cdv A outer s H E) (kZ 6) (tS Pg (cn a) E 6 σ0 (.ife (.pr .kh [(.pr .truth [(.pr .same [(.call 0 [(.var 7)]),(.call 1 [(.var 7)])])])]) [(.ret (.cst (.bl false)))] [])):=by
 have T:=C.T
 have S0:=C.S0
 have A2:=C.A2
 have hr:=C.hr
 have hp:=C.hp
 exact ⟨(vX (zT (uR (xQ T.bM S0 (hr.mono (by omega)) rfl (pD (v5 A2.oF T.cg hr hp (eY (dv 7) bF)) (pD (v5 A2.jy T.bf hr hp (eY (dv 7) bF)) bF))) (fun _=>rfl))) (dX (nq Cj)
  dW) dW)⟩
def RD (a:Adr) (E:XK):TS:=(tSt Pg (cn a) E 6 tl0 lR)
theorem chain {E:XK} {σ:L2.St} {H:Hp} {r:Addr} {row:List Int} {D:Ends} (hn:σ.length=8) (hr:σ[2]? =some (some (.ref r))) (hH:H r=some (.lst (row.map V.int))) (t:Tb (cn a) H) (run:Q0 row) (kk:∀ σ' H',Kept (cn a) 8 r σ H σ' H'->D.nx σ' H'/\D.ct σ' H'):RD a E D σ H:=
 Af (os:=[]) (kv:=[]) ⟨hn,rfl,hr,hH,[],Sim.none t,Ac hn fun j w hj=>by simp at hj,by simp,fun a u _ _ e=>⟨by simp,e⟩⟩ run kk
theorem Bo (T:Txt w K mg a):aU P w K mg base (CXE P w) 96 a.gR a.wF ["_law_script"] (lZ K):=by
 have oG:=nW (P:=P) (w:=w) (base:=base) T
 have oH:=nZ (P:=P) (w:=w) (base:=base) T
 refine okE (k:=95) T.CV.fn dJ (fun vs H Q E h=>?_) (fun cdv A outer s H vs Q E hr h=>?_)
 · obtain ⟨_,_,rfl,_⟩:=h
   rfl
 obtain ⟨l,ns,rfl,hS,h63,q⟩:=h
 have C:LC P w K mg base a (XL P w K mg base a cdv A outer s H E) E:=⟨T,iR (P:=P) (w:=w) (base:=base) T 13,tW T 6,hr,m6 ⟨rfl,rfl,rfl⟩ rfl (fun _ _ _ z=>z)⟩
 refine ⟨_,(aJ (Ab PassesOwn.leaving rfl (g_ rfl T.gq (aa aA ak)) (iU (i:=1) dJ.nd rfl (Or.inl rfl)) (u5 (eF (i:=2) dJ.nd rfl (Or.inl rfl) (iY T.cj oG (hr.mono (by omega)) rfl (aa (iY T.cu oH (hr.mono (by omega)) rfl (aa (pv 0) (aa (pv 1) ak))) (aa (aN ir (aN ir (ig (aa aA (aa aA ak))) (aN mU (ig (aa aA (aa aA ak))) aA)) (ig (aa aA (aa aA (aa aA ak))))) ak)))) (show QSs (XL P w K mg base a cdv A outer s H E) ((bodyOf ((bx dj).getD 0 (.Pass ⟨0,0,0,0⟩))).drop 1) (RD a E) from (Aa (Pg:=Pg) (cl:=cn a) (E:=E) (d:=6) (a:=tl0) fun σ0=>(dY (Em C) (dY (En C) (dY (Eo C) (dY (Ep C) (dY (Er C) (dY (Es C) (xU xV))))))))))) (aX (bK pL))),?_⟩
 refine ⟨10,rfl,by decide,by decide,rB (n:=10) (fun i σ H2=>σ.length=8/\σ[0]? =some (some (.ref l))/\Tb (cn a) H2/\SqL K H2 l (ns.map V.int)) ⟨rfl,rfl,Ad rfl,hS⟩ ?_ ?_⟩
 · rintro i σ H2 hi ⟨hl,h0,t2,s2⟩
   have hl1:(σ.set 1 (some (.int (0 + i)))).length=8:=by rw [List.length_set];exact hl
   have h01:(σ.set 1 (some (.int (0 + i))))[0]? =some (some (.ref l)):=by rw [List.getElem?_set_ne (by decide)];exact h0
   have hk1:(σ.set 1 (some (.int (0 + i))))[1]? =some (some (.int (0 + i))):=by rw [List.getElem?_set_self (by omega)]
   refine ⟨_,h01,_,hk1,l,ns,_,rfl,s2,h63,by omega,fun cz=>?_⟩
   refine ⟨(by show 2 <= sizeLine;decide),fun pl1 vp=>⟨(by show 2 <= sizeLine;decide),fun pl2 qT=>⟨pl2,5,_,rfl,rfl,au,by decide,by decide,(by show _ <= sizeLine;decide),fun pl3 qU=>⟨pl1,pl3,_,_,rfl,rfl,(aq qU _ _ _ (aq qT _ _ _ au)),au,(by show _ <= sizeLine;decide),fun pl4 vq=>⟨(by show 3 <= sizeLine;decide),fun pl5 qW=>⟨pl4,pl5,_,_,rfl,rfl,(aq qW _ _ _ au),au,(by show _ <= sizeLine;decide),fun pl6 vz=>?_⟩⟩⟩⟩⟩⟩
   refine ⟨cz,pl6,[8,4,20000,6,20000,6,20000,6,20000,6,20000,6,26,40,3],rfl,au,by decide,?_,fun r ds H3 hr3 s3 hD Et=>?_⟩
   · intro z hz
     have:z=8\/z=4\/z=20000\/z=6\/z=26\/z=40\/z=3:=by simp at hz;omega
     exact ⟨by omega,sX (by omega) (by omega)⟩
   have t3:Tb (cn a) H3:=((Sim.none t2).same (((((((aq vp _).trans (aq qT _)).trans (aq qU _)).trans (aq vq _)).trans (aq qW _)).trans (aq vz _)).trans s3)).1.tb
   have sA:bz H2 H3:=((((((aq vp _).trans (aq qT _)).trans (aq qU _)).trans (aq vq _)).trans (aq qW _)).trans (aq vz _)).trans s3
   have nr:H2 r=none:=bz.free ((((((aq vp _).trans (aq qT _)).trans (aq qU _)).trans (aq vq _)).trans (aq qW _)).trans (aq vz _)) hr3
   have fin:∀ σ' H',Kept (cn a) 8 r ((σ.set 1 (some (.int (0 + i)))).set 2 (some (.ref r))) H3 σ' H'->σ'.length=8/\σ'[0]? =some (some (.ref l))/\Tb (cn a) H'/\SqL K H' l (ns.map V.int):=fun σ' H' ⟨k1,k2,k3,k4⟩=>by
    refine ⟨k1,k2.trans (by rw [List.getElem?_set_ne (by decide)];exact h01),k3,SqL.kept s2 fun u nu eu=>?_⟩
    exact k4 l u (fun z=>by rw [z,nr] at eu;cases eu) nu (sA _ _ eu)
   have hn3:((σ.set 1 (some (.int (0 + i)))).set 2 (some (.ref r))).length=8:=by rw [List.length_set];exact hl1
   have Eu:((σ.set 1 (some (.int (0 + i)))).set 2 (some (V.ref r)))[2]? =some (some (.ref r)):=List.getElem?_set_self (by omega)
   exact chain hn3 Eu Et t3 (runs hD) fun σ' H' kp=>⟨fin σ' H' kp,fin σ' H' kp⟩
 · rintro σ H2 _
   exact q H2
end
end My
set_option maxRecDepth 1000000
set_option maxHeartbeats 4000000
namespace My
open PySem L2 PyProof.Rows Ev PySem.W
theorem all_mk {l:OpenLaw} {w:World} {K:Frag} {h:Heap} {mg:Str->Option Value} {fa:Addr} {b8 cL c7 dg dM bB a_ gR:Addr} (X:K.In h) (G:h.Ns mainGlobals mg) (hfa:mg "law" =some (.ref fa))
 {Bp tY:Option Addr} {Bq:Array (Option Value)} {Br tZ t6 t8 t_ n8:Value}
 (cg:∃ fd,DK K "deed_text" d8 b8 fd)
 (bR:∃ fd,DK K "_law_mixed" fG cL fd)
 (cj:∃ fd,DK K "_law_draw" fV c7 fd)
 (cu:∃ fd,DK K "_law_cell" fW dg fd)
 (cT:∃ fd,DK K "_law_num" gP dM fd)
 (bM:∃ fd,DK K "_law_same" d9 bB fd)
 (bf:∃ fd,DK K "_law_deed_text" bV a_ fd)
 (wH:nsIn K mainGlobals "law" =some (some (.ref gR)))
 (CZ:K.lookup gR=some ⟨Br,Bp,.func (fnOf "law" "law" (cN dj) (bx dj) (aj dj) .none tZ t6 t8 tY n8 t_),Bq⟩)
 (Bs:codeIn K n8 "law" =true)
 (Bu:keepIn K (.ref gR)=true)
 (qP:nsIn K mainGlobals "abs" =some none)
 (qQ:nsIn K mainGlobals "all" =some none)
 (iM:nsIn K mainGlobals "bool" =some none)
 (mz:nsIn K mainGlobals "int" =some none)
 (aD:nsIn K mainGlobals "isinstance" =some none)
 (eV:nsIn K mainGlobals "len" =some none)
 (jV:nsIn K mainGlobals "list" =some none)
 (gq:nsIn K mainGlobals "range" =some none)
 (gU:nsIn K mainGlobals "str" =some none)
 (gw:nsIn K mainGlobals "tuple" =some none):
 ∃ fd:FuncData,(∀ (s:Shared) (v:Value),BindsTo s fd ⟨[v],[]⟩ [("_law_script",v)])/\∀ base:Heap,K.In base->base.Ns mainGlobals mg->aU l.prog w K mg base (CXE l.prog w) 96 fa fd ["_law_script"] (lZ K):=by
 have e:=hfa.symm.trans (mg_of X G wH)
 cases e
 obtain ⟨d_,cg⟩:=cg
 obtain ⟨fH,bR⟩:=bR
 obtain ⟨fZ,cj⟩:=cj
 obtain ⟨f9,cu⟩:=cu
 obtain ⟨gQ,cT⟩:=cT
 obtain ⟨b_,bM⟩:=bM
 obtain ⟨bY,bf⟩:=bf
 have wJ:=rN (st:=dj) CZ Bs Bu
 have T:Txt w K mg ⟨b8,_,cL,_,c7,_,dg,_,dM,_,bB,_,a_,_,fa,_⟩:=⟨cg.df X G,bR.df X G,cj.df X G,cu.df X G,cT.df X G,bM.df X G,bf.df X G,⟨wJ,fbn wJ,mg_of X G wH⟩,mg_none_of X G qP,mg_none_of X G qQ,mg_none_of X G iM,mg_none_of X G mz,mg_none_of X G aD,mg_none_of X G eV,mg_none_of X G jV,mg_none_of X G gq,mg_none_of X G gU,mg_none_of X G gw⟩
 exact ⟨fnOf "law" "law" (cN dj) (bx dj) (aj dj) .none tZ t6 t8 tY n8 t_,fun s v=>.of_eq rfl,fun base _ _=>Bo T⟩
theorem walk {l:OpenLaw} {q:Program} {loose:List Str} {XP:(Str->Option Value)->Heap->Prop} {YP:World->Heap->Prop} {d:DefRec} {K:Params->Frag} (hn:l.most=some 63) (hdf:d.params.defaults= [])
 (hY:∀ (w:World) (h:Heap),YP w h->(K w.params).In h)
 (F:∀ (w:World) (mg:Str->Option Value) (fa:Addr) (h:Heap),(K w.params).In h->h.Ns mainGlobals mg->mg d.name=some (.ref fa)->
   ∃ fd:FuncData,(∀ (s:Shared) (u:Value),BindsTo s fd ⟨[u],[]⟩ [("_law_script",u)])/\∀ base:Heap,(K w.params).In base->base.Ns mainGlobals mg->aU l.prog w (K w.params) mg base (CXE l.prog w) 96 fa fd ["_law_script"] (lZ (K w.params))):
 WalkO q loose XP YP l.row.toRowW d [] (fun f vs=>PySem.call f vs):=
 L2.wY (n:=63) (k:=96) (x:="_law_script") (CX:=fun w=>CXE l.prog w) (sp:=fun w=>lZ (K w.params)) hn (by decide) hdf ⟨rfl,by decide,by decide⟩ hY F (fun _ _ a ns hl _ hS=>⟨a,ns,rfl,hS,hl,fun _=>rfl⟩) fun _ _ _ _ _ z=>uM z
end My
namespace PySem.W.Fast
def tw4461347335408445762:=0
def tw12003934170905790672:=0
def tw4039179735713810073:=0
def tw17018092297610939239:=0
def tw7329184083247043900:=0
def tw11073673074506299900:=0
def tw7006869280984934389:=0
def tw15371432213694232213:=0
def tw4025341563038835829:=0
def tw5805886801629468373:=0
def tw9438319876749136117:=0
def tw12262787848738173258:=0
def tw12408374673438160874:=0
def tw1446202287635488440:=0
def tw5726434169542937912:=0
def tw14910706810551758870:=0
def tw11662345547462558742:=0
def tw281853654668478191:=0
def tw12184422994414776815:=0
def tw17562732281731315748:=0
def tw4121235590822388861:=0
def tw8459961425194268541:=0
def tw12110235288420642843:=0
def tw6350760970773748347:=0
def tw18024585092234665184:=0
def tw229954644923768553:=0
def tw7870535858454389801:=0
def tw18224455575572578921:=0
def tw16711314392977858935:=0
def tw18082132508963999724:=0
def tw4380118971248257452:=0
def tw5829716890631217164:=0
def tw5569035106227876325:=0
def tw13682645089665582714:=0
def tw4528531551686326330:=0
def tw13620936904452736698:=0
def tw16561217563212172090:=0
def tw6669766221499503011:=0
def tw400727224983674536:=0
def tw4301091554163181393:=0
def tw6663893285010251185:=0
def tw11536064272828218577:=0
def tw294048992431812102:=0
def tw7862608518665141663:=0
def tw1884863987063811860:=0
def tw9424097613257745037:=0
end PySem.W.Fast
open PySem PySem.W PyProof.Rows
set_option maxRecDepth 100000 in
set_option maxHeartbeats 0 in
theorem PySem.Challenge.cw_byestand_k49_deeds_written_holds : PySem.Challenge.rw_byestand_k49_deeds_written.Holds := by
 w_on;o_law;k_head;(case hw=>w_witness2)
 k_fill
 refine My.walk (l:=PySem.Challenge.rw_byestand_k49_deeds_written) rfl rfl (fun w h Y=>PySem.W.kIn_of Y) ?F
 case F=>
  intro w mg fa h KX G hmg
  refine' My.all_mk KX G hmg (Ev.gK ?_ ?_ ?_ ?_) (Ev.gK ?_ ?_ ?_ ?_) (Ev.gK ?_ ?_ ?_ ?_) (Ev.gK ?_ ?_ ?_ ?_) (Ev.gK ?_ ?_ ?_ ?_) (Ev.gK ?_ ?_ ?_ ?_) (Ev.gK ?_ ?_ ?_ ?_) ?_ ?_ ?_ ?_ ?_ ?_ ?_ ?_ ?_ ?_ ?_ ?_ ?_ ?_
  all_goals try first | k_is | rfl
