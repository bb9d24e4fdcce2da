import PyProof.Rows.All
import Wide.All
import OpenK.AllK
import Wide.FinOn
import Lean
import PyProof.EqAt
import PyProof.EqKinds
import PyProof.TupleCall
import PySem.Challenge.RW_byestand_k04_all_starters
import KE.KNestM
import KE.KRevSl
set_option Elab.async false
set_option linter.all false
set_option maxRecDepth 100000
namespace L2
open PySem PySem.Spec PyProof.Rows
abbrev Key:=Sum Int Str
def JD:Key->Value->Bool
 | .inl k,v=>Value.isInt k v
 | .inr x,v=>Value.isStrOf x v
def R5 (w:World):Key->Int
 | .inl k=>hashInt k
 | .inr x=>hashStr w x
theorem cI:∀ {k:Key} {v:Value},JD k v=true->(∃ i t,k=Sum.inl i/\v=Value.int i t)\/(∃ x t,k=Sum.inr x/\v=Value.str x t)
 | .inl i,v,h=>by
   obtain ⟨t,e⟩:=Value.isInt_shape (k:=i) (v:=v) h
   exact .inl ⟨i,t,rfl,e⟩
 | .inr x,v,h=>by
   obtain ⟨t,e⟩:=Value.isStrOf_shape (x:=x) (v:=v) h
   exact .inr ⟨x,t,rfl,e⟩
theorem Mv (a b:Int):decide ((Sum.inl a:Key)=Sum.inl b)=(a == b):=by
 by_cases e:a=b
 · subst e;simp
 · have h:¬ (Sum.inl a:Key)=Sum.inl b:=fun q=>e (Sum.inl.inj q)
   rw [decide_eq_false h]
   exact (beq_eq_false_iff_ne.mpr e).symm
theorem Mw (a b:Str):decide ((Sum.inr a:Key)=Sum.inr b)=decide (a=b):=by
 by_cases e:a=b
 · subst e;simp
 · have h:¬ (Sum.inr a:Key)=Sum.inr b:=fun q=>e (Sum.inr.inj q)
   rw [decide_eq_false h,decide_eq_false e]
theorem Mx (a:Int) (b:Str):decide ((Sum.inl a:Key)=Sum.inr b)=false:=decide_eq_false (fun q=>nomatch q)
theorem Mz (a:Str) (b:Int):decide ((Sum.inr a:Key)=Sum.inl b)=false:=decide_eq_false (fun q=>nomatch q)
def ug (prog:Program) (w:World):PySem.KeyKind prog w Key where
 is:=JD
 hash:=R5 w
 inj:=fun v a b ha hb=>by
  rcases cI ha with ⟨i,t,rfl,rfl⟩ | ⟨x,t,rfl,rfl⟩
  · rcases cI hb with ⟨j,u,rfl,e⟩ | ⟨y,u,rfl,e⟩
    · injection e with e1 _;rw [e1]
    · exact nomatch e
  · rcases cI hb with ⟨j,u,rfl,e⟩ | ⟨y,u,rfl,e⟩
    · exact nomatch e
    · injection e with e1 _;rw [e1]
 byValue:=fun k v h=>by
  rcases cI h with ⟨i,t,rfl,rfl⟩ | ⟨x,t,rfl,rfl⟩ <;> rfl
 pyHash:=fun hv h=>by
  rcases cI hv with ⟨i,t,rfl,rfl⟩ | ⟨x,t,rfl,rfl⟩
  · exact wpAny_pyHash_int h
  · exact wpAny_pyHash_str h
 eqBool:=fun hu hv h=>by
  rcases cI hu with ⟨i,t,rfl,rfl⟩ | ⟨x,t,rfl,rfl⟩
  · rcases cI hv with ⟨j,u,rfl,rfl⟩ | ⟨y,u,rfl,rfl⟩
    · rw [Mv] at h;exact wpAny_eqBool_int h
    · rw [Mx] at h;exact SeqAt.EqAt.int_str i t y u _ _ _ _ h
  · rcases cI hv with ⟨j,u,rfl,rfl⟩ | ⟨y,u,rfl,rfl⟩
    · rw [Mz] at h;exact SeqAt.EqAt.str_int x t j u _ _ _ _ h
    · rw [Mw] at h;exact wpAny_eqBool_str h
 «strs»:=fun k x t v h=>by
  rcases cI h with ⟨i,u,rfl,e⟩ | ⟨y,u,rfl,e⟩
  · exact nomatch e
  · injection e with e1 _
    subst e1
    cases v <;> rfl
end L2
namespace L2
open PySem PySem.Spec PyProof.Rows
inductive V where
 | non | bl (b:Bool) | int (i:Int) | str (x:Str) | byt (b:Array UInt8) | flt (b:UInt64) | ref (a:Addr) | ty (n:String)
 deriving DecidableEq
def RelV:V->Value->Prop
 | .non,u=>u=Value.none
 | .bl b,u=>u=Value.bool b
 | .int i,u=>∃ t,u=Value.int i t
 | .str x,u=>∃ t,u=Value.str x t
 | .byt b,u=>∃ t,u=Value.bytes b t
 | .flt b,u=>∃ t,u=Value.float b t
 | .ref a,u=>u=Value.ref a
 | .ty n,u=>u=Value.type n
abbrev Vals:List V->List Value->Prop:=Paired RelV
theorem Vals.length {xs:List V} {us:List Value} (r:Vals xs us):xs.length=us.length:=Paired.length r
theorem Vals.get:∀ {xs:List V} {us:List Value} {i:Nat} {x:V},Vals xs us->xs[i]? =some x->∃ u,us[i]? =some u/\RelV x u
 | _,_,_,_,.nil,e=>by simp at e
 | _,_,0,_,.cons r _,e=>by simp at e;subst e;exact ⟨_,rfl,r⟩
 | _,_,i + 1,x,.cons _ t,e=>by
   obtain ⟨u,h1,h2⟩:=Vals.get (i:=i) (x:=x) t (by simpa using e)
   exact ⟨u,by simpa using h1,h2⟩
theorem Vals.append:∀ {xs ys:List V} {us ws:List Value},Vals xs us->Vals ys ws->Vals (xs ++ ys) (us ++ ws)
 | _,_,_,_,.nil,s=>s
 | _,_,_,_,.cons r t,s=>.cons r (Vals.append t s)
theorem Vals.take:∀ {xs:List V} {us:List Value} (n:Nat),Vals xs us->Vals (xs.take n) (us.take n)
 | _,_,0,_=>.nil
 | _,_,_ + 1,.nil=>.nil
 | _,_,n + 1,.cons r t=>.cons r (Vals.take n t)
theorem Vals.drop:∀ {xs:List V} {us:List Value} (n:Nat),Vals xs us->Vals (xs.drop n) (us.drop n)
 | _,_,0,r=>r
 | _,_,_ + 1,.nil=>.nil
 | _,_,n + 1,.cons _ t=>Vals.drop n t
def uh:Option V->Option Value->Prop
 | some v,some u=>RelV v u
 | none,none=>True
 | _,_=>False
def KV {κ:Type}:List (κ × V)->List (κ × Value)->Prop:=Paired fun (p:κ × V) (q:κ × Value)=>p.1=q.1/\RelV p.2 q.2
def kV:Key->V
 | .inl i=>.int i
 | .inr x=>.str x
inductive HO where
 | lst (xs:List V)
 | tup (xs:List V)
 | dK (kvs:List (Key × V)) | dT (kvs:List (List Key × V))
 | set (S:Int->Bool) (n:Nat)
 | ins (C dx:Addr) (fs:List (Str × V))
 | own (x:Addr)
 | xd (fs:List (Str × V))
 | met (f x:Addr)
 | rng (lo hi:Int)
 | frz (o:Obj) (u:HO)
 | tbl (ps:Array Value)
 | ext (φ:Heap->Prop)
abbrev Hp:=Addr->Option HO
def upd (H:Hp) (a:Addr) (o:HO):Hp:=fun b=>if b=a then some o else H b
theorem aC {H:Hp} {a:Addr} {o:HO}:upd H a o a=some o:=by unfold upd;rw [if_pos rfl]
theorem au {H:Hp} {a b:Addr} {o:HO} (h:b ≠ a):upd H a o b=H b:=by unfold upd;rw [if_neg h]
theorem aD {H:Hp} {a b:Addr} {o:HO} (h:H a=some o) (h':H b=none):a ≠ b:=by
 intro e;subst e;rw [h] at h';cases h'
section
variable (P:Program) (w:World)
def bw (H:Hp) (h:Heap) (a:Addr):HO->Prop
 | .lst xs=>xs.length <= sizeLine/\∃ (its:List Value) (n:Nat),Vals xs its/\h.get? a=some { cls:=.type "list",data:=.seq its.toArray n }
 | .tup xs=>xs.length <= sizeLine/\∃ its:List Value,Vals xs its/\IsTup h a its.toArray
 | .dK kvs=>kvs.length <= sizeLine/\(a == sysModules)=false/\∃ vs,KV kvs vs/\h.DictOf (ug P w) a vs
 | .dT kvs=>kvs.length <= sizeLine/\(a == sysModules)=false/\∃ xs:List (List Key × Addr × Value),
    Paired (fun (p:List Key × V) (q:List Key × Addr × Value)=>p.1=q.1/\H q.2.1=some (.tup (p.1.map kV))/\RelV p.2 q.2.2) kvs xs/\
    ∃ o es ep,h.get? a=some o/\o.ExactDict/\o.data= .dict es ep/\es.toList=xs.map (entryOfKey (tupleKind (ug P w)))/\(xs.map (·.1)).Nodup
 | .set S n=>h.SetOf (intKind P w) a S n
 | .ins C dx fs=>H dx=some (.own a)/\fs.length <= 1000/\dx ≠ a/\h.get? a=some (PySem.W.instObj C dx)/\
    ∃ mA,h.Ns1 dx mA/\(∀ f,uh (fs.lookup f) (mA f))/\PySem.Within mA (fs.map (·.1))
 | .own _=>∃ o,h.get? a=some o
 | .xd fs=>∃ mA,h.Ns1 a mA/\∀ f,uh (fs.lookup f) (mA f)
 | .rng lo hi=>∃ t u v,h.get? a=some { cls:=.type "range",data:=.fields #[.int lo t,.int hi u,.int 1 v] }
 | .frz o u=>h.get? a=some o/\bw H h a u
 | .tbl ps=>h.get? a=some { cls:=.none,data:=.fields ps }
 | .met f x=>h.get? a=some (PySem.W.methodObj (.ref f) (.ref x))
 | .ext φ=>φ h/\(∃ o,h.get? a=some o)/\∀ h1 h2:Heap,φ h1->(∀ o,h1.get? a=some o->h2.get? a=some o)->φ h2
def HOk (H:Hp) (h:Heap):Prop:=∀ a o,H a=some o->bw P w H h a o
end
section
variable {P:Program} {w:World} {H H':Hp} {h h':Heap} {a:Addr} {o:HO}
theorem bw.lt (x:bw P w H h a o):a < h.objs.size:=by
 cases o with
 | lst xs=>obtain ⟨_,_,_,_,e⟩:=x;exact Heap.lt_size e
 | tup xs=>obtain ⟨_,_,_,p⟩:=x;exact p.lt
 | dK kvs=>obtain ⟨_,_,_,_,o,_,_,e,_⟩:=x;exact Heap.lt_size e
 | dT kvs=>obtain ⟨_,_,_,_,o,_,_,e,_⟩:=x;exact Heap.lt_size e
 | set S n=>obtain ⟨o,_,_,_,e,_⟩:=x;exact Heap.lt_size e
 | ins C dx fs=>obtain ⟨_,_,_,e,_⟩:=x;exact Heap.lt_size e
 | own y=>obtain ⟨_,e⟩:=x;exact Heap.lt_size e
 | xd fs=>obtain ⟨_,⟨_,_,_,e,_⟩,_⟩:=x;exact Heap.lt_size e
 | rng lo hi=>obtain ⟨_,_,_,e⟩:=x;exact Heap.lt_size e
 | frz ob u=>obtain ⟨e,_⟩:=x;exact Heap.lt_size e
 | tbl ps=>exact Heap.lt_size (show h.get? a=some _ from x)
 | met f y=>exact Heap.lt_size (show h.get? a=some _ from x)
 | ext φ=>obtain ⟨_,⟨_,e⟩,_⟩:=x;exact Heap.lt_size e
theorem Paired.nR {α β:Type} {F G:α->β->Prop}:∀ {l₁:List α} {l₂:List β},Paired F l₁ l₂->(∀ a b,F a b->G a b)->Paired G l₁ l₂
 | _,_,.nil,_=>.nil
 | _,_,.cons r t,f=>.cons (f _ _ r) (Paired.nR t f)
theorem bw.stay (x:bw P w H h a o) (k:∀ b u,(b=a\/H b=some (.own a))->h.get? b=some u->h'.get? b=some u)
 (ho:∀ b,H b=some (.own a)->H' b=some (.own a)) (ht:∀ b xs,H b=some (.tup xs)->H' b=some (.tup xs)):bw P w H' h' a o:=by
 induction o with
 | lst xs=>obtain ⟨z,its,n,r,e⟩:=x;exact ⟨z,its,n,r,k _ _ (.inl rfl) e⟩
 | tup xs=>obtain ⟨z,its,r,ob,e,c⟩:=x;exact ⟨z,its,r,ob,k _ _ (.inl rfl) e,c⟩
 | dK kvs=>obtain ⟨z,y,vs,r,ob,es,ep,e,c⟩:=x;exact ⟨z,y,vs,r,ob,es,ep,k _ _ (.inl rfl) e,c⟩
 | dT kvs=>
   obtain ⟨z,y,xs,r,ob,es,ep,e,c⟩:=x
   exact ⟨z,y,xs,Paired.nR r fun p q z=>⟨z.1,ht _ _ z.2.1,z.2.2⟩,ob,es,ep,k _ _ (.inl rfl) e,c⟩
 | set S n=>obtain ⟨ob,es,ep,t,e,c⟩:=x;exact ⟨ob,es,ep,t,k _ _ (.inl rfl) e,c⟩
 | ins C dx fs=>
   obtain ⟨d,z,ne,e,mA,⟨od,es,ep,e2,c⟩,r⟩:=x
   exact ⟨ho _ d,z,ne,k _ _ (.inl rfl) e,mA,⟨od,es,ep,k _ _ (.inr d) e2,c⟩,r⟩
 | own y=>obtain ⟨ob,e⟩:=x;exact ⟨ob,k _ _ (.inl rfl) e⟩
 | xd fs=>obtain ⟨mA,⟨od,es,ep,e,c⟩,r⟩:=x;exact ⟨mA,⟨od,es,ep,k _ _ (.inl rfl) e,c⟩,r⟩
 | rng lo hi=>obtain ⟨t,u,v,e⟩:=x;exact ⟨t,u,v,k _ _ (.inl rfl) e⟩
 | frz ob u ih=>obtain ⟨e,q⟩:=x;exact ⟨k _ _ (.inl rfl) e,ih q⟩
 | tbl ps=>
   have e:h.get? a=some { cls:=.none,data:=.fields ps }:=x
   show h'.get? a=some { cls:=.none,data:=.fields ps }
   exact k a _ (.inl rfl) e
 | met f y=>
   have e:h.get? a=some (PySem.W.methodObj (.ref f) (.ref y)):=x
   show h'.get? a=some (PySem.W.methodObj (.ref f) (.ref y))
   exact k a _ (.inl rfl) e
 | ext φ=>obtain ⟨p,⟨o,e⟩,st⟩:=x;exact ⟨st _ _ p fun o q=>k _ _ (.inl rfl) q,⟨o,k _ _ (.inl rfl) e⟩,st⟩
theorem HOk.lt (x:HOk P w H h) (e:H a=some o):a < h.objs.size:=(x a o e).lt
theorem HOk.fresh (x:HOk P w H h) (e:h.objs.size <= a):H a=none:=by
 cases q:H a with
 | none=>rfl
 | some u=>exact absurd (Nat.lt_of_lt_of_le (x.lt q) e) (Nat.lt_irrefl _)
theorem HOk.kept (x:HOk P w H h) (k:∀ b u,h.get? b=some u->h'.get? b=some u):HOk P w H h':=fun a o e=>
 (x a o e).stay (fun b u _ q=>k b u q) (fun _ q=>q) fun _ _ q=>q
theorem HOk.laid (x:HOk P w H h) (k:∀ b u,h.get? b=some u->h'.get? b=some u) (hp:h.objs.size <= a) (new:bw P w (upd H a o) h' a o):HOk P w (upd H a o) h':=fun b u e=>by
 have hn:=x.fresh hp
 by_cases hb:b=a
 · subst hb;rw [aC] at e;cases e;exact new
 · rw [au hb] at e
   exact (x b u e).stay (fun c v _ q=>k c v q) (fun c q=>by rw [au (aD q hn)];exact q) fun c xs q=>by rw [au (aD q hn)];exact q
end
def Rd (H:Hp) (a:Addr) (u:HO):Prop:=H a=some u\/∃ o,H a=some (.frz o u)
theorem Rd.ok {P:Program} {w:World} {H:Hp} {h:Heap} {a:Addr} {u:HO} (r:Rd H a u) (x:HOk P w H h):bw P w H h a u:=by
 rcases r with r | ⟨o,r⟩
 · exact x a u r
 · obtain ⟨_,q⟩:=x a _ r
   exact q
def Mut:Option HO->Prop
 | some (.lst _)=>True
 | some (.dK _)=>True
 | some (.dT _)=>True
 | some (.set _ _)=>True
 | some (.ins _ _ _)=>True
 | some (.ext _)=>True
 | _=>False
section
variable {P:Program} {w:World} {H:Hp} {h h':Heap} {x e:Addr} {o':HO}
theorem HOk.write (ok:HOk P w H h) (mu:Mut (H x)) (he:e=x\/H e=some (.own x)) (k:∀ b u,b ≠ e->h.get? b=some u->h'.get? b=some u) (heo:∃ u,h'.get? e=some u)
 (new:bw P w (upd H x o') h' x o'):HOk P w (upd H x o') h':=fun b u q=>by
 have MF:∀ c y,H c=some (.own y)->c ≠ x:=fun c y r z=>by subst z;rw [r] at mu;exact mu
 have R6:∀ c xs,H c=some (.tup xs)->c ≠ x:=fun c xs r z=>by subst z;rw [r] at mu;exact mu
 by_cases hb:b=x
 · subst hb;rw [aC] at q;cases q;exact new
 · rw [au hb] at q
   by_cases hbe:b=e
   · have q':H b=some (.own x):=by
      rcases he with z | z
      · exact absurd (hbe.trans z) hb
      · rw [hbe];exact z
     rw [q] at q';cases q'
     obtain ⟨v,hv⟩:=heo
     exact ⟨v,by rw [hbe];exact hv⟩
   · refine (ok b u q).stay (fun c v hc r=>k c v ?_ r) (fun c r=>by rw [au (MF c b r)];exact r) fun c xs r=>by rw [au (R6 c xs r)];exact r
     rcases hc with rfl | hc
     · exact hbe
     · rintro rfl
       rcases he with z | z
       · exact MF c b hc z
       · rw [hc] at z;cases z;exact hb rfl
end
structure Un (fs ex:List Addr) (H H':Hp) (h h':Heap):Prop where
 keep:∀ b o,h.get? b=some o->H b=none->b ∉ fs->b ∉ ex->h'.get? b=some o
 slot:∀ b o,h.get? b=some o->H b=none->b ∈ fs->b ∉ ex->∃ sl,h'.get? b=some { o with slots:=sl }
 free:∀ b o,h.get? b=some o->H b=none->b ∉ ex->H' b=none
 there:∀ b o,h.get? b=some o->b ∉ ex->∃ o',h'.get? b=some o'
 tups:∀ b xs,H b=some (.tup xs)->H' b=some (.tup xs)
 gO:∀ b o u,H b=some (.frz o u)->H' b=some (.frz o u)
 gP:∀ b ps,H b=some (.tbl ps)->∃ more,H' b=some (.tbl (ps ++ more))
section
variable {fs fs' ex ex':List Addr} {H H1 H2:Hp} {h h1 h2 h':Heap} {a x e:Addr} {o:HO}
theorem Un.any (u:Un fs ex H H1 h h1) {b:Addr} {ob:Obj} (q:h.get? b=some ob) (n:H b=none) (hx:b ∉ ex):∃ sl,h1.get? b=some { ob with slots:=sl }:=by
 by_cases hb:b ∈ fs
 · exact u.slot b ob q n hb hx
 · exact ⟨ob.slots,u.keep b ob q n hb hx⟩
theorem Un.trans (a:Un fs ex H H1 h h1) (b:Un fs ex H1 H2 h1 h2):Un fs ex H H2 h h2 where
 keep:=fun c ob q n hc hx=>b.keep c ob (a.keep c ob q n hc hx) (a.free c ob q n hx) hc hx
 slot:=fun c ob q n hc hx=>by
  obtain ⟨sl,e1⟩:=a.slot c ob q n hc hx
  obtain ⟨sl',e2⟩:=b.slot c _ e1 (a.free c ob q n hx) hc hx
  exact ⟨sl',e2⟩
 free:=fun c ob q n hx=>by
  obtain ⟨o',e1⟩:=a.there c ob q hx
  exact b.free c o' e1 (a.free c ob q n hx) hx
 there:=fun c ob q hx=>by
  obtain ⟨o',e1⟩:=a.there c ob q hx
  exact b.there c o' e1 hx
 tups:=fun c xs q=>b.tups c xs (a.tups c xs q)
 gO:=fun c ob xs q=>b.gO c ob xs (a.gO c ob xs q)
 gP:=fun c ps q=>by
  obtain ⟨m1,e1⟩:=a.gP c ps q
  obtain ⟨m2,e2⟩:=b.gP c _ e1
  exact ⟨m1 ++ m2,by rw [e2,Array.append_assoc]⟩
theorem Un.kept (k:∀ b u,h.get? b=some u->h'.get? b=some u):Un fs ex H H h h':=
 ⟨fun b ob q _ _ _=>k b ob q,fun b ob q _ _ _=>⟨ob.slots,k b ob q⟩,fun _ _ _ n _=>n,fun b ob q _=>⟨ob,k b ob q⟩,fun _ _ q=>q,fun _ _ _ q=>q,fun _ ps q=>⟨#[],by rw [q];simp⟩⟩
theorem Un.refl:Un fs ex H H h h:=Un.kept fun _ _ q=>q
theorem Un.laid (k:∀ b u,h.get? b=some u->h'.get? b=some u) (hp:h.objs.size <= a) (hn:H a=none):Un fs ex H (upd H a o) h h' where
 keep:=fun b u q _ _ _=>k b u q
 slot:=fun b u q _ _ _=>⟨u.slots,k b u q⟩
 free:=fun b u q n _=>by rw [au (Nat.ne_of_lt (Nat.lt_of_lt_of_le (Heap.lt_size q) hp))];exact n
 there:=fun b u q _=>⟨u,k b u q⟩
 tups:=fun b xs q=>by rw [au (aD q hn)];exact q
 gO:=fun b u xs q=>by rw [au (aD q hn)];exact q
 gP:=fun b ps q=>⟨#[],by rw [au (aD q hn),q];simp⟩
theorem Un.write (mu:Mut (H x)) (he:e=x\/H e=some (.own x)) (k:∀ b u,b ≠ e->h.get? b=some u->h'.get? b=some u) (heo:∃ u,h'.get? e=some u):Un fs ex H (upd H x o) h h':=by
 have hx:∀ b,H b=none->b ≠ x:=fun b n z=>by subst z;rw [n] at mu;exact mu
 have hb:∀ b,H b=none->b ≠ e:=fun b n z=>by
  subst z
  rcases he with r | r
  · exact hx b n r
  · rw [n] at r;cases r
 have hm:∀ b u,H b=some u->¬ Mut (some u)->b ≠ x:=fun b u q nm z=>by subst z;rw [q] at mu;exact nm mu
 refine ⟨fun b u q n _ _=>k b u (hb b n) q,fun b u q n _ _=>⟨u.slots,k b u (hb b n) q⟩,fun b u q n _=>by rw [au (hx b n)];exact n,fun b u q _=>?_,
  fun b xs q=>by rw [au (hm b _ q fun z=>z)];exact q,fun b u xs q=>by rw [au (hm b _ q fun z=>z)];exact q,fun b ps q=>⟨#[],by rw [au (hm b _ q fun z=>z),q];simp⟩⟩
 by_cases hbe:b=e
 · subst hbe;exact heo
 · exact ⟨u,k b u hbe q⟩
theorem Un.mono (u:Un fs ex H H1 h h1) (hs:∀ b ∈ fs,b ∈ fs') (hx:∀ b ∈ ex,b ∈ ex'):Un fs' ex' H H1 h h1:=
 ⟨fun b ob q n hb he=>u.keep b ob q n (fun z=>hb (hs b z)) fun z=>he (hx b z),fun _ _ q n _ he=>u.any q n fun z=>he (hx _ z),fun b ob q n he=>u.free b ob q n fun z=>he (hx b z),fun b ob q he=>u.there b ob q fun z=>he (hx b z),u.tups,u.gO,u.gP⟩
end
def trk (h:Heap) (H:Hp):List Addr:=(List.range h.objs.size).filter fun a=>(H a).isSome
def mC (h:Heap) (H:Hp):Heap:=PySem.W.hideAll h (trk h H)
theorem Ew (h:Heap) (H:Hp):(mC h H).objs.size=h.objs.size:=PySem.W.hideAll_size _ _
theorem Hy {h:Heap} {H:Hp} {b:Addr} {o:Obj} (e:h.get? b=some o) (n:H b=none):(mC h H).get? b=some o:=
 PySem.W.hideAll_get _ e fun hm=>by
  have q:(H b).isSome=true:=(List.mem_filter.mp hm).2
  rw [n] at q;simp at q
theorem Ke {h:Heap} {H:Hp} {b:Addr} {o:Obj} (e:(mC h H).get? b=some o):h.get? b=some o/\H b=none:=by
 have e':h.get? b=some o:=PySem.W.of_hideAll (trk h H) e
 refine ⟨e',?_⟩
 cases q:H b with
 | none=>rfl
 | some x=>
   have hm:b ∈ trk h H:=List.mem_filter.mpr ⟨List.mem_range.mpr (Heap.lt_size e'),by simp [q]⟩
   have z:(mC h H).get? b=none:=PySem.W.hideAll_none (trk h H) hm
   rw [z] at e;cases e
def qx (g h:Heap) (L:Addr):List (Addr × Obj):=(List.range h.objs.size).filterMap fun a=>if a=L\/(g.get? a).isSome=true then none else (h.get? a).map fun o=>(a,o)
theorem fM {g h:Heap} {L a:Addr} {o:Obj} (h1:a ≠ L) (h2:g.get? a=none) (h3:h.get? a=some o):(a,o) ∈ qx g h L:=
 List.mem_filterMap.mpr ⟨a,List.mem_range.mpr (Heap.lt_size h3),by simp [h1,h2,h3]⟩
theorem um {g h:Heap} {L:Addr} {p:Addr × Obj} (hp:p ∈ qx g h L):p.1 ≠ L/\g.get? p.1=none/\h.get? p.1=some p.2:=by
 obtain ⟨b,_,e⟩:=List.mem_filterMap.mp hp
 split at e
 · cases e
 · rename_i hn
   cases q:h.get? b with
   | none=>rw [q] at e;simp at e
   | some u=>
     rw [q] at e
     simp only [Option.map_some,Option.some.injEq] at e
     subst e
     refine ⟨fun z=>hn (.inl z),?_,q⟩
     show g.get? b=none
     cases r:g.get? b with
     | none=>rfl
     | some v=>exact (hn (.inr (by simp [r]))).elim
def rest (g h:Heap) (L d:Addr):List (Addr × Obj):=(qx g h L).filter fun p=>decide (p.1 ≠ d)
theorem wU {g h:Heap} {L:Addr}:News g L h (qx g h L):=fun p hp=>let ⟨a,b,c⟩:=um hp;⟨c,a,b⟩
end L2
namespace L2
open PySem PySem.Spec PyProof.Rows
structure Mod (K:PySem.W.Frag) (mg:Str->Option Value) (base:Heap):Prop where
 kin:K.In base
 glob:base.Ns mainGlobals mg
 blt:∃ mb,base.Ns builtinsNs mb/\∀ x:Str,x ≠ "__name__"->mb x=bootBuiltins x
 nolimit:base.NoLimit
structure Cx where
 prog:Program
 w:World
 K:PySem.W.Frag
 mg:Str->Option Value
 base:Heap
 A:Around
 N:List Str
 s₀:Shared
 H₀:Hp
 env:Env
 outer:List Env
 stack:List Env
 ex:List Addr
 fn:Str->Bool
 calm:Bool
 pn:List (Addr × Obj)
 xe:Value->Shared->Prop
def frs (l:List Env):List Addr:=l.filterMap (·.frame)
abbrev Cx.fs (X:Cx):List Addr:=frs X.outer
def Vis (sc:Scope) (x:Str):Prop:=sc.names.lookup x=some .local\/sc.names.lookup x=some .cell\/sc.names.lookup x=some .free
def Loc (sc:Scope) (x:Str):Prop:=sc.names.lookup x=some .local\/sc.names.lookup x=some .cell
def Look (env:Env) (h:Heap) (m:Str->Option Value) (x:Str) (u:Value):Prop:=
 (env.kindOf x=some .local/\m x=some u)\/((env.kindOf x=some .cell\/env.kindOf x=some .free)/\∃ c,env.cells.lookup x=some c/\h.IsCell c (some u))
structure Cx.Ok (X:Cx):Prop where
 mod:Mod X.K X.mg X.base
 kind:X.env.scope.kind= .function
 glob:X.env.globals=mainGlobals
 blt:X.env.builtins=builtinsNs
 above:X.s₀.heap.objs.size <= X.env.locals
 inj:∀ x y c,X.env.cells.lookup x=some c->X.env.cells.lookup y=some c->x=y
 has:∀ x,(X.env.kindOf x=some .cell\/X.env.kindOf x=some .free)->∃ c,X.env.cells.lookup x=some c
 cab:∀ x c,X.fn x=true->X.env.cells.lookup x=some c->X.s₀.heap.objs.size <= c
 hd:X.calm=true->X.A.handled=none
 frames:X.A.frames=some X.stack
 stk:X.stack=X.outer\/(X.stack=X.env::X.outer/\X.env.frame=some X.env.locals)
 exf:∀ b ∈ X.ex,b ≠ X.env.locals/\∀ x c,X.env.cells.lookup x=some c->c ≠ b
 bs:∀ b o,X.base.get? b=some o->X.s₀.heap.get? b=some o/\X.H₀ b=none
 bsz:X.base.objs.size <= X.s₀.heap.objs.size
 mD:∀ b o,X.base.get? b=some o->b ∉ X.ex
 o_:∀ b ∈ X.ex,b ∉ X.fs
 gQ:X.s₀.heap.FunFrames X.base X.outer
 frf:∀ b ∈ X.fs,X.H₀ b=none
structure Inv (X:Cx) (pins:List (Addr × Obj)) (σ:List (Option V)) (H:Hp) (s:Shared):Prop where
 ok:X.Ok
 os:s.os=X.s₀.os
 bare:AllBare s.gens
 base:Un X.fs X.ex X.H₀ H X.s₀.heap s.heap
 loc:∃ m,s.heap.Ns X.env.locals m/\∀ (i:Nat) (x:Str) (v:V),X.N[i]? =some x->σ[i]? =some (some v)->Vis X.env.scope x->∃ u,RelV v u/\Look X.env s.heap m x u
 cell:∀ x c,X.env.cells.lookup x=some c->∃ v,s.heap.IsCell c v
 free:H X.env.locals=none
 dU:∀ x c,X.env.cells.lookup x=some c->H c=none
 pin:∀ p ∈ X.pn ++ pins,s.heap.get? p.1=some p.2/\H p.1=none/\p.1 ≠ X.env.locals/\p.1 ∉ X.fs/\∀ v,p.2.data ≠ .cell v
 hok:HOk X.prog X.w H s.heap
 len:σ.length=X.N.length
section
variable {X:Cx} {pins:List (Addr × Obj)} {σ:List (Option V)} {H H':Hp} {s:Shared} {h':Heap}
theorem Cx.Ok.R7 (ok:X.Ok) {b:Addr} {o:Obj} (e:X.base.get? b=some o):b ∉ X.fs:=fun hb=>by
 have:=(ok.gQ.mem hb).1
 rw [e] at this;cases this
theorem Inv.bs (I:Inv X pins σ H s):∀ b o,X.base.get? b=some o->s.heap.get? b=some o/\H b=none:=fun b o e=>
 ⟨I.base.keep b o (I.ok.bs b o e).1 (I.ok.bs b o e).2 (I.ok.R7 e) (I.ok.mD b o e),I.base.free b o (I.ok.bs b o e).1 (I.ok.bs b o e).2 (I.ok.mD b o e)⟩
theorem Inv.bk (I:Inv X pins σ H s):∀ b o,X.base.get? b=some o->s.heap.get? b=some o:=fun b o e=>(I.bs b o e).1
theorem Inv.mod (I:Inv X pins σ H s):Mod X.K X.mg X.base:=I.ok.mod
theorem Inv.kIn (I:Inv X pins σ H s):X.K.In s.heap:=I.ok.mod.kin.keeps I.bk
theorem Inv.nolimit (I:Inv X pins σ H s):s.heap.NoLimit:=I.ok.mod.nolimit.keeps I.bk
theorem Inv.fr (I:Inv X pins σ H s):∃ m,Fr X.base X.env.locals s.heap m:=
 let ⟨m,hn,_⟩:=I.loc
 ⟨m,hn,I.bk,Nat.le_trans I.ok.bsz I.ok.above⟩
theorem Inv.lt (I:Inv X pins σ H s):X.env.locals < s.heap.objs.size:=let ⟨_,hn,_⟩:=I.loc;hn.lt
theorem Inv.sz (I:Inv X pins σ H s):X.s₀.heap.objs.size <= s.heap.objs.size:=Nat.le_trans I.ok.above (Nat.le_of_lt I.lt)
theorem Inv.MJ (I:Inv X pins σ H s) {a:Addr} (h:s.heap.objs.size <= a):a ∉ X.fs:=fun hb=>by
 obtain ⟨_,o,ho,_⟩:=I.ok.gQ.mem hb
 exact absurd (Nat.lt_of_lt_of_le (Heap.lt_size ho) (Nat.le_trans I.sz h)) (Nat.lt_irrefl _)
theorem Inv.cne (I:Inv X pins σ H s):∀ x c,X.env.cells.lookup x=some c->c ≠ X.env.locals:=fun x c e z=>by
 obtain ⟨v,o,ho,hd⟩:=I.cell x c e
 obtain ⟨m,⟨o',es,ep,ho',hd',_⟩,_⟩:=I.loc
 rw [z,ho'] at ho;cases ho;rw [hd'] at hd;cases hd
theorem Inv.gQ (I:Inv X pins σ H s):s.heap.FunFrames X.base X.outer:=by
 have all:∀ (l:List Env),(∀ b ∈ frs l,b ∈ X.fs)->X.s₀.heap.FunFrames X.base l->s.heap.FunFrames X.base l:=by
  intro l
  induction l with
  | nil=>intro _ _;trivial
  | cons env r ih=>
    intro hs hl
    obtain ⟨hk,⟨L,o,hf,hn,ho,hd⟩,hr⟩:=hl
    have hL:L ∈ X.fs:=hs L (by unfold frs;rw [List.filterMap_cons,hf];exact List.mem_cons_self)
    obtain ⟨sl,e⟩:=I.base.slot L o ho (I.ok.frf L hL) hL fun z=>I.ok.o_ L z hL
    exact ⟨hk,⟨L,_,hf,hn,e,hd⟩,ih (fun b hb=>hs b (by unfold frs;rw [List.filterMap_cons,hf];exact List.mem_cons_of_mem _ hb)) hr⟩
 exact all X.outer (fun _ hb=>hb) I.ok.gQ
theorem Inv.stack (I:Inv X pins σ H s):s.heap.FunFrames X.base X.stack:=by
 rcases I.ok.stk with e | ⟨e,hf⟩
 · rw [e];exact I.gQ
 · rw [e]
   obtain ⟨m,hn,_⟩:=I.loc
   refine .cons (by rw [I.ok.kind];decide) hf hn ?_ I.gQ
   exact Heap.get?_none_of_le (Nat.le_trans I.ok.bsz I.ok.above)
theorem Inv.pq (I:Inv X pins σ H s):∀ b ∈ frs X.stack,b ∈ X.env.locals::X.fs:=fun b hb=>by
 rcases I.ok.stk with e | ⟨e,hf⟩
 · rw [e] at hb;exact List.mem_cons_of_mem _ hb
 · rw [e] at hb
   unfold frs at hb
   rw [List.filterMap_cons,hf] at hb
   exact hb
theorem Inv.ji (I:Inv X pins σ H s):∀ b ∈ frs X.stack,H b=none:=fun b hb=>by
 rcases List.mem_cons.mp (I.pq b hb) with e | hb
 · rw [e];exact I.free
 · obtain ⟨_,o,ho,_⟩:=I.ok.gQ.mem hb
   exact I.base.free b o ho (I.ok.frf b hb) fun z=>I.ok.o_ b z hb
theorem Inv.step {g':Array GenState} {t':Nat} {d':Drawn} {ch:List Addr} (I:Inv X pins σ H s)
 (hch:∀ b ∈ ch,(b ∈ X.ex\/X.s₀.heap.objs.size <= b)/\b ≠ X.env.locals/\(∀ x c,X.env.cells.lookup x=some c->c ≠ b)/\∀ p ∈ X.pn ++ pins,p.1 ≠ b)
 (keep:∀ b o,b ≠ X.env.locals->b ∉ X.fs->b ∉ ch->s.heap.get? b=some o->H b=none->h'.get? b=some o)
 (slot:∀ b o,b ≠ X.env.locals->b ∈ X.fs->b ∉ ch->s.heap.get? b=some o->H b=none->∃ sl,h'.get? b=some { o with slots:=sl }) (free:∀ b o,b ∉ ch->s.heap.get? b=some o->H b=none->H' b=none)
 (there:∀ b o,b ∉ ch->s.heap.get? b=some o->∃ o',h'.get? b=some o')
 (tups:∀ b xs,H b=some (.tup xs)->H' b=some (.tup xs)) (gO:∀ b o u,H b=some (.frz o u)->H' b=some (.frz o u)) (gP:∀ b ps,H b=some (.tbl ps)->∃ more,H' b=some (.tbl (ps ++ more)))
 (ns:∀ m,s.heap.Ns X.env.locals m->h'.Ns X.env.locals m) (hok:HOk X.prog X.w H' h') (hg:AllBare g'):
 Inv X pins σ H' { s with heap:=h',gens:=g',drawn:=d',toks:=t' }:=by
 have neL:∀ b o,X.s₀.heap.get? b=some o->b ≠ X.env.locals:=fun b o e=>Nat.ne_of_lt (Nat.lt_of_lt_of_le (Heap.lt_size e) I.ok.above)
 have neC:∀ b o,X.s₀.heap.get? b=some o->b ∉ X.ex->b ∉ ch:=fun b o e hx hb=>by
  rcases (hch b hb).1 with z | z
  · exact hx z
  · exact absurd (Nat.lt_of_lt_of_le (Heap.lt_size e) z) (Nat.lt_irrefl _)
 have cellK:∀ x c,X.env.cells.lookup x=some c->∀ v,s.heap.IsCell c v->h'.IsCell c v:=fun x c e v ⟨o,ho,hd⟩=>by
  have nch:c ∉ ch:=fun z=>(hch c z).2.2.1 x c e rfl
  by_cases hc:c ∈ X.fs
  · obtain ⟨sl,q⟩:=slot c o (I.cne x c e) hc nch ho (I.dU x c e)
    exact ⟨_,q,hd⟩
  · exact ⟨o,keep c o (I.cne x c e) hc nch ho (I.dU x c e),hd⟩
 refine ⟨I.ok,I.os,hg,⟨fun b o e n hb hx=>?_,fun b o e n hb hx=>?_,fun b o e n hx=>?_,fun b o e hx=>?_,fun b xs e=>tups b xs (I.base.tups b xs e),fun b o xs e=>gO b o xs (I.base.gO b o xs e),fun b ps e=>?_⟩,?_,fun x c e=>?_,?_,fun x c e=>?_,fun p hp=>?_,hok,I.len⟩
 · exact keep b o (neL b o e) hb (neC b o e hx) (I.base.keep b o e n hb hx) (I.base.free b o e n hx)
 · obtain ⟨sl,e1⟩:=I.base.slot b o e n hb hx
   obtain ⟨sl',e2⟩:=slot b _ (neL b o e) hb (neC b o e hx) e1 (I.base.free b o e n hx)
   exact ⟨sl',e2⟩
 · obtain ⟨o',e1⟩:=I.base.there b o e hx
   exact free b o' (neC b o e hx) e1 (I.base.free b o e n hx)
 · obtain ⟨o',e1⟩:=I.base.there b o e hx
   exact there b o' (neC b o e hx) e1
 · obtain ⟨m1,e1⟩:=I.base.gP b ps e
   obtain ⟨m2,e2⟩:=gP b _ e1
   exact ⟨m1 ++ m2,by rw [e2,Array.append_assoc]⟩
 · obtain ⟨m,hn,hl⟩:=I.loc
   refine ⟨m,ns m hn,fun i x v e1 e2 e3=>?_⟩
   obtain ⟨u,r,l⟩:=hl i x v e1 e2 e3
   refine ⟨u,r,?_⟩
   rcases l with l | ⟨k,c,e,z⟩
   · exact .inl l
   · exact .inr ⟨k,c,e,cellK x c e _ z⟩
 · obtain ⟨v,z⟩:=I.cell x c e
   exact ⟨v,cellK x c e v z⟩
 · obtain ⟨m,⟨o,_,_,ho,_⟩,_⟩:=I.loc
   exact free _ o (fun z=>(hch _ z).2.1 rfl) ho I.free
 · obtain ⟨v,o,ho,hd⟩:=I.cell x c e
   exact free c o (fun z=>(hch c z).2.2.1 x c e rfl) ho (I.dU x c e)
 · obtain ⟨e,n,ne,nf,d⟩:=I.pin p hp
   have nch:p.1 ∉ ch:=fun z=>(hch p.1 z).2.2.2 p hp rfl
   exact ⟨keep p.1 p.2 ne nf nch e n,free p.1 p.2 nch e n,ne,nf,d⟩
theorem Inv.un {t':Nat} (I:Inv X pins σ H s) (u:Un X.fs [] H H' s.heap h') (hok:HOk X.prog X.w H' h'):Inv X pins σ H' { s with heap:=h',toks:=t' }:=by
 obtain ⟨m,⟨o,es,ep,ho,r⟩,_⟩:=id I.loc
 obtain ⟨sl,hL⟩:=u.any ho I.free (by simp)
 exact I.step (g':=s.gens) (d':=s.drawn) (ch:=[]) (fun _ z=>nomatch z) (fun b o _ hb _ e n=>u.keep b o e n hb (by simp)) (fun b o _ hb _ e n=>u.slot b o e n hb (by simp)) (fun b o _ e n=>u.free b o e n (by simp)) (fun b o _ e=>u.there b o e (by simp)) u.tups u.gO u.gP (fun m' hm=>by
  obtain ⟨o',es',ep',ho',r'⟩:=hm
  rw [ho] at ho';cases ho'
  exact ⟨_,es',ep',hL,r'⟩) hok I.bare
theorem Inv.call {g':Array GenState} {t':Nat} {d':Drawn} {ch:List Addr} (I:Inv X pins σ H s) (u:Un (frs X.stack) ch H H' s.heap h') (hok:HOk X.prog X.w H' h') (hg:AllBare g')
 (hch:∀ b ∈ ch,(b ∈ X.ex\/X.s₀.heap.objs.size <= b)/\b ≠ X.env.locals/\(∀ x c,X.env.cells.lookup x=some c->c ≠ b)/\∀ p ∈ X.pn ++ pins,p.1 ≠ b):
 Inv X pins σ H' { s with heap:=h',gens:=g',drawn:=d',toks:=t' }:=by
 obtain ⟨m,⟨o,es,ep,ho,r⟩,_⟩:=id I.loc
 obtain ⟨sl,hL⟩:=u.any ho I.free fun z=>(hch _ z).2.1 rfl
 exact I.step (ch:=ch) hch (fun b o hL hb hc e n=>u.keep b o e n (fun z=>(List.mem_cons.mp (I.pq b z)).elim hL hb) hc) (fun b o _ _ hc e n=>u.any e n hc) (fun b o hc e n=>u.free b o e n hc) (fun b o hc e=>u.there b o e hc) u.tups u.gO u.gP (fun m' hm=>by
  obtain ⟨o',es',ep',ho',r'⟩:=hm
  rw [ho] at ho';cases ho'
  exact ⟨_,es',ep',hL,r'⟩) hok hg
theorem Inv.turned {t':Nat} {it:Addr} (I:Inv X pins σ H s) (k:∀ b o,b ≠ it->s.heap.get? b=some o->h'.get? b=some o) (hn:H it=none) (hL:it ≠ X.env.locals)
 (h1:it ∈ X.ex\/X.s₀.heap.objs.size <= it) (h2:∀ x c,X.env.cells.lookup x=some c->c ≠ it) (h3:∀ p ∈ X.pn ++ pins,p.1 ≠ it):Inv X pins σ H { s with heap:=h',toks:=t' }:=by
 have nit:∀ b u,H b=some u->b ≠ it:=fun b u e z=>by rw [z,hn] at e;cases e
 refine I.step (g':=s.gens) (d':=s.drawn) (ch:=[it]) (fun b hb=>?_) (fun b o _ _ hc e _=>k b o (fun z=>hc (by simp [z])) e) (fun b o _ _ hc e _=>⟨o.slots,k b o (fun z=>hc (by simp [z])) e⟩) (fun _ _ _ _ n=>n)
  (fun b o hc e=>⟨o,k b o (fun z=>hc (by simp [z])) e⟩) (fun _ _ e=>e) (fun _ _ _ e=>e) (fun b ps e=>⟨#[],by rw [e];simp⟩) (fun m hm=>?_) (fun b u e=>?_) I.bare
 · have e:b=it:=by simpa using hb
   subst e
   exact ⟨h1,hL,h2,h3⟩
 · obtain ⟨o,es,ep,ho,r⟩:=hm
   exact ⟨o,es,ep,k _ o (Ne.symm hL) ho,r⟩
 · refine (I.hok b u e).stay (fun c v hc q=>k c v ?_ q) (fun _ q=>q) fun _ _ q=>q
   rcases hc with z | z
   · rw [z];exact nit b u e
   · exact nit c _ z
theorem Inv.tok (I:Inv X pins σ H s) (t:Nat):Inv X pins σ H { s with toks:=t }:=I.un (h':=s.heap) (t':=t) Un.refl I.hok
theorem Inv.kept {t':Nat} (I:Inv X pins σ H s) (k:∀ b u,s.heap.get? b=some u->h'.get? b=some u):Inv X pins σ H { s with heap:=h',toks:=t' }:=I.un (Un.kept k) (I.hok.kept k)
theorem Inv.laid {a:Addr} {o:HO} {t':Nat} (I:Inv X pins σ H s) (k:∀ b u,s.heap.get? b=some u->h'.get? b=some u) (hp:s.heap.objs.size <= a) (new:bw X.prog X.w (upd H a o) h' a o):
 Inv X pins σ (upd H a o) { s with heap:=h',toks:=t' }:=I.un (Un.laid k hp (I.hok.fresh hp)) (I.hok.laid k hp new)
theorem Inv.write {x e:Addr} {o:HO} {t':Nat} (I:Inv X pins σ H s) (mu:Mut (H x)) (he:e=x\/H e=some (.own x)) (k:∀ b u,b ≠ e->s.heap.get? b=some u->h'.get? b=some u) (heo:∃ u,h'.get? e=some u)
 (new:bw X.prog X.w (upd H x o) h' x o):Inv X pins σ (upd H x o) { s with heap:=h',toks:=t' }:=I.un (Un.write mu he k heo) (I.hok.write mu he k heo new)
theorem Inv.weak {σ':List (Option V)} (I:Inv X pins σ H s) (hl:σ'.length=σ.length) (w:∀ (i:Nat) v,σ'[i]? =some (some v)->σ[i]? =some (some v)):Inv X pins σ' H s:=
 ⟨I.ok,I.os,I.bare,I.base,let ⟨m,hn,hl'⟩:=I.loc;⟨m,hn,fun i x v e1 e2 e3=>hl' i x v e1 (w i v e2) e3⟩,I.cell,I.free,I.dU,I.pin,I.hok,hl.trans I.len⟩
theorem Inv.uo {rT:List (Addr × Obj)} (I:Inv X pins σ H s) (h:∀ p ∈ rT,s.heap.get? p.1=some p.2/\H p.1=none/\p.1 ≠ X.env.locals/\p.1 ∉ X.fs/\∀ v,p.2.data ≠ .cell v):Inv X rT σ H s:=
 ⟨I.ok,I.os,I.bare,I.base,I.loc,I.cell,I.free,I.dU,fun p hp=>(List.mem_append.mp hp).elim (fun z=>I.pin p (List.mem_append_left _ z)) (h p),I.hok,I.len⟩
theorem wV {N:List Str} (hN:N.Nodup) {i j:Nat} {x:Str} (a:N[i]? =some x) (b:N[j]? =some x):i=j:=by
 obtain ⟨h1,e1⟩:=List.getElem?_eq_some_iff.mp a
 obtain ⟨h2,e2⟩:=List.getElem?_eq_some_iff.mp b
 exact (List.getElem_inj hN).mp (e1.trans e2.symm)
theorem Ex {M:Model} {A:Around} {E:Value->Shared->Prop} {i:Nat} {x:Str} {v:V} {u:Value} {Q:Unit->Shared->Prop} (I:Inv X pins σ H s) (hN:X.N.Nodup) (hi:X.N[i]? =some x) (hx:Loc X.env.scope x) (r:RelV v u)
 (h:∀ s',Inv X pins (σ.set i (some v)) H s'->(∃ a,Heap.SameBut a s.heap s'.heap/\(a=X.env.locals\/X.env.cells.lookup x=some a))->Q () s') (hf:X.fn x=true\/X.env.scope.names.lookup x=some .local:=by first | exact .inl rfl | exact .inr rfl | assumption):wpAny M A (storeName X.env x u) Q E s:=by
 obtain ⟨m,hn,hl⟩:=id I.loc
 have hcls:(X.env.scope.kind == .class || (X.env.scope.kind == .module && X.env.locals != X.env.globals))=false:=by rw [I.ok.kind];rfl
 have MN:i < σ.length:=by rw [I.len];exact (List.getElem?_eq_some_iff.mp hi).1
 have cne:=I.cne
 have tracked:∀ {a:Addr} {h':Heap},(∃ o,s.heap.get? a=some o/\H a=none)->Heap.SameBut a s.heap h'->HOk X.prog X.w H h':=fun {a h'} ha hs b ob e=>by
  obtain ⟨_,_,hfree⟩:=ha
  refine (I.hok b ob e).stay (fun c w' hc q=>(hs.2 c ?_).trans q) (fun _ q=>q) fun _ _ q=>q
  rintro rfl
  rcases hc with rfl | hc
  · rw [hfree] at e;cases e
  · rw [hfree] at hc;cases hc
 rcases hx with hk | hk
 · refine wpAny_storeName_local hk hn (fun h' hn' hs=>?_) hcls
   obtain ⟨oL,_,_,hoL,_⟩:=id hn
   refine h _ ⟨I.ok,I.os,I.bare,⟨fun b o e n hb hx=>?_,fun b o e n hb hx=>?_,I.base.free,fun b o e hx=>?_,I.base.tups,I.base.gO,I.base.gP⟩,⟨_,hn',fun j y v' e1 e2 e3=>?_⟩,fun y c e=>?_,I.free,I.dU,fun p hp=>?_,tracked ⟨oL,hoL,I.free⟩ hs,by simpa using I.len⟩ ⟨_,hs,.inl rfl⟩
   · exact (hs.2 b (Nat.ne_of_lt (Nat.lt_of_lt_of_le (Heap.lt_size e) I.ok.above))).trans (I.base.keep b o e n hb hx)
   · obtain ⟨sl,e1⟩:=I.base.slot b o e n hb hx
     exact ⟨sl,(hs.2 b (Nat.ne_of_lt (Nat.lt_of_lt_of_le (Heap.lt_size e) I.ok.above))).trans e1⟩
   · obtain ⟨o',e1⟩:=I.base.there b o e hx
     exact ⟨o',(hs.2 b (Nat.ne_of_lt (Nat.lt_of_lt_of_le (Heap.lt_size e) I.ok.above))).trans e1⟩
   · by_cases hj:j=i
     · subst hj
       rw [hi] at e1;cases e1
       rw [List.getElem?_set_self MN] at e2
       cases e2
       exact ⟨u,r,.inl ⟨hk,by simp⟩⟩
     · rw [List.getElem?_set_ne (Ne.symm hj)] at e2
       obtain ⟨u',r',q⟩:=hl j y v' e1 e2 e3
       refine ⟨u',r',?_⟩
       rcases q with ⟨k,e⟩ | ⟨k,c,e,z⟩
       · refine .inl ⟨k,?_⟩
         have:y ≠ x:=fun e=>hj (wV hN e1 (e ▸ hi))
         simp [this,e]
       · exact .inr ⟨k,c,e,z.sameBut hs (cne y c e)⟩
   · obtain ⟨w',z⟩:=I.cell y c e
     exact ⟨w',z.sameBut hs (cne y c e)⟩
   · obtain ⟨e,n,ne,nf,d⟩:=I.pin p hp
     exact ⟨(hs.2 p.1 ne).trans e,n,ne,nf,d⟩
 · have hfn:X.fn x=true:=by
    rcases hf with z | z
    · exact z
    · rw [z] at hk;cases hk
   obtain ⟨c,hc⟩:=I.ok.has x (.inl hk)
   obtain ⟨w',z⟩:=I.cell x c hc
   refine wpAny_storeName_cell I.ok.kind hk hc z (fun h' hc' hs=>?_)
   obtain ⟨oc,hoc,R8⟩:=id z
   refine h { s with heap:=h' } ⟨I.ok,I.os,I.bare,⟨fun b o e n hb hx=>?_,fun b o e n hb hx=>?_,I.base.free,fun b o e hx=>?_,I.base.tups,I.base.gO,I.base.gP⟩,⟨m,hn.sameBut hs (Ne.symm (cne x c hc)),fun j y v' e1 e2 e3=>?_⟩,fun y c' e=>?_,I.free,I.dU,fun p hp=>?_,tracked ⟨oc,hoc,I.dU x c hc⟩ hs,by simpa using I.len⟩ ⟨c,hs,.inr hc⟩
   · exact (hs.2 b (Nat.ne_of_lt (Nat.lt_of_lt_of_le (Heap.lt_size e) (I.ok.cab x c hfn hc)))).trans (I.base.keep b o e n hb hx)
   · obtain ⟨sl,e1⟩:=I.base.slot b o e n hb hx
     exact ⟨sl,(hs.2 b (Nat.ne_of_lt (Nat.lt_of_lt_of_le (Heap.lt_size e) (I.ok.cab x c hfn hc)))).trans e1⟩
   · obtain ⟨o',e1⟩:=I.base.there b o e hx
     exact ⟨o',(hs.2 b (Nat.ne_of_lt (Nat.lt_of_lt_of_le (Heap.lt_size e) (I.ok.cab x c hfn hc)))).trans e1⟩
   · by_cases hj:j=i
     · subst hj
       rw [hi] at e1;cases e1
       rw [List.getElem?_set_self MN] at e2
       cases e2
       exact ⟨u,r,.inr ⟨.inl hk,c,hc,hc'⟩⟩
     · rw [List.getElem?_set_ne (Ne.symm hj)] at e2
       obtain ⟨u',r',q⟩:=hl j y v' e1 e2 e3
       refine ⟨u',r',?_⟩
       rcases q with q | ⟨k,c',e,z'⟩
       · exact .inl q
       · refine .inr ⟨k,c',e,z'.sameBut hs ?_⟩
         rintro rfl
         exact hj (wV hN e1 (I.ok.inj _ _ _ e hc ▸ hi))
   · by_cases hcc:c'=c
     · subst hcc;exact ⟨_,hc'⟩
     · obtain ⟨w2,z2⟩:=I.cell y c' e
       exact ⟨w2,z2.sameBut hs hcc⟩
   · obtain ⟨e,n,ne,nf,d⟩:=I.pin p hp
     refine ⟨(hs.2 p.1 ?_).trans e,n,ne,nf,d⟩
     intro q
     rw [q,hoc] at e
     have q':oc=p.2:=Option.some.inj e
     exact d w' (by rw [<- q'];exact R8)
theorem nU {M:Model} {A:Around} {E:Value->Shared->Prop} {i:Nat} {x:Str} {v:V} {u:Value} {Q:Unit->Shared->Prop} (I:Inv X pins σ H s) (hN:X.N.Nodup) (hi:X.N[i]? =some x) (hx:Loc X.env.scope x) (r:RelV v u)
 (h:∀ s',Inv X pins (σ.set i (some v)) H s'->Q () s') (hf:X.fn x=true\/X.env.scope.names.lookup x=some .local:=by first | exact .inl rfl | exact .inr rfl | assumption):wpAny M A (storeName X.env x u) Q E s:=
 Ex I hN hi hx r (fun s' I' _=>h s' I') hf
theorem Inv.call' {s':Shared} {ch:List Addr} (I:Inv X pins σ H s) (ho:s'.os=s.os) (u:Un (frs X.stack) ch H H' s.heap s'.heap) (hok:HOk X.prog X.w H' s'.heap) (hg:AllBare s'.gens)
 (hch:∀ b ∈ ch,(b ∈ X.ex\/X.s₀.heap.objs.size <= b)/\b ≠ X.env.locals/\(∀ x c,X.env.cells.lookup x=some c->c ≠ b)/\∀ p ∈ X.pn ++ pins,p.1 ≠ b):Inv X pins σ H' s':=by
 obtain ⟨h',g',d',t',o'⟩:=s'
 have e:o'=s.os:=ho
 subst e
 exact I.call (g':=g') (t':=t') (d':=d') u hok hg hch
end
abbrev XK:=Value->Option Addr->Hp->Prop
abbrev St:=List (Option V)
abbrev VK:=V->Hp->Prop
abbrev TE:=St->Hp->VK->Prop
abbrev TT:=St->Hp->(Bool->Hp->Prop)->Prop
abbrev TA:=St->Hp->(List V->Hp->Prop)->Prop
structure Ends where
 nx:St->Hp->Prop
 rt:VK
 bk:St->Hp->Prop:=fun _ _=>False
 ct:St->Hp->Prop:=fun _ _=>False
abbrev TS:=Ends->St->Hp->Prop
def EP (X:Cx) (pins:List (Addr × Obj)) (σ:St) (Q:VK) (u:Value) (s':Shared):Prop:=∃ v H',Inv X pins σ H' s'/\RelV v u/\Q v H'
def TP (X:Cx) (pins:List (Addr × Obj)) (σ:St) (Q:Bool->Hp->Prop) (b:Bool) (s':Shared):Prop:=∃ H',Inv X pins σ H' s'/\Q b H'
def AP (X:Cx) (pins:List (Addr × Obj)) (σ:St) (Q:List V->Hp->Prop) (us:List Value) (s':Shared):Prop:=∃ vs H',Inv X pins σ H' s'/\Vals vs us/\Q vs H'
def SP (X:Cx) (pins:List (Addr × Obj)) (D:Ends) (f:Flow) (s':Shared):Prop:=
 match f with
 | .next=>∃ σ' H',Inv X pins σ' H' s'/\D.nx σ' H'
 | .brk=>∃ σ' H',Inv X pins σ' H' s'/\D.bk σ' H'
 | .cont=>∃ σ' H',Inv X pins σ' H' s'/\D.ct σ' H'
 | .ret u=>∃ v σ' H',Inv X pins σ' H' s'/\RelV v u/\D.rt v H'
def PE (X:Cx) (e:Expr) (t:TE):Prop:=
 ∀ (pins:List (Addr × Obj)) (s:Shared) (σ:St) (H:Hp) (Q:VK),Inv X pins σ H s->t σ H Q->wpAny (model X.prog X.w) X.A (eval e X.env) (EP X pins σ Q) X.xe s
def PT (X:Cx) (e:Expr) (t:TT):Prop:=
 ∀ (pins:List (Addr × Obj)) (s:Shared) (σ:St) (H:Hp) (Q:Bool->Hp->Prop),Inv X pins σ H s->t σ H Q->wpAny (model X.prog X.w) X.A (isTrue e X.env (eval e X.env)) (TP X pins σ Q) X.xe s
def PW (X:Cx) (e:Expr) (t:TT):Prop:=
 ∀ (whole:Sem Value) (pins:List (Addr × Obj)) (s:Shared) (σ:St) (H:Hp) (Q:Bool->Hp->Prop),Inv X pins σ H s->t σ H Q->wpAny (model X.prog X.w) X.A (isTrue e X.env whole) (TP X pins σ Q) X.xe s
theorem PW.pt {X:Cx} {e:Expr} {t:TT} (h:PW X e t):PT X e t:=h _
def PA (X:Cx) (es:List Expr) (t:TA):Prop:=
 ∀ (pos:Pos) (pins:List (Addr × Obj)) (s:Shared) (σ:St) (H:Hp) (Q:List V->Hp->Prop),Inv X pins σ H s->t σ H Q->wpAny (model X.prog X.w) X.A (spliced (backTo pos (starEach es X.env))) (AP X pins σ Q) X.xe s
def PS (X:Cx) (st:Stmt) (t:TS):Prop:=
 ∀ (pins:List (Addr × Obj)) (s:Shared) (σ:St) (H:Hp) (D:Ends),Inv X pins σ H s->t D σ H->wpAny (model X.prog X.w) X.A (exec st X.env) (SP X pins D) X.xe s
def PSs (X:Cx) (st:List Stmt) (t:TS):Prop:=
 ∀ (pins:List (Addr × Obj)) (s:Shared) (σ:St) (H:Hp) (D:Ends),Inv X pins σ H s->t D σ H->wpAny (model X.prog X.w) X.A (execs st X.env) (SP X pins D) X.xe s
theorem thn {α:Type} {t:Sem α} {Q Q':α->Shared->Prop} {M:Model} {A:Around} {E:Value->Shared->Prop} {s:Shared} (h:wpAny M A t Q E s) (hQ:∀ a s,Q a s->Q' a s):wpAny M A t Q' E s:=wpAny_mono h hQ fun _ _ x=>x
end L2
namespace L2
open PySem PySem.Spec PyProof.Rows
section
variable {X:Cx}
def MP (i:Nat):TE:=fun σ H Q=>∃ v,σ[i]? =some (some v)/\Q v H
def tC (v:V):TE:=fun _ H Q=>Q v H
theorem rW {i:Nat} {x:Str} {pos:Pos} (hN:X.N[i]? =some x) (hv:Vis X.env.scope x) (hd:(x == ("__debug__":Str))=false:=by decide) (hcd:(x == ("__classdict__":Str))=false:=by decide):PE X (.Name x pos) (MP i):=by
 intro pins s σ H Q I h
 obtain ⟨v,e,h⟩:=h
 obtain ⟨m,hn,hl⟩:=I.loc
 obtain ⟨u,r,l⟩:=hl i x v hN e hv
 have fin:EP X pins σ Q u s:=⟨v,H,I,r,h⟩
 rcases l with ⟨hk,hm⟩ | ⟨hk,c,hc,hcell⟩
 · exact wpAny_Name (wpAny_loadName_local I.ok.kind hk hn hm fin) hd
 · rcases hk with hk | hk
   · exact wpAny_Name (wpAny_loadName_cell I.ok.kind hk hc hcell fin) hd
   · exact wpAny_Name (wpAny_loadName_free I.ok.kind hk hc hcell fin hcd) hd
theorem bU {i j pos}:PE X (.Constant (.int i) j pos) (tC (.int i)):=fun _ _ _ H _ I h=>wpAny_Constant_int ⟨.int i,H,I.tok _,⟨_,rfl⟩,h⟩
theorem JF {b j pos}:PE X (.Constant (.bool b) j pos) (tC (.bl b)):=fun _ _ _ H _ I h=>Constant_bool ⟨.bl b,H,I,rfl,h⟩
theorem rY {x j pos}:PE X (.Constant (.str x) j pos) (tC (.str x)):=fun _ _ _ H _ I h=>Calls.Constant_str ⟨.str x,H,I.tok _,⟨_,rfl⟩,h⟩
def Gl (X:Cx) (x:Str):Prop:=X.env.kindOf x=some .globalImplicit
theorem j_ {E:Value->Shared->Prop} {pins:List (Addr × Obj)} {s:Shared} {σ:St} {H:Hp} {x:Str} {u:Value} {pos:Pos} {Q:Value->Shared->Prop} (I:Inv X pins σ H s) (hg:Gl X x) (hm:X.mg x=some u) (h:Q u s)
 (hd:(x == ("__debug__":Str))=false:=by decide):wpAny (model X.prog X.w) X.A (eval (.Name x pos) X.env) Q E s:=
 Calls.Name_function_global I.ok.kind hg (Calls.loadGlobal_global (by rw [I.ok.glob];exact I.mod.glob.keeps I.bk) hm h) hd
theorem m8 {E:Value->Shared->Prop} {pins:List (Addr × Obj)} {s:Shared} {σ:St} {H:Hp} {x:Str} {u:Value} {pos:Pos} {Q:Value->Shared->Prop} (I:Inv X pins σ H s) (hg:Gl X x) (hm:X.mg x=none) (hv:bootBuiltins x=some u) (h:Q u s)
 (hn:x ≠ "__name__":=by decide) (hd:(x == ("__debug__":Str))=false:=by decide):wpAny (model X.prog X.w) X.A (eval (.Name x pos) X.env) Q E s:=by
 obtain ⟨mb,h1,h2⟩:=I.mod.blt
 exact Calls.Name_function_global I.ok.kind hg (Calls.loadGlobal_builtin (by rw [I.ok.glob];exact I.mod.glob.keeps I.bk) hm (by rw [I.ok.blt];exact h1.keeps I.bk) ((h2 x hn).trans hv) h) hd
theorem Ar {x:Str} {v:V} {u:Value} {pos:Pos} (hg:Gl X x) (hm:X.mg x=some u) (r:RelV v u) (hd:(x == ("__debug__":Str))=false:=by decide):PE X (.Name x pos) (tC v):=
 fun _ _ _ H _ I h=>j_ I hg hm ⟨v,H,I,r,h⟩ hd
theorem eE {x:Str} {v:V} {u:Value} {pos:Pos} (hg:Gl X x) (hm:X.mg x=none) (hv:bootBuiltins x=some u) (r:RelV v u) (hn:x ≠ "__name__":=by decide) (hd:(x == ("__debug__":Str))=false:=by decide):PE X (.Name x pos) (tC v):=
 fun _ _ _ H _ I h=>m8 I hg hm hv ⟨v,H,I,r,h⟩ hn hd
variable {a b:Expr} {ta tb:TE} {pos:Pos}
def PC (X:Cx) (op:CmpOp) (a b:Expr) (t:TE):Prop:=
 ∀ (pins:List (Addr × Obj)) (s:Shared) (σ:St) (H:Hp) (Q:VK),Inv X pins σ H s->t σ H Q->
   wpAny (model X.prog X.w) X.A (eval a X.env) (fun v s₁=>wpAny (model X.prog X.w) X.A (eval b X.env) (fun u s₂=>wpAny (model X.prog X.w) X.A (compareOp op v u) (EP X pins σ Q) X.xe s₂) X.xe s₁) X.xe s
theorem wW (b:Expr) {op:CmpOp} (h:op ≠ .In) (h2:op ≠ .NotIn):behindInMarks op b=false:=by
 have e1:(op == CmpOp.In)=false:=by cases op <;> first | rfl | exact absurd rfl h
 have e2:(op == CmpOp.NotIn)=false:=by cases op <;> first | rfl | exact absurd rfl h2
 cases b <;> simp [behindInMarks,e1,e2]
def R9 (ta:TE):TE:=fun σ H Q=>ta σ H fun x H1=>Q (.bl (decide (x= .non))) H1
theorem RelV.Hz {x:V} {v:Value} (r:RelV x v):(v == Value.none)=decide (x= .non):=by
 cases x with
 | non=>cases r;rfl
 | bl _=>cases r;rfl
 | int _=>obtain ⟨t,rfl⟩:=r;rfl
 | str _=>obtain ⟨t,rfl⟩:=r;rfl
 | byt _=>obtain ⟨t,rfl⟩:=r;rfl
 | flt _=>obtain ⟨t,rfl⟩:=r;rfl
 | ref _=>cases r;rfl
 | ty _=>cases r;rfl
theorem Ey {j pos'} (ha:PE X a ta):PC X .Is a (.Constant .none j pos') (R9 ta):=by
 intro pins s σ H Q I h
 refine thn (ha pins s σ H _ I h) fun v s1 ⟨x,H1,I1,r1,q1⟩=>?_
 exact Constant_none (is_none_gen ⟨.bl _,H1,I1,by rw [r1.Hz];rfl,q1⟩)
def tB (t:TE):TT:=fun σ H Q=>t σ H fun x H1=>∃ c,x= .bl c/\Q c H1
theorem MT {op:CmpOp} {t:TE} (h:PC X op a b t) (h1:behindInMarks op b=false:=by first | exact wW _ (by decide) (by decide) | rfl):PE X (.Compare a [op] [b] pos) t:=fun pins s σ H Q I hw=>wpAny_Compare1 (h pins s σ H Q I hw) h1
theorem M3 {op:CmpOp} {t:TE} (h:PC X op a b t) (h1:behindInMarks op b=false:=by first | exact wW _ (by decide) (by decide) | rfl):PT X (.Compare a [op] [b] pos) (tB t):=by
 intro pins s σ H Q I hw
 refine wpAny_isTrue_Compare1 (thn (h pins s σ H _ I hw) fun v s1 h1=>thn h1 fun u s2 h2=>thn h2 fun c s3 ⟨x,H1,I1,r1,q1⟩=>?_) h1
 obtain ⟨d,rfl,q⟩:=q1
 cases r1
 exact wpAny_truthy_bool ⟨H1,I1,q⟩
theorem kW {e:Expr} {t:TE} (h:PE X e t) (he:∀ whole,isTrue e X.env whole=(do let v <- whole;standAt e.pos;holding [v] (truthy v)):=by intro _;rfl):PT X e (tB t):=by
 intro pins s σ H Q I hw
 refine isTrue_plain (thn (h pins s σ H _ I hw) fun v s1 ⟨x,H1,I1,r1,q1⟩=>?_) (he _)
 obtain ⟨d,rfl,q⟩:=q1
 cases r1
 exact wpAny_truthy_bool ⟨H1,I1,q⟩
variable {tA tB':TT} {rest:List Expr}
def R_ (t u:TT):TT:=fun σ H Q=>t σ H fun c H1=>if c=true then u σ H1 Q else Q false H1
def tOr (t u:TT):TT:=fun σ H Q=>t σ H fun c H1=>if c=true then Q true H1 else u σ H1 Q
def Sd (t:TT):TT:=fun σ H Q=>t σ H fun c H1=>Q (!c) H1
theorem pw_and1 (ha:PT X a tA):PW X (.BoolOp .And [a] pos) tA:=by
 intro wh pins s σ H Q I h
 refine isTrue_and (thn (ha pins s σ H Q I h) fun c s1 e=>?_)
 cases c with
 | true=>exact isTrue_and_nil e
 | false=>exact e
theorem pw_or1 (ha:PT X a tA):PW X (.BoolOp .Or [a] pos) tA:=by
 intro wh pins s σ H Q I h
 refine isTrue_or (thn (ha pins s σ H Q I h) fun c s1 e=>?_)
 cases c with
 | false=>exact isTrue_or_nil e
 | true=>exact e
theorem pw_and (ha:PT X a tA) (hb:PW X (.BoolOp .And (b::rest) pos) tB'):PW X (.BoolOp .And (a::b::rest) pos) (R_ tA tB'):=by
 intro wh pins s σ H Q I h
 refine isTrue_and (thn (ha pins s σ H _ I h) fun c s1 ⟨H1,I1,q1⟩=>?_)
 cases c with
 | true=>exact hb wh pins s1 σ H1 Q I1 q1
 | false=>exact ⟨H1,I1,q1⟩
theorem pw_or (ha:PT X a tA) (hb:PW X (.BoolOp .Or (b::rest) pos) tB'):PW X (.BoolOp .Or (a::b::rest) pos) (tOr tA tB'):=by
 intro wh pins s σ H Q I h
 refine isTrue_or (thn (ha pins s σ H _ I h) fun c s1 ⟨H1,I1,q1⟩=>?_)
 cases c with
 | true=>exact ⟨H1,I1,q1⟩
 | false=>exact hb wh pins s1 σ H1 Q I1 q1
theorem wY (ha:PT X a tA):PT X (.UnaryOp .Not a pos) (Sd tA):=by
 intro pins s σ H Q I h
 exact isTrue_not (ha pins s σ H (fun c H1=>Q (!c) H1) I h)
def JG (ta tb:TE):TE:=fun σ H Q=>ta σ H fun x H1=>∃ c,x= .bl c/\if c=true then tb σ H1 Q else Q (.bl false) H1
def Sh (ta tb:TE):TE:=fun σ H Q=>ta σ H fun x H1=>∃ c,x= .bl c/\if c=true then Q (.bl true) H1 else tb σ H1 Q
def QK (ta:TE):TE:=fun σ H Q=>ta σ H fun x H1=>∃ c,x= .bl c/\Q (.bl (!c)) H1
theorem m9 {op} {t:TE} (h:PE X a t):PE X (.BoolOp op [a] pos) t:=fun pins s σ H Q I hw=>BoolOp_one (h pins s σ H Q I hw)
theorem m_ (ha:PE X a ta) (hb:PE X (.BoolOp .And (b::rest) pos) tb):PE X (.BoolOp .And (a::b::rest) pos) (JG ta tb):=by
 intro pins s σ H Q I h
 refine BoolOp_and (thn (ha pins s σ H _ I h) fun v s1 ⟨x,H1,I1,r1,q1⟩=>?_)
 obtain ⟨c,rfl,q1⟩:=q1
 cases r1
 refine wpAny_truthy_bool ?_
 cases c with
 | true=>exact hb pins s1 σ H1 Q I1 q1
 | false=>exact ⟨.bl false,H1,I1,rfl,q1⟩
theorem M4 (ha:PE X a ta):PE X (.UnaryOp .Not a pos) (QK ta):=by
 intro pins s σ H Q I h
 refine UnaryOp_ (thn (ha pins s σ H _ I h) fun v s1 ⟨x,H1,I1,r1,q1⟩=>?_)
 obtain ⟨c,rfl,q1⟩:=q1
 cases r1
 exact not_of (wpAny_truthy_bool ⟨.bl (!c),H1,I1,rfl,q1⟩)
def tIf (t:TT) (ta tb:TE):TE:=fun σ H Q=>t σ H fun c H1=>if c=true then ta σ H1 Q else tb σ H1 Q
theorem HB {c:Expr} (hc:PT X c tA) (ha:PE X a ta) (hb:PE X b tb):PE X (.IfExp c a b pos) (tIf tA ta tb):=by
 intro pins s σ H Q I h
 refine wpAny_IfExp (thn (hc pins s σ H _ I h) fun d s1 ⟨H1,I1,q1⟩=>?_)
 cases d with
 | true=>exact ha pins s1 σ H1 Q I1 q1
 | false=>exact hb pins s1 σ H1 Q I1 q1
end
end L2
namespace L2
open PySem PySem.Spec PyProof.Rows
def SqL (K:PySem.W.Frag) (H:Hp) (a:Addr) (xs:List V):Prop:=
 Rd H a (.lst xs)\/
  ∃ (o:Obj) (its:Array Value) (n:Nat),K.lookup a=some o/\o.cls= .type "list"/\o.dict=none/\o.data= .seq its n/\its.size <= sizeLine/\Vals xs its.toList
def SqT (K:PySem.W.Frag) (H:Hp) (a:Addr) (xs:List V):Prop:=
 Rd H a (.tup xs)\/
  ∃ (o:Obj) (its:Array Value) (n:Nat),K.lookup a=some o/\o.cls= .type "tuple"/\o.data= .seq its n/\its.size <= sizeLine/\Vals xs its.toList
def Sq:Value->Option V
 | .none=>some .non
 | .bool b=>some (.bl b)
 | .int i _=>some (.int i)
 | .str x _=>some (.str x)
 | .bytes b _=>some (.byt b)
 | .float b _=>some (.flt b)
 | .ref a=>some (.ref a)
 | .type n=>some (.ty n)
 | _=>none
theorem RelV.abs {x:V} {u:Value} (r:RelV x u):Sq u=some x:=by
 cases x with
 | non=>cases r;rfl
 | bl _=>cases r;rfl
 | int _=>obtain ⟨t,rfl⟩:=r;rfl
 | str _=>obtain ⟨t,rfl⟩:=r;rfl
 | byt _=>obtain ⟨t,rfl⟩:=r;rfl
 | flt _=>obtain ⟨t,rfl⟩:=r;rfl
 | ref _=>cases r;rfl
 | ty _=>cases r;rfl
theorem RelV.inj {x y:V} {u:Value} (r:RelV x u) (q:RelV y u):x=y:=Option.some.inj (r.abs.symm.trans q.abs)
theorem Vals.inj:∀ {xs ys:List V} {us:List Value},Vals xs us->Vals ys us->xs=ys
 | _,_,_,.nil,.nil=>rfl
 | _,_,_,.cons r t,.cons r' t'=>by rw [r.inj r',Vals.inj t t']
section
variable {X:Cx} {pins:List (Addr × Obj)} {σ:St} {H:Hp} {s:Shared} {a:Addr} {xs ys:List V}
theorem SqL.of {K:PySem.W.Frag} (h:H a=some (.lst xs)):SqL K H a xs:=.inl (.inl h)
theorem SqT.of {K:PySem.W.Frag} (h:H a=some (.tup xs)):SqT K H a xs:=.inl (.inl h)
theorem Inv.list (I:Inv X pins σ H s) (h:SqL X.K H a xs):∃ its:List Value,Vals xs its/\PlainL s.heap a its.toArray/\xs.length <= sizeLine:=by
 rcases h with h | ⟨o,its,n,hk,hc,hd,hs,hz,r⟩
 · obtain ⟨z,its,n,r,e⟩:=h.ok I.hok
   exact ⟨its,r,⟨_,n,e,rfl,rfl,rfl⟩,z⟩
 · refine ⟨its.toList,r,⟨o,n,I.kIn a o hk,hc,hd,by simpa using hs⟩,?_⟩
   have e:=r.length
   simp only [Array.length_toList] at e
   omega
theorem Inv.tuple (I:Inv X pins σ H s) (h:SqT X.K H a xs):∃ its:List Value,Vals xs its/\IsTup s.heap a its.toArray/\xs.length <= sizeLine:=by
 rcases h with h | ⟨o,its,n,hk,hc,hs,hz,r⟩
 · obtain ⟨z,its,r,p⟩:=h.ok I.hok
   exact ⟨its,r,p,z⟩
 · refine ⟨its.toList,r,⟨o,I.kIn a o hk,hc,n,by simpa using hs⟩,?_⟩
   have e:=r.length
   simp only [Array.length_toList] at e
   omega
theorem Inv.HD (I:Inv X pins σ H s) (h:SqL X.K H a xs) (h':SqL X.K H a ys):xs=ys:=by
 obtain ⟨its,r,⟨o,n,e,_,_,d⟩,_⟩:=I.list h
 obtain ⟨its',r',⟨o',n',e',_,_,d'⟩,_⟩:=I.list h'
 rw [e] at e';cases e'
 rw [d] at d'
 injection d' with d1 _
 have:its=its':=by simpa using congrArg Array.toList d1
 subst this
 exact r.inj r'
theorem Inv.Ez (I:Inv X pins σ H s) (h:SqT X.K H a xs) (h':SqT X.K H a ys):xs=ys:=by
 obtain ⟨its,r,⟨o,e,_,n,d⟩,_⟩:=I.tuple h
 obtain ⟨its',r',⟨o',e',_,n',d'⟩,_⟩:=I.tuple h'
 rw [e] at e';cases e'
 rw [d] at d'
 injection d' with d1 _
 have:its=its':=by simpa using congrArg Array.toList d1
 subst this
 exact r.inj r'
end
abbrev Cx.wish (X:Cx) (E:Value->Shared->Prop):Cx:={ X with xe:=E }
abbrev Cx.nox (X:Cx):Cx:=X.wish fun _ _=>False
theorem Cx.Ok.wish {X:Cx} (ok:X.Ok) (E:Value->Shared->Prop):(X.wish E).Ok:=
 ⟨ok.mod,ok.kind,ok.glob,ok.blt,ok.above,ok.inj,ok.has,ok.cab,ok.hd,ok.frames,ok.stk,ok.exf,ok.bs,ok.bsz,ok.mD,ok.o_,ok.gQ,ok.frf⟩
theorem Cx.Ok.jG {X:Cx} {E:Value->Shared->Prop} (ok:(X.wish E).Ok):X.Ok:=
 ⟨ok.mod,ok.kind,ok.glob,ok.blt,ok.above,ok.inj,ok.has,ok.cab,ok.hd,ok.frames,ok.stk,ok.exf,ok.bs,ok.bsz,ok.mD,ok.o_,ok.gQ,ok.frf⟩
section
variable {X:Cx} {pins:List (Addr × Obj)} {σ:St} {H:Hp} {s:Shared} {E:Value->Shared->Prop}
theorem Inv.wish (I:Inv X pins σ H s) (E:Value->Shared->Prop):Inv (X.wish E) pins σ H s:=⟨I.ok.wish E,I.os,I.bare,I.base,I.loc,I.cell,I.free,I.dU,I.pin,I.hok,I.len⟩
theorem Inv.jG (I:Inv (X.wish E) pins σ H s):Inv X pins σ H s:=⟨I.ok.jG,I.os,I.bare,I.base,I.loc,I.cell,I.free,I.dU,I.pin,I.hok,I.len⟩
theorem SP.jG {D:Ends} {f:Flow} {s':Shared} (h:SP (X.wish E) pins D f s'):SP X pins D f s':=by
 cases f with
 | next=>obtain ⟨σ',H',I,q⟩:=h;exact ⟨σ',H',I.jG,q⟩
 | brk=>obtain ⟨σ',H',I,q⟩:=h;exact ⟨σ',H',I.jG,q⟩
 | cont=>obtain ⟨σ',H',I,q⟩:=h;exact ⟨σ',H',I.jG,q⟩
 | ret u=>obtain ⟨v,σ',H',I,r,q⟩:=h;exact ⟨v,σ',H',I.jG,r,q⟩
theorem PSs.nox {st:List Stmt} {t:TS} (h:PSs X.nox st t):PSs X st t:=fun pins s σ H D I hw=>
 wpAny_mono (h pins s σ H D (I.wish _) hw) (fun _ _ q=>q.jG) fun _ _ z=>False.elim z
end
section
variable {X:Cx} {st:Stmt} {rest:List Stmt} {t u:TS} {e:Expr} {te:TE} {pos:Pos}
def Cw:TS:=fun D σ H=>D.nx σ H
def M5 (t u:TS):TS:=fun D σ H=>t { D with nx:=u D } σ H
theorem ig:PSs X [] Cw:=fun _ _ σ H _ I h=>wpAny_execs_nil ⟨σ,H,I,h⟩
theorem bG (h1:PS X st t) (h2:PSs X rest u):PSs X (st::rest) (M5 t u):=by
 intro pins s σ H D I h
 refine wpAny_execs_cons (thn (h1 pins s σ H { D with nx:=u D } I h) fun f s1 q=>?_)
 cases f with
 | next=>
   obtain ⟨σ',H',I',q⟩:=q
   exact h2 pins s1 σ' H' D I' q
 | ret v=>exact q
 | brk=>exact q
 | cont=>exact q
theorem bH (h1:PS X st t):PSs X [st] t:=by
 intro pins s σ H D I h
 refine wpAny_execs_cons (thn (h1 pins s σ H D I h) fun f s1 q=>?_)
 cases f with
 | next=>exact wpAny_execs_nil q
 | ret v=>exact q
 | brk=>exact q
 | cont=>exact q
theorem Inv.quiet {pins:List (Addr × Obj)} {σ:St} {H:Hp} {s:Shared} (I:Inv X pins σ H s):interactive X.env=false:=by simp [interactive,I.ok.kind]
def QL (te:TE):TS:=fun D σ H=>te σ H fun _ H1=>D.nx σ H1
theorem ni (he:PE X e te) (hs:swapsWith e none pos.line X.env=pure false:=by rfl):PS X (.Expr e pos) (QL te):=by
 intro pins s σ H D I h
 exact wpAny_Expr_any (thn (he pins s σ H _ I h) fun v s1 ⟨x,H1,I1,r1,q1⟩=>⟨σ,H1,I1,q1⟩) I.quiet hs
def Ss (te:TE):TS:=fun D σ H=>te σ H D.rt
theorem dh (he:PE X e te):PS X (.Return (some e) pos) (Ss te):=by
 intro pins s σ H D I h
 exact wpAny_Return_some (thn (he pins s σ H _ I h) fun v s1 ⟨x,H1,I1,r1,q1⟩=>⟨x,σ,H1,I1,r1,q1⟩)
def Su (c:TT) (t u:TS):TS:=fun D σ H=>c σ H fun b H1=>if b=true then t D σ H1 else u D σ H1
theorem jV {c:Expr} {a b:List Stmt} {tc:TT} (hc:PT X c tc) (ha:PSs X a t) (hb:PSs X b u):PS X (.If c a b pos) (Su tc t u):=by
 intro pins s σ H D I h
 refine wpAny_If (thn (hc pins s σ H _ I h) fun d s1 ⟨H1,I1,q1⟩=>?_)
 cases d with
 | true=>exact ha pins s1 σ H1 D I1 q1
 | false=>exact hb pins s1 σ H1 D I1 q1
end
abbrev TG:=V->St->Hp->(St->Hp->Prop)->Prop
abbrev TGs:=List V->St->Hp->(St->Hp->Prop)->Prop
def PG (X:Cx) (target:Expr) (t:TG):Prop:=
 ∀ (pins:List (Addr × Obj)) (s:Shared) (σ:St) (H:Hp) (v:V) (u:Value) (Q:St->Hp->Prop),Inv X pins σ H s->RelV v u->t v σ H Q->
   wpAny (model X.prog X.w) X.A (assign target X.env u) (fun _ s'=>∃ σ' H',Inv X pins σ' H' s'/\Q σ' H') X.xe s
def PGs (X:Cx) (ts:List Expr) (t:TGs):Prop:=
 ∀ (pins:List (Addr × Obj)) (s:Shared) (σ:St) (H:Hp) (vs:List V) (us:List Value) (Q:St->Hp->Prop),Inv X pins σ H s->Vals vs us->t vs σ H Q->
   wpAny (model X.prog X.w) X.A (assignInOrder ((assignEach ts X.env).map (·.2)) us) (fun _ s'=>∃ σ' H',Inv X pins σ' H' s'/\Q σ' H') X.xe s
section
variable {X:Cx} {pos:Pos}
def vW (i:Nat):TG:=fun v σ H Q=>Q (σ.set i (some v)) H
theorem uq {i:Nat} {x:Str} (hN:X.N.Nodup) (hi:X.N[i]? =some x) (hx:Loc X.env.scope x) (hf:X.fn x=true\/X.env.scope.names.lookup x=some .local:=by first | exact .inl rfl | exact .inr rfl | assumption):PG X (.Name x pos) (vW i):=by
 intro pins s σ H v u Q I r h
 exact wpAny_assign_Name (nU I hN hi hx r (fun s' I'=>⟨_,H,I',h⟩) hf)
def Sv:TGs:=fun vs σ H Q=>vs= []/\Q σ H
def QM (t:TG) (u:TGs):TGs:=fun vs σ H Q=>∃ v r,vs=v::r/\t v σ H fun σ' H'=>u r σ' H' Q
theorem Kf:PGs X [] Sv:=by
 intro pins s σ H vs us Q I r h
 obtain ⟨e,h⟩:=h
 subst e
 cases r
 exact assignInOrder_nil ⟨σ,H,I,h⟩
theorem HF {e:Expr} {es:List Expr} {t:TG} {u:TGs} (h1:PG X e t) (h2:PGs X es u)
 (hs:(assignEach (e::es) X.env).map (·.2)=assign e X.env::(assignEach es X.env).map (·.2):=by rfl):PGs X (e::es) (QM t u):=by
 intro pins s σ H vs us Q I r h
 obtain ⟨v,vr,e1,h⟩:=h
 subst e1
 cases r with
 | cons r rr=>
   rw [hs]
   refine assignInOrder_cons (thn (h1 pins s σ H _ _ _ I r h) fun _ s1 ⟨σ1,H1,I1,q1⟩=>?_)
   exact h2 pins s1 σ1 H1 _ _ Q I1 rr q1
def Sw (K:PySem.W.Frag) (n:Nat) (t:TGs):TG:=fun v σ H Q=>∃ a xs,v= .ref a/\SqT K H a xs/\xs.length=n/\t xs σ H Q
theorem M6 {es:List Expr} {k:Nat} {t:TGs} {n:Nat} (hc:X.calm=true) (h:PGs X es t)
 (hn:(assignEach es X.env).length=n:=by rfl) (hst:(assignEach es X.env).findIdx? (·.1)=none:=by rfl):PG X (.Tuple es k pos) (Sw X.K n t):=by
 intro pins s σ H v u Q I r hw
 obtain ⟨a,xs,e1,hq,hl,hw⟩:=hw
 subst e1
 cases r
 obtain ⟨its,rv,ht,hz⟩:=I.tuple hq
 refine assign_Tuple_tuple (I.ok.hd hc) ht (by simp [hn,<- hl,rv.length]) hst fun h' hx=>?_
 have I1:Inv X pins σ H { s with heap:=h' }:=I.kept (t':=s.toks) fun b o e=>hx b o (Nat.ne_of_lt (Heap.lt_size e)) e
 exact h pins _ σ H xs _ Q I1 (by simpa using rv) hw
def HH (te:TE) (g:TG):TS:=fun D σ H=>te σ H fun x H1=>g x σ H1 D.nx
theorem jH {i:Nat} {x:Str} {e:Expr} {te:TE} {pos':Pos} (hN:X.N.Nodup) (hi:X.N[i]? =some x) (hx:Loc X.env.scope x) (he:PE X e te) (hs:swapsWith e (some (.Name x pos')) pos.line X.env=pure false:=by rfl) (hf:X.fn x=true\/X.env.scope.names.lookup x=some .local:=by first | exact .inl rfl | exact .inr rfl | assumption):
 PS X (.Assign [.Name x pos'] e pos) (HH te (vW i)):=by
 intro pins s σ H D I h
 refine wpAny_Assign_Name (thn (he pins s σ H _ I h) fun v s1 ⟨y,H1,I1,r1,q1⟩=>?_) hs
 exact nU I1 hN hi hx r1 (fun s2 I2=>⟨_,H1,I2,q1⟩) hf
end
section
variable {X:Cx} {pos:Pos}
end
structure It where
 go:Nat->Hp->Prop
 yld:Nat->Hp->V->Hp->Prop
 stop:Nat->Hp->Prop
def jj (X:Cx) (pins:List (Addr × Obj)) (H:Hp) (b:Addr):Prop:=
 H b=none/\b ≠ X.env.locals/\b ∉ X.fs/\(b ∈ X.ex\/X.s₀.heap.objs.size <= b)/\(∀ x c,X.env.cells.lookup x=some c->c ≠ b)/\∀ p ∈ X.pn ++ pins,p.1 ≠ b
theorem Inv.HJ {X:Cx} {pins:List (Addr × Obj)} {σ:St} {H H':Hp} {s:Shared} {b:Addr} (I:Inv X pins σ H s) (hb:s.heap.objs.size <= b) (hn:H' b=none):jj X pins H' b:=by
 refine ⟨hn,Nat.ne_of_gt (Nat.lt_of_lt_of_le I.lt hb),I.MJ hb,.inr (Nat.le_trans I.sz hb),fun x c e z=>?_,fun p hp z=>?_⟩
 · obtain ⟨v,q⟩:=I.cell x c e
   exact absurd (Nat.lt_of_lt_of_le q.lt (by rw [z];exact hb)) (Nat.lt_irrefl _)
 · exact absurd (Nat.lt_of_lt_of_le (Heap.lt_size (I.pin p hp).1) (by rw [z];exact hb)) (Nat.lt_irrefl _)
structure Turn (P:Program) (w:World) (K:PySem.W.Frag) (tg:Expr) (J:It) (fp:List Addr) (it:Addr) (tn:Nat->Heap->Prop):Prop where
 mem:it ∈ fp
 obj:∀ i h,tn i h->∀ b ∈ fp,∃ o,h.get? b=some o/\∀ v,o.data ≠ .cell v
 keep:∀ i h h',tn i h->(∀ b ∈ fp,∀ o,h.get? b=some o->h'.get? b=some o)->tn i h'
 item:∀ (X:Cx),X.prog=P->X.w=w->X.K=K->X.calm=true->∀ (i:Nat) (pins:List (Addr × Obj)) (s:Shared) (σ:St) (H:Hp) (E:Value->Shared->Prop),Inv X pins σ H s->(∀ b ∈ fp,jj X pins H b)->tn i s.heap->J.go i H->
  wpAny (model P w) X.A (pyNext (.ref it)) (fun r s1=>∃ u,r=some u/\
   wpAny (model P w) X.A (letOwnedTupleGo tg (.ref it) u) (fun _ s2=>∃ x H',Inv X pins σ H' s2/\RelV x u/\J.yld i H x H'/\tn (i + 1) s2.heap/\∀ b ∈ fp,H' b=none) E s1) E s
 done:∀ (X:Cx),X.prog=P->X.w=w->X.K=K->X.calm=true->∀ (i:Nat) (pins:List (Addr × Obj)) (s:Shared) (σ:St) (H:Hp) (E:Value->Shared->Prop),Inv X pins σ H s->(∀ b ∈ fp,jj X pins H b)->tn i s.heap->J.stop i H->
  wpAny (model P w) X.A (pyNext (.ref it)) (fun r s1=>r=none/\Inv X pins σ H s1) E s
 self:∀ (A:Around) (i:Nat) (s:Shared) (Q:Value->Shared->Prop) (E:Value->Shared->Prop),tn i s.heap->Q (.ref it) s->wpAny (model P w) A (pyIter (.ref it)) Q E s
abbrev TI:=St->Hp->(It->Hp->Prop)->Prop
def PIE (X:Cx) (pins:List (Addr × Obj)) (σ:St) (tg:Expr) (R:It->Hp->Prop) (itv:Value) (s2:Shared):Prop:=
 ∃ (it:Addr) (fp:List Addr) (tn:Nat->Heap->Prop) (J:It) (H':Hp),itv= .ref it/\Inv X pins σ H' s2/\Turn X.prog X.w X.K tg J fp it tn/\tn 0 s2.heap/\(∀ b ∈ fp,jj X pins H' b)/\R J H'
def PI (X:Cx) (tg iter:Expr) (wi:TI):Prop:=
 ∀ (pins:List (Addr × Obj)) (s:Shared) (σ:St) (H:Hp) (R:It->Hp->Prop),Inv X pins σ H s->wi σ H R->
   wpAny (model X.prog X.w) X.A (eval iter X.env) (fun v s1=>wpAny (model X.prog X.w) X.A (pyIter v) (PIE X pins σ tg R) X.xe s1) X.xe s
theorem Cy {M:Model} {A:Around} {E:Value->Shared->Prop} {s:Shared} {tg:Expr} {it:Addr} {u:Value} {o:Obj} {n:String} {vs:Array Value} {Q:Unit->Shared->Prop} (ho:s.heap.get? it=some o) (hc:o.cls= .type n) (hd:o.data= .fields vs)
 (hn:["enumerate","zip","dict_itemiterator","dict_reverseitemiterator","odict_iterator","itertools.zip_longest","itertools.pairwise"].contains n=false) (hQ:Q () s):wpAny M A (letOwnedTupleGo tg (.ref it) u) Q E s:=by
 unfold letOwnedTupleGo
 cases tg <;> first
  | exact wpAny_pure hQ
  | (cases u <;> first
      | exact wpAny_pure hQ
      | (refine wpAny_bind (wpAny_load ho ?_)
         rw [hc,hd]
         show wpAny M A (if (["enumerate","zip","dict_itemiterator","dict_reverseitemiterator","odict_iterator","itertools.zip_longest","itertools.pairwise"].contains n && vs[0]? == some (rawInt _))=true then _ else _) Q E s
         rw [if_neg (by intro h;rw [hn,Bool.false_and] at h;cases h)]
         exact wpAny_pure hQ))
def Itl (K:PySem.W.Frag) (a:Addr):It:=
 ⟨fun i H=>∃ xs x,SqL K H a xs/\xs[i]? =some x,fun i H x H'=>H'=H/\∀ xs,SqL K H a xs->xs[i]? =some x,fun i H=>∃ xs,SqL K H a xs/\xs.length <= i⟩
def Itt (K:PySem.W.Frag) (a:Addr):It:=
 ⟨fun i H=>∃ xs x,SqT K H a xs/\xs[i]? =some x,fun i H x H'=>H'=H/\∀ xs,SqT K H a xs->xs[i]? =some x,fun i H=>∃ xs,SqT K H a xs/\xs.length <= i⟩
def Itr (lo:Int) (n:Nat):It:=⟨fun i _=>i < n,fun i H x H'=>H'=H/\x= .int (lo + i),fun i _=>n <= i⟩
theorem EY {P:Program} {w:World} {K:PySem.W.Frag} {tg:Expr} (a it:Addr):Turn P w K tg (Itl K a) [it] it (fun i h=>h.IsListIter it a i) where
 mem:=by simp
 obj:=fun i h st b hb=>by
  have e:b=it:=by simpa using hb
  subst e
  obtain ⟨o,e,c,d⟩:=st
  exact ⟨o,e,fun v z=>by rw [d] at z;cases z⟩
 keep:=fun i h h' st k=>st.at fun o e=>k it (by simp) o e
 item:=by
  intro X hP hw hK hc i pins s σ H E I hf st hg
  subst hP hw hK
  obtain ⟨xs,x,hq,hx⟩:=hg
  obtain ⟨its,rv,p,hz⟩:=I.list hq
  obtain ⟨u,hu,ru⟩:=rv.get hx
  obtain ⟨f0,f1,f2,f3,f4,f5⟩:=hf it (by simp)
  refine wpAny_pyNext_list_item st p.isList (x:=u) (by simpa using hu) fun h' st' sb=>?_
  have I1:Inv X pins σ H { s with heap:=h' }:=I.turned (t':=s.toks) (fun b o hb e=>(sb.2 b hb).trans e) f0 f1 f3 f4 f5
  obtain ⟨o,e,c,d⟩:=id st'
  exact ⟨u,rfl,Cy (s:={ s with heap:=h' }) e c d (by decide) ⟨x,H,I1,ru,⟨rfl,fun ys hy=>by rw [I.HD hy hq];exact hx⟩,st',fun b hb=>(hf b hb).1⟩⟩
 done:=by
  intro X hP hw hK hc i pins s σ H E I hf st hg
  subst hP hw hK
  obtain ⟨xs,hq,hx⟩:=hg
  obtain ⟨its,rv,p,hz⟩:=I.list hq
  obtain ⟨f0,f1,f2,f3,f4,f5⟩:=hf it (by simp)
  have hl:=rv.length
  exact wpAny_pyNext_list_end (I.ok.hd hc) st p.isList (by simp;omega) fun h' eb=>⟨rfl,I.turned (t':=s.toks) (fun b o hb e=>eb b o hb e) f0 f1 f3 f4 f5⟩
 self:=fun _ _ _ _ _ st h=>wpAny_pyIter_listiter st h
theorem Cz {P:Program} {w:World} {K:PySem.W.Frag} {tg:Expr} (a it:Addr):Turn P w K tg (Itt K a) [it] it (fun i h=>h.IsTupleIter it a i) where
 mem:=by simp
 obj:=fun i h st b hb=>by
  have e:b=it:=by simpa using hb
  subst e
  obtain ⟨o,e,c,d⟩:=st
  exact ⟨o,e,fun v z=>by rw [d] at z;cases z⟩
 keep:=fun i h h' st k=>st.at fun o e=>k it (by simp) o e
 item:=by
  intro X hP hw hK hc i pins s σ H E I hf st hg
  subst hP hw hK
  obtain ⟨xs,x,hq,hx⟩:=hg
  obtain ⟨its,rv,p,hz⟩:=I.tuple hq
  obtain ⟨u,hu,ru⟩:=rv.get hx
  obtain ⟨f0,f1,f2,f3,f4,f5⟩:=hf it (by simp)
  refine wpAny_pyNext_tuple_item st (show s.heap.IsTuple a its.toArray from p) (x:=u) (by simpa using hu) fun h' st' sb=>?_
  have I1:Inv X pins σ H { s with heap:=h' }:=I.turned (t':=s.toks) (fun b o hb e=>(sb.2 b hb).trans e) f0 f1 f3 f4 f5
  obtain ⟨o,e,c,d⟩:=id st'
  exact ⟨u,rfl,Cy (s:={ s with heap:=h' }) e c d (by decide) ⟨x,H,I1,ru,⟨rfl,fun ys hy=>by rw [I.Ez hy hq];exact hx⟩,st',fun b hb=>(hf b hb).1⟩⟩
 done:=by
  intro X hP hw hK hc i pins s σ H E I hf st hg
  subst hP hw hK
  obtain ⟨xs,hq,hx⟩:=hg
  obtain ⟨its,rv,p,hz⟩:=I.tuple hq
  obtain ⟨f0,f1,f2,f3,f4,f5⟩:=hf it (by simp)
  have hl:=rv.length
  exact wpAny_pyNext_tuple_end (I.ok.hd hc) st (show s.heap.IsTuple a its.toArray from p) (by simp;omega) fun h' eb=>⟨rfl,I.turned (t':=s.toks) (fun b o hb e=>eb b o hb e) f0 f1 f3 f4 f5⟩
 self:=fun _ _ _ _ _ st h=>wpAny_pyIter_tupleiter st h
theorem CG {P:Program} {w:World} {K:PySem.W.Frag} {tg:Expr} (it:Addr) (lo:Int) (n:Nat):Turn P w K tg (Itr lo n) [it] it (fun i h=>IsRangeIter h it (lo + (i:Nat) * 1) ((n:Int) - (i:Nat)) 1) where
 mem:=by simp
 obj:=fun i h st b hb=>by
  have e:b=it:=by simpa using hb
  subst e
  exact ⟨_,st,fun v z=>by
   have z':Data.fields _=Data.cell v:=z
   cases z'⟩
 keep:=fun i h h' st k=>k it (by simp) _ st
 item:=by
  intro X hP hw hK hc i pins s σ H E I hf st hg
  subst hP hw hK
  obtain ⟨f0,f1,f2,f3,f4,f5⟩:=hf it (by simp)
  have W:=Walks.range (prog:=X.prog) (w:=X.w) (I.ok.hd hc) it lo 1 n
  refine W.item i s _ _ hg st fun v h' tk hv st' kk=>?_
  obtain ⟨t,rfl⟩:=hv
  have I1:Inv X pins σ H { s with heap:=h',toks:=tk }:=I.turned (fun b o hb e=>kk b o (by simpa using hb) e) f0 f1 f3 f4 f5
  refine ⟨_,rfl,Cy (s:={ s with heap:=h',toks:=tk }) (n:="range_iterator") st' rfl rfl (by decide) ⟨.int (lo + i),H,I1,⟨t,?_⟩,⟨rfl,rfl⟩,st',fun b hb=>(hf b hb).1⟩⟩
  rw [Int.mul_one]
 done:=by
  intro X hP hw hK hc i pins s σ H E I hf st hg
  subst hP hw hK
  obtain ⟨f0,f1,f2,f3,f4,f5⟩:=hf it (by simp)
  exact wpAny_pyNext_range_end (I.ok.hd hc) st (by have:n <= i:=hg;omega) fun h' eb=>⟨rfl,I.turned (t':=s.toks) (fun b o hb e=>eb b o hb e) f0 f1 f3 f4 f5⟩
 self:=fun _ _ _ _ _ st h=>wpAny_pyIter_rangeiter st h
end L2
namespace L2
open PySem PySem.Spec PyProof.Rows
section
variable {X:Cx} {tg:Expr}
def CJ (K:PySem.W.Frag) (tl:TE):TI:=fun σ H R=>tl σ H fun x H1=>∃ a,x= .ref a/\(∃ xs,SqL K H1 a xs)/\R (Itl K a) H1
def HN (K:PySem.W.Frag) (tl:TE):TI:=fun σ H R=>tl σ H fun x H1=>∃ a,x= .ref a/\(∃ xs,SqT K H1 a xs)/\R (Itt K a) H1
theorem Av {l:Expr} {tl:TE} (hl:PE X l tl):PI X tg l (CJ X.K tl):=by
 intro pins s σ H R I h
 refine thn (hl pins s σ H _ I h) fun v s1 ⟨x,H1,I1,r1,q1⟩=>?_
 obtain ⟨a,e,⟨xs,hq⟩,q⟩:=q1
 subst e
 cases r1
 obtain ⟨its,rv,p,hz⟩:=I1.list hq
 refine wpAny_pyIter_list p.isList ?_
 refine ⟨s1.heap.objs.size,[s1.heap.objs.size],_,_,H1,rfl,I1.kept (t':=s1.toks) fun b o e=>Heap.get?_push_of_some _ e,EY a _,⟨_,Heap.get?_push_size _ rfl,rfl,rfl⟩,fun b hb=>?_,q⟩
 have e:b=s1.heap.objs.size:=by simpa using hb
 subst e
 exact I1.HJ (Nat.le_refl _) (I1.hok.fresh (Nat.le_refl _))
theorem M7 {l:Expr} {tl:TE} (hl:PE X l tl):PI X tg l (HN X.K tl):=by
 intro pins s σ H R I h
 refine thn (hl pins s σ H _ I h) fun v s1 ⟨x,H1,I1,r1,q1⟩=>?_
 obtain ⟨a,e,⟨xs,hq⟩,q⟩:=q1
 subst e
 cases r1
 obtain ⟨its,rv,p,hz⟩:=I1.tuple hq
 refine wpAny_pyIter_tuple (show s1.heap.IsTuple a its.toArray from p) ?_
 refine ⟨s1.heap.objs.size,[s1.heap.objs.size],_,_,H1,rfl,I1.kept (t':=s1.toks) fun b o e=>Heap.get?_push_of_some _ e,Cz a _,⟨_,Heap.get?_push_size _ rfl,rfl,rfl⟩,fun b hb=>?_,q⟩
 have e:b=s1.heap.objs.size:=by simpa using hb
 subst e
 exact I1.HJ (Nat.le_refl _) (I1.hok.fresh (Nat.le_refl _))
theorem wZ {pins:List (Addr × Obj)} {σ:St} {H:Hp} {s:Shared} {R:It->Hp->Prop} {E:Value->Shared->Prop} {lo hi:Int} {t u v:Tok} {tk:Nat} (I:Inv X pins σ H s) (h1: -(2 ^ 62) <= lo) (h2:lo < 2 ^ 62) (h3: -(2 ^ 62) <= hi) (h4:hi < 2 ^ 62)
 (q:R (Itr lo (hi - lo).toNat) H):wpAny (model X.prog X.w) X.A (pyIter (.ref s.heap.objs.size)) (PIE X pins σ tg R) E { s with heap:=s.heap.push { cls:=.type "range",data:=.fields #[.int lo t,.int hi u,.int 1 v] },toks:=tk }:=by
 refine wpAny_pyIter_range (IsRange.new ..) (small_one h1 h2 h3 h4) ?_
 have I1:Inv X pins σ H { s with heap:=s.heap.push { cls:=.type "range",data:=.fields #[.int lo t,.int hi u,.int 1 v] },toks:=tk }:=I.kept fun b o e=>Heap.get?_push_of_some _ e
 refine ⟨(s.heap.push { cls:=.type "range",data:=.fields #[.int lo t,.int hi u,.int 1 v] }).objs.size,[(s.heap.push { cls:=.type "range",data:=.fields #[.int lo t,.int hi u,.int 1 v] }).objs.size],_,_,H,rfl,
  I1.kept (t':=tk) fun b o e=>Heap.get?_push_of_some _ e,CG _ lo (hi - lo).toNat,?_,fun b hb=>?_,q⟩
 · have e1:lo + ((0:Nat):Int) * 1=lo:=by simp
   have e2:(((hi - lo).toNat:Nat):Int) - ((0:Nat):Int)=Builtin.Range.rangeSize lo hi 1:=by rw [rangeSize_one];split <;> omega
   show IsRangeIter _ _ (lo + ((0:Nat):Int) * 1) ((((hi - lo).toNat:Nat):Int) - ((0:Nat):Int)) 1
   rw [e1,e2]
   exact Heap.get?_push_size _ rfl
 · have e:b=(s.heap.push { cls:=.type "range",data:=.fields #[.int lo t,.int hi u,.int 1 v] }).objs.size:=by simpa using hb
   subst e
   exact I1.HJ (Nat.le_refl _) (I1.hok.fresh (Nat.le_refl _))
def JH (ta:TA):TI:=fun σ H R=>ta σ H fun vs H1=>∃ j:Int,vs= [.int j]/\-(2 ^ 62) <= j/\j < 2 ^ 62/\R (Itr 0 j.toNat) H1
def JK (ta:TA):TI:=fun σ H R=>ta σ H fun vs H1=>∃ i j:Int,vs= [.int i,.int j]/\(-(2 ^ 62) <= i/\i < 2 ^ 62/\-(2 ^ 62) <= j/\j < 2 ^ 62)/\R (Itr i (j - i).toNat) H1
theorem lJ {a:Expr} {ta:TA} {p pos:Pos} (hg:Gl X "range") (hm:X.mg "range" =none) (ha:PA X [a] ta) (hs:starEach [a] X.env= [(false,eval a X.env)]:=by rfl):PI X tg (.Call (.Name "range" p) [a] [] pos) (JH ta):=by
 intro pins s σ H R I h
 refine Call_ (m8 I hg hm boot_range (PyProof.Rows.callWith_type1 (thn (ha pos pins s σ H _ I h) fun us s1 ⟨vs,H1,I1,r1,q1⟩=>?_) hs rfl))
 obtain ⟨j,e,q1,q2,q⟩:=q1
 subst e
 cases r1 with
 | cons r rr=>
   cases rr
   obtain ⟨t,rfl⟩:=r
   exact call_range_1 (wZ I1 (by omega) (by omega) q1 q2 (by simpa using q))
theorem uZ {a b:Expr} {ta:TA} {p pos:Pos} (hg:Gl X "range") (hm:X.mg "range" =none) (ha:PA X [a,b] ta) (hs:starEach [a,b] X.env= [(false,eval a X.env),(false,eval b X.env)]:=by rfl) (hs2:starEach [b] X.env= [(false,eval b X.env)]:=by rfl):
 PI X tg (.Call (.Name "range" p) [a,b] [] pos) (JK ta):=by
 intro pins s σ H R I h
 refine Call_ (m8 I hg hm boot_range (PyProof.Rows.callWith_type1 (thn (ha pos pins s σ H _ I h) fun us s1 ⟨vs,H1,I1,r1,q1⟩=>?_) (by rw [hs,hs2]) (by rw [hs2];rfl)))
 obtain ⟨i,j,e,⟨q1,q2,q3,q4⟩,q⟩:=q1
 subst e
 cases r1 with
 | cons r rr=>
   cases rr with
   | cons r' rr=>
     cases rr
     obtain ⟨t,rfl⟩:=r
     obtain ⟨t',rfl⟩:=r'
     exact call_range_2 (wZ I1 q1 q2 q3 q4 q)
def M8 (wi:TI) (g:TG) (tb:TS):TS:=fun D σ H=>wi σ H fun J H1=>∃ W:Nat->Nat->St->Hp->Prop,(∃ m,W 0 m σ H1)/\∀ i m σ H,W i m σ H->
 (J.stop i H/\D.nx σ H)\/(J.go i H/\∃ N:St->Hp->Prop,(∀ σ' H',N σ' H'->∃ m',m' < m/\W (i + 1) m' σ' H')/\∀ x H',J.yld i H x H'->g x σ H' fun σ2 H2=>tb { D with nx:=N,ct:=N,bk:=D.nx } σ2 H2)
def pA (fp:List Addr) (h:Heap):List (Addr × Obj):=fp.filterMap fun b=>(h.get? b).map fun o=>(b,o)
theorem jW {fp:List Addr} {h:Heap} {b:Addr} {o:Obj} (hb:b ∈ fp) (e:h.get? b=some o):(b,o) ∈ pA fp h:=List.mem_filterMap.mpr ⟨b,hb,by rw [e];rfl⟩
theorem E_ {fp:List Addr} {h:Heap} {p:Addr × Obj} (hp:p ∈ pA fp h):p.1 ∈ fp/\h.get? p.1=some p.2:=by
 obtain ⟨b,hb,e⟩:=List.mem_filterMap.mp hp
 cases q:h.get? b with
 | none=>rw [q] at e;cases e
 | some o=>
   rw [q] at e
   have e':(b,o)=p:=Option.some.inj e
   subst e'
   exact ⟨hb,q⟩
theorem Inv.pinned {pins:List (Addr × Obj)} {σ:St} {H:Hp} {s:Shared} {fp:List Addr} (I:Inv X pins σ H s) (hf:∀ b ∈ fp,jj X pins H b) (ho:∀ b ∈ fp,∃ o,s.heap.get? b=some o/\∀ v,o.data ≠ .cell v):Inv X (pins ++ pA fp s.heap) σ H s:=
 I.uo fun p hp=>(List.mem_append.mp hp).elim (fun z=>I.pin p (List.mem_append_right _ z)) fun z=>by
  obtain ⟨hb,e⟩:=E_ z
  obtain ⟨f0,f1,f2,_⟩:=hf p.1 hb
  obtain ⟨o,e',d⟩:=ho p.1 hb
  rw [e] at e';cases e'
  exact ⟨e,f0,f1,f2,d⟩
theorem Inv.kY {pins pl:List (Addr × Obj)} {σ:St} {H:Hp} {s:Shared} (I:Inv X (pins ++ pl) σ H s):Inv X pins σ H s:=I.uo fun p hp=>I.pin p (List.mem_append_right _ (List.mem_append_left _ hp))
theorem Fb {iter:Expr} {body:List Stmt} {wi:TI} {g:TG} {tb:TS} {pos:Pos} (hp:PassesOwn (model X.prog X.w) X.A X.env X.xe) (hc:X.calm=true) (hi:PI X tg iter wi) (hg:PG X tg g) (hb:PSs X body tb)
 (hs:∀ x,foldedSetIterable iter X.env x=pure x:=by intro _;rfl):PS X (.For tg iter body [] pos) (M8 wi g tb):=by
 intro pins s σ H D I h
 refine wpAny_For (thn (hi pins s σ H _ I h) fun v s1 h1=>thn h1 fun itv s2 h2=>?_) hs
 obtain ⟨it,fp,tn,J,H2,e,I2,T,st2,f2,W,⟨m0,w0⟩,turn⟩:=h2
 subst e
 have stat:∀ {H':Hp},(∀ b ∈ fp,H' b=none)->∀ b ∈ fp,jj X pins H' b:=fun hn b hb=>⟨hn b hb,(f2 b hb).2⟩
 refine codeAny_forLoop_any (fun n s'=>∃ i σ' H',Inv X pins σ' H' s'/\tn i s'.heap/\(∀ b ∈ fp,H' b=none)/\W i n σ' H') ?_ m0 ⟨0,σ,H2,I2,st2,fun b hb=>(f2 b hb).1,w0⟩
 rintro n s3 ⟨i,σ3,H3,I3,st3,fr3,w3⟩
 rcases turn i n σ3 H3 w3 with ⟨stop,qn⟩ | ⟨go,N,hN,step⟩
 · refine wpAny_passesOwn hp (thn (T.done X rfl rfl rfl hc i pins s3 σ3 H3 X.xe I3 (stat fr3) st3 stop) fun r s4 ⟨hr,I4⟩=>?_)
   subst hr
   exact wpAny_execs_nil ⟨σ3,H3,I4,qn⟩
 · refine wpAny_passesOwn hp (thn (T.item X rfl rfl rfl hc i pins s3 σ3 H3 X.xe I3 (stat fr3) st3 go) fun r s4 ⟨u,hr,h4⟩=>?_)
   subst hr
   refine wpAny_passesOwn hp (thn h4 fun _ s5 ⟨x,H5,I5,r5,y5,st5,fr5⟩=>?_)
   have I5':=I5.pinned (stat fr5) (T.obj _ _ st5)
   refine wpAny_passesOwn hp (thn (hg _ s5 σ3 H5 x u _ I5' r5 (step x H5 y5)) fun _ s6 ⟨σ6,H6,I6,q6⟩=>?_)
   refine wpAny_passesOwn hp (thn (hb _ s6 σ6 H6 _ I6 q6) fun f s7 q7=>?_)
   have again:∀ {σ7:St} {H7:Hp},Inv X (pins ++ pA fp s5.heap) σ7 H7 s7->N σ7 H7->∃ m,m < n/\∃ i σ' H',Inv X pins σ' H' s7/\tn i s7.heap/\(∀ b ∈ fp,H' b=none)/\W i m σ' H':=fun {σ7 H7} I7 n7=>by
    obtain ⟨m',hm,w7⟩:=hN σ7 H7 n7
    refine ⟨m',hm,i + 1,σ7,H7,I7.kY,T.keep _ _ _ st5 fun b hb o e=>(I7.pin (b,o) (List.mem_append_right _ (List.mem_append_right _ (jW hb e)))).1,fun b hb=>?_,w7⟩
    obtain ⟨o,e,d⟩:=T.obj _ _ st5 b hb
    exact (I7.pin (b,o) (List.mem_append_right _ (List.mem_append_right _ (jW hb e)))).2.1
   cases f with
   | next=>obtain ⟨σ7,H7,I7,n7⟩:=q7;exact again I7 n7
   | cont=>obtain ⟨σ7,H7,I7,n7⟩:=q7;exact again I7 n7
   | brk=>obtain ⟨σ7,H7,I7,q7⟩:=q7;exact ⟨σ7,H7,I7.kY,q7⟩
   | ret v=>obtain ⟨x7,σ7,H7,I7,r7,q7⟩:=q7;exact ⟨x7,σ7,H7,I7.kY,r7,q7⟩
end
theorem HQ {K:PySem.W.Frag} {a:Addr} {xs:List V} {g:TG} {tb:TS} {D:Ends} {σ:St} {H:Hp} (Pv:Nat->St->Hp->Prop) (h0:Pv 0 σ H) (hl:∀ i σ H,i <= xs.length->Pv i σ H->SqL K H a xs)
 (hs:∀ i x σ H,xs[i]? =some x->Pv i σ H->g x σ H fun σ2 H2=>tb { D with nx:=Pv (i + 1),ct:=Pv (i + 1),bk:=D.nx } σ2 H2) (hd:∀ σ H,Pv xs.length σ H->D.nx σ H):
 ∃ W:Nat->Nat->St->Hp->Prop,(∃ m,W 0 m σ H)/\∀ i m σ H,W i m σ H->
   ((Itl K a).stop i H/\D.nx σ H)\/((Itl K a).go i H/\∃ N:St->Hp->Prop,(∀ σ' H',N σ' H'->∃ m',m' < m/\W (i + 1) m' σ' H')/\∀ x H',(Itl K a).yld i H x H'->g x σ H' fun σ2 H2=>tb { D with nx:=N,ct:=N,bk:=D.nx } σ2 H2):=by
 refine ⟨fun i m σ H=>m=xs.length - i/\i <= xs.length/\Pv i σ H,⟨xs.length,by simp,Nat.zero_le _,h0⟩,?_⟩
 rintro i m σ H ⟨rfl,hi,p⟩
 have q:=hl i σ H hi p
 by_cases hlt:i < xs.length
 · refine .inr ⟨⟨xs,xs[i],q,by simp [hlt]⟩,Pv (i + 1),fun σ' H' p'=>⟨xs.length - (i + 1),by omega,rfl,hlt,p'⟩,fun x H' y=>?_⟩
   obtain ⟨e,y⟩:=y
   subst e
   exact hs i x σ _ (y xs q) p
 · have e:i=xs.length:=by omega
   subst e
   exact .inl ⟨⟨xs,q,Nat.le_refl _⟩,hd σ H p⟩
end L2
namespace L2
open PySem PySem.Spec PyProof.Rows
abbrev R2:=V->V->Hp->VK->Prop
def OpR (X:Cx) (f:Value->Value->Sem Value) (r:R2):Prop:=
 ∀ (pins:List (Addr × Obj)) (s:Shared) (σ:St) (H:Hp) (x y:V) (v u:Value) (Q:VK),Inv X pins σ H s->RelV x v->RelV y u->r x y H Q->
   wpAny (model X.prog X.w) X.A (f v u) (EP X pins σ Q) X.xe s
def UnR (X:Cx) (f:Value->Sem Value) (r:V->Hp->VK->Prop):Prop:=
 ∀ (pins:List (Addr × Obj)) (s:Shared) (σ:St) (H:Hp) (x:V) (v:Value) (Q:VK),Inv X pins σ H s->RelV x v->r x H Q->
   wpAny (model X.prog X.w) X.A (f v) (EP X pins σ Q) X.xe s
def cU (X:Cx) (f:Value) (r:List V->Hp->VK->Prop):Prop:=
 ∀ (pins:List (Addr × Obj)) (s:Shared) (σ:St) (H:Hp) (xs:List V) (us:List Value) (Q:VK),Inv X pins σ H s->Vals xs us->r xs H Q->
   wpAny (model X.prog X.w) X.A (call f us) (EP X pins σ Q) X.xe s
def Sx (X:Cx) (r:V->Hp->(Bool->Hp->Prop)->Prop):Prop:=
 ∀ (pins:List (Addr × Obj)) (s:Shared) (σ:St) (H:Hp) (x:V) (v:Value) (Q:Bool->Hp->Prop),Inv X pins σ H s->RelV x v->r x H Q->
   wpAny (model X.prog X.w) X.A (truthy v) (TP X pins σ Q) X.xe s
def tOp (r:R2) (ta tb:TE):TE:=fun σ H Q=>ta σ H fun x H1=>tb σ H1 fun y H2=>r x y H2 Q
def tUn (r:V->Hp->VK->Prop) (ta:TE):TE:=fun σ H Q=>ta σ H fun x H1=>r x H1 Q
def rI (C:Int->Int->Prop) (g:Int->Int->V):R2:=fun x y H Q=>∃ i j,x= .int i/\y= .int j/\C i j/\Q (g i j) H
def rI0 (g:Int->Int->V):R2:=fun x y H Q=>∃ i j,x= .int i/\y= .int j/\Q (g i j) H
def rU (g:Int->V):V->Hp->VK->Prop:=fun x H Q=>∃ i,x= .int i/\Q (g i) H
section
variable {X:Cx} {a b c:Expr} {ta tb tc:TE} {pos:Pos}
theorem HR (ha:PE X a ta) (hb:PE X b tb) {pins:List (Addr × Obj)} {s:Shared} {σ:St} {H:Hp} {R:V->V->Hp->Prop} (I:Inv X pins σ H s)
 (h:ta σ H fun x H1=>tb σ H1 fun y H2=>R x y H2) {Q:Value->Shared->Prop} {f:Value->Value->Sem Value}
 (hf:∀ v u s2 x y H2,Inv X pins σ H2 s2->RelV x v->RelV y u->R x y H2->wpAny (model X.prog X.w) X.A (f v u) Q X.xe s2):
 wpAny (model X.prog X.w) X.A (eval a X.env) (fun v s₁=>wpAny (model X.prog X.w) X.A (eval b X.env) (fun u s₂=>wpAny (model X.prog X.w) X.A (f v u) Q X.xe s₂) X.xe s₁) X.xe s:=by
 refine thn (ha pins s σ H _ I h) fun v s1 ⟨x,H1,I1,r1,q1⟩=>?_
 refine thn (hb pins s1 σ H1 _ I1 q1) fun u s2 ⟨y,H2,I2,r2,q2⟩=>?_
 exact hf v u s2 x y H2 I2 r1 r2 q2
theorem cF {op:Operator} {r:R2} (ho:OpR X (binaryOp op) r) (ha:PE X a ta) (hb:PE X b tb):PE X (.BinOp a op b pos) (tOp r ta tb):=by
 intro pins s σ H Q I h
 exact wpAny_BinOp (HR ha hb I h fun v u s2 x y H2 I2 rx ry q=>ho pins s2 σ H2 x y v u Q I2 rx ry q)
theorem QT {op:UnaryOp} {r:V->Hp->VK->Prop} (ho:UnR X (unaryOp op) r) (ha:PE X a ta):PE X (.UnaryOp op a pos) (tUn r ta):=by
 intro pins s σ H Q I h
 exact UnaryOp_ (thn (ha pins s σ H _ I h) fun v s1 ⟨x,H1,I1,r1,q1⟩=>ho pins s1 σ H1 x v Q I1 r1 q1)
theorem opI {f:Value->Value->Sem Value} {C:Int->Int->Prop} {g:Int->Int->Int}
 (rule:∀ (i j:Int) (t u:Tok) (s:Shared) (Q:Value->Shared->Prop) (E:Value->Shared->Prop),C i j->Q (.int (g i j) s.toks) { s with toks:=s.toks + 1 }->wpAny (model X.prog X.w) X.A (f (.int i t) (.int j u)) Q E s):
 OpR X f (rI C fun i j=>.int (g i j)):=by
 intro pins s σ H x y v u Q I rx ry h
 obtain ⟨i,j,rfl,rfl,hc,q⟩:=h
 obtain ⟨t,rfl⟩:=rx
 obtain ⟨t',rfl⟩:=ry
 exact rule i j t t' s _ _ hc ⟨.int (g i j),H,I.tok _,⟨_,rfl⟩,q⟩
theorem M9 {f:Value->Value->Sem Value} {g:Int->Int->Int}
 (rule:∀ (i j:Int) (t u:Tok) (s:Shared) (Q:Value->Shared->Prop) (E:Value->Shared->Prop),Q (.int (g i j) s.toks) { s with toks:=s.toks + 1 }->wpAny (model X.prog X.w) X.A (f (.int i t) (.int j u)) Q E s):
 OpR X f (rI0 fun i j=>.int (g i j)):=by
 intro pins s σ H x y v u Q I rx ry h
 obtain ⟨i,j,rfl,rfl,q⟩:=h
 obtain ⟨t,rfl⟩:=rx
 obtain ⟨t',rfl⟩:=ry
 exact rule i j t t' s _ _ ⟨.int (g i j),H,I.tok _,⟨_,rfl⟩,q⟩
theorem HS {f:Value->Value->Sem Value} {g:Int->Int->Bool}
 (rule:∀ (i j:Int) (t u:Tok) (s:Shared) (Q:Value->Shared->Prop) (E:Value->Shared->Prop),Q (.bool (g i j)) s->wpAny (model X.prog X.w) X.A (f (.int i t) (.int j u)) Q E s):
 OpR X f (rI0 fun i j=>.bl (g i j)):=by
 intro pins s σ H x y v u Q I rx ry h
 obtain ⟨i,j,rfl,rfl,q⟩:=h
 obtain ⟨t,rfl⟩:=rx
 obtain ⟨t',rfl⟩:=ry
 exact rule i j t t' s _ _ ⟨.bl (g i j),H,I,rfl,q⟩
def HW (i j:Int):Prop:=0 <= j/\j <= 1000000/\i.natAbs < 2 ^ 64
def HX (i j:Int):Prop:=(-(2 ^ 64) < i/\i < 2 ^ 64)\/(-(2 ^ 64) < j/\j < 2 ^ 64)
theorem HX.ok {i j:Int} (h:HX i j):IntMulOk i j:=by
 rcases h with ⟨h1,h2⟩ | ⟨h1,h2⟩
 · exact .of_left (intBits_le_64 h1 h2)
 · exact .of_right (intBits_le_64 h1 h2)
theorem eF:OpR X (binaryOp .Add) (rI0 fun i j=>.int (i + j)):=M9 fun _ _ _ _ _ _ _ q=>add_int q
theorem iY:OpR X (binaryOp .Sub) (rI0 fun i j=>.int (i - j)):=M9 fun _ _ _ _ _ _ _ q=>sub_int q
theorem dm:OpR X (binaryOp .Mod) (rI (fun _ j=>0 < j) fun i j=>.int (i % j)):=opI fun i j _ _ _ _ _ hc q=>by
 have h1:(0:Int) < j:=hc
 exact mod_int' (by omega) (by rw [Int.fmod_eq_emod_of_nonneg i (by omega)];exact q)
theorem Fd:OpR X (binaryOp .Pow) (rI HW fun i j=>.int (i ^ j.toNat)):=opI fun _ _ _ _ _ _ _ hc q=>pow_int_small hc.1 hc.2.1 hc.2.2 q
theorem unI {f:Value->Sem Value} {g:Int->Int}
 (rule:∀ (i:Int) (t:Tok) (s:Shared) (Q:Value->Shared->Prop) (E:Value->Shared->Prop),Q (.int (g i) s.toks) { s with toks:=s.toks + 1 }->wpAny (model X.prog X.w) X.A (f (.int i t)) Q E s):
 UnR X f (rU fun i=>.int (g i)):=by
 intro pins s σ H x v Q I rx h
 obtain ⟨i,rfl,q⟩:=h
 obtain ⟨t,rfl⟩:=rx
 exact rule i t s _ _ ⟨.int (g i),H,I.tok _,⟨_,rfl⟩,q⟩
theorem M_:UnR X (unaryOp .USub) (rU fun i=>.int (-i)):=unI fun _ _ _ _ _ q=>neg_int q
end
def Sy:V->V->Bool
 | .non,.non=>true | .non,.int _=>true | .int _,.non=>true | .non,.bl _=>true | .bl _,.non=>true | .non,.str _=>true | .str _,.non=>true
 | .int _,.int _=>true | .bl _,.bl _=>true | .str _,.str _=>true | .byt _,.byt _=>true
 | .int _,.str _=>true | .str _,.int _=>true | .bl _,.str _=>true | .str _,.bl _=>true
 | _,_=>false
def rEq:R2:=fun x y H Q=>Sy x y=true/\Q (.bl (decide (x=y))) H
theorem Aw {i j:Int}:decide (V.int i=V.int j)=(i == j):=by
 rw [Bool.eq_iff_iff]
 simp
theorem Fe {i j:Bool}:decide (V.bl i=V.bl j)=(i == j):=by
 rw [Bool.eq_iff_iff]
 simp
theorem Ax {i j:Str}:decide (V.str i=V.str j)=(i == j):=by
 rw [Bool.eq_iff_iff]
 simp
theorem Kg {i j:Array UInt8}:decide (V.byt i=V.byt j)=(i.toList == j.toList):=by
 rw [Bool.eq_iff_iff]
 cases i
 cases j
 simp
section
variable {X:Cx} {a b c:Expr} {ta tb tc:TE} {pos:Pos}
theorem dw {pins:List (Addr × Obj)} {σ:St} {H:Hp} {s:Shared} {Q:VK} {k k':Bool} (I:Inv X pins σ H s) (q:Q (.bl k) H) (e:k=k'):EP X pins σ Q (.bool k') s:=by
 subst e
 exact ⟨.bl k,H,I,rfl,q⟩
theorem rZ:OpR X (compareOp .Eq) rEq:=by
 intro pins s σ H x y v u Q I rx ry h
 obtain ⟨hs,q⟩:=h
 cases x with
 | non=>
   cases rx
   cases y with
   | non=>cases ry;exact PySem.EqNone.eq_none_none (dw I q (by simp))
   | bl j=>cases ry;exact PySem.EqNone.eq_none_bool (dw I q (by simp))
   | int j=>obtain ⟨t',rfl⟩:=ry;exact PySem.EqNone.eq_none_int (dw I q (by simp))
   | str j=>obtain ⟨t',rfl⟩:=ry;exact PySem.EqNone.eq_none_str (dw I q (by simp))
   | _=>exact absurd (show false=true from hs) Bool.false_ne_true
 | bl i=>
   cases rx
   cases y with
   | non=>cases ry;exact PySem.EqNone.eq_bool_none (dw I q (by simp))
   | bl j=>cases ry;exact eq_bool (dw I q Fe)
   | str j=>obtain ⟨t',rfl⟩:=ry;exact PySem.EqMixed.eq_bool_str (dw I q (by simp))
   | _=>exact absurd (show false=true from hs) Bool.false_ne_true
 | int i=>
   obtain ⟨t,rfl⟩:=rx
   cases y with
   | non=>cases ry;exact PySem.EqNone.eq_int_none (dw I q (by simp))
   | int j=>obtain ⟨t',rfl⟩:=ry;exact eq_int (dw I q Aw)
   | str j=>obtain ⟨t',rfl⟩:=ry;exact PySem.EqMixed.eq_int_str (dw I q (by simp))
   | _=>exact absurd (show false=true from hs) Bool.false_ne_true
 | str i=>
   obtain ⟨t,rfl⟩:=rx
   cases y with
   | non=>cases ry;exact PySem.EqNone.eq_str_none (dw I q (by simp))
   | bl j=>cases ry;exact PySem.EqMixed.eq_str_bool (dw I q (by simp))
   | int j=>obtain ⟨t',rfl⟩:=ry;exact PySem.EqMixed.eq_str_int (dw I q (by simp))
   | str j=>obtain ⟨t',rfl⟩:=ry;exact eq_str (dw I q Ax)
   | _=>exact absurd (show false=true from hs) Bool.false_ne_true
 | byt i=>
   obtain ⟨t,rfl⟩:=rx
   cases y with
   | byt j=>obtain ⟨t',rfl⟩:=ry;exact PySem.W.eq_bytes (dw I q Kg)
   | _=>exact absurd (show false=true from hs) Bool.false_ne_true
 | _=>cases y <;> exact absurd (show false=true from hs) Bool.false_ne_true
theorem vX:OpR X (compareOp .Lt) (rI0 fun i j=>.bl (decide (i < j))):=HS fun _ _ _ _ _ _ _ q=>lt_int q
theorem CK:OpR X (compareOp .Gt) (rI0 fun i j=>.bl (decide (j < i))):=HS fun _ _ _ _ _ _ _ q=>gt_int q
theorem QV:OpR X (compareOp .GtE) (rI0 fun i j=>.bl (decide (j <= i))):=HS fun _ _ _ _ _ _ _ q=>ge_int q
theorem OpR.or {f:Value->Value->Sem Value} {r r':R2} (h:OpR X f r) (h':OpR X f r'):OpR X f (fun x y H Q=>r x y H Q\/r' x y H Q):=by
 intro pins s σ H x y v u Q I rx ry q
 rcases q with q | q
 · exact h pins s σ H x y v u Q I rx ry q
 · exact h' pins s σ H x y v u Q I rx ry q
theorem bJ (b:Expr) {op:CmpOp} (h:op ≠ .In:=by decide) (h2:op ≠ .NotIn:=by decide):behindInMarks op b=false:=by
 have e1:(op == CmpOp.In)=false:=by cases op <;> first | rfl | exact absurd rfl h
 have e2:(op == CmpOp.NotIn)=false:=by cases op <;> first | rfl | exact absurd rfl h2
 cases b <;> simp [behindInMarks,e1,e2]
theorem nj {op:CmpOp} {r:R2} (ho:OpR X (compareOp op) r) (ha:PE X a ta) (hb:PE X b tb) (hm:behindInMarks op b=false):PE X (.Compare a [op] [b] pos) (tOp r ta tb):=by
 intro pins s σ H Q I h
 exact wpAny_Compare1 (HR ha hb I h fun v u s2 x y H2 I2 rx ry q=>ho pins s2 σ H2 x y v u Q I2 rx ry q) hm
def QW (t:TE):TT:=fun σ H Q=>t σ H fun x H'=>∃ k,x= .bl k/\Q k H'
theorem nA {op:CmpOp} {r:R2} (ho:OpR X (compareOp op) r) (ha:PE X a ta) (hb:PE X b tb) (hm:behindInMarks op b=false):PT X (.Compare a [op] [b] pos) (QW (tOp r ta tb)):=by
 intro pins s σ H Q I h
 refine wpAny_isTrue_Compare1 (thn (ha pins s σ H _ I h) fun v s1 ⟨x,H1,I1,r1,q1⟩=>thn (hb pins s1 σ H1 _ I1 q1) fun u s2 ⟨y,H2,I2,r2,q2⟩=>
  thn (ho pins s2 σ H2 x y v u _ I2 r1 r2 q2) fun c s3 ⟨z,H3,I3,r3,k,e,q3⟩=>?_) hm
 subst e
 cases r3
 exact wpAny_truthy_bool ⟨H3,I3,q3⟩
def CN (K:PySem.W.Frag) (x:V) (H:Hp) (k:Bool):Prop:=
 match x with
 | .non=>k=false
 | .bl b=>k=b
 | .int i=>k=(i != 0)
 | .str y=>y.length <= sizeLine/\k=((y.length:Int) != 0)
 | .byt y=>y.size <= sizeLine/\k=((y.size:Int) != 0)
 | .ref p=>(∃ xs,SqL K H p xs/\k= !xs.isEmpty)\/(∃ xs,SqT K H p xs/\k= !xs.isEmpty)\/∃ kvs,H p=some (.dK kvs)/\k= !kvs.isEmpty
 | _=>False
theorem CP {κ:Type} {kvs:List (κ × V)} {vs:List (κ × Value)} (r:KV kvs vs):(!vs.isEmpty)= !kvs.isEmpty:=by
 cases r <;> rfl
theorem sr {xs:List V} {its:List Value} (r:Vals xs its):(!its.toArray.isEmpty)= !xs.isEmpty:=by
 cases r <;> simp
theorem pB:(sizeLine:Nat) < 2 ^ 63:=by rw [sizeLine_eq];decide
theorem Nb:Sx X (fun x H Q=>∃ k,CN X.K x H k/\Q k H):=by
 intro pins s σ H x v Q I rx h
 obtain ⟨k,e,q⟩:=h
 have hl:=pB
 have hs:sizeLine=16777216:=sizeLine_eq
 cases x with
 | non=>
   cases rx
   have e':k=false:=e
   subst e'
   exact truthy_none ⟨H,I,q⟩
 | bl b=>
   cases rx
   have e':k=b:=e
   subst e'
   exact wpAny_truthy_bool ⟨H,I,q⟩
 | int i=>
   obtain ⟨t,rfl⟩:=rx
   have e':k=(i != 0):=e
   subst e'
   exact PySem.P.truthy_int ⟨H,I,q⟩
 | str y=>
   obtain ⟨t,rfl⟩:=rx
   obtain ⟨hy,e'⟩:y.length <= sizeLine/\k=((y.length:Int) != 0):=e
   subst e'
   exact PySem.P.truthy_str (by omega) ⟨H,I.tok _,q⟩
 | byt y=>
   obtain ⟨t,rfl⟩:=rx
   obtain ⟨hy,e'⟩:y.size <= sizeLine/\k=((y.size:Int) != 0):=e
   subst e'
   exact PySem.W.truthy_bytes (by omega) ⟨H,I.tok _,q⟩
 | ref p=>
   cases rx
   have e':(∃ xs,SqL X.K H p xs/\k= !xs.isEmpty)\/(∃ xs,SqT X.K H p xs/\k= !xs.isEmpty)\/∃ kvs,H p=some (.dK kvs)/\k= !kvs.isEmpty:=e
   rcases e' with ⟨xs,hx,e'⟩ | ⟨xs,hx,e'⟩ | ⟨kvs,hx,e'⟩
   · subst e'
     obtain ⟨its,r,pl,hz⟩:=I.list hx
     have hlen:=r.length
     exact wpAny_truthy_list pl.isList (by simp only [List.size_toArray];omega) ⟨H,I.tok _,by rw [sr r];exact q⟩
   · subst e'
     obtain ⟨its,r,pl,hz⟩:=I.tuple hx
     have hlen:=r.length
     exact truthy_tuple pl (by simp only [List.size_toArray];omega) ⟨H,I.tok _,by rw [sr r];exact q⟩
   · subst e'
     obtain ⟨hz,hS,vs,r,m⟩:kvs.length <= sizeLine/\(p == sysModules)=false/\∃ vs,KV kvs vs/\s.heap.DictOf (ug X.prog X.w) p vs:=I.hok p _ hx
     have hlen:kvs.length=vs.length:=Paired.length r
     exact wpAny_truthy_dict hS m (by omega) ⟨H,I.tok _,by rw [CP r];exact q⟩
 | _=>exact (show False from e).elim
theorem HY (ha:PE X a ta) (he:∀ whole,isTrue a X.env whole=(do let v <- whole;standAt a.pos;holding [v] (truthy v))):
 PT X a (fun σ H Q=>ta σ H fun x H'=>∃ k,CN X.K x H' k/\Q k H'):=by
 intro pins s σ H Q I h
 exact isTrue_plain (thn (ha pins s σ H _ I h) fun v s1 ⟨x,H1,I1,r1,q1⟩=>Nb pins s1 σ H1 x v Q I1 r1 q1) (he _)
theorem vals1 {x:V} {us:List Value} (r:Vals [x] us):∃ u,us= [u]/\RelV x u:=by
 cases r with
 | cons r1 r2=>cases r2;exact ⟨_,rfl,r1⟩
theorem vals2 {x y:V} {us:List Value} (r:Vals [x,y] us):∃ u w',us= [u,w']/\RelV x u/\RelV y w':=by
 cases r with
 | cons r1 r2=>
   cases r2 with
   | cons r3 r4=>cases r4;exact ⟨_,_,rfl,r1,r3⟩
theorem H9:cU X (.builtin "abs") (fun xs H Q=>∃ i,xs= [.int i]/\Q (.int (if i < 0 then -i else i)) H):=by
 intro pins s σ H xs us Q I r h
 obtain ⟨i,rfl,q⟩:=h
 obtain ⟨u,rfl,t,rfl⟩:=vals1 r
 exact call_abs_int fun u tk=>⟨.int (if i < 0 then -i else i),H,I.tok _,⟨_,rfl⟩,q⟩
theorem Ff (hc:X.calm=true):cU X (.builtin "min") (fun xs H Q=>∃ i j,xs= [.int i,.int j]/\Q (.int (if j < i then j else i)) H):=by
 intro pins s σ H xs us Q I r h
 obtain ⟨i,j,rfl,q⟩:=h
 obtain ⟨u,w',rfl,⟨t,rfl⟩,⟨t',rfl⟩⟩:=vals2 r
 refine min_two_ints (I.ok.hd hc) fun h' tk k=>⟨_,H,I.kept k,?_,q⟩
 by_cases hj:j < i
 · rw [if_pos hj,if_pos hj];exact ⟨_,rfl⟩
 · rw [if_neg hj,if_neg hj];exact ⟨_,rfl⟩
end
end L2
namespace L2
open PySem PySem.Spec PyProof.Rows
structure H_ (h:Heap) (x dx C:Addr) (mA:Str->Option Value):Prop where
 obj:h.get? x=some (PySem.W.instObj C dx)
 ns:h.Ns1 dx mA
 ne:dx ≠ x
theorem Fg {h:Heap} {dx:Addr} {mA:Str->Option Value} (n:h.Ns1 dx mA):∃ od,h.get? dx=some od/\∀ name,PySem.W.lookIn name od=some (mA name):=by
 obtain ⟨o,es,ep,ho,hd,hk,_,hm⟩:=n
 refine ⟨o,ho,fun name=>?_⟩
 have e:=hm name
 unfold nsFind findBy at e
 rw [<- Array.find?_toList] at e
 unfold PySem.W.lookIn
 rw [hd]
 dsimp only
 split
 · rename_i y q
   rw [q] at e
   exact congrArg some e
 · rename_i q
   rw [q] at e
   have a:es.toList.any (·.refKey)=false:=by
    rw [List.any_eq_false]
    intro y hy
    obtain ⟨z,t,hkey⟩:=hk y (Array.mem_toList_iff.mp hy)
    simp [DictEntry.refKey,hkey]
   have a':¬ es.toList.any (·.refKey)=true:=by rw [a];exact Bool.false_ne_true
   rw [if_neg a']
   exact congrArg some e
theorem H_.look {h:Heap} {x dx C:Addr} {mA:Str->Option Value} (I:H_ h x dx C mA):∃ od,PySem.W.InstAt h x (PySem.W.instObj C dx) C (some od)/\∀ name,PySem.W.lookIn name od=some (mA name):=
 let ⟨od,ho,hl⟩:=Fg I.ns
 ⟨od,⟨I.obj,rfl,rfl,ho⟩,hl⟩
section
variable {prog:Program} {w:World} {A:Around} {E:Value->Shared->Prop} {s:Shared} {K:PySem.W.Frag} {x dx C f:Addr} {mA:Str->Option Value} {name:Str} {v:Value}
end
theorem uh.some_of {v:V} {o:Option Value} (r:uh (some v) o):∃ u,o=some u/\RelV v u:=by
 cases o with
 | none=>exact (show False from r).elim
 | some u=>exact ⟨u,rfl,r⟩
theorem Fi {v:V} {u:Value} (r:RelV v u):PySem.W.handedIn u=true:=by
 cases v with
 | non=>cases (show u=Value.none from r);rfl
 | bl b=>cases (show u=Value.bool b from r);rfl
 | int i=>obtain ⟨t,e⟩:=(show ∃ t,u=Value.int i t from r);cases e;rfl
 | str x=>obtain ⟨t,e⟩:=(show ∃ t,u=Value.str x t from r);cases e;rfl
 | byt b=>obtain ⟨t,e⟩:=(show ∃ t,u=Value.bytes b t from r);cases e;rfl
 | flt b=>obtain ⟨t,e⟩:=(show ∃ t,u=Value.float b t from r);cases e;rfl
 | ref a=>cases (show u=Value.ref a from r);rfl
 | ty n=>cases (show u=Value.type n from r);rfl
section
variable {P:Program} {w:World} {H H':Hp} {h h':Heap} {a C dx:Addr} {fs fs':List (Str × V)}
theorem Kh (hok:HOk P w H h) (e:H a=some (.ins C dx fs)):∃ mA,H_ h a dx C mA/\(∀ f,uh (fs.lookup f) (mA f))/\PySem.Within mA (fs.map (·.1))/\fs.length <= 1000/\H dx=some (.own a):=by
 obtain ⟨d,z,ne,ob,mA,n,r,q⟩:=(show bw P w H h a (.ins C dx fs) from hok a _ e)
 exact ⟨mA,⟨ob,n,ne⟩,r,q,z,d⟩
end
structure Cls (K:PySem.W.Frag) (C:Addr):Prop where
 pg:PySem.W.plainGet K C Str.empty=true
 hd:PySem.W.hasDictIn K C=true
 po:PySem.W.plainOver K C=true
 sa:PySem.W.findIn K (.ref C) "__setattr__" =some (some (.builtin "object.__setattr__"))
theorem Cls.get {K:PySem.W.Frag} {C:Addr} (c:Cls K C) (f:Str):PySem.W.plainGet K C f=true:=c.pg
def jJ (K:PySem.W.Frag) (C:Addr) (f:Str):Prop:=PySem.W.findIn K (.ref C) f=some none
structure Con (K:PySem.W.Frag) (C:Addr) (f:Str) (v:V) (u:Value):Prop where
 at_:PySem.W.findIn K (.ref C) f=some (some u)
 rel:RelV v u
 get:PySem.W.specialIn K u "__get__" =some none
 cp:PySem.W.copiedNames.contains f=false
structure Meth (K:PySem.W.Frag) (C:Addr) (m:Str) (f:Addr):Prop where
 at_:PySem.W.findIn K (.ref C) m=some (some (.ref f))
 fn:PySem.W.isFn K (.ref f)=true
 kp:PySem.W.keepIn K (.ref f)=true
section
variable {X:Cx} {pins:List (Addr × Obj)} {σ:St} {H:Hp} {s:Shared} {a C dx:Addr} {fs:List (Str × V)} {f:Str} {v:V} {A:Around} {E:Value->Shared->Prop}
theorem Kl {prog:Program} {w:World} {env:Env} {e:Expr} {f:Str} {pos:Pos} {s:Shared} {Q:Value->Shared->Prop} (hb:attributeBase e f env (eval e env)=eval e env)
 (h:wpAny (model prog w) A (eval e env) (fun o s₁=>wpAny (model prog w) A (getAttr o f true) Q E s₁) E s):wpAny (model prog w) A (eval (.Attribute e f pos) env) Q E s:=
 Attribute_any_ h (by rw [arm_eval_Attribute,hb])
end
section
variable {X:Cx} {o e value:Expr} {f:Str} {pos pos' tpos:Pos} {ta tv:TE}
end
section
variable {X:Cx} {pins:List (Addr × Obj)} {σ:St} {H:Hp} {s:Shared} {A:Around} {E:Value->Shared->Prop} {Q:Value->Shared->Prop} {c:Value} {b:Bool}
inductive iZ (K:PySem.W.Frag) (H:Hp):V->Value->Prop where
 | non:iZ K H .non (.type "NoneType")
 | bl (x:Bool):iZ K H (.bl x) (.type "bool")
 | int (i:Int):iZ K H (.int i) (.type "int")
 | str (x:Str):iZ K H (.str x) (.type "str")
 | flt (x:UInt64):iZ K H (.flt x) (.type "float")
 | lst {a:Addr} {xs:List V} (e:H a=some (.lst xs)):iZ K H (.ref a) (.type "list")
 | frz {a:Addr} {o:Obj} {xs:List V} (e:H a=some (.frz o (.lst xs))):iZ K H (.ref a) (.type "list")
 | tup {a:Addr} {xs:List V} (e:H a=some (.tup xs)):iZ K H (.ref a) (.type "tuple")
 | dK {a:Addr} {kvs:List (Key × V)} (e:H a=some (.dK kvs)):iZ K H (.ref a) (.type "dict")
 | dT {a:Addr} {kvs:List (List Key × V)} (e:H a=some (.dT kvs)):iZ K H (.ref a) (.type "dict")
 | ins {a C dx:Addr} {fs:List (Str × V)} (e:H a=some (.ins C dx fs)) (cl:Cls K C) (ha:PySem.W.findIn K (.ref C) "__class__" =some (some (.builtin "object.__class__")))
    (hn:PySem.W.specialIn K (.builtin "object.__class__") "__get__" =some (some (.builtin "getset_descriptor.__get__"))) (htk:PySem.W.takesIn K (.builtin "object.__class__")=some true)
    (hm:PySem.W.mroIn K C (.type "object")=some true):iZ K H (.ref a) (.ref C)
theorem Fj {x:V} {u t:Value} (I:Inv X pins σ H s) (rx:RelV x u) (ty:iZ X.K H x t) (e:PySem.W.kitOne X.K t c=some b) (h:∀ tk,Q (.bool b) { s with toks:=tk }):
 wpAny (model X.prog X.w) A (call (.builtin "isinstance") [u,c]) Q E s:=by
 cases ty with
 | non=>cases (show u=Value.none from rx);exact PySem.W.kia_one PySem.W.kitx_none I.kIn True.intro e (fun z=>nomatch z) h
 | bl y=>cases (show u=Value.bool y from rx);exact PySem.W.kia_one PySem.W.kitx_bool I.kIn True.intro e (fun z=>nomatch z) h
 | int i=>obtain ⟨t,q⟩:=(show ∃ t,u=Value.int i t from rx);cases q;exact PySem.W.kia_one PySem.W.kitx_int I.kIn True.intro e (fun z=>nomatch z) h
 | str y=>obtain ⟨t,q⟩:=(show ∃ t,u=Value.str y t from rx);cases q;exact PySem.W.kia_one PySem.W.kitx_str I.kIn True.intro e (fun z=>nomatch z) h
 | flt y=>obtain ⟨t,q⟩:=(show ∃ t,u=Value.float y t from rx);cases q;exact PySem.W.kia_one PySem.W.kitx_float I.kIn True.intro e (fun z=>nomatch z) h
 | @lst a xs ea=>
   cases (show u=Value.ref a from rx)
   obtain ⟨_,_,n,_,h1⟩:=(show bw X.prog X.w H s.heap a (.lst xs) from I.hok a _ ea)
   exact PySem.W.kia_one PySem.W.kitx_list I.kIn ⟨_,h1,rfl⟩ e (fun z=>nomatch z) h
 | @frz a ob xs ea=>
   cases (show u=Value.ref a from rx)
   obtain ⟨_,_,_,n,_,h1⟩:=(show bw X.prog X.w H s.heap a (.frz ob (.lst xs)) from I.hok a _ ea)
   exact PySem.W.kia_one PySem.W.kitx_list I.kIn ⟨_,h1,rfl⟩ e (fun z=>nomatch z) h
 | @tup a xs ea=>
   cases (show u=Value.ref a from rx)
   obtain ⟨_,_,_,p⟩:=(show bw X.prog X.w H s.heap a (.tup xs) from I.hok a _ ea)
   obtain ⟨o,h1,h2,_⟩:=p
   exact PySem.W.kia_one PySem.W.kitx_tuple I.kIn ⟨o,h1,h2⟩ e (fun z=>nomatch z) h
 | @dK a kvs ea=>
   cases (show u=Value.ref a from rx)
   obtain ⟨_,_,vs,_,p⟩:=(show bw X.prog X.w H s.heap a (.dK kvs) from I.hok a _ ea)
   obtain ⟨o,es,ep,h1,h2,_⟩:=p
   exact PySem.W.kia_one PySem.W.kitx_dict I.kIn ⟨o,h1,h2.1⟩ e (fun z=>nomatch z) h
 | @dT a kvs ea=>
   cases (show u=Value.ref a from rx)
   obtain ⟨_,_,xs,_,o,es,ep,h1,h2,_⟩:=(show bw X.prog X.w H s.heap a (.dT kvs) from I.hok a _ ea)
   exact PySem.W.kia_one PySem.W.kitx_dict I.kIn ⟨o,h1,h2.1⟩ e (fun z=>nomatch z) h
 | @ins a C dx fs ea cl ha hn htk hm=>
   cases (show u=Value.ref a from rx)
   obtain ⟨mA,O,_⟩:=Kh I.hok ea
   obtain ⟨od,J,_⟩:=O.look
   exact PySem.W.kia_one (PySem.W.kitx_own (cl.get _) cl.hd ha hn htk hm) I.kIn J e (fun z=>nomatch z) h
end
end L2
namespace L2
open PySem PySem.Spec PyProof.Rows
structure bz (k:Nat) (A:Around):Prop where
 hd:A.handled=none
 dp:A.depth + 3 * k + 5 < recursionLimit
 un:A.units + 16 * k + 200 < cLine
theorem bz.mono {j k:Nat} {A:Around} (r:bz k A) (h:j <= k):bz j A:=⟨r.hd,by have:=r.dp;omega,by have:=r.un;omega⟩
theorem bz.deeper {k:Nat} {A:Around} (r:bz (k + 1) A) (env:Env):bz k (A.deeper env):=
 ⟨r.hd,by have:=r.dp;show A.depth + 1 + 3 * k + 5 < _;omega,by have:=r.un;show A.units + 3 + 16 * k + 200 < _;omega⟩
theorem CQ {A:Around} {C:Addr} {us:List Value} {kw:List (Str × Value)}:(A.under (.builtin "type.__call__" ⟨.ref C::us,kw⟩)).depth=A.depth + 1:=by
 first | rfl | simp [Around.under,Code.weight,Code.isCreation,Code.isGuard,Code.isCaller,Code.frames,Code.isFrame,guardIds]
theorem CV {A:Around} {C:Addr} {us:List Value} {kw:List (Str × Value)}:(A.under (.builtin "type.__call__" ⟨.ref C::us,kw⟩)).units=A.units + 1:=by
 first | rfl | simp [Around.under,Code.cUnits,Code.frames,Code.isFrame]
theorem bz.make {k:Nat} {A:Around} (r:bz (k + 1) A) (C:Addr) (us:List Value) (kw:List (Str × Value)):bz k (A.under (.builtin "type.__call__" ⟨.ref C::us,kw⟩)):=
 ⟨r.hd,by have:=r.dp;rw [CQ];omega,by have:=r.un;rw [CV];omega⟩
theorem bz.depth {k:Nat} {A:Around} (r:bz k A):A.depth < recursionLimit:=by have:=r.dp;omega
theorem bz.units {k:Nat} {A:Around} (r:bz k A):A.units + 64 < cLine:=by have:=r.un;omega
theorem bz.w6 {k:Nat} {A:Around} (r:bz k A):A.units < cLine:=by have:=r.un;omega
def Ia:TA:=fun _ H Q=>Q [] H
def QX (ta:TE) (tr:TA):TA:=fun σ H Q=>ta σ H fun x H1=>tr σ H1 fun xs H2=>Q (x::xs) H2
section
variable {X:Cx} {e:Expr} {es:List Expr} {te:TE} {t:TA} {pos:Pos}
theorem aJ:PA X [] Ia:=fun _ _ _ _ H Q I h=>Calls.spliced_nil ⟨[],H,I,.nil,h⟩
theorem ao (ha:PE X e te) (hr:PA X es t) (hs:starEach (e::es) X.env=(false,eval e X.env)::starEach es X.env:=by rfl):PA X (e::es) (QX te t):=by
 intro pos pins s σ H Q I h
 rw [hs]
 show wpAny _ _ (spliced ((false,eval e X.env)::backTo pos (starEach es X.env))) _ _ s
 refine Calls.spliced_cons (thn (ha pins s σ H _ I h) fun u s1 ⟨x,H1,I1,r1,q1⟩=>?_)
 exact thn (hr pos pins s1 σ H1 _ I1 q1) fun us s2 ⟨xs,H2,I2,r2,q2⟩=>⟨x::xs,H2,I2,.cons r1 r2,q2⟩
def SJ (t:TA):TE:=fun σ H Q=>t σ H fun xs H1=>xs.length <= sizeLine/\∀ p,H1 p=none->Q (.ref p) (upd H1 p (.tup xs))
def SM (t:TA):TE:=fun σ H Q=>t σ H fun xs H1=>xs.length <= sizeLine/\∀ p,H1 p=none->Q (.ref p) (upd H1 p (.lst xs))
theorem xg {x1} (h:PA X es t):PE X (.Tuple es x1 pos) (SJ t):=by
 intro pins s σ H Q I hq
 refine wpAny_Tuple_spliced (thn (h pos pins s σ H _ I hq) fun us s1 ⟨xs,H1,I1,r,z,q⟩=>⟨by rw [<- r.length];exact z,?_⟩)
 have hf:H1 s1.heap.objs.size=none:=I1.hok.fresh (Nat.le_refl _)
 refine ⟨.ref s1.heap.objs.size,upd H1 s1.heap.objs.size (.tup xs),I1.laid (t':=s1.toks) (fun b u e=>Heap.get?_push_of_some _ e) (Nat.le_refl _) ?_,rfl,q _ hf⟩
 exact ⟨z,us,r,⟨_,Heap.get?_push_size _ rfl,rfl,_,rfl⟩⟩
theorem xj (h:PA X es t):PE X (.List es pos) (SM t):=by
 intro pins s σ H Q I hq
 refine wpAny_List_spliced (thn (h pos pins s σ H _ I hq) fun us s1 ⟨xs,H1,I1,r,z,q⟩=>⟨by rw [<- r.length];exact z,?_⟩)
 have hf:H1 s1.heap.objs.size=none:=I1.hok.fresh (Nat.le_refl _)
 refine ⟨.ref s1.heap.objs.size,upd H1 s1.heap.objs.size (.lst xs),I1.laid (t':=s1.toks) (fun b u e=>Heap.get?_push_of_some _ e) (Nat.le_refl _) ?_,rfl,q _ hf⟩
 exact ⟨z,us,0,r,Heap.get?_push_size _ rfl⟩
end
abbrev Sp:=List V->Hp->VK->XK->Prop
abbrev CXT:=List Env->Hp->Shared->XK->Value->Shared->Prop
structure pD (P:Program) (w:World) (K:PySem.W.Frag) (mg:Str->Option Value) (base:Heap) (A:Around) (outer:List Env) (s:Shared) (H:Hp):Prop where
 frames:A.frames=some outer
 mod:Mod K mg base
 bs:∀ b o,base.get? b=some o->s.heap.get? b=some o/\H b=none
 bsz:base.objs.size <= s.heap.objs.size
 gQ:s.heap.FunFrames base outer
 frf:∀ b ∈ frs outer,H b=none
 hok:HOk P w H s.heap
 bare:AllBare s.gens
def CE (outer:List Env) (P:Program) (w:World) (H:Hp) (s:Shared) (Q:VK) (u:Value) (s':Shared):Prop:=
 ∃ v H',s'.os=s.os/\AllBare s'.gens/\Un (frs outer) [] H H' s.heap s'.heap/\HOk P w H' s'.heap/\RelV v u/\Q v H'
def CR (CX:CXT) (outer:List Env) (P:Program) (w:World) (H:Hp) (s:Shared) (Q:VK) (E:XK) (r:Result) (s':Shared):Prop:=
 match r with
 | .ok (.ret u)=>CE outer P w H s Q u s'
 | .ok _=>False
 | .error e=>CX outer H s E e s'
structure bK (P:Program) (w:World) (K:PySem.W.Frag) (mg:Str->Option Value) (base:Heap) (CX:CXT) (k:Nat) (f:Addr) (fd:FuncData) (ps:List Str) (sp:Sp):Prop where
 len:∀ vs H Q E,sp vs H Q E->vs.length=ps.length
 run:∀ (A:Around) (outer:List Env) (s:Shared) (H:Hp) (args:Args) (us:List Value) (vs:List V) (Q:VK) (E:XK),bz k A->pD P w K mg base A outer s H->BindsTo s fd args (ps.zip us)->Vals vs us->sp vs H Q E->
  codeAny (model P w) A (.call (.ref f) args) (CR CX outer P w H s Q E) s
theorem bK.mono {P:Program} {w:World} {K:PySem.W.Frag} {mg:Str->Option Value} {base:Heap} {CX:CXT} {j k:Nat} {f:Addr} {fd:FuncData} {ps:List Str} {sp:Sp} (F:bK P w K mg base CX j f fd ps sp) (h:j <= k):
 bK P w K mg base CX k f fd ps sp:=⟨F.len,fun A outer s H args us vs Q E hr=>F.run A outer s H args us vs Q E (hr.mono h)⟩
theorem pD.make {P:Program} {w:World} {K:PySem.W.Frag} {mg:Str->Option Value} {base:Heap} {A:Around} {outer:List Env} {s:Shared} {H:Hp} (e:pD P w K mg base A outer s H) (C:Addr) (us:List Value) (kw:List (Str × Value)):
 pD P w K mg base (A.under (.builtin "type.__call__" ⟨.ref C::us,kw⟩)) outer s H:=⟨by first | exact e.frames | (simpa [Around.under,Code.envs,Code.isFrame,pushEnvs] using e.frames),e.mod,e.bs,e.bsz,e.gQ,e.frf,e.hok,e.bare⟩
section
variable {X:Cx} {pins:List (Addr × Obj)} {σ:St} {H:Hp} {s s':Shared}
theorem Inv.env0 (I:Inv X pins σ H s):pD X.prog X.w X.K X.mg X.base X.A X.stack s H:=
 ⟨I.ok.frames,I.ok.mod,I.bs,Nat.le_trans I.ok.bsz I.sz,I.stack,I.ji,I.hok,I.bare⟩
theorem Inv.after {Q:VK} {u:Value} (I:Inv X pins σ H s) (h:CE X.stack X.prog X.w H s Q u s'):EP X pins σ Q u s':=by
 obtain ⟨v,H',os,bare,un,hok,r,q⟩:=h
 obtain ⟨hh,g,d,t,os'⟩:=s'
 obtain rfl:os'=s.os:=os
 exact ⟨v,H',I.call (h':=hh) (g':=g) (d':=d) (t':=t) (ch:=[]) un hok bare (fun b z=>absurd z (by simp)),r,q⟩
end
def vY (sp:Sp) (dvs:List V) (E:XK) (t:TA):TE:=fun σ H Q=>t σ H fun vs H1=>sp (vs ++ dvs) H1 Q E
def Binds (K:PySem.W.Frag) (fd:FuncData) (ps:List Str) (ds:List Value):Prop:=
 ∀ (s:Shared) (us:List Value),K.In s.heap->(us ++ ds).length=ps.length->BindsTo s fd ⟨us,[]⟩ (ps.zip (us ++ ds))
theorem Binds.all {K:PySem.W.Frag} {fd:FuncData} {ps:List Str} (h:∀ us:List Value,us.length=ps.length->bindArgs fd ⟨us,[]⟩ =pure (ps.zip us)):Binds K fd ps []:=fun s us _ hl=>by
 rw [List.append_nil] at hl ⊢
 exact .of_eq (h us hl)
def Passes (CX:CXT) (X:Cx) (E:XK):Prop:=∀ (pins:List (Addr × Obj)) (σ:St) (H:Hp) (s:Shared) (e:Value) (s':Shared),Inv X pins σ H s->CX X.stack H s E e s'->X.xe e s'
section
variable {X:Cx} {CX:CXT} {k:Nat} {f C:Addr} {fd:FuncData} {ps:List Str} {sp:Sp} {dvs:List V} {ds:List Value} {E:XK} {x m:Str} {p pos apos:Pos} {e o:Expr} {es:List Expr} {ta:TE} {t:TA}
theorem Fo {pins:List (Addr × Obj)} {σ:St} {H:Hp} {s:Shared} {Q:VK} {us:List Value} {vs:List V} (F:bK X.prog X.w X.K X.mg X.base CX k f fd ps sp) (hr:bz k X.A) (hb:Binds X.K fd ps ds) (hd:Vals dvs ds) (hx:Passes CX X E)
 (I:Inv X pins σ H s) (r:Vals vs us) (h:sp (vs ++ dvs) H Q E):wpAny (model X.prog X.w) X.A (call (.ref f) us) (EP X pins σ Q) X.xe s:=by
 have r2:Vals (vs ++ dvs) (us ++ ds):=r.append hd
 have hl:(us ++ ds).length=ps.length:=by rw [<- r2.length];exact F.len _ _ _ _ h
 refine wpAny_call (codeAny_mono (F.run X.A X.stack s H ⟨us,[]⟩ (us ++ ds) (vs ++ dvs) Q E hr I.env0 (hb s us I.kIn hl) r2 h) fun r s' hq=>?_)
 cases r with
 | error e=>exact hx pins σ H s e s' I hq
 | ok fl=>
   cases fl with
   | ret u=>exact I.after hq
   | next=>exact False.elim hq
   | brk=>exact False.elim hq
   | cont=>exact False.elim hq
theorem Ay (F:bK X.prog X.w X.K X.mg X.base CX k f fd ps sp) (hr:bz k X.A) (hg:Gl X x) (hm:X.mg x=some (.ref f)) (hk:PySem.W.keepIn X.K (.ref f)=true) (hb:Binds X.K fd ps ds) (hd:Vals dvs ds) (hx:Passes CX X E)
 (ha:PA X (e::es) t) (hdb:(x == ("__debug__":Str))=false:=by decide) (he:starEach (e::es) X.env=(false,eval e X.env)::starEach es X.env:=by rfl) (hpl:(backTo pos (starEach es X.env)).any (·.1)=false:=by rfl):
 PE X (.Call (.Name x p) (e::es) [] pos) (vY sp dvs E t):=by
 intro pins s σ H Q I h
 refine wpAny_Call_Name_kw (j_ I hg hm ?_ hdb)
 refine PySem.W.callWith_K (h₀:=X.base) I.ok.mod.kin hk (thn (ha pos pins s σ H _ I h) fun us s1 ⟨vs,H1,I1,r,q⟩=>⟨I1.kIn,?_⟩) he hpl
 exact Fo F hr hb hd hx I1 r q
structure Mk (K:PySem.W.Frag) (C f:Addr):Prop where
 makes:PySem.W.makesIn K C=true
 init:PySem.W.findIn K (.ref C) "__init__" =some (some (.ref f))
 fn:PySem.W.isFn K (.ref f)=true
 kp:PySem.W.keepIn K (.ref C)=true
end
section
variable {X:Cx} {CX:CXT} {k:Nat} {f C:Addr} {fd:FuncData} {ps ks:List Str} {sp:Sp} {E:XK} {x m:Str} {p pos apos kpos:Pos} {e o:Expr} {es:List Expr} {kws:List Keyword} {te ta:TE} {t tk:TA} {nm:Option Str}
structure Um (K:PySem.W.Frag) (fd:FuncData) (ps ks:List Str) (g:List Value->List Value->List Value) (gV:List V->List V->List V):Prop where
 to:∀ (s:Shared) (us ws:List Value),K.In s.heap->(g us ws).length=ps.length->BindsTo s fd ⟨us,ks.zip ws⟩ (ps.zip (g us ws))
 rel:∀ {vs:List V} {us:List Value} {zs:List V} {ws:List Value},Vals vs us->Vals zs ws->Vals (gV vs zs) (g us ws)
variable {g:List Value->List Value->List Value} {gV:List V->List V->List V}
end
structure aQ (N P:List Str) (sc:Scope):Prop where
 kind:sc.kind= .function
 co:sc.isCoroutine=false
 gen:sc.isGenerator=false
 nd:N.Nodup
 pre:N.take P.length=P
 par:∀ x ∈ P,sc.names.lookup x=some .local\/sc.names.lookup x=some .cell
 Nf:∀ y ∈ sc.names,y.2 ≠ .free
theorem u5 {kindOf:Str->Option NameKind} {x:Str}:∀ {binds:List (Str × Value)} {m:Str->Option Value},(∀ v,(x,v) ∉ binds)->bindL kindOf binds m x=m x
 | [],_,_=>rfl
 | (n,v)::r,m,h=>by
   unfold bindL
   rw [u5 fun w hw=>h w (List.mem_cons_of_mem _ hw)]
   split
   · have:x ≠ n:=by rintro rfl;exact h v List.mem_cons_self
     simp [this]
   · rfl
theorem u6 {kindOf:Str->Option NameKind} {x:Str}:∀ {binds:List (Str × Value)} {m:Str->Option Value},(∀ v,(x,v) ∉ binds)->bindC kindOf binds m x=m x
 | [],_,_=>rfl
 | (n,v)::r,m,h=>by
   unfold bindC
   rw [u6 fun w hw=>h w (List.mem_cons_of_mem _ hw)]
   split
   · rfl
   · have:x ≠ n:=by rintro rfl;exact h v List.mem_cons_self
     simp [this]
theorem u9 {kindOf:Str->Option NameKind} {x:Str} {v:Value}:∀ {P:List Str} {vs:List Value} {i:Nat} {m:Str->Option Value},P.Nodup->P[i]? =some x->vs[i]? =some v->kindOf x=some .local->
 bindL kindOf (P.zip vs) m x=some v
 | [],_,_,_,_,h,_,_=>by simp at h
 | _::_,[],_,_,_,_,h,_=>by simp at h
 | p::P,w::vs,0,m,nd,h1,h2,hk=>by
   simp at h1 h2;subst h1;subst h2
   show bindL kindOf ((p,w)::P.zip vs) m p=_
   unfold bindL
   rw [u5 fun v hv=>(List.nodup_cons.mp nd).1 (List.of_mem_zip hv).1,if_pos hk]
   simp
 | p::P,w::vs,i + 1,m,nd,h1,h2,hk=>by
   show bindL kindOf ((p,w)::P.zip vs) m x=_
   unfold bindL
   exact u9 (i:=i) (List.nodup_cons.mp nd).2 (by simpa using h1) (by simpa using h2) hk
theorem u_ {kindOf:Str->Option NameKind} {x:Str} {v:Value}:∀ {P:List Str} {vs:List Value} {i:Nat} {m:Str->Option Value},P.Nodup->P[i]? =some x->vs[i]? =some v->kindOf x ≠ some .local->
 bindC kindOf (P.zip vs) m x=some v
 | [],_,_,_,_,h,_,_=>by simp at h
 | _::_,[],_,_,_,_,h,_=>by simp at h
 | p::P,w::vs,0,m,nd,h1,h2,hk=>by
   simp at h1 h2;subst h1;subst h2
   show bindC kindOf ((p,w)::P.zip vs) m p=_
   unfold bindC
   rw [u6 fun v hv=>(List.nodup_cons.mp nd).1 (List.of_mem_zip hv).1,if_neg hk]
   simp
 | p::P,w::vs,i + 1,m,nd,h1,h2,hk=>by
   show bindC kindOf ((p,w)::P.zip vs) m x=_
   unfold bindC
   exact u_ (i:=i) (List.nodup_cons.mp nd).2 (by simpa using h1) (by simpa using h2) hk
def start (N:List Str) (vs:List V):St:=vs.map some ++ List.replicate (N.length - vs.length) none
def i_ (CX:CXT) (P:Program) (w:World) (K:PySem.W.Frag) (mg:Str->Option Value) (base:Heap) (N:List Str) (qual:Str) (scope:Scope) (f:Addr) (cd:Value) (A:Around) (outer:List Env) (s:Shared) (H:Hp) (E:XK):Cx where
 prog:=P
 w:=w
 K:=K
 mg:=mg
 base:=base
 A:=A.deeper (envOfC qual scope s.heap.objs.size f cd)
 N:=N
 s₀:=s
 H₀:=H
 env:=envOfC qual scope s.heap.objs.size f cd
 outer:=outer
 stack:=envOfC qual scope s.heap.objs.size f cd::outer
 ex:=[]
 calm:=true
 fn:=fun _=>true
 pn:=[]
 xe:=fun e s'=>wpAny (model P w) (A.deeper (envOfC qual scope s.heap.objs.size f cd)) (leaving (envOfC qual scope s.heap.objs.size f cd) e) (fun _ s''=>CX outer H s E e s'') (fun e' s''=>CX outer H s E e' s'') s'
theorem xm {sc:Scope} {n:Nat} {x:Str} (h:sc.names.lookup x=some .cell):∃ c,(cellsFrom n sc.names []).lookup x=some c:=by
 have q:=PySem.W.cellsFrom_some sc.names n [] (.inl h)
 exact Option.isSome_iff_exists.mp q
theorem vd {CX:CXT} {P:Program} {w:World} {K:PySem.W.Frag} {mg:Str->Option Value} {base:Heap} {N ps:List Str} {qual:Str} {scope:Scope} {f:Addr} {cd:Value} {A:Around} {outer:List Env} {s s1:Shared} {H:Hp} {E:XK} {us:List Value} {vs:List V}
 (S:aQ N ps scope) (hd:A.handled=none) (e0:pD P w K mg base A outer s H) (hl:vs.length=ps.length) (r:Vals vs us)
 (x:InCallC s s.heap.objs.size (bindL (envOfC qual scope s.heap.objs.size f cd).kindOf (ps.zip us) fun _=>none) (cellsFrom (s.heap.objs.size + 1) scope.names []) (bindC (envOfC qual scope s.heap.objs.size f cd).kindOf (ps.zip us) fun _=>none) s1):
 Inv (i_ CX P w K mg base N qual scope f cd A outer s H E) [] (start N vs) H s1:=by
 have hpl:ps.length <= N.length:=by have:=congrArg List.length S.pre;rw [List.length_take] at this;omega
 obtain ⟨h1,tk,rfl,hk⟩:=x.done
 have noA:∀ b:Addr,b ∉ (i_ CX P w K mg base N qual scope f cd A outer s H E).ex:=fun b z=>absurd (show b ∈ ([]:List Addr) from z) (by simp)
 refine ⟨⟨e0.mod,S.kind,rfl,rfl,Nat.le_refl _,fun y z c h1 h2=>?_,fun y hy=>?_,fun y c _ h=>?_,fun _=>hd,Around.frames_deeper e0.frames,.inr ⟨rfl,rfl⟩,fun b z=>absurd z (noA b),e0.bs,e0.bsz,fun b _ _=>noA b,fun b z=>absurd z (noA b),e0.gQ,e0.frf⟩,
  rfl,e0.bare,Un.kept hk,⟨_,x.toInCall.ns,fun i y v h1 h2 h3=>?_⟩,fun y c h=>⟨_,x.cell y c h⟩,e0.hok.fresh (Nat.le_refl _),fun y c h=>?_,fun p hp=>absurd (show p ∈ ([]:List (Addr × Obj)) from hp) (by simp),e0.hok.kept hk,?_⟩
 · exact name_of_addr x.apart (PySem.mem_of_lookup h1) (PySem.mem_of_lookup h2)
 · have hy:scope.names.lookup y=some .cell\/scope.names.lookup y=some .free:=hy
   rcases hy with hy | hy
   · exact xm hy
   · exact absurd rfl (S.Nf _ (PySem.mem_of_lookup hy))
 · exact Nat.le_of_lt (x.above y c (PySem.mem_of_lookup h))
 · have hi:i < vs.length:=by
    unfold start at h2
    by_cases hi:i < vs.length
    · exact hi
    · rw [List.getElem?_append_right (by simpa using hi)] at h2
      rw [List.getElem?_replicate] at h2
      split at h2 <;> cases h2
   have ha:vs[i]? =some v:=by
    unfold start at h2
    rw [List.getElem?_append_left (by simpa using hi),List.getElem?_map] at h2
    cases e:vs[i]? with
    | none=>rw [e] at h2;cases h2
    | some a=>rw [e] at h2;cases h2;rfl
   obtain ⟨u,hu,rv⟩:=r.get ha
   have hp:ps[i]? =some y:=by
    rw [<- S.pre,List.getElem?_take_of_lt (by omega)];exact h1
   have ndP:ps.Nodup:=by rw [<- S.pre];exact S.nd.sublist (List.take_sublist _ _)
   refine ⟨u,rv,?_⟩
   rcases S.par y (List.mem_of_getElem? hp) with k | k
   · exact .inl ⟨k,u9 ndP hp hu k⟩
   · obtain ⟨c,e⟩:=xm (n:=s.heap.objs.size + 1) k
     refine .inr ⟨.inl k,c,e,?_⟩
     have q:=x.cell y c e
     rw [u_ ndP hp hu (by show scope.names.lookup y ≠ _;rw [k];decide)] at q
     exact q
 · exact e0.hok.fresh (Nat.le_of_lt (x.above y c (PySem.mem_of_lookup h)))
 · unfold start
   show _=N.length
   rw [List.length_append,List.length_map,List.length_replicate]
   omega
theorem CW {CX:CXT} {P:Program} {w:World} {K:PySem.W.Frag} {mg:Str->Option Value} {base:Heap} {k:Nat} {f:Addr} {name qual:Str} {params:Arguments} {body:List Stmt} {scope:Scope} {dV kV doc pm cdv ct oc:Value} {an od:Option Addr}
 {osl:Array (Option Value)} {N ps:List Str} {sp:Sp} (lk:K.lookup f=some ⟨oc,od,.func (PySem.W.fnOf name qual params body scope dV kV doc pm an cdv ct),osl⟩) (hcd:PySem.W.codeIn K cdv qual=true) (S:aQ N ps scope)
 (len:∀ vs H Q E,sp vs H Q E->vs.length=ps.length)
 (hbody:∀ (A:Around) (outer:List Env) (s:Shared) (H:Hp) (vs:List V) (Q:VK) (E:XK),bz k (A.deeper (envOfC qual scope s.heap.objs.size f cdv))->sp vs H Q E->
   ∃ t,PSs (i_ CX P w K mg base N qual scope f cdv A outer s H E) body t/\t { nx:=fun _ H'=>Q .non H',rt:=Q } (start N vs) H):
 bK P w K mg base CX (k + 1) f (PySem.W.fnOf name qual params body scope dV kV doc pm an cdv ct) ps sp:=by
 refine ⟨len,fun A outer s H args us vs Q E hr e0 hb r hsp=>?_⟩
 have hl:=len _ _ _ _ hsp
 have KX:K.In s.heap:=e0.mod.kin.keeps fun b o e=>(e0.bs b o e).1
 have lim:s.heap.NoLimit:=e0.mod.nolimit.keeps fun b o e=>(e0.bs b o e).1
 have hkind:∀ y ∈ ps.zip us,scope.names.lookup y.1=some .local\/(scope.names.lookup y.1=some .cell/\((cellsFrom (s.heap.objs.size + 1) scope.names []).lookup y.1).isSome=true):=fun ⟨n,v⟩ hy=>by
  rcases S.par n (List.of_mem_zip hy).1 with q | q
  · exact .inl q
  · exact .inr ⟨q,PySem.W.cellsFrom_some _ _ _ (.inl q)⟩
 refine codeAny_call_function hr.depth (KX _ _ lk) rfl S.co S.gen rfl (PySem.W.codeRec_of KX hcd) (hb _ _ _ _ ?_)
 refine wpAny_newFunctionEnv_cells S.kind hkind fun env he s1 x=>?_
 subst he
 refine ⟨lim.keeps x.toInCall.keep,codeAny_func ?_⟩
 obtain ⟨t,ht,hq⟩:=hbody A outer s H vs Q E (hr.deeper _) hsp
 have I:Inv (i_ CX P w K mg base N qual scope f cdv A outer s H E) [] (start N vs) H s1:=vd S hr.hd e0 hl r x
 refine wpAny_mono (ht [] s1 (start N vs) H _ I hq) (fun fl s' hs=>?_) fun e s' hs=>hs
 have fin:∀ {σ':St} {H':Hp} {v:V} {u:Value},Inv (i_ CX P w K mg base N qual scope f cdv A outer s H E) [] σ' H' s'->RelV v u->Q v H'->CE outer P w H s Q u s':=
  fun {σ' H' v u} J rv q=>⟨v,H',J.os,J.bare,J.base,J.hok,rv,q⟩
 cases fl with
 | ret u=>
   obtain ⟨v,σ',H',J,rv,q⟩:=hs
   exact fin J rv q
 | next=>
   obtain ⟨σ',H',J,q⟩:=hs
   exact fin (v:=V.non) (u:=Value.none) J rfl q
 | brk=>
   obtain ⟨_,_,_,q⟩:=hs
   exact False.elim q
 | cont=>
   obtain ⟨_,_,_,q⟩:=hs
   exact False.elim q
end L2
namespace L2
open PySem PySem.Spec PyProof.Rows
section
variable {X:Cx} {x:Str} {p pos:Pos} {e:Expr} {es:List Expr} {t:TA} {id T:String} {r:List V->Hp->VK->Prop}
def tCB (r:List V->Hp->VK->Prop) (t:TA):TE:=fun σ H Q=>t σ H fun vs H1=>r vs H1 Q
theorem aU (hc:cU X (.builtin id) r) (hg:Gl X x) (hm:X.mg x=none) (hv:bootBuiltins x=some (.builtin id)) (ha:PA X (e::es) t) (hn:x ≠ "__name__":=by decide) (hdb:(x == ("__debug__":Str))=false:=by decide)
 (he:starEach (e::es) X.env=(false,eval e X.env)::starEach es X.env:=by rfl) (hpl:(backTo pos (starEach es X.env)).any (·.1)=false:=by rfl):PE X (.Call (.Name x p) (e::es) [] pos) (tCB r t):=by
 intro pins s σ H Q I h
 refine wpAny_Call_Name_kw (m8 I hg hm hv ?_ hn hdb)
 exact PyProof.Rows.callWith_builtin1 (thn (ha pos pins s σ H _ I h) fun us s1 ⟨vs,H1,I1,r1,q1⟩=>hc pins s1 σ H1 vs us Q I1 r1 q1) he hpl
theorem pF (hc:cU X (.type T) r) (hg:Gl X x) (hm:X.mg x=none) (hv:bootBuiltins x=some (.type T)) (ha:PA X (e::es) t) (hn:x ≠ "__name__":=by decide) (hdb:(x == ("__debug__":Str))=false:=by decide)
 (he:starEach (e::es) X.env=(false,eval e X.env)::starEach es X.env:=by rfl) (hpl:(backTo pos (starEach es X.env)).any (·.1)=false:=by rfl):PE X (.Call (.Name x p) (e::es) [] pos) (tCB r t):=by
 intro pins s σ H Q I h
 refine wpAny_Call_Name_kw (m8 I hg hm hv ?_ hn hdb)
 exact PyProof.Rows.callWith_type1 (thn (ha pos pins s σ H _ I h) fun us s1 ⟨vs,H1,I1,r1,q1⟩=>hc pins s1 σ H1 vs us Q I1 r1 q1) he hpl
end
end L2
namespace HT
open PySem PyProof.Rows
def lexLt:List Int->List Int->Bool
 | [],[]=>false
 | [],_::_=>true
 | _::_,[]=>false
 | x::xs,y::ys=>if x=y then lexLt xs ys else decide (x < y)
theorem CZ (x y:Int) (xs ys:List Int):lexLt (x::xs) (y::ys)=if x=y then lexLt xs ys else decide (x < y):=rfl
theorem vH:lexLt [] [] =false:=rfl
theorem ur (y:Int) (ys:List Int):lexLt [] (y::ys)=true:=rfl
theorem uw (x:Int) (xs:List Int):lexLt (x::xs) [] =false:=rfl
theorem Ib (A:Around) (s:Shared) (a:Int) (t:Tok) (c:Int) (u:Tok):∃ e,SeqAt.EqAt A s (.int a t) (.int c u) e/\(e=true ↔ a=c):=
 ⟨(a == c),SeqAt.EqAt.int_int a t c u,by simp⟩
theorem Ie (A:Around) (s:Shared) (a:Int) (t:Tok) (c:Int) (u:Tok) (prog:Program) (w:World) (E:Value->Shared->Prop) (Q:Value->Shared->Prop) (h:Q (.bool (decide (a < c))) s):
 wpAny (model prog w) A (richCompare .Lt (.int a t) (.int c u)) Q E s:=
 (PyProof.Rows.lt_int h:wpAny (model prog w) A (compareOp .Lt (.int a t) (.int c u)) Q E s)
section
open PySem.SeqAt
open PySem.AutoSeq1 (wpAny_loadPart')
open PySem.MeetsSeq PySem.MeetsSeq2 PySem.MeetsSeq3
theorem vI (l b:Addr) (items items2:Array Value) (n n2:Nat) (dd dd2:Option Addr) (sl sl2:Array (Option Value)) (ns ms:List Int) (hi:IntsAre items.toList ns) (hj:IntsAre items2.toList ms):
 Meets (Builtin.«tuple.__lt__» ⟨[.ref l,.ref b],[]⟩)
  (fun _ R s=>s.heap.get? l=some { cls:=.type "tuple",dict:=dd,data:=.seq items n,slots:=sl }/\s.heap.get? b=some { cls:=.type "tuple",dict:=dd2,data:=.seq items2 n2,slots:=sl2 }/\
    R (.ok (.ret (.bool (lexLt ns ms)))) s):=
 .of_wp fun prog w A R s h=>by
  obtain ⟨hp,g,d,tk,os⟩:=s;obtain ⟨hl,hb,h⟩:=h
  have f2:=AutoSeq1.sub_tuple_tuple
  have z1:items.size=ns.length:=by rw [<- hi.length];simp
  have z2:items2.size=ms.length:=by rw [<- hj.length];simp
  wp_walk using wpAny_loadPart' hl,wpAny_loadPart' hb,wpAny_forIn_list _ (fun rest b s'=>b.1=none/\s'= ⟨hp,g,d,tk,os⟩/\∃ (vs ws:List Value) (ns' ms':List Int),rest=vs.zip ws/\
   IntsAre vs ns'/\IntsAre ws ms'/\ns'.length + items2.size=ms'.length + items.size/\R (.ok (.ret (.bool (lexLt ns' ms')))) ⟨hp,g,d,tk,os⟩) _
  case turn=>
   rintro ⟨y,x⟩ rest b s' ⟨hb',rfl,vs,ws,ns',ms',hz,hvi,hwi,hlen,hR⟩
   cases hvi with
   | nil=>rw [List.zip_nil_left] at hz;cases hz
   | cons a t SN=>
     cases hwi with
     | nil=>rw [List.zip_nil_right] at hz;cases hz
     | cons c u SQ=>
       rw [List.zip_cons_cons] at hz
       injection hz with hyx hrest
       injection hyx with hy hx
       subst hy hx
       rw [CZ] at hR
       simp only [List.length_cons] at hlen
       obtain ⟨e,he,hiff⟩:=Ib A.in1 ⟨hp,g,d,tk,os⟩ a t c u
       refine wpAny_bind (he prog w _ _ ?_)
       cases e with
       | true=>
         rw [if_pos (hiff.mp rfl)] at hR
         wp_walk
         exact ⟨rfl,rfl,_,_,_,_,hrest,SN,SQ,by omega,hR⟩
       | false=>
         rw [if_neg (fun q=>absurd (hiff.mpr q) Bool.false_ne_true)] at hR
         have hri:=Ie A.in1 ⟨hp,g,d,tk,os⟩ a t c u prog w
         wp_walk using hri
         exact ⟨_,rfl,by simpa using hR⟩
  case fin=>
   rintro ⟨b1,b2⟩ s' ⟨hb',rfl,vs,ws,ns',ms',hz,hvi,hwi,hlen,hR⟩
   simp only at hb'
   subst hb'
   have hv:lexLt ns' ms'=decide (items.size < items2.size):=by
    cases hvi with
    | nil=>
      cases hwi with
      | nil=>
        simp only [List.length_nil] at hlen
        rw [vH]
        exact (decide_eq_false (by omega)).symm
      | cons c u hw=>
        simp only [List.length_nil,List.length_cons] at hlen
        rw [ur]
        exact (decide_eq_true (by omega)).symm
    | cons a t hv=>
      cases hwi with
      | nil=>
        simp only [List.length_nil,List.length_cons] at hlen
        rw [uw]
        exact (decide_eq_false (by omega)).symm
      | cons c u hw=>
        rw [List.zip_cons_cons] at hz
        cases hz
   rw [hv] at hR
   wp_walk
   exact ⟨_,rfl,by simpa [Builtin.Tuple.tupleCompareSizes] using hR⟩
  case h=>
   exact ⟨rfl,rfl,items.toList,items2.toList,ns,ms,rfl,hi,hj,by omega,h⟩
end
section
variable {prog:Program} {w:World} {A:Around} {E:Value->Shared->Prop} {s:Shared}
theorem C_ {l b:Addr} {items items2:Array Value} {ns ms:List Int} {Q:Value->Shared->Prop} (hl:IsTup s.heap l items) (hb:IsTup s.heap b items2) (hi:IntsAre items.toList ns) (hj:IntsAre items2.toList ms)
 (hu:A.units < cLine) (h:Q (.bool (lexLt ns ms)) s):wpAny (model prog w) A (compareOp .Lt (.ref l) (.ref b)) Q E s:=by
 obtain ⟨⟨cls,dd,data,sl⟩,ho,hc,n,hd⟩:=id hl
 obtain ⟨⟨cls2,dd2,data2,sl2⟩,ho2,hc2,n2,hd2⟩:=id hb
 simp only at hc hd hc2 hd2
 subst hc hd hc2 hd2
 exact richCompare_meets_room (op:=.Lt) ⟨_,ho,rfl⟩ ⟨_,ho2,rfl⟩ PySem.F.slot_tuple_lt PySem.F.entry_tuple_lt (PySem.F.args_tuple_lt_2 _ _) (vI l b items items2 n n2 dd dd2 sl sl2 ns ms hi hj)
  ⟨ho,ho2,show Value.bool (lexLt ns ms) ≠ Value.notImplemented/\Q (.bool (lexLt ns ms)) s from ⟨(fun x=>nomatch x),h⟩⟩ hu
def sIx (n d:Nat):Option Int->Nat
 | none=>d
 | some v=>if v < 0 then (v + (n:Int)).toNat else min v.toNat n
theorem Ng (n d:Nat) (hd:d <= n) (o:Option Int):sIx n d o <= n:=by
 cases o with
 | none=>exact hd
 | some v=>
   show (if v < 0 then (v + (n:Int)).toNat else min v.toNat n) <= n
   by_cases hv:v < 0
   · rw [if_pos hv];omega
   · rw [if_neg hv];exact Nat.min_le_right _ _
theorem Az (v:Int) (n d:Nat):(if v < 0 then max (v + (n:Int)) 0 else min v (n:Int))=((sIx n d (some v):Nat):Int):=by
 show (if v < 0 then max (v + (n:Int)) 0 else min v (n:Int))=(((if v < 0 then (v + (n:Int)).toNat else min v.toNat n):Nat):Int)
 by_cases hv:v < 0
 · simp only [if_pos hv];omega
 · simp only [if_neg hv];omega
theorem Dc (lo hi:Option Int) (n:Nat):Builtin.Slice.sliceAdjust lo hi 1 (n:Int)=(((sIx n 0 lo:Nat):Int),((sIx n n hi:Nat):Int)):=by
 have h1:¬ ((1:Int) < 0):=by omega
 unfold Builtin.Slice.sliceAdjust
 simp only [h1,if_false]
 refine Prod.ext ?_ ?_
 · cases lo with
   | none=>rfl
   | some v=>exact Az v n 0
 · cases hi with
   | none=>rfl
   | some v=>exact Az v n n
theorem Dd (i j:Nat):Builtin.Slice.slicePlaces (i:Int) (j:Int) 1=j - i:=by
 unfold Builtin.Slice.slicePlaces
 have h1:(1:Int) > 0:=by omega
 simp only [h1,if_true,Int.ediv_one]
 split <;> omega
theorem su {v:Value} {o:Option Int} {Q:Option Int->Shared->Prop} (p:IsPart v o) (h:Q o s):wpAny (model prog w) A (Builtin.Slice.slicePartIndex v) Q E s:=by
 cases p with
 | none=>exact slicePart_none h
 | int i t=>exact slicePart_int h
theorem qU {sl:Addr} {vl vu:Value} {lo hi:Option Int} {n:Nat} {Q:Int × Int × Nat->Shared->Prop} (hs:s.heap.IsSliceOf sl vl vu .none) (pl:IsPart vl lo) (pu:IsPart vu hi)
 (h:Q (((sIx n 0 lo:Nat):Int),1,sIx n n hi - sIx n 0 lo) s):wpAny (model prog w) A (Builtin.Slice.sliceApplied (.ref sl) (pure (n:Int))) Q E s:=by
 obtain ⟨os,hos,hcs,hds⟩:=id hs
 unfold Builtin.Slice.sliceApplied Builtin.Slice.sliceFields
 refine wpAny_bind (wpAny_bind (wpAny_field hos hds (x:=vl) rfl (wpAny_bind (wpAny_field hos hds (x:=vu) rfl (wpAny_bind (wpAny_field hos hds (x:=.none) rfl (wpAny_pure ?_)))))))
 refine wpAny_bind (slicePart_none ?_)
 show wpAny _ _ (if ((1:Int) == 0)=true then _ else _) _ _ s
 rw [if_neg (by decide)]
 refine wpAny_bind (su pl (wpAny_bind (su pu (wpAny_bind (wpAny_pure ?_)))))
 show wpAny _ _ (match Builtin.Slice.sliceAdjust lo hi 1 (n:Int) with | (lo,hi)=>pure (lo,(1:Int),Builtin.Slice.slicePlaces lo hi 1)) _ _ s
 rw [Dc lo hi n]
 show wpAny _ _ (pure (((sIx n 0 lo:Nat):Int),(1:Int),Builtin.Slice.slicePlaces ((sIx n 0 lo:Nat):Int) ((sIx n n hi:Nat):Int) 1)) _ _ s
 rw [Dd]
 exact wpAny_pure h
theorem Ig (xs:Array Value) (i k:Nat):((List.range k).filterMap fun (m:Nat)=>xs[((i:Int) + (m:Int) * 1).toNat]?).toArray=((xs.toList.drop i).take k).toArray:=by
 have e:(fun (m:Nat)=>xs[((i:Int) + (m:Int) * 1).toNat]?)=fun m=>xs[i + m]?:=by
  funext m
  have:((i:Int) + (m:Int) * 1).toNat=i + m:=by omega
  rw [this]
 rw [e]
 have:=pick_run xs i k
 rw [List.filterMap_map] at this
 have e2:((fun x=>xs[x]?) ∘ fun x=>i + x)=fun m=>xs[i + m]?:=rfl
 rw [e2] at this
 rw [this]
theorem qK {t sl:Addr} {items:Array Value} {vl vu:Value} {lo hi:Option Int} {Q:Value->Shared->Prop} (ht:IsTup s.heap t items) (hs:s.heap.IsSliceOf sl vl vu .none) (pl:IsPart vl lo) (pu:IsPart vu hi)
 (hw:¬ (sIx items.size 0 lo=0/\sIx items.size items.size hi=items.size))
 (h:Q (.ref s.heap.objs.size) { s with heap:=s.heap.push { cls:=.type "tuple",data:=.seq ((items.toList.drop (sIx items.size 0 lo)).take (sIx items.size items.size hi - sIx items.size 0 lo)).toArray } })
 (hsz:items.size <= sizeLine):wpAny (model prog w) A (getItem (.ref t) (.ref sl)) Q E s:=by
 have vZ:sizeOk (.seq ((items.toList.drop (sIx items.size 0 lo)).take (sIx items.size items.size hi - sIx items.size 0 lo)).toArray):=by
  show ((items.toList.drop (sIx items.size 0 lo)).take (sIx items.size items.size hi - sIx items.size 0 lo)).toArray.size <= sizeLine
  rw [List.size_toArray,List.length_take,List.length_drop,Array.length_toList]
  omega
 have hj:sIx items.size items.size hi <= items.size:=Ng _ _ (Nat.le_refl _) hi
 obtain ⟨os,hos,hcs,hds⟩:=id hs
 have hTs:s.TypeIs (.ref sl) "slice":=⟨os,hos,hcs⟩
 unfold getItem
 try with_reducible refine wpAny_holding ?_
 first | refine wpAny_bind (wpAny_pure ?_) | skip
 refine wpAny_bind (wpAny_sequenceKey ht.typeIs (by decide) ?_)
 refine wpAny_bind (wpAny_callSpecial?_slot (name:=Str.ofString "__getitem__") ht.typeIs PyProof.Rows.slot_tuple_getitem
  (wpAny_call_entry PyProof.Rows.slot_tuple_getitem ht.typeIs entry_tuple_getitem ?_ (args_tuple_getitem _ _)))
 show wpAny _ _ (Builtin.Tuple.tupleItemsOf (.ref t) >>= _) _ _ s
 refine wpAny_bind (tupleItemsOf_ ht ?_)
 refine wpAny_bind (wpAny_typeOf hTs ?_)
 rw [if_pos (by decide)]
 refine wpAny_bind (qU hs pl pu ?_)
 have hno:¬ ((((sIx items.size 0 lo:Nat):Int) == 0 && (1:Int) == 1 && (sIx items.size items.size hi - sIx items.size 0 lo) == items.size)=true):=by
  intro q
  rw [Bool.and_eq_true,Bool.and_eq_true] at q
  have q1:((sIx items.size 0 lo:Nat):Int)=0:=eq_of_beq q.1.1
  have q2:sIx items.size items.size hi - sIx items.size 0 lo=items.size:=eq_of_beq q.2
  exact hw ⟨by omega,by omega⟩
 show wpAny _ _ (if (((sIx items.size 0 lo:Nat):Int) == 0 && (1:Int) == 1 && (sIx items.size items.size hi - sIx items.size 0 lo) == items.size)=true then _ else _) _ _ s
 rw [if_neg hno,Ig]
 first
  | exact wpAny_bind (m:=Builtin.Tuple.tupleExact _) (wpAny_newObj_type (wpAny_pure ⟨_,rfl,wpAny_pure h⟩) vZ)
  | exact wpAny_bind (m:=Builtin.Tuple.tupleExact _) (wpAny_newObj_type (wpAny_bind (wpAny_pure (wpAny_pure ⟨_,rfl,wpAny_pure h⟩))) vZ)
  | exact wpAny_bind (wpAny_bind (m:=Builtin.Tuple.tupleExact _) (wpAny_newObj_type (wpAny_pure (wpAny_pure ⟨_,rfl,wpAny_pure h⟩)) vZ))
  | exact wpAny_bind (wpAny_bind (m:=Builtin.Tuple.tupleExact _) (wpAny_newObj_type (wpAny_pure ⟨_,rfl,wpAny_pure h⟩) vZ))
end
end HT
namespace L2
open PySem PySem.Spec PyProof.Rows
abbrev TO:=St->Hp->(Option Int->Hp->Prop)->Prop
def PO (X:Cx) (e:Option Expr) (t:TO):Prop:=
 ∀ (pins:List (Addr × Obj)) (s:Shared) (σ:St) (H:Hp) (Q:Option Int->Hp->Prop),Inv X pins σ H s->t σ H Q->
   wpAny (model X.prog X.w) X.A (evalPart e X.env) (fun u s'=>∃ o H',Inv X pins σ H' s'/\IsPart u o/\Q o H') X.xe s
def A_:TO:=fun _ H Q=>Q none H
def JL (t:TE):TO:=fun σ H Q=>t σ H fun x H1=>∃ i,x= .int i/\Q (some i) H1
theorem intsAre_of {ns:List Int}:∀ {us:List Value},Vals (ns.map V.int) us->IntsAre us ns:=by
 induction ns with
 | nil=>intro us r;rw [List.map_nil] at r;cases r;exact .nil
 | cons n ns ih=>
   intro us r
   rw [List.map_cons] at r
   cases r with
   | cons r1 r2=>
     obtain ⟨t,e⟩:=r1
     subst e
     exact .cons n t (ih r2)
section
variable {X:Cx} {e:Expr} {te:TE} {lo hi:Option Expr} {tl th:TO} {pos p2:Pos}
theorem Km:PO X none A_:=by
 intro pins s σ H Q I h
 rw [evalPart_none]
 exact wpAny_pure ⟨none,H,I,.none,h⟩
theorem Ko (h:PE X e te):PO X (some e) (JL te):=by
 intro pins s σ H Q I hw
 rw [evalPart_some]
 refine thn (h pins s σ H _ I hw) fun u s1 ⟨x,H1,I1,r1,q1⟩=>?_
 obtain ⟨i,rfl,q⟩:=q1
 obtain ⟨t,rfl⟩:=r1
 exact ⟨some i,H1,I1,.int i t,q⟩
def SlR (X:Cx) (r:V->Option Int->Option Int->Hp->VK->Prop):Prop:=
 ∀ (pins:List (Addr × Obj)) (s:Shared) (σ:St) (H:Hp) (x:V) (v vl vu:Value) (lo hi:Option Int) (sl:Addr) (Q:VK),Inv X pins σ H s->RelV x v->s.heap.IsSliceOf sl vl vu .none->IsPart vl lo->IsPart vu hi->r x lo hi H Q->
   ∃ T id,typeLookup (.type T) "__getitem__" =pure (some (.builtin id))/\s.TypeIs v T/\wpAny (model X.prog X.w) X.A (getItem v (.ref sl)) (EP X pins σ Q) X.xe s
theorem SlR.or {r r':V->Option Int->Option Int->Hp->VK->Prop} (h:SlR X r) (h':SlR X r'):SlR X (fun x lo hi H Q=>r x lo hi H Q\/r' x lo hi H Q):=by
 intro pins s σ H x v vl vu lo hi sl Q I rx hs pl pu q
 rcases q with q | q
 · exact h pins s σ H x v vl vu lo hi sl Q I rx hs pl pu q
 · exact h' pins s σ H x v vl vu lo hi sl Q I rx hs pl pu q
def tSl (r:V->Option Int->Option Int->Hp->VK->Prop) (te:TE) (tl th:TO):TE:=fun σ H Q=>te σ H fun x H1=>tl σ H1 fun l H2=>th σ H2 fun u H3=>r x l u H3 Q
theorem Ih {r:V->Option Int->Option Int->Hp->VK->Prop} (hr:SlR X r) (he:PE X e te) (hl:PO X lo tl) (hu:PO X hi th):PE X (.Subscript e (.Slice lo hi none p2) pos) (tSl r te tl th):=by
 intro pins s σ H Q I h
 refine Subscript_ (thn (he pins s σ H _ I h) fun v s1 ⟨x,H1,I1,r1,q1⟩=>?_)
 refine wpAny_Slice (thn (hl pins s1 σ H1 _ I1 q1) fun vl s2 ⟨l,H2,I2,pl,q2⟩=>thn (hu pins s2 σ H2 _ I2 q2) fun vu s3 ⟨u,H3,I3,pu,q3⟩=>?_)
 rw [evalPart_none]
 refine wpAny_pure ?_
 have I4:Inv X pins σ H3 { s3 with heap:=s3.heap.push { cls:=.type "slice",data:=.fields #[vl,vu,.none] } }:=I3.kept (t':=s3.toks) fun b ob q=>Heap.get?_push_of_some _ q
 obtain ⟨T,id,hT,ht,hg⟩:=hr pins { s3 with heap:=s3.heap.push { cls:=.type "slice",data:=.fields #[vl,vu,.none] } } σ H3 x v vl vu l u s3.heap.objs.size Q I4 r1 (Heap.IsSliceOf.new ..) pl pu q3
 show wpAny (model X.prog X.w) X.A (subscriptTail e (.Slice lo hi none p2) v (.ref s3.heap.objs.size)) (EP X pins σ Q) X.xe { s3 with heap:=s3.heap.push { cls:=.type "slice",data:=.fields #[vl,vu,.none] } }
 exact tail_any (ops:=[.ref s3.heap.objs.size,v]) ht hT hg (by with_unfolding_all rfl)
def ux (xs:List V) (lo hi:Option Int):List V:=(xs.drop (HT.sIx xs.length 0 lo)).take (HT.sIx xs.length xs.length hi - HT.sIx xs.length 0 lo)
theorem qM (xs:List V) (lo hi:Option Int):(ux xs lo hi).length <= xs.length:=by
 unfold ux
 rw [List.length_take,List.length_drop]
 omega
def Nh (K:PySem.W.Frag):V->Option Int->Option Int->Hp->VK->Prop:=fun x lo hi H Q=>∃ a xs,x= .ref a/\SqT K H a xs/\
 ¬ (HT.sIx xs.length 0 lo=0/\HT.sIx xs.length xs.length hi=xs.length)/\∀ p,H p=none->Q (.ref p) (upd H p (.tup (ux xs lo hi)))
theorem Ni:SlR X (Nh X.K):=by
 intro pins s σ H x v vl vu lo hi sl Q I rx hs pl pu h
 obtain ⟨a,xs,rfl,hx,hw,q⟩:=h
 cases rx
 obtain ⟨its,r,ht,hz⟩:=I.tuple hx
 have hlen:its.toArray.size=xs.length:=by rw [List.size_toArray];exact r.length.symm
 refine ⟨"tuple",_,PyProof.Rows.slot_tuple_getitem.lookup,ht.typeIs,?_⟩
 refine HT.qK ht hs pl pu (by rw [hlen];exact hw) ?_ (by rw [hlen];exact hz)
 rw [hlen]
 refine ⟨.ref s.heap.objs.size,_,I.laid (t':=s.toks) (o:=.tup (ux xs lo hi)) (fun b ob q=>Heap.get?_push_of_some _ q) (Nat.le_refl _) ?_,rfl,q _ (I.hok.fresh (Nat.le_refl _))⟩
 exact ⟨Nat.le_trans (qM xs lo hi) hz,_,(r.drop (HT.sIx xs.length 0 lo)).take (HT.sIx xs.length xs.length hi - HT.sIx xs.length 0 lo),IsTup.new _ _⟩
def Nj (K:PySem.W.Frag):R2:=fun x y H Q=>∃ a b ns ms,x= .ref a/\y= .ref b/\SqT K H a (ns.map V.int)/\SqT K H b (ms.map V.int)/\Q (.bl (HT.lexLt ns ms)) H
theorem xq (hu:X.A.units < cLine):OpR X (compareOp .Lt) (Nj X.K):=by
 intro pins s σ H x y v u Q I rx ry h
 obtain ⟨a,b,ns,ms,rfl,rfl,ha,hb,q⟩:=h
 cases rx
 cases ry
 obtain ⟨its,r1,p1,_⟩:=I.tuple ha
 obtain ⟨its2,r2,p2,_⟩:=I.tuple hb
 have i1:IntsAre its.toArray.toList ns:=intsAre_of r1
 have i2:IntsAre its2.toArray.toList ms:=intsAre_of r2
 exact HT.C_ p1 p2 i1 i2 hu ⟨.bl (HT.lexLt ns ms),H,I,rfl,q⟩
end
end L2
namespace L2
open PySem PySem.Spec PyProof.Rows
def ixN (n:Nat) (i:Int):Option Nat:=if 0 <= i then (if i < n then some i.toNat else none) else if -(n:Int) <= i then some (i + n).toNat else none
def atI {α:Type} (xs:List α) (i:Int):Option α:=(ixN xs.length i).bind fun j=>xs[j]?
theorem Kq {n:Nat} {i:Int} {j:Nat} (h:ixN n i=some j):seqIndex? i n=some j/\j < n/\-(n:Int) <= i/\i < n:=by
 unfold ixN at h
 by_cases h0:0 <= i
 · rw [if_pos h0] at h
   by_cases h1:i < n
   · rw [if_pos h1] at h
     have e:i.toNat=j:=Option.some.inj h
     exact ⟨by rw [seqIndex_of h0 h1,e],by omega,by omega,h1⟩
   · rw [if_neg h1] at h;cases h
 · rw [if_neg h0] at h
   by_cases h1: -(n:Int) <= i
   · rw [if_pos h1] at h
     have e:(i + n).toNat=j:=Option.some.inj h
     exact ⟨by rw [seqIndex_neg (by omega) h1,e],by omega,h1,by omega⟩
   · rw [if_neg h1] at h;cases h
theorem uy {α:Type} {xs:List α} {i:Int} {v:α} (h:atI xs i=some v):∃ j,seqIndex? i xs.length=some j/\xs[j]? =some v/\j < xs.length/\-(xs.length:Int) <= i/\i < xs.length:=by
 unfold atI at h
 cases e:ixN xs.length i with
 | none=>rw [e] at h;cases h
 | some j=>
   rw [e] at h
   obtain ⟨h1,h2,h3,h4⟩:=Kq e
   exact ⟨j,h1,h,h2,h3,h4⟩
theorem nG {α:Type} {xs:List α} {j:Nat} {v:α} (h:xs[j]? =some v):atI xs (j:Int)=some v:=by
 have hj:j < xs.length:=(List.getElem?_eq_some_iff.mp h).1
 have e:ixN xs.length (j:Int)=some j:=by
  unfold ixN
  rw [if_pos (by omega),if_pos (by omega)];simp
 unfold atI;rw [e];exact h
def Ba (b:Expr):Prop:=∀ o i,subscripted b false o i=operate [o,i] (getItem o i)
def IxR (X:Cx) (r:R2):Prop:=
 ∀ (value slice:Expr) (pins:List (Addr × Obj)) (s:Shared) (σ:St) (H:Hp) (x y:V) (v u:Value) (Q:VK),Inv X pins σ H s->RelV x v->RelV y u->r x y H Q->
   subscripted slice false v u=operate [v,u] (getItem v u)->wpAny (model X.prog X.w) X.A (subscriptTail value slice v u) (EP X pins σ Q) X.xe s
def MtR (X:Cx) (id:String) (r:V->List V->Hp->VK->Prop):Prop:=
 ∀ (pins:List (Addr × Obj)) (s:Shared) (σ:St) (H:Hp) (x:V) (xs:List V) (v:Value) (us:List Value) (Q:VK),Inv X pins σ H s->RelV x v->Vals xs us->r x xs H Q->
   wpAny (model X.prog X.w) X.A (call (.builtin id) (v::us)) (EP X pins σ Q) X.xe s
section
variable {X:Cx} {a b:Expr} {ta tb:TE} {pos:Pos}
theorem IxR.or {r r':R2} (h:IxR X r) (h':IxR X r'):IxR X (fun x y H Q=>r x y H Q\/r' x y H Q):=by
 intro value slice pins s σ H x y v u Q I rx ry q hs
 rcases q with q | q
 · exact h value slice pins s σ H x y v u Q I rx ry q hs
 · exact h' value slice pins s σ H x y v u Q I rx ry q hs
theorem sE {r:R2} (hr:IxR X r) (ha:PE X a ta) (hb:PE X b tb) (hs:Ba b):PE X (.Subscript a b pos) (tOp r ta tb):=by
 intro pins s σ H Q I h
 exact Subscript_ (HR ha hb I h fun v u s2 x y H2 I2 rx ry q=>hr a b pins s2 σ H2 x y v u Q I2 rx ry q (hs _ _))
def Nk (K:PySem.W.Frag):R2:=fun x y H Q=>∃ p xs i v,x= .ref p/\y= .int i/\SqL K H p xs/\atI xs i=some v/\Q v H
def Nm (K:PySem.W.Frag):R2:=fun x y H Q=>∃ p xs i v,x= .ref p/\y= .int i/\SqT K H p xs/\atI xs i=some v/\Q v H
def Np:R2:=fun x y H Q=>∃ z i c,x= .str z/\y= .int i/\z.length <= sizeLine/\atI z.cps.toList i=some c/\Q (.str ⟨#[c]⟩) H
theorem uz:IxR X (Nk X.K):=by
 intro value slice pins s σ H x y v u Q I rx ry h hs
 obtain ⟨p,xs,i,z,rfl,rfl,hq,he,q⟩:=h
 cases rx
 obtain ⟨t,rfl⟩:=ry
 obtain ⟨its,r,pl,hz⟩:=I.list hq
 obtain ⟨j,h1,h2,h3,h4,h5⟩:=uy he
 obtain ⟨w,ew,rw'⟩:=r.get h2
 have hl:=r.length
 have hn:=pB
 have fin:EP X pins σ Q w s:=⟨z,H,I,rw',q⟩
 by_cases h0:0 <= i
 · have hj:i.toNat=j:=by
    rw [seqIndex_of h0 h5] at h1
    exact Option.some.inj h1
   exact item_listR pl.isList h0 (by omega) (by rw [hj];simpa using ew) fin hs
 · have hj:(i + (its.toArray.size:Int)).toNat=j:=by
    rw [seqIndex_neg (by omega) h4] at h1
    rw [List.size_toArray,<- hl]
    exact Option.some.inj h1
   exact subscriptTail_builtinR (x:=w) pl.isList.typeIs slot_list_getitem.lookup
    (wpAny_getItem_list_neg (Q:=fun r s'=>r=w/\EP X pins σ Q r s') pl.isList (by omega) (by rw [List.size_toArray] <;> omega) (by omega) (by rw [hj];simpa using ew) ⟨rfl,fin⟩) hs
theorem Nq:IxR X (Nm X.K):=by
 intro value slice pins s σ H x y v u Q I rx ry h hs
 obtain ⟨p,xs,i,z,rfl,rfl,hq,he,q⟩:=h
 cases rx
 obtain ⟨t,rfl⟩:=ry
 obtain ⟨its,r,pl,hz⟩:=I.tuple hq
 obtain ⟨j,h1,h2,h3,h4,h5⟩:=uy he
 obtain ⟨w,ew,rw'⟩:=r.get h2
 have hl:=r.length
 have hn:=pB
 have fin:EP X pins σ Q w s:=⟨z,H,I,rw',q⟩
 exact subscriptTail_builtinR (x:=w) pl.typeIs slot_tuple_getitem.lookup
  (getItem_tuple (j:=j) (Q:=fun r s'=>r=w/\EP X pins σ Q r s') pl (by omega) (by omega) (by rw [List.size_toArray,<- hl];exact h1) (by simpa using ew) ⟨rfl,fin⟩) hs
theorem Nr:IxR X Np:=by
 intro value slice pins s σ H x y v u Q I rx ry h hs
 obtain ⟨z,i,c,rfl,rfl,hz,he,q⟩:=h
 obtain ⟨t,rfl⟩:=rx
 obtain ⟨t',rfl⟩:=ry
 obtain ⟨j,h1,h2,h3,h4,h5⟩:=uy he
 have hl:z.cps.toList.length=z.length:=by simp [Str.length]
 rw [hl] at h1 h4 h5
 have hn:=pB
 exact tail_any (typeIs_str s z t) slot_str_getitem.lookup (getItem_str (c:=c) (by
  have e1:decide (i < -(2 ^ 63:Int))=false:=decide_eq_false (by omega)
  have e2:decide (i >= 2 ^ 63)=false:=decide_eq_false (by omega)
  rw [e1,e2,Bool.or_false]) (by rw [h1];simpa using h2) ⟨.str ⟨#[c]⟩,H,I.tok _,⟨_,rfl⟩,q⟩) hs
def rIx (K:PySem.W.Frag):R2:=fun x y H Q=>Nk K x y H Q\/Nm K x y H Q\/Np x y H Q
theorem Fp:IxR X (rIx X.K):=uz.or (Nq.or Nr)
theorem xr (lo hi:Option Int) (n:Nat):(sliceBounds lo hi none n).1=((HT.sIx n 0 lo:Nat):Int)/\(sliceBounds lo hi none n).2.1=((HT.sIx n n hi:Nat):Int)/\(sliceBounds lo hi none n).2.2=1:=by
 refine ⟨?_,?_,rfl⟩
 · cases lo with
   | none=>simp [sliceBounds,HT.sIx]
   | some i=>
     simp only [sliceBounds,HT.sIx,Option.getD_none,show (1:Int) > 0 by decide,if_true]
     by_cases h:i < 0
     · simp only [h,if_true] <;> omega
     · simp only [h,if_false] <;> omega
 · cases hi with
   | none=>simp [sliceBounds,HT.sIx]
   | some i=>
     simp only [sliceBounds,HT.sIx,Option.getD_none,show (1:Int) > 0 by decide,if_true]
     by_cases h:i < 0
     · simp only [h,if_true] <;> omega
     · simp only [h,if_false] <;> omega
theorem vJ (its:List Value) (lo hi:Option Int):slicePick its.toArray lo hi none=((its.drop (HT.sIx its.length 0 lo)).take (HT.sIx its.length its.length hi - HT.sIx its.length 0 lo)).toArray:=by
 obtain ⟨h1,h2,h3⟩:=xr lo hi its.toArray.size
 unfold slicePick
 rw [h1,h2,h3]
 simp only [sliceRange_one,pick_run,List.size_toArray] <;> rfl
def Nt (K:PySem.W.Frag):V->Option Int->Option Int->Hp->VK->Prop:=fun x lo hi H Q=>∃ a xs,x= .ref a/\SqL K H a xs/\∀ p,H p=none->Q (.ref p) (upd H p (.lst (ux xs lo hi)))
theorem Kr:SlR X (Nt X.K):=by
 intro pins s σ H x v vl vu lo hi sl Q I rx hs pl pu h
 obtain ⟨a,xs,rfl,hx,q⟩:=h
 cases rx
 obtain ⟨its,r,ht,hz⟩:=I.list hx
 have hlen:=r.length
 refine ⟨"list",_,slot_list_getitem.lookup,ht.isList.typeIs,?_⟩
 refine wpAny_getItem_list_slice ht.isList hs pl pu .none (by simp) ?_ (by rw [List.size_toArray] <;> omega)
 rw [vJ,<- hlen]
 refine ⟨.ref s.heap.objs.size,_,I.laid (t':=s.toks) (o:=.lst (ux xs lo hi)) (fun b ob q=>Heap.get?_push_of_some _ q) (Nat.le_refl _) ?_,rfl,q _ (I.hok.fresh (Nat.le_refl _))⟩
 exact ⟨Nat.le_trans (qM xs lo hi) hz,_,0,(r.drop (HT.sIx xs.length 0 lo)).take (HT.sIx xs.length xs.length hi - HT.sIx xs.length 0 lo),Heap.get?_push_size _ rfl⟩
def jb:V->Bool
 | .non=>true
 | .bl _=>true
 | .int _=>true
 | .str _=>true
 | _=>false
def eqV:V->V->Bool
 | .non,.non=>true
 | .bl a,.bl b=>a == b
 | .bl a,.int b=>(if a then 1 else 0) == b
 | .int a,.bl b=>a == (if b then 1 else 0)
 | .int a,.int b=>a == b
 | .str a,.str b=>a == b
 | _,_=>false
theorem Nu {A:Around} {s:Shared} {y x:V} {u v:Value} (ry:RelV y u) (rx:RelV x v) (fy:jb y=true) (fx:jb x=true):SeqAt.EqAt A s u v (eqV y x):=by
 cases y with
 | non=>
   cases ry
   cases x with
   | non=>cases rx;exact SeqAt.EqAt.same _
   | bl b=>cases rx;exact SeqAt.EqAt.none_bool b
   | int b=>obtain ⟨t,rfl⟩:=rx;exact SeqAt.EqAt.none_int b t
   | str b=>obtain ⟨t,rfl⟩:=rx;exact SeqAt.EqAt.none_str b t
   | _=>exact absurd (show false=true from fx) Bool.false_ne_true
 | bl a=>
   cases ry
   cases x with
   | non=>cases rx;exact SeqAt.EqAt.bool_none a
   | bl b=>cases rx;exact SeqAt.EqAt.bool_bool a b
   | int b=>obtain ⟨t,rfl⟩:=rx;exact SeqAt.EqAt.bool_int a b t
   | str b=>obtain ⟨t,rfl⟩:=rx;exact SeqAt.EqAt.bool_str a b t
   | _=>exact absurd (show false=true from fx) Bool.false_ne_true
 | int a=>
   obtain ⟨t',rfl⟩:=ry
   cases x with
   | non=>cases rx;exact SeqAt.EqAt.int_none a t'
   | bl b=>cases rx;exact SeqAt.EqAt.int_bool a t' b
   | int b=>obtain ⟨t,rfl⟩:=rx;exact SeqAt.EqAt.int_int a t' b t
   | str b=>obtain ⟨t,rfl⟩:=rx;exact SeqAt.EqAt.int_str a t' b t
   | _=>exact absurd (show false=true from fx) Bool.false_ne_true
 | str a=>
   obtain ⟨t',rfl⟩:=ry
   cases x with
   | non=>cases rx;exact SeqAt.EqAt.str_none a t'
   | bl b=>cases rx;exact SeqAt.EqAt.str_bool a t' b
   | int b=>obtain ⟨t,rfl⟩:=rx;exact SeqAt.EqAt.str_int a t' b t
   | str b=>obtain ⟨t,rfl⟩:=rx;exact SeqAt.EqAt.str_str a t' b t
   | _=>exact absurd (show false=true from fx) Bool.false_ne_true
 | _=>exact absurd (show false=true from fy) Bool.false_ne_true
def eqU (x:V) (u:Value):Bool:=match u with
 | .none=>eqV .non x
 | .bool b=>eqV (.bl b) x
 | .int i _=>eqV (.int i) x
 | .str z _=>eqV (.str z) x
 | _=>false
theorem Fv {x y:V} {u:Value} (r:RelV y u) (f:jb y=true):eqU x u=eqV y x:=by
 cases y with
 | non=>cases r;rfl
 | bl b=>cases r;rfl
 | int i=>obtain ⟨t,rfl⟩:=r;rfl
 | str z=>obtain ⟨t,rfl⟩:=r;rfl
 | _=>exact absurd (show false=true from f) Bool.false_ne_true
theorem uA {x:V}:∀ {xs:List V} {us:List Value},Vals xs us->xs.all jb=true->us.any (eqU x)=xs.any fun y=>eqV y x
 | _,_,.nil,_=>rfl
 | y::xs,u::us,.cons r t,f=>by
   rw [List.all_cons,Bool.and_eq_true] at f
   rw [List.any_cons,List.any_cons,Fv r f.1,uA t f.2]
theorem qW {A:Around} {s:Shared} {x:V} {v:Value} (rx:RelV x v) (fx:jb x=true):∀ {xs:List V} {us:List Value},Vals xs us->xs.all jb=true->∀ u ∈ us,SeqAt.EqAt A s u v (eqU x u)
 | _,_,.nil,_=>fun u hu=>by cases hu
 | y::xs,u::us,.cons r t,f=>fun u' hu=>by
   rw [List.all_cons,Bool.and_eq_true] at f
   rcases List.mem_cons.mp hu with rfl | hu
   · rw [Fv r f.1];exact Nu r rx f.1 fx
   · exact qW rx fx t f.2 u' hu
def inV (x:V) (xs:List V):Bool:=xs.any fun y=>eqV y x
def rIn (K:PySem.W.Frag) (neg:Bool):R2:=fun x y H Q=>∃ p xs,y= .ref p/\(SqL K H p xs\/SqT K H p xs)/\jb x=true/\xs.all jb=true/\Q (.bl (if neg then !inV x xs else inV x xs)) H
theorem pG:OpR X (compareOp .NotIn) (rIn X.K true):=by
 intro pins s σ H x y v u Q I rx ry h
 obtain ⟨p,xs,rfl,hq,fx,fs,q⟩:=h
 cases ry
 rcases hq with hq | hq
 · obtain ⟨its,r,pl,hz⟩:=I.list hq
   refine SeqAt.notIn_listAt (eqU x) pl.isList (fun w hw=>qW rx fx r fs w (by simpa using hw)) ⟨.bl _,H,I,rfl,?_⟩
   rw [show its.toArray.any (eqU x)=its.any (eqU x) by simp,uA r fs]
   exact q
 · obtain ⟨its,r,pl,hz⟩:=I.tuple hq
   refine SeqAt.notIn_tupleAt (eqU x) pl (fun w hw=>qW rx fx r fs w (by simpa using hw)) ⟨.bl _,H,I,rfl,?_⟩
   rw [show its.toArray.any (eqU x)=its.any (eqU x) by simp,uA r fs]
   exact q
theorem cj:cU X (.builtin "len") (fun xs H Q=>∃ p ys,xs= [.ref p]/\(SqL X.K H p ys\/SqT X.K H p ys)/\Q (.int ys.length) H):=by
 intro pins s σ H xs us Q I r h
 obtain ⟨p,ys,rfl,hq,q⟩:=h
 obtain ⟨u,rfl,rx⟩:=vals1 r
 cases rx
 have hn:=pB
 rcases hq with hq | hq
 · obtain ⟨its,r',pl,hz⟩:=I.list hq
   have hlen:=r'.length
   exact Calls.call_len_list pl.isList (by simp only [List.size_toArray] <;> omega) ⟨.int ys.length,H,I.tok _,⟨s.toks + 1,by rw [List.size_toArray,hlen]⟩,q⟩
 · obtain ⟨its,r',pl,hz⟩:=I.tuple hq
   have hlen:=r'.length
   exact len_tuple pl (by simp only [List.size_toArray] <;> omega) ⟨.int ys.length,H,I.tok _,⟨s.toks + 1,by rw [List.size_toArray,hlen]⟩,q⟩
def tyV (K:PySem.W.Frag) (T:String) (x:V) (H:Hp):Prop:=match x with
 | .str _=>T= "str"
 | .int _=>T= "int"
 | .ref p=>(T= "list"/\∃ xs,SqL K H p xs)\/(T= "tuple"/\∃ o,K.lookup p=some o/\o.cls= .type "tuple"/\o.dict=none)\/
    (T= "dict"/\((∃ kvs,H p=some (.dK kvs))\/∃ kvs,H p=some (.dT kvs)))\/(T= "set"/\∃ S n,H p=some (.set S n))
 | _=>False
theorem Nv {pins:List (Addr × Obj)} {σ:St} {H:Hp} {s:Shared} {T:String} {x:V} {v:Value} (I:Inv X pins σ H s) (r:RelV x v) (ty:tyV X.K T x H):
 s.TypeIs v T/\∀ a,v= .ref a->∃ ob,s.heap.get? a=some ob/\ob.dict=none:=by
 cases x with
 | str z=>
   obtain ⟨t,rfl⟩:=r
   cases (show T= "str" from ty)
   exact ⟨typeIs_str s z t,fun _ e=>nomatch e⟩
 | int i=>
   obtain ⟨t,rfl⟩:=r
   cases (show T= "int" from ty)
   exact ⟨typeIs_int s i t,fun _ e=>nomatch e⟩
 | ref p=>
   cases r
   rcases ty with ⟨rfl,xs,hq⟩ | ⟨rfl,o,hk,hc,hd⟩ | ⟨rfl,hk⟩ | ⟨rfl,S,n,hk⟩
   · obtain ⟨its,_,pl,_⟩:=I.list hq
     refine ⟨pl.isList.typeIs,fun a e=>?_⟩
     cases e
     obtain ⟨o,n,e,c,hd,_⟩:=pl
     exact ⟨o,e,hd⟩
   · refine ⟨⟨o,I.kIn p o hk,hc⟩,fun a e=>?_⟩
     cases e
     exact ⟨o,I.kIn _ o hk,hd⟩
   · have z:∃ o,s.heap.get? p=some o/\o.ExactDict:=by
      rcases hk with ⟨kvs,hk⟩ | ⟨kvs,hk⟩
      · obtain ⟨_,_,_,_,o,_,_,e,ex,_⟩:=I.hok p _ hk
        exact ⟨o,e,ex⟩
      · obtain ⟨_,_,_,_,o,_,_,e,ex,_⟩:=I.hok p _ hk
        exact ⟨o,e,ex⟩
     obtain ⟨o,e,ex⟩:=z
     refine ⟨⟨o,e,ex.1⟩,fun a e2=>?_⟩
     cases e2
     exact ⟨o,e,ex.2.1⟩
   · obtain ⟨o,_,_,_,e,ex,_⟩:=I.hok p _ hk
     refine ⟨⟨o,e,ex.1⟩,fun a e2=>?_⟩
     cases e2
     exact ⟨o,e,ex.2.1⟩
 | _=>exact False.elim ty
def tBM (K:PySem.W.Frag) (T:String) (r:V->List V->Hp->VK->Prop) (to:TE) (t:TA):TE:=fun σ H Q=>to σ H fun x H1=>tyV K T x H1/\t σ H1 fun xs H2=>r x xs H2 Q
variable {o e:Expr} {es:List Expr} {to:TE} {t:TA} {name:Str} {apos cpos:Pos} {T id:String} {r:V->List V->Hp->VK->Prop}
theorem De (pa:PlainAttrs T) (slot:Slot T name id) (hty:typeOf (.builtin id)=pure (.type "method_descriptor")) (hm:MtR X id r) (ho:PE X o to) (ha:PA X (e::es) t)
 (hbase:attributeBase o name X.env (eval o X.env)=eval o X.env:=by rfl)
 (hfew:((backTo cpos (starEach (e::es) X.env)).all (fun x=> !x.1) && (backToKw cpos (keywordEach [] X.env)).all (fun x=>x.1.isSome)
   && decide ((e::es).length + ([]:List Keyword).length + (if ([]:List Keyword).isEmpty then 0 else 1) < 30))=true:=by rfl)
 (hline:(apos.endLine == cpos.line)=true:=by rfl) (hs:starEach (e::es) X.env=(false,eval e X.env)::starEach es X.env:=by rfl) (hplain:(backTo cpos (starEach es X.env)).any (·.1)=false:=by rfl):
 PE X (.Call (.Attribute o name apos) (e::es) [] cpos) (tBM X.K T r to t):=by
 intro pins s σ H Q I h
 refine wpAny_Call_method_late hbase hfew hline rfl (thn (ho pins s σ H _ I h) fun v s1 ⟨x,H1,I1,r1,ty,q1⟩=>?_)
 obtain ⟨h1,h2⟩:=Nv I1 r1 ty
 refine ⟨T,id,pa,slot,hty,h1,h2,?_⟩
 have hA:=ha cpos pins s1 σ H1 _ I1 q1
 rw [hs] at hA ⊢
 refine Calls.callWith_builtin (by show (false || (backTo cpos (starEach es X.env)).any (·.1))=false;rw [hplain] <;> rfl) (Calls.evalArgs_plain ?_)
 exact thn hA fun us s2 ⟨vs,H2,I2,r2,q2⟩=>hm pins s2 σ H2 x vs v us Q I2 r1 r2 q2
end
end L2
namespace L2
open PySem PySem.Spec PyProof.Rows
def MtM (X:Cx) (id:String) (r:V->List V->Hp->VK->Prop):Prop:=
 ∀ (pins:List (Addr × Obj)) (s:Shared) (σ:St) (H:Hp) (x:V) (xs:List V) (v:Value) (us:List Value) (Q:VK),Inv X pins σ H s->RelV x v->Vals xs us->r x xs H Q->
   wpAny (model X.prog X.w) X.A (call (.builtin id) (v::us)) (EP X pins σ Q) X.xe s
theorem Vals.one:∀ {x:V} {us:List Value},Vals [x] us->∃ u,us= [u]/\RelV x u
 | _,_,.cons r .nil=>⟨_,rfl,r⟩
section
variable {X:Cx} {pins:List (Addr × Obj)} {σ:St} {H:Hp} {s:Shared} {l b:Addr} {xs ys zs:List V}
theorem Inv.SX {its its':List Value} {n:Nat} {f:Array Value->Array Value} {t':Nat} (I:Inv X pins σ H s) (hH:H l=some (.lst xs))
 (e:s.heap.get? l=some { cls:=.type "list",data:=.seq its.toArray n }) (hf:f its.toArray=its'.toArray) (hv:Vals ys its') (hz:ys.length <= sizeLine):
 Inv X pins σ (upd H l (.lst ys)) { s with heap:=s.heap.update l (Obj.mapSeq f),toks:=t' }:=by
 have q:=PySem.IsL.update e f
 rw [hf] at q
 refine I.write (x:=l) (e:=l) (by rw [hH];exact trivial) (.inl rfl) (fun b' u hb hu=>(Heap.get?_update_other s.heap (Obj.mapSeq f) (Ne.symm hb)).trans hu) ⟨_,q⟩ ?_
 exact ⟨hz,its',_,hv,q⟩
theorem Inv.Nx {its:List Value} {t':Nat} (I:Inv X pins σ H s) (hv:Vals ys its) (hz:ys.length <= sizeLine):
 Inv X pins σ (upd H s.heap.objs.size (.lst ys)) { s with heap:=s.heap.push { cls:=.type "list",data:=.seq its.toArray },toks:=t' }:=
 I.laid (fun _ _ q=>Heap.get?_push_of_some _ q) (Nat.le_refl _) ⟨hz,its,0,hv,Heap.get?_push_size _ rfl⟩
theorem Inv.fresh (I:Inv X pins σ H s):H s.heap.objs.size=none:=I.hok.fresh (Nat.le_refl _)
theorem Inv.Ii (I:Inv X pins σ H s) (hH:H l=some (.lst xs)):xs.length <= sizeLine/\∃ (its:List Value) (n:Nat),Vals xs its/\xs.length=its.length/\s.heap.get? l=some { cls:=.type "list",data:=.seq its.toArray n }:=by
 obtain ⟨z,its,n,r,e⟩:=I.hok l _ hH
 exact ⟨z,its,n,r,r.length,e⟩
end
section
variable {X:Cx}
def Bb:V->List V->Hp->VK->Prop:=fun x vs H Q=>∃ l xs y,x= .ref l/\vs= [y]/\H l=some (.lst xs)/\xs.length < sizeLine/\Q .non (upd H l (.lst (xs ++ [y])))
theorem gU:MtM X "list.append" Bb:=by
 intro pins s σ H x vs v us Q I rx rv h
 obtain ⟨l,xs,y,rfl,rfl,hH,hz,q⟩:=h
 cases rx
 obtain ⟨u,rfl,ru⟩:=rv.one
 obtain ⟨z,its,n,r,hl,e⟩:=I.Ii hH
 refine call_meets F.slot_list_append ⟨_,e,rfl⟩ F.entry_list_append (F.args_list_append_2 _ _) (PySem.list_append l its.toArray n u (by rw [List.size_toArray];omega)) ⟨e,?_⟩
 refine ⟨.non,_,I.SX (its':=its ++ [u]) hH e (by simp) (r.append (.cons ru .nil)) ?_,rfl,q⟩
 rw [List.length_append,List.length_singleton]
 omega
def Ny:R2:=fun x y H Q=>∃ l b xs zs,x= .ref l/\y= .ref b/\H l=some (.lst xs)/\H b=some (.lst zs)/\xs.length + zs.length <= sizeLine/\∀ p,H p=none->Q (.ref p) (upd H p (.lst (xs ++ zs)))
theorem jK:OpR X (binaryOp .Add) Ny:=by
 intro pins s σ H x y v u Q I rx ry h
 obtain ⟨l,b,xs,zs,rfl,rfl,hH,hB,hz,q⟩:=h
 cases rx
 cases ry
 obtain ⟨z,its,n,r,hl,e⟩:=I.Ii hH
 obtain ⟨z2,its2,n2,r2,hl2,e2⟩:=I.Ii hB
 refine PySem.P.add_list e e2 ?_ (by rw [List.size_toArray,List.size_toArray];omega)
 have ea:its.toArray ++ its2.toArray=(its ++ its2).toArray:=by simp
 rw [ea]
 exact ⟨.ref _,_,I.Nx (t':=s.toks) (r.append r2) (by rw [List.length_append];omega),rfl,q _ I.fresh⟩
end
section
variable {prog:Program} {w:World} {A:Around} {E:Value->Shared->Prop} {s:Shared}
set_option maxRecDepth 100000 in
end
section
variable {X:Cx}
end
end L2
namespace Att
open PySem PySem.W PySem.Calls PyProof.Rows
theorem sG {P:Params} {h:Heap}:∀ (ns:List Int) (vs:List Value),WellAll P h vs (ns.map WData.int)->IntsAre vs ns:=by
 intro ns
 induction ns with
 | nil=>
   intro vs w
   rw [List.map_nil] at w
   cases w
   exact .nil
 | cons n ns ih=>
   intro vs w
   rw [List.map_cons] at w
   cases w with
   | cons a b=>
     cases a
     exact .cons _ _ (ih _ b)
theorem Fw {l:OpenLaw} {n:Nat} (hn:l.most=some n) {P:Params} {h:Heap} {args:List WData} {vals:List Value}
 (hpre:l.row.toRowW.claim.pre args=true) (hwl:WellAll P h vals args):
 ∃ a vs ns,vals= [Value.ref a]/\args= [WData.list (ns.map WData.int)]/\h.get? a=some { cls:=.type "list",data:=.seq vs.toArray }/\IntsAre vs ns/\ns.length <= n:=by
 have hsh:WShape.hasAll [] args [.list .int] =true:=(pre_splitW hpre).1
 have hc:l.pre.holds [] { args:=args } =true:=(pre_splitW hpre).2
 obtain ⟨d,r,rfl,h1,h2⟩:=hasAllW_cons hsh
 obtain rfl:=hasAllW_nil h2
 obtain ⟨xs,rfl,h3⟩:=hasW_list h1
 obtain ⟨ns,rfl⟩:=items_int h3
 have hlen:ns.length <= n:=by
  unfold OpenLaw.pre at hc
  have h4:(WTm.not (.lt (.lit (.int (n:Int))) (.len (.arg 0)))).holds [] { args:=[.list (ns.map .int)] } =true:=by
   have h4:=(holds_andW hc).1
   rw [hn] at h4
   exact h4
  have h5:=condW_of h4 (w_not (w_lt w_lit (w_len_list (w_arg rfl))))
  rw [List.length_map] at h5
  refine Nat.le_of_not_lt fun q=>?_
  have q':(n:Int) < ((ns.length:Nat):Int):=by omega
  first
   | (rw [decide_eq_true q'] at h5;exact absurd h5 (by decide))
   | (simp at h5;omega)
 cases hwl with
 | cons w1 w2=>
   cases w2
   cases w1 with
   | list ho hall=>exact ⟨_,_,ns,rfl,rfl,ho,sG ns _ hall,hlen⟩
theorem Fx (l:OpenLaw) (args:List WData):l.row.toRowW.claim.post args (.bool true) args=true:=
 postW_of (r:=l.row.toRowW) (X:=(true == true))
  (show WShape.has [] (.bool true) .bool=true by first | rfl | decide | simp [WShape.has,WShape.arms,WShape.armsAll])
  (show (WTm.eq .res (.lit (.bool true))).value [] { args:=args,res:=some (.bool true),after:=args } =some (.bool (true == true)) from w_eq_bool (w_res rfl) w_lit) rfl
theorem z_ {l:OpenLaw} {n:Nat} {q:Program} {loose:List Str} {XP:(Str->Option Value)->Heap->Prop} {YP:World->Heap->Prop} {d:DefRec}
 (hn:l.most=some n) (hdf:d.params.defaults= [])
 (call:∀ (w:World) (s₀ s₁:Shared) (mg mb:Str->Option Value) (fa:Addr) (o:Obj) (pm cd doc:Value) (a:Addr) (vs:List Value) (ns:List Int),
   Ground q loose [] XP w s₀ mg mb s₁.heap->YP w s₁.heap->
   s₁.heap.get? fa=some o->o.data= .func (docDef d.name d.params d.body d.scope pm cd doc)->s₁.heap.CodeRec cd d.name->mg d.name=some (.ref fa)->
   s₁.heap.get? a=some { cls:=.type "list",data:=.seq vs.toArray }->IntsAre vs ns->ns.length <= n->s₁.gens= #[]->
   codeAny (model l.prog w) callerA (.call (.ref fa) ⟨[.ref a],[]⟩) (fun r s'=>r= .ok (.ret (.bool true))/\OldK s₁.heap s'.heap/\s'.os=s₁.os/\AllBare s'.gens) s₁):
 WalkO q loose XP YP l.row.toRowW d [] (fun f vs=>PySem.call f vs):=by
 intro w s₀ s₁ mg mb G Y fa o pm cd doc dV kV ho hd hcd hD hmg hg args vals as hpre hlay hrd hwl hlo
 obtain rfl:dV= .none:=Dflts.none hD hdf
 obtain rfl:kV= .none:=Dflts.noKw hD
 obtain ⟨a,vs,ns,rfl,rfl,hobj,hints,hlen⟩:=Fw hn hpre hwl
 refine enter_call (codeAny_mono (call w s₀ s₁ mg mb fa o pm cd doc a vs ns G Y ho (fd_plain hd) hcd hmg hobj hints hlen hg) fun r s' hq=>?_)
 obtain ⟨rfl,h2,h3,h4⟩:=hq
 exact ⟨.inl ⟨.bool true,.bool true,[],rfl,fun _=>rfl,.bool true,Fx l _,fun _=>⟨List.Pairwise.nil,fun _ hm=>(nomatch hm)⟩⟩,h2,h3,h4⟩
section
variable {prog:Program} {w:World} {A:Around} {E:Value->Shared->Prop} {s:Shared} {K:Frag}
end
end Att
namespace L2
open PySem PySem.Spec PyProof.Rows
theorem jL:∀ {vs:List Value} {ns:List Int},IntsAre vs ns->Vals (ns.map V.int) vs
 | _,_,.nil=>.nil
 | _,_,.cons n t h=>.cons ⟨t,rfl⟩ (jL h)
end L2
namespace L2
open PySem PySem.Spec PyProof.Rows
end L2
namespace L2
open PySem PySem.Spec PyProof.Rows
def inClass (s:Stmt) (j:Nat):Stmt:=match s with
 | .ClassDef _ _ _ body _ _ _ _ _ _ _=>body.getD j (.Pass ⟨0,0,0,0⟩)
 | _=>.Pass ⟨0,0,0,0⟩
def dO (s:Stmt):Arguments:=match s with
 | .FunctionDef _ a _ _ _ _ _ _ _ _=>a
 | _=>{ posonlyargs:=[],args:=[],vararg:=none,kwonlyargs:=[],kw_defaults:=[],kwarg:=none,defaults:=[] }
def bO (s:Stmt):List Stmt:=match s with
 | .FunctionDef _ _ b _ _ _ _ _ _ _=>b
 | _=>[]
def aa (s:Stmt):Scope:=match s with
 | .FunctionDef _ _ _ _ _ _ sc _ _ _=>sc
 | _=>{ kind:=.function,names:=[],isGenerator:=false,isCoroutine:=false }
abbrev CX0:CXT:=fun _ _ _ _ _ _=>False
abbrev E0:XK:=fun _ _ _=>False
theorem Dg {X:Cx}:Passes CX0 X E0:=fun _ _ _ _ _ _ _ h=>h.elim
structure Fun (K:PySem.W.Frag) (x qual:Str) (st:Stmt) (f:Addr) (fd:FuncData):Prop where
 ex:∃ (oc:Value) (od:Option Addr) (kV doc pm:Value) (an:Option Addr) (cdv ct:Value) (osl:Array (Option Value)),
  fd=PySem.W.fnOf x qual (dO st) (bO st) (aa st) .none kV doc pm an cdv ct/\K.lookup f=some ⟨oc,od,.func fd,osl⟩/\PySem.W.codeIn K cdv qual=true
 kp:PySem.W.keepIn K (.ref f)=true
section
variable {P:Program} {w:World} {K:PySem.W.Frag} {mg:Str->Option Value} {base:Heap}
theorem Fun.ok {x qual:Str} {st:Stmt} {f:Addr} {fd:FuncData} {N ps:List Str} {k:Nat} {sp:Sp} (F:Fun K x qual st f fd) (S:aQ N ps (aa st)) (len:∀ vs H Q E,sp vs H Q E->vs.length=ps.length)
 (hbody:∀ (cdv:Value) (A:Around) (outer:List Env) (s:Shared) (H:Hp) (vs:List V) (Q:VK) (E:XK),bz k (A.deeper (envOfC qual (aa st) s.heap.objs.size f cdv))->sp vs H Q E->
   ∃ t,PSs (i_ CX0 P w K mg base N qual (aa st) f cdv A outer s H E).nox (bO st) t/\t { nx:=fun _ H'=>Q .non H',rt:=Q } (start N vs) H):bK P w K mg base CX0 (k + 1) f fd ps sp:=by
 obtain ⟨oc,od,kV,doc,pm,an,cdv,ct,osl,rfl,lk,hcd⟩:=F.ex
 refine CW lk hcd S len fun A outer s H vs Q E hr hsp=>?_
 obtain ⟨t,h,q⟩:=hbody cdv A outer s H vs Q E hr hsp
 exact ⟨t,h.nox,q⟩
theorem Fun.binds {x qual:Str} {st:Stmt} {f:Addr} {fd:FuncData} {ps:List Str} (F:Fun K x qual st f fd)
 (h:∀ (kV doc pm:Value) (an:Option Addr) (cdv ct:Value) (us:List Value),us.length=ps.length->bindArgs (PySem.W.fnOf x qual (dO st) (bO st) (aa st) .none kV doc pm an cdv ct) ⟨us,[]⟩ =pure (ps.zip us)):Binds K fd ps []:=by
 obtain ⟨oc,od,kV,doc,pm,an,cdv,ct,osl,rfl,lk,hcd⟩:=F.ex
 exact .all (h kV doc pm an cdv ct)
theorem xu {x qual:Str} {st:Stmt} {f:Addr} {oc:Value} {od an:Option Addr} {osl:Array (Option Value)} {kV doc pm cdv ct:Value} (l:K.lookup f=some ⟨oc,od,.func (PySem.W.fnOf x qual (dO st) (bO st) (aa st) .none kV doc pm an cdv ct),osl⟩)
 (c:PySem.W.codeIn K cdv qual=true) (k:PySem.W.keepIn K (.ref f)=true):Fun K x qual st f (PySem.W.fnOf x qual (dO st) (bO st) (aa st) .none kV doc pm an cdv ct):=⟨⟨oc,od,kV,doc,pm,an,cdv,ct,osl,rfl,l,c⟩,k⟩
end
theorem Fy {n:Nat} (h:n <= 1000):n < sizeLine:=Nat.lt_of_le_of_lt h (by decide)
section
variable {X:Cx}
theorem pv (i:Nat) {x:Str} {pos:Pos} (hN:X.N[i]? =some x:=by rfl) (hv:Vis X.env.scope x:=by first | exact Or.inl rfl | exact Or.inr (Or.inl rfl) | exact Or.inr (Or.inr rfl)) (hd:(x == ("__debug__":Str))=false:=by decide)
 (hcd:(x == ("__classdict__":Str))=false:=by decide):PE X (.Name x pos) (MP i):=rW hN hv hd hcd
end
theorem aX {A B:Prop} (h:B):if false=true then A else B:=by
 rw [if_neg Bool.false_ne_true]
 exact h
theorem b_ {A B:Prop} (h:A):if true=true then A else B:=by
 rw [if_pos rfl]
 exact h
theorem Dh {c A B:Prop} [Decidable c] (h1:c->A) (h2:¬ c->B):if c then A else B:=by
 by_cases h:c
 · rw [if_pos h]
   exact h1 h
 · rw [if_neg h]
   exact h2 h
def dX (H H':Hp):Prop:=∀ b o,H b=some o->H' b=some o
theorem dX.refl (H:Hp):dX H H:=fun _ _ h=>h
theorem dX.trans {H H1 H2:Hp} (a:dX H H1) (b:dX H1 H2):dX H H2:=fun c o h=>b c o (a c o h)
end L2
set_option maxRecDepth 100000
namespace L2
open PySem PySem.Spec PyProof.Rows
section
variable {κ:Type} [DecidableEq κ]
end
section
variable {P:Program} {w:World} {H:Hp} {h:Heap} {a:Addr}
end
section
variable {X:Cx} {pins:List (Addr × Obj)} {σ:St} {H:Hp} {s:Shared} {a:Addr} {y v:V} {u r:Value} {o:Option V} {A:Around} {E:Value->Shared->Prop}
end
section
variable {X:Cx} {pins:List (Addr × Obj)} {σ:St} {H:Hp} {s:Shared} {a:Addr} {kvs:List (Key × V)} {k:Key} {u:Value} {A:Around} {E:Value->Shared->Prop}
end
section
variable {X:Cx} {o i e value:Expr} {pos pos' tpos:Pos} {td ty tv:TE}
end
section
variable {X:Cx} {pos:Pos}
end
def Fz:List (TE × TE)->St->Hp->(List (V × V)->Hp->Prop)->Prop
 | [],_,H,Q=>Q [] H
 | (tk,tv)::r,σ,H,Q=>tk σ H fun x H1=>tv σ H1 fun y H2=>Fz r σ H2 fun ps H3=>Q ((x,y)::ps) H3
abbrev VV:List (V × V)->List (Value × Value)->Prop:=Paired fun p q=>RelV p.1 q.1/\RelV p.2 q.2
def PPs (X:Cx) (pos:Pos) (keys:List (Option Expr)) (values:List Expr) (trs:List (TE × TE)):Prop:=
 ∀ (pins:List (Addr × Obj)) (s:Shared) (σ:St) (H:Hp) (Q:List (V × V)->Hp->Prop),Inv X pins σ H s->Fz trs σ H Q->
   wpAny (model X.prog X.w) X.A (evalPairs (pairTrees keys values X.env pos)) (fun vs s'=>∃ ps H',Inv X pins σ H' s'/\VV ps vs/\Q ps H') X.xe s
structure M1 (X:Cx) (o:Expr) (m:Str) (apos:Pos) (e:Expr) (cpos:Pos):Prop where
 base:attributeBase o m X.env (eval o X.env)=eval o X.env
 few:((backTo cpos (starEach [e] X.env)).all (fun x=> !x.1) && (backToKw cpos (keywordEach [] X.env)).all (fun x=>x.1.isSome)
  && decide (([e]:List Expr).length + ([]:List Keyword).length + (if ([]:List Keyword).isEmpty then 0 else 1) < 30))=true
 line:(apos.endLine == cpos.line)=true
 trees:backTo cpos (starEach [e] X.env)= [(false,eval e X.env)]
structure M2 (X:Cx) (o:Expr) (m:Str) (apos:Pos) (e f:Expr) (cpos:Pos):Prop where
 base:attributeBase o m X.env (eval o X.env)=eval o X.env
 few:((backTo cpos (starEach [e,f] X.env)).all (fun x=> !x.1) && (backToKw cpos (keywordEach [] X.env)).all (fun x=>x.1.isSome)
  && decide (([e,f]:List Expr).length + ([]:List Keyword).length + (if ([]:List Keyword).isEmpty then 0 else 1) < 30))=true
 line:(apos.endLine == cpos.line)=true
 trees:backTo cpos (starEach [e,f] X.env)= [(false,eval e X.env),(false,eval f X.env)]
section
variable {X:Cx} {pins:List (Addr × Obj)} {σ:St} {H:Hp} {s:Shared} {a:Addr} {y d:V} {u r:Value} {o:Option V} {A:Around} {E:Value->Shared->Prop}
end
section
variable {X:Cx} {o e f:Expr} {apos cpos:Pos} {td ty tx:TE}
end
section
variable {X:Cx} {pins:List (Addr × Obj)} {σ:St} {H:Hp} {s:Shared} {a:Addr} {kvs:List (Key × V)} {A:Around} {E:Value->Shared->Prop}
end
section
variable {X:Cx} {pins:List (Addr × Obj)} {σ:St} {H:Hp} {s:Shared} {a:Addr} {y:V} {u:Value} {A:Around} {E:Value->Shared->Prop}
end
end L2
set_option maxRecDepth 100000
set_option maxHeartbeats 4000000
namespace L2
open PySem PySem.Spec PySem.SeqAt PyProof.Rows
theorem log2_lt_of {n k:Nat} (hk:0 < k) (h:n < 2 ^ k):n.log2 < k:=by
 rcases Nat.eq_zero_or_pos n with h0 | hp
 · rw [h0];exact hk
 · exact (Nat.log2_lt (Nat.ne_of_gt hp)).mpr h
def Sml (i:Int):Prop:=i.natAbs < 2 ^ 4000
theorem qN {i:Int} (h:Sml i):Builtin.Int.intBits i <= 2 ^ 20:=by
 have hl:i.natAbs.log2 < 4000:=log2_lt_of (by decide) h
 have e:(2:Nat) ^ 20=1048576:=by decide
 unfold Builtin.Int.intBits
 split <;> omega
def Di (i j:Int):Prop:=HX i j\/(Sml i/\Sml j)
def JM (j:Int):Prop:=j ≠ 0/\Sml j
section
variable {X:Cx}
theorem kh:OpR X (binaryOp .Mult) (rI Di fun i j=>.int (i * j)):=opI fun _ _ _ _ _ _ _ hc q=>by
 rcases hc with hc | ⟨h1,h2⟩
 · exact mul_int q hc.ok
 · exact mul_int q (IntMulOk.of_bits (qN h1) (qN h2))
theorem qX:OpR X (binaryOp .FloorDiv) (rI (fun _ j=>JM j) fun i j=>.int (i.fdiv j)):=opI fun i j _ _ _ _ _ hc q=>
 floordiv_int hc.1 q (.inl (PyProof.noPylong_of_log2 (Nat.lt_of_lt_of_le (log2_lt_of (k:=4000) (by decide) hc.2) (by decide))))
def S5 (K:PySem.W.Frag):List V->Hp->VK->Prop:=fun xs H Q=>∃ x n t b,xs= [x,.ty n]/\iZ K H x t/\PySem.W.kitOne K t (.type n)=some b/\Q (.bl b) H
theorem dz:cU X (.builtin "isinstance") (S5 X.K):=by
 intro pins s σ H xs us Q I r h
 obtain ⟨x,n,t,b,rfl,ty,e,q⟩:=h
 obtain ⟨u,v,rfl,ru,rv⟩:=vals2 r
 cases (show v=Value.type n from rv)
 exact Fj I ru ty e fun tk=>⟨.bl b,H,I.tok _,rfl,q⟩
end
mutual
inductive Rep (H:Hp):V->PyData->Prop
 | non:Rep H .non .none
 | bl (b):Rep H (.bl b) (.bool b)
 | int (i):Rep H (.int i) (.int i)
 | str (x):Rep H (.str x) (.str x)
 | lst {a xs ds}:H a=some (.lst xs)->bL H xs ds->Rep H (.ref a) (.list ds)
 | tup {a xs ds}:H a=some (.tup xs)->bL H xs ds->Rep H (.ref a) (.tuple ds)
inductive bL (H:Hp):List V->List PyData->Prop
 | nil:bL H [] []
 | cons {v vs d ds}:Rep H v d->bL H vs ds->bL H (v::vs) (d::ds)
end
mutual
theorem Rep.mono {H H':Hp} (e:dX H H'):∀ {v:V} {d:PyData},Rep H v d->Rep H' v d
 | _,_,.non=>.non
 | _,_,.bl b=>.bl b
 | _,_,.int i=>.int i
 | _,_,.str x=>.str x
 | _,_,.lst h r=>.lst (e _ _ h) (bL.mono e r)
 | _,_,.tup h r=>.tup (e _ _ h) (bL.mono e r)
theorem bL.mono {H H':Hp} (e:dX H H'):∀ {vs:List V} {ds:List PyData},bL H vs ds->bL H' vs ds
 | _,_,.nil=>.nil
 | _,_,.cons r t=>.cons (Rep.mono e r) (bL.mono e t)
end
theorem bL.length {H:Hp}:∀ {vs:List V} {ds:List PyData},bL H vs ds->vs.length=ds.length
 | _,_,.nil=>rfl
 | _,_,.cons _ t=>by rw [List.length_cons,List.length_cons,bL.length t]
theorem bL.xx {H:Hp}:∀ {vs:List V} {ds:List PyData} {i:Nat} {v:V},bL H vs ds->vs[i]? =some v->∃ d,ds[i]? =some d/\Rep H v d
 | _,_,_,_,.nil,e=>by simp at e
 | _,_,0,_,.cons r _,e=>by simp at e;subst e;exact ⟨_,rfl,r⟩
 | _,_,i + 1,d,.cons _ t,e=>by
   obtain ⟨u,h1,h2⟩:=bL.xx (i:=i) (v:=d) t (by simpa using e)
   exact ⟨u,by simpa using h1,h2⟩
mutual
theorem Rep.reads {P:Program} {w:World} {H:Hp} {h:Heap} (ok:HOk P w H h):∀ {v:V} {d:PyData} {u:Value},Rep H v d->RelV v u->∃ as,Reads h u d as
 | _,_,_,.non,r=>by cases r;exact ⟨_,.none⟩
 | _,_,_,.bl b,r=>by cases r;exact ⟨_,.bool b⟩
 | _,_,_,.int i,r=>by obtain ⟨t,rfl⟩:=r;exact ⟨_,.int i t⟩
 | _,_,_,.str x,r=>by obtain ⟨t,rfl⟩:=r;exact ⟨_,.str x t⟩
 | _,_,_,.lst (a:=a) (xs:=xs) e ra,r=>by
   cases r
   obtain ⟨_,its,n,rv,ho⟩:=(show bw P w H h a (.lst xs) from ok a _ e)
   obtain ⟨as,q⟩:=bL.reads ok ra rv
   exact ⟨_,.list ho rfl rfl (by simpa using q)⟩
 | _,_,_,.tup (a:=a) (xs:=xs) e ra,r=>by
   cases r
   obtain ⟨_,its,rv,o,ho,hc,n,hd⟩:=(show bw P w H h a (.tup xs) from ok a _ e)
   obtain ⟨as,q⟩:=bL.reads ok ra rv
   exact ⟨_,.tuple ho hc hd (by simpa using q)⟩
theorem bL.reads {P:Program} {w:World} {H:Hp} {h:Heap} (ok:HOk P w H h):∀ {vs:List V} {ds:List PyData} {us:List Value},bL H vs ds->Vals vs us->∃ as,ReadsAll h us ds as
 | _,_,_,.nil,.nil=>⟨_,.nil⟩
 | _,_,_,.cons r t,.cons rv tv=>by
   obtain ⟨as,q1⟩:=Rep.reads ok r rv
   obtain ⟨bs,q2⟩:=bL.reads ok t tv
   exact ⟨_,.cons q1 q2⟩
end
section
variable {X:Cx}
def Nz:R2:=fun x y H Q=>∃ dx dy,Rep H x dx/\Rep H y dy/\shaped dx=true/\shaped dy=true/\Q (.bl (PyData.eqv dx dy)) H
def NB:R2:=fun x y H Q=>∃ dx dy,Rep H x dx/\Rep H y dy/\shaped dx=true/\shaped dy=true/\Q (.bl (!PyData.eqv dx dy)) H
theorem xF (hu:X.A.units + 64 < cLine):OpR X (compareOp .Eq) Nz:=by
 intro pins s σ H x y v u Q I rx ry h
 obtain ⟨dx,dy,hx,hy,sx,sy,q⟩:=h
 obtain ⟨as,ra⟩:=hx.reads I.hok rx
 obtain ⟨bs,rb⟩:=hy.reads I.hok ry
 exact eq_dataH ra rb sx sy hu ⟨.bl _,H,I,rfl,q⟩
theorem kZ (hu:X.A.units + 64 < cLine):OpR X (compareOp .NotEq) NB:=by
 intro pins s σ H x y v u Q I rx ry h
 obtain ⟨dx,dy,hx,hy,sx,sy,q⟩:=h
 obtain ⟨as,ra⟩:=hx.reads I.hok rx
 obtain ⟨bs,rb⟩:=hy.reads I.hok ry
 exact ne_dataH ra rb sx sy hu ⟨.bl _,H,I,rfl,q⟩
end
theorem nW {H:Hp} {p:Addr} (h:H p=none) (o:HO):dX H (upd H p o):=fun b u q=>by rw [au (aD q h)];exact q
structure Df (K:PySem.W.Frag) (mg:Str->Option Value) (x:Str) (st:Stmt) (ps:List Str) (f:Addr) (fd:FuncData):Prop where
 fn:Fun K x x st f fd
 bd:Binds K fd ps []
 mg:mg x=some (.ref f)
section
variable {X:Cx} {k:Nat} {x:Str} {st:Stmt} {f:Addr} {fd:FuncData} {ps:List Str} {sp:Sp} {p pos:Pos} {e:Expr} {es:List Expr} {t:TA}
theorem qy (D:Df X.K X.mg x st ps f fd) (F:bK X.prog X.w X.K X.mg X.base CX0 k f fd ps sp) (hr:bz k X.A) (hg:Gl X x) (ha:PA X (e::es) t) (hdb:(x == ("__debug__":Str))=false:=by decide)
 (he:starEach (e::es) X.env=(false,eval e X.env)::starEach es X.env:=by rfl) (hpl:(backTo pos (starEach es X.env)).any (·.1)=false:=by rfl):
 PE X (.Call (.Name x p) (e::es) [] pos) (vY sp [] E0 t):=Ay F hr hg D.mg D.fn.kp D.bd .nil Dg ha hdb he hpl
end
end L2
set_option maxRecDepth 100000
set_option maxHeartbeats 4000000
namespace L2
open PySem PySem.Spec PySem.SeqAt PyProof.Rows
def dI (cells:List (Str × Addr)):List (Str × NameKind)->List (Str × Addr)->List (Str × Addr)
 | [],acc=>acc
 | (n,k)::r,acc=>if k= .free then dI cells r ((n,(cells.lookup n).getD 0)::acc) else dI cells r acc
theorem jT {scope:Scope} {env:Env} (h:∀ y ∈ scope.names,y.2= .free->∃ c,env.cells.lookup y.1=some c):closureFor scope env=pure (dI env.cells scope.names []):=by
 have key:∀ (names:List (Str × NameKind)) (cs:List (Str × Addr)),(∀ y ∈ names,y.2= .free->∃ c,env.cells.lookup y.1=some c)->
  (forIn names cs fun (x:Str × NameKind) (r:List (Str × Addr))=>(match x with
    | (name,kind)=>if (kind == .free)=true then do let a <- cellOf env name;pure (ForInStep.yield ((name,a)::r)) else pure (ForInStep.yield r):Sem (ForInStep (List (Str × Addr)))))=(pure (dI env.cells names cs):Sem _):=by
  intro names
  induction names with
  | nil=>intro cs _;rfl
  | cons y r ih=>
    intro cs hy
    obtain ⟨n,k⟩:=y
    rw [List.forIn_cons]
    by_cases hk:k= .free
    · obtain ⟨c,hc⟩:=hy (n,k) List.mem_cons_self hk
      have hc':env.cells.lookup n=some c:=hc
      subst hk
      have e1:cellOf env n=pure c:=by unfold cellOf;rw [hc']
      simp only [beq_self_eq_true,if_true,e1,pure_bind]
      rw [ih _ fun z hz=>hy z (List.mem_cons_of_mem _ hz)]
      simp only [dI,if_true,hc',Option.getD_some]
    · have hb:(k == NameKind.free)=false:=by simpa using hk
      simp only [hb,Bool.false_eq_true,if_false,pure_bind]
      rw [ih _ fun z hz=>hy z (List.mem_cons_of_mem _ hz)]
      simp only [dI,if_neg hk]
 have e:closureFor scope env=(forIn scope.names ([]:List (Str × Addr)) (fun (x:Str × NameKind) (r:List (Str × Addr))=>(match x with
  | (name,kind)=>if (kind == .free)=true then do let a <- cellOf env name;pure (ForInStep.yield ((name,a)::r)) else pure (ForInStep.yield r):Sem (ForInStep (List (Str × Addr))))) >>= fun r=>pure r):=by
  unfold closureFor
  rfl
 rw [e,key _ _ h]
 rfl
theorem k_ {cells:List (Str × Addr)} {x:Str} {c:Addr}:∀ {names:List (Str × NameKind)} {acc:List (Str × Addr)},(∀ y ∈ names,y.2= .free->∃ c,cells.lookup y.1=some c)->
 (dI cells names acc).lookup x=some c->cells.lookup x=some c\/acc.lookup x=some c
 | [],acc,_,h=>.inr h
 | (n,k)::r,acc,hy,h=>by
   unfold dI at h
   by_cases hk:k= .free
   · rw [if_pos hk] at h
     obtain ⟨d,hd⟩:=hy (n,k) List.mem_cons_self hk
     have hd':cells.lookup n=some d:=hd
     rw [hd'] at h
     rcases k_ (fun z hz=>hy z (List.mem_cons_of_mem _ hz)) h with q | q
     · exact .inl q
     · rw [List.lookup_cons] at q
       cases e:x == n with
       | true=>
         have e':x=n:=eq_of_beq e
         rw [e] at q
         subst e'
         exact .inl (by rw [hd'];exact q)
       | false=>
         rw [e] at q
         exact .inr q
   · rw [if_neg hk] at h
     exact k_ (fun z hz=>hy z (List.mem_cons_of_mem _ hz)) h
theorem kj {cells:List (Str × Addr)} {x:Str} {c:Addr} (hc:cells.lookup x=some c):∀ {names:List (Str × NameKind)} {acc:List (Str × Addr)},((x,NameKind.free) ∈ names\/acc.lookup x=some c)->
 (dI cells names acc).lookup x=some c
 | [],acc,h=>by
   rcases h with h | h
   · cases h
   · exact h
 | (n,k)::r,acc,h=>by
   unfold dI
   by_cases hk:k= .free
   · rw [if_pos hk]
     refine kj hc ?_
     by_cases e:x=n
     · subst e
       exact .inr (by rw [List.lookup_cons,beq_self_eq_true,hc];rfl)
     · have eb:(x == n)=false:=by simpa using e
       rcases h with h | h
       · rcases List.mem_cons.mp h with z | z
         · exact absurd (congrArg Prod.fst z) e
         · exact .inl z
       · exact .inr (by rw [List.lookup_cons,eb];exact h)
   · rw [if_neg hk]
     refine kj hc ?_
     rcases h with h | h
     · rcases List.mem_cons.mp h with z | z
       · exact absurd (congrArg Prod.snd z).symm hk
       · exact .inl z
     · exact .inr h
theorem jh {env:Env}:∀ {names:List (Str × NameKind)} {x:Str},names.lookup x=some .free->
 (names.map fun (n,k)=>if (k == NameKind.free && env.scope.kind == .function && env.kindOf n == some .cell) then (n,NameKind.cell) else (n,k)).lookup x=some .cell\/
 (names.map fun (n,k)=>if (k == NameKind.free && env.scope.kind == .function && env.kindOf n == some .cell) then (n,NameKind.cell) else (n,k)).lookup x=some .free
 | [],_,h=>by simp at h
 | (n,k)::r,x,h=>by
   have ih:= @jh env r x
   show List.lookup x ((if (k == NameKind.free && env.scope.kind == .function && env.kindOf n == some .cell)=true then (n,NameKind.cell) else (n,k))::_)=_\/List.lookup x ((if (k == NameKind.free && env.scope.kind == .function && env.kindOf n == some .cell)=true then (n,NameKind.cell) else (n,k))::_)=_
   cases hx:x == n with
   | true=>
     simp only [List.lookup_cons,hx] at h
     cases h
     by_cases hc:(NameKind.free == NameKind.free && env.scope.kind == .function && env.kindOf n == some .cell)=true
     · rw [if_pos hc];simp [List.lookup_cons,hx]
     · rw [if_neg hc];simp [List.lookup_cons,hx]
   | false=>
     simp only [List.lookup_cons,hx] at h
     by_cases hc:(k == NameKind.free && env.scope.kind == .function && env.kindOf n == some .cell)=true
     · rw [if_pos hc];simp only [List.lookup_cons,hx];exact ih h
     · rw [if_neg hc];simp only [List.lookup_cons,hx];exact ih h
theorem oZ {env:Env}:∀ {names:List (Str × NameKind)} {x:Str},(∀ y ∈ names,y.2 ≠ .cell)->
 ((names.map fun (n,k)=>if (k == NameKind.free && env.scope.kind == .function && env.kindOf n == some .cell) then (n,NameKind.cell) else (n,k)).lookup x=some .cell\/
 (names.map fun (n,k)=>if (k == NameKind.free && env.scope.kind == .function && env.kindOf n == some .cell) then (n,NameKind.cell) else (n,k)).lookup x=some .free)->names.lookup x=some .free
 | [],_,_,h=>by simp at h
 | (n,k)::r,x,hn,h=>by
   have ih:= @oZ env r x fun y hy=>hn y (List.mem_cons_of_mem _ hy)
   have hnk:k ≠ .cell:=hn (n,k) List.mem_cons_self
   change List.lookup x ((if (k == NameKind.free && env.scope.kind == .function && env.kindOf n == some .cell)=true then (n,NameKind.cell) else (n,k))::_)=_\/List.lookup x ((if (k == NameKind.free && env.scope.kind == .function && env.kindOf n == some .cell)=true then (n,NameKind.cell) else (n,k))::_)=_ at h
   cases hx:x == n with
   | true=>
     rw [List.lookup_cons,hx]
     by_cases hc:(k == NameKind.free && env.scope.kind == .function && env.kindOf n == some .cell)=true
     · have hk:k= .free:=by
        rw [Bool.and_eq_true,Bool.and_eq_true] at hc
        exact eq_of_beq hc.1.1
       rw [hk]
     · rw [if_neg hc] at h
       simp only [List.lookup_cons,hx] at h
       rcases h with h | h
       · exact absurd (Option.some.inj h) hnk
       · exact h
   | false=>
     rw [List.lookup_cons,hx]
     by_cases hc:(k == NameKind.free && env.scope.kind == .function && env.kindOf n == some .cell)=true
     · rw [if_pos hc] at h;simp only [List.lookup_cons,hx] at h;exact ih h
     · rw [if_neg hc] at h;simp only [List.lookup_cons,hx] at h;exact ih h
def blk (X:Cx) (N':List Str) (sc:Scope) (C:Addr) (s₀:Shared) (H₀:Hp) (fp:List Addr):Cx:=
 { X with N:=N',s₀:=s₀,H₀:=H₀,env:=compEnvC sc (dI X.env.cells sc.names []) C X.env,outer:=X.stack,ex:=fp,fn:=fun _=>false,pn:=[],xe:=fun _ _=>False }
def sgb (nt:Nat) (idx:List Nat) (σ:St):St:=List.replicate nt none ++ idx.map fun j=>(σ[j]?).getD none
structure jX (X:Cx) (N':List Str) (sc:Scope) (nt:Nat) (idx:List Nat):Prop where
 kind:sc.kind= .function
 xG:∀ y ∈ sc.names,y.2 ≠ .cell
 loc:∀ y ∈ sc.names,y.2= .local->sc.names.lookup y.1=some .local
 fr:∀ y ∈ sc.names,y.2= .free->X.env.kindOf y.1=some .cell\/X.env.kindOf y.1=some .free
 len:nt + idx.length=N'.length
 ix:∀ p ∈ idx.zip (N'.drop nt),X.N[p.1]? =some p.2/\sc.names.lookup p.2=some .free
theorem bZ {names:List (Str × NameKind)} {x:Str} {k:NameKind} (h:names.lookup x=some k):(x,k) ∈ names:=PySem.mem_of_lookup h
theorem Ku {X:Cx} {N':List Str} {sc:Scope} {nt:Nat} {idx:List Nat} {pins:List (Addr × Obj)} {σ:St} {H:Hp} {s:Shared} {fp:List Addr} {h':Heap} {tk:Nat} {m:Str->Option Value} (B:jX X N' sc nt idx)
 (I:Inv X pins σ H s) (hf:∀ b ∈ fp,jj X pins H b) (hlt:∀ b ∈ fp,b < s.heap.objs.size) (hns:h'.Ns s.heap.objs.size m) (hk:∀ b o,s.heap.get? b=some o->h'.get? b=some o):
 Inv (blk X N' sc s.heap.objs.size s H fp) (X.pn ++ pins) (sgb nt idx σ) H { s with heap:=h',toks:=tk }:=by
 have hcl:∀ y ∈ sc.names,y.2= .free->∃ c,X.env.cells.lookup y.1=some c:=fun y hy e=>I.ok.has y.1 (B.fr y hy e)
 have sub:∀ x c,(dI X.env.cells sc.names []).lookup x=some c->X.env.cells.lookup x=some c:=fun x c h=>by
  rcases k_ hcl h with z | z
  · exact z
  · simp at z
 have S6:∀ b,b ∈ frs X.stack->b=X.env.locals\/b ∈ X.fs:=fun b hb=>List.mem_cons.mp (I.pq b hb)
 have JN:∀ b,b ≠ X.env.locals->b ∉ X.fs->b ∉ frs X.stack:=fun b h1 h2 h=>(S6 b h).elim h1 h2
 have fresh:H s.heap.objs.size=none:=I.hok.fresh (Nat.le_refl _)
 refine ⟨⟨I.ok.mod,B.kind,I.ok.glob,I.ok.blt,Nat.le_refl _,fun x y c h1 h2=>I.ok.inj x y c (sub x c h1) (sub y c h2),fun x hx=>?_,fun x c hx _=>?_,I.ok.hd,I.ok.frames,.inl rfl,fun b hb=>⟨Nat.ne_of_lt (hlt b hb),fun x c h=>(hf b hb).2.2.2.2.1 x c (sub x c h)⟩,
  I.bs,Nat.le_trans I.ok.bsz I.sz,fun b o e hb=>?_,fun b hb=>JN b (hf b hb).2.1 (hf b hb).2.2.1,I.stack,I.ji⟩,
  rfl,I.bare,Un.kept hk,⟨m,hns,fun i x v h1 h2 h3=>?_⟩,fun x c h=>?_,fresh,fun x c h=>I.dU x c (sub x c h),fun p hp=>?_,I.hok.kept hk,?_⟩
 · -- has
   have hx':=oZ (env:=X.env) (x:=x) B.xG hx
   obtain ⟨c,hc⟩:=hcl (x,.free) (bZ hx') rfl
   exact ⟨c,kj hc (.inl (bZ hx'))⟩
 · -- cab
   have hx':false=true:=hx
   cases hx'
 · -- mD
   rcases (hf b hb).2.2.2.1 with z | z
   · exact I.ok.mD b o e z
   · exact absurd (Nat.lt_of_lt_of_le (Heap.lt_size e) (Nat.le_trans I.ok.bsz z)) (Nat.lt_irrefl _)
 · -- loc
   have h1':N'[i]? =some x:=h1
   by_cases hi:i < nt
   · exfalso
     unfold sgb at h2
     rw [List.getElem?_append_left (by simpa using hi),List.getElem?_replicate] at h2
     split at h2 <;> cases h2
   · unfold sgb at h2
     rw [List.getElem?_append_right (by simpa using hi),List.length_replicate,List.getElem?_map] at h2
     cases ej:idx[i - nt]? with
     | none=>rw [ej] at h2;cases h2
     | some j=>
       rw [ej] at h2
       have h2':(σ[j]?).getD none=some v:=by simpa using h2
       have hz:(j,x) ∈ idx.zip (N'.drop nt):=by
        have e1:(N'.drop nt)[i - nt]? =some x:=by rw [List.getElem?_drop];rw [show nt + (i - nt)=i by omega];exact h1'
        refine List.mem_of_getElem? (i:=i - nt) ?_
        rw [List.getElem?_zip_eq_some]
        exact ⟨ej,e1⟩
       obtain ⟨q1,q2⟩:=B.ix _ hz
       have q1':X.N[j]? =some x:=q1
       have q2':sc.names.lookup x=some .free:=q2
       have hs:σ[j]? =some (some v):=by
        cases e:σ[j]? with
        | none=>rw [e] at h2';cases h2'
        | some o=>rw [e] at h2';exact congrArg some h2'
       have hkx:=B.fr (x,.free) (bZ q2') rfl
       obtain ⟨mX,_,hl⟩:=I.loc
       obtain ⟨u,ru,lk⟩:=hl j x v q1' hs (by
        rcases hkx with z | z
        · exact .inr (.inl z)
        · exact .inr (.inr z))
       refine ⟨u,ru,.inr ⟨jh (env:=X.env) q2',?_⟩⟩
       rcases lk with ⟨z,_⟩ | ⟨_,c,hc,hcell⟩
       · exfalso
         rcases hkx with y | y
         · rw [z] at y;cases y
         · rw [z] at y;cases y
       · obtain ⟨o,ho,hd⟩:=hcell
         exact ⟨c,kj hc (.inl (bZ q2')),o,hk c o ho,hd⟩
 · obtain ⟨v,o,ho,hd⟩:=I.cell x c (sub x c h)
   exact ⟨v,o,hk c o ho,hd⟩
 · have hp':p ∈ X.pn ++ pins:=by
    have:p ∈ ([]:List (Addr × Obj)) ++ (X.pn ++ pins):=hp
    simpa using this
   obtain ⟨e,n,ne,nf,d⟩:=I.pin p hp'
   exact ⟨hk _ _ e,n,Nat.ne_of_lt (Heap.lt_size e),JN _ ne nf,d⟩
 · show (sgb nt idx σ).length=N'.length
   unfold sgb
   rw [List.length_append,List.length_replicate,List.length_map]
   exact B.len
end L2
set_option maxRecDepth 100000
set_option maxHeartbeats 4000000
namespace L2
open PySem PySem.Spec PySem.SeqAt PyProof.Rows
def Wk:St->St->Prop
 | [],[]=>True
 | none::r,_::r'=>Wk r r'
 | some a::r,b::r'=>b=some a/\Wk r r'
 | _,_=>False
theorem Wk.ok:∀ {σ σ2:St},Wk σ σ2->σ.length=σ2.length/\∀ (i:Nat) (v:V),σ[i]? =some (some v)->σ2[i]? =some (some v)
 | [],[],_=>⟨rfl,fun _ _ h=>h⟩
 | none::r,b::r',h=>by
   obtain ⟨h1,h2⟩:=Wk.ok (σ:=r) (σ2:=r') h
   refine ⟨by simp [h1],fun i v e=>?_⟩
   cases i with
   | zero=>simp at e
   | succ i=>simpa using h2 i v (by simpa using e)
 | some a::r,b::r',h=>by
   obtain ⟨hb,h⟩:=h
   obtain ⟨h1,h2⟩:=Wk.ok (σ:=r) (σ2:=r') h
   refine ⟨by simp [h1],fun i v e=>?_⟩
   cases i with
   | zero=>subst hb;simpa using e
   | succ i=>simpa using h2 i v (by simpa using e)
 | [],_::_,h=>h.elim
 | none::_,[],h=>h.elim
 | some _::_,[],h=>h.elim
abbrev TN:=St->Hp->(Hp->Prop)->Prop
def sH (J:It) (g:TG) (tif:TT) (tin:TN):TN:=fun σ H Q=>∃ W:Nat->Nat->Hp->Prop,(∃ m,W 0 m H)/\∀ i m H,W i m H->
 (J.stop i H/\Q H)\/(J.go i H/\∃ N:Hp->Prop,(∀ H',N H'->∃ m',m' < m/\W (i + 1) m' H')/\∀ x H',J.yld i H x H'->g x σ H' fun σ2 H2=>Wk σ σ2/\tif σ2 H2 fun b H3=>if b=true then tin σ2 H3 N else N H3)
def sI (D:Addr) (te:TE):TN:=fun σ H N=>te σ H fun y H1=>∃ ys,H1 D=some (.lst ys)/\ys.length < sizeLine/\N (upd H1 D (.lst (ys ++ [y])))
def FJ (wi:TI) (g:TG) (tif:TT) (tin:TN):TN:=fun σ H N=>wi σ H fun J H1=>sH J g tif tin σ H1 N
def PTs (Y:Cx) (ifs:List Expr) (t:TT):Prop:=
 ∀ (pins:List (Addr × Obj)) (s:Shared) (σ:St) (H:Hp) (Q:Bool->Hp->Prop),Inv Y pins σ H s->t σ H Q->
   wpAny (model Y.prog Y.w) Y.A (forIn ifs true fun c r=>if r=true then do let ok <- isTrue c Y.env (eval c Y.env);pure (ForInStep.yield ok) else pure (ForInStep.yield r)) (TP Y pins σ Q) Y.xe s
def JP:TT:=fun _ H Q=>Q true H
theorem Bc {Y:Cx}:PTs Y [] JP:=fun _ _ _ H _ I h=>wpAny_tests_nil ⟨H,I,h⟩
theorem Kv {Y:Cx} {c:Expr} {t:TT} (h:PT Y c t):PTs Y [c] t:=fun pins s σ H Q I q=>wpAny_tests_one (h pins s σ H Q I q)
def PN (Y:Cx) (m:Sem Unit) (t:TN):Prop:=
 ∀ (pins:List (Addr × Obj)) (s:Shared) (σ:St) (H:Hp) (N:Hp->Prop),Inv Y pins σ H s->t σ H N->wpAny (model Y.prog Y.w) Y.A m (fun _ s'=>∃ H',Inv Y pins σ H' s'/\N H') Y.xe s
def NoX (Y:Cx):Prop:=∀ e s,¬ Y.xe e s
theorem NoX.any {Y:Cx} (hx:NoX Y) {α:Type} {t:Sem α} {Q:α->Shared->Prop} {E:Value->Shared->Prop} {s:Shared} (h:wpAny (model Y.prog Y.w) Y.A t Q Y.xe s):wpAny (model Y.prog Y.w) Y.A t Q E s:=
 wpAny_mono h (fun _ _ q=>q) fun e s' z=>(hx e s' z).elim
theorem Bd {Y:Cx} {elt:Expr} {te:TE} {D:Addr} (he:PE Y elt te):PN Y (do let _ <- call (.builtin "list.append") [.ref D,<- eval elt Y.env]) (sI D te):=by
 intro pins s σ H N I h
 refine wpAny_bind (thn (he pins s σ H _ I h) fun u s1 ⟨y,H1,I1,r1,ys,e1,hl,hN⟩=>?_)
 refine wpAny_bind (thn (gU (X:=Y) pins s1 σ H1 (.ref D) [y] (.ref D) [u] (fun _ H2=>N H2) I1 rfl (.cons r1 .nil) ⟨D,ys,y,rfl,rfl,e1,hl,hN⟩) fun v s2 ⟨z,H2,I2,_,q2⟩=>?_)
 exact wpAny_pure ⟨H2,I2,q2⟩
def gW (e:Expr) (d:Nat) (it acc:Value) (env:Env) (target:Expr) (ifs:List Expr) (ipos:Pos) (inner:Sem Unit):Sem Fin:=do
 standAt ipos
 match <- pyNext it with
 | none=>pure (.done .next)
 | some v=>
   letOwnedTupleGo target it v
   assign target env v
   let mut ok:=true
   for c in ifs do
    if ok then ok <- isTrue c env (eval c env)
   if ok then
    inner
   again (.compLoop e d it acc env)
theorem QZ (elt target iter:Expr) (ifs:List Expr) (scope:Scope) (pos:Pos) (it acc:Value) (env:Env):
 compTurn (.ListComp elt [⟨target,iter,ifs,0⟩] scope pos) 0 it acc env=gW (.ListComp elt [⟨target,iter,ifs,0⟩] scope pos) 0 it acc env target ifs iter.pos (do let _ <- call (.builtin "list.append") [acc,<- eval elt env]):=rfl
theorem NK (elt target iter fO bC:Expr) (ifs dJ:List Expr) (scope:Scope) (pos:Pos) (it acc:Value) (env:Env):
 compTurn (.ListComp elt [⟨target,iter,ifs,0⟩,⟨fO,bC,dJ,0⟩] scope pos) 0 it acc env=gW (.ListComp elt [⟨target,iter,ifs,0⟩,⟨fO,bC,dJ,0⟩] scope pos) 0 it acc env target ifs iter.pos
  (do
    let x <- eval bC env
    standAt bC.pos
    let x <- foldedSetIterable bC env x
    let _ <- runOwn (.compStart (.ListComp elt [⟨target,iter,ifs,0⟩,⟨fO,bC,dJ,0⟩] scope pos) 1 (<- holding [x] (pyIter x)) acc env) env):=by
 have e:compTurn (.ListComp elt [⟨target,iter,ifs,0⟩,⟨fO,bC,dJ,0⟩] scope pos) 0 it acc env=(do
  standAt iter.pos
  match <- pyNext it with
  | none=>pure (.done .next)
  | some v=>
    letOwnedTupleGo target it v
    assign target env v
    let mut ok:=true
    for c in ifs do
     if ok then ok <- isTrue c env (eval c env)
    if ok then
     let x <- eval bC env
     standAt bC.pos
     let x <- foldedSetIterable bC env x
     let _ <- runOwn (.compStart (.ListComp elt [⟨target,iter,ifs,0⟩,⟨fO,bC,dJ,0⟩] scope pos) 1 (<- holding [x] (pyIter x)) acc env) env
    again (.compLoop (.ListComp elt [⟨target,iter,ifs,0⟩,⟨fO,bC,dJ,0⟩] scope pos) 0 it acc env)):=rfl
 rw [e]
 unfold gW
 simp only [bind_assoc,pure_bind]
theorem NP (elt target iter fO bC:Expr) (ifs dJ:List Expr) (scope:Scope) (pos:Pos) (it acc:Value) (env:Env):
 compTurn (.ListComp elt [⟨target,iter,ifs,0⟩,⟨fO,bC,dJ,0⟩] scope pos) 1 it acc env=gW (.ListComp elt [⟨target,iter,ifs,0⟩,⟨fO,bC,dJ,0⟩] scope pos) 1 it acc env fO dJ bC.pos (do let _ <- call (.builtin "list.append") [acc,<- eval elt env]):=rfl
def LR (Y:Cx) (pins:List (Addr × Obj)) (σ:St) (Q:Hp->Prop) (r:Result) (s':Shared):Prop:=
 match r with
 | .ok _=>∃ H',Inv Y pins σ H' s'/\Q H'
 | .error _=>False
theorem Be {Y:Cx} (hx:NoX Y) (hc:Y.calm=true) {elt:Expr} {gens:List Comprehension} {scope:Scope} {pos:Pos} {d:Nat} {it D:Addr} {tg:Expr} {ifs:List Expr} {ipos:Pos} {inner:Sem Unit} {J:It} {fp:List Addr} {tn:Nat->Heap->Prop} {g:TG} {tif:TT} {tin:TN}
 (ht:compTurn (.ListComp elt gens scope pos) d (.ref it) (.ref D) Y.env=gW (.ListComp elt gens scope pos) d (.ref it) (.ref D) Y.env tg ifs ipos inner)
 (T:Turn Y.prog Y.w Y.K tg J fp it tn) (hg:PG Y tg g) (hi:PTs Y ifs tif) (hn:PN Y inner tin)
 {pins:List (Addr × Obj)} {s:Shared} {σ:St} {H:Hp} {Q:Hp->Prop} (I:Inv Y pins σ H s) (st:tn 0 s.heap) (f:∀ b ∈ fp,jj Y pins H b) (h:sH J g tif tin σ H Q):
 codeAny (model Y.prog Y.w) Y.A (.compLoop (.ListComp elt gens scope pos) d (.ref it) (.ref D) Y.env) (LR Y pins σ Q) s:=by
 obtain ⟨W,⟨m0,w0⟩,turn⟩:=h
 have stat:∀ {H':Hp},(∀ b ∈ fp,H' b=none)->∀ b ∈ fp,jj Y pins H' b:=fun hn b hb=>⟨hn b hb,(f b hb).2⟩
 refine codeAny_loop rfl (fun n s'=>∃ i H',Inv Y pins σ H' s'/\tn i s'.heap/\(∀ b ∈ fp,H' b=none)/\W i n H') ?_ m0 ⟨0,H,I,st,fun b hb=>(f b hb).1,w0⟩
 rintro n s3 ⟨i,H3,I3,st3,fr3,w3⟩
 show wpAny _ Y.A ((compTurn (.ListComp elt gens scope pos) d (.ref it) (.ref D) Y.env).onRaise (fun x=>do noteFrame x Y.env;theTreesLotGoes x)) _ _ s3
 refine wpAny_noted ?_
 rw [ht]
 unfold gW
 refine wpAny_bind (wpAny_standAt ?_)
 rcases turn i n H3 w3 with ⟨stop,qn⟩ | ⟨go,N,hN,step⟩
 · refine wpAny_bind (thn (hx.any (T.done Y rfl rfl rfl hc i pins s3 σ H3 Y.xe I3 (stat fr3) st3 stop)) fun r s4 ⟨hr,I4⟩=>?_)
   subst hr
   exact wpAny_pure ⟨H3,I4,qn⟩
 · refine wpAny_bind (thn (hx.any (T.item Y rfl rfl rfl hc i pins s3 σ H3 Y.xe I3 (stat fr3) st3 go)) fun r s4 ⟨u,hr,h4⟩=>?_)
   subst hr
   refine wpAny_bind (thn (hx.any h4) fun _ s5 ⟨x,H5,I5,r5,y5,st5,fr5⟩=>?_)
   have I5':=I5.pinned (stat fr5) (T.obj _ _ st5)
   refine wpAny_bind (thn (hx.any (hg _ s5 σ H5 x u _ I5' r5 (step x H5 y5))) fun _ s6 ⟨σ6,H6,I6,wk,q6⟩=>?_)
   obtain ⟨wl,wv⟩:=wk.ok
   have again:∀ {σ7:St} {H7:Hp} {s7:Shared},Inv Y (pins ++ pA fp s5.heap) σ7 H7 s7->Wk σ σ7->N H7->∃ m,m < n/\∃ i H',Inv Y pins σ H' s7/\tn i s7.heap/\(∀ b ∈ fp,H' b=none)/\W i m H':=fun {σ7 H7 s7} I7 wk7 n7=>by
    obtain ⟨m',hm,w7⟩:=hN H7 n7
    obtain ⟨wl7,wv7⟩:=wk7.ok
    refine ⟨m',hm,i + 1,H7,(I7.weak wl7 wv7).kY,T.keep _ _ _ st5 fun b hb o e=>(I7.pin (b,o) (List.mem_append_right _ (List.mem_append_right _ (jW hb e)))).1,fun b hb=>?_,w7⟩
    obtain ⟨o,e,d⟩:=T.obj _ _ st5 b hb
    exact (I7.pin (b,o) (List.mem_append_right _ (List.mem_append_right _ (jW hb e)))).2.1
   refine wpAny_bind (thn (hx.any (hi _ s6 σ6 H6 _ I6 q6)) fun ok s7 ⟨H7,I7,q7⟩=>?_)
   cases ok with
   | false=>exact wpAny_pure ⟨rfl,again I7 wk q7⟩
   | true=>exact wpAny_bind (thn (hx.any (hn _ s7 σ6 H7 N I7 q7)) fun _ s8 ⟨H8,I8,q8⟩=>wpAny_pure ⟨rfl,again I8 wk q8⟩)
theorem vf {prog:Program} {w:World} {A:Around} {R:Result->Shared->Prop} {s:Shared} {elt:Expr} {gens:List Comprehension} {scope:Scope} {pos:Pos} {d:Nat} {it acc:Value} {env:Env} {g:Comprehension} (hg:gens[d]? =some g) (ha:g.is_async=0)
 (h0:codeAny (model prog w) A (.compLoop (.ListComp elt gens scope pos) d it acc env) R s)
 (h:wpAny (model prog w) A (pyIter it) (fun it' s'=>codeAny (model prog w) A (.compLoop (.ListComp elt gens scope pos) d it' acc env) R s') (notedBy (model prog w) A env fun x s'=>R (.error x) s') s):
 codeAny (model prog w) A (.compStart (.ListComp elt gens scope pos) d it acc env) R s:=by
 refine codeAny_of_tree ?_
 show wpAny _ _ ((compStart (.ListComp elt gens scope pos) d it acc env).onRaise (fun x=>do noteFrame x env;standAt theWindowsPlace)) _ _ s
 refine wpAny_notedAt ?_
 unfold compStart
 rw [show clausesOf (.ListComp elt gens scope pos)=gens from rfl,hg]
 have e1:(Option.elim (some g) false fun x=>x.is_async != 0)=false:=by show (g.is_async != 0)=false;rw [ha];rfl
 rw [e1]
 show wpAny _ _ (ask >>= _) _ _ s
 refine wpAny_bind (wpAny_askSetting (wpAny_ite ?_))
 split
 · exact wpAny_bind (wpAny_pure (wpAny_pure (And.intro rfl h0)))
 · exact wpAny_bind (wpAny_rule (wpAny_bind (wpAny_standAt (wpAny_bind (wpAny_mono h (fun it' s' h'=>wpAny_pure (And.intro rfl h')) fun _ _ x=>x)))))
end L2
set_option maxRecDepth 100000
set_option maxHeartbeats 4000000
namespace L2
open PySem PySem.Spec PySem.SeqAt PyProof.Rows
theorem xH {X:Cx} {N':List Str} {sc:Scope} {pins sJ:List (Addr × Obj)} {σ σY:St} {H H':Hp} {s s':Shared} {fp:List Addr} {h':Heap} (I:Inv X pins σ H s) (hf:∀ b ∈ fp,jj X pins H b)
 (IY:Inv (blk X N' sc s.heap.objs.size s H fp) sJ σY H' s') (hs:Heap.SameBut s.heap.objs.size s'.heap h'):Inv X pins σ H' { s' with heap:=h' }:=by
 have hC:∀ b o,s.heap.get? b=some o->b ≠ s.heap.objs.size:=fun b o e=>Nat.ne_of_lt (Heap.lt_size e)
 have nC:H' s.heap.objs.size=none:=IY.free
 have u:Un (frs X.stack) fp H H' s.heap s'.heap:=IY.base
 have kk:∀ b o,b ≠ s.heap.objs.size->s'.heap.get? b=some o->h'.get? b=some o:=fun b o hb e=>hs.extBut b o hb e
 refine I.call' (s':={ s' with heap:=h' }) (ch:=fp) IY.os ⟨fun b o e n h1 h2=>kk b o (hC b o e) (u.keep b o e n h1 h2),fun b o e n h1 h2=>?_,u.free,fun b o e h2=>?_,u.tups,u.gO,u.gP⟩ ?_ IY.bare fun b hb=>?_
 · obtain ⟨sl,q⟩:=u.slot b o e n h1 h2
   exact ⟨sl,kk b _ (hC b o e) q⟩
 · obtain ⟨o',q⟩:=u.there b o e h2
   exact ⟨o',kk b _ (hC b o e) q⟩
 · intro a o e
   refine (IY.hok a o e).stay (fun b v hb q=>kk b v ?_ q) (fun _ q=>q) fun _ _ q=>q
   rintro rfl
   rcases hb with z | z
   · rw [z] at nC;rw [nC] at e;cases e
   · rw [nC] at z;cases z
 · obtain ⟨f0,f1,f2,f3,f4,f5⟩:=hf b hb
   exact ⟨f3,f1,f4,f5⟩
section
variable {X:Cx} {N':List Str} {sc:Scope} {nt:Nat} {idx:List Nat} {elt tg iter:Expr} {ifs:List Expr} {gs:List Comprehension} {pos:Pos} {wi:TI} {g:TG} {tif:TT} {tin:Addr->TN}
def v5 (nt:Nat) (idx:List Nat) (wi:TI) (g:TG) (tif:TT) (tin:Addr->TN):TE:=fun σ H Q=>wi σ H fun J H1=>∀ D,H1 D=none->sH J g tif (tin D) (sgb nt idx σ) (upd H1 D (.lst [])) fun H2=>Q (.ref D) H2
structure pH (X:Cx) (N':List Str) (sc:Scope) (elt tg iter:Expr) (ifs:List Expr) (gs:List Comprehension) (pos:Pos) (g:TG) (tif:TT) (tin:Addr->TN):Prop where
 ok:∀ (C:Addr) (s₀:Shared) (H₀:Hp) (fp:List Addr) (D it:Addr),∃ inner:Sem Unit,
  compTurn (.ListComp elt (⟨tg,iter,ifs,0⟩::gs) sc pos) 0 (.ref it) (.ref D) (blk X N' sc C s₀ H₀ fp).env=gW (.ListComp elt (⟨tg,iter,ifs,0⟩::gs) sc pos) 0 (.ref it) (.ref D) (blk X N' sc C s₀ H₀ fp).env tg ifs iter.pos inner/\
  PG (blk X N' sc C s₀ H₀ fp) tg g/\PTs (blk X N' sc C s₀ H₀ fp) ifs tif/\PN (blk X N' sc C s₀ H₀ fp) inner (tin D)
theorem xJ (B:jX X N' sc nt idx) (hc:X.calm=true) (hi:PI X tg iter wi) (O:pH X N' sc elt tg iter ifs gs pos g tif tin) {pins:List (Addr × Obj)} {s:Shared} {σ:St} {H:Hp} {Q:VK} {E:Value->Shared->Prop} {use:Option (Value->Sem Unit)} {QQ:Value->Shared->Prop}
 (I:Inv X pins σ H s) (h:v5 nt idx wi g tif tin σ H Q) (hE:∀ e s,X.xe e s->E e s)
 (hend:∀ (D C:Addr) (s3 s':Shared) (H3 H':Hp) (fp:List Addr) (sJ:List (Addr × Obj)) (σY:St),C=s3.heap.objs.size->Inv X pins σ H3 s3->(∀ b ∈ fp,jj X pins H3 b)->Inv (blk X N' sc C s3 H3 fp) sJ σY H' s'->Q (.ref D) H'->
   compPost (model X.prog X.w) X.A E use QQ (.ref D) C (.ok .next) s'):
 wpAny (model X.prog X.w) X.A (eval iter X.env) (fun x s₁=>wpAny (model X.prog X.w) X.A (pyIter x) (fun it s₂=>wpAny (model X.prog X.w) X.A (newList []) (fun acc s₃=>
  wpAny (model X.prog X.w) X.A (newFunctionEnv sc X.env.globals (dI X.env.cells sc.names []) [] X.env.qual none .none (some X.env)) (fun cenv s₄=>
   codeAny (model X.prog X.w) X.A (.compStart (.ListComp elt (⟨tg,iter,ifs,0⟩::gs) sc pos) 0 it acc { cenv with scope:=relabel sc X.env }) (compPost (model X.prog X.w) X.A E use QQ acc cenv.locals) s₄) E s₃) E s₂) E s₁) E s:=by
 refine wpAny_mono (hi pins s σ H _ I h) (fun v s1 h1=>wpAny_mono h1 (fun itv s2 h2=>?_) hE) hE
 obtain ⟨it,fp,tn,J,H2,e,I2,T,st2,f2,hl⟩:=h2
 subst e
 refine wpAny_newObj_type ?_
 have I3:Inv X pins σ (upd H2 s2.heap.objs.size (.lst [])) { s2 with heap:=s2.heap.push { cls:=.type "list",data:=.seq ([]:List Value).toArray } }:=I2.Nx (its:=[]) (ys:=[]) (t':=s2.toks) .nil (Nat.zero_le _)
 have hD:H2 s2.heap.objs.size=none:=I2.hok.fresh (Nat.le_refl _)
 have lt2:∀ b ∈ fp,b < s2.heap.objs.size:=fun b hb=>let ⟨o,ho,_⟩:=T.obj _ _ st2 b hb;Heap.lt_size ho
 have f3:∀ b ∈ fp,jj X pins (upd H2 s2.heap.objs.size (.lst [])) b:=fun b hb=>⟨by rw [au (Nat.ne_of_lt (lt2 b hb))];exact (f2 b hb).1,(f2 b hb).2⟩
 generalize hS3:({ s2 with heap:=s2.heap.push { cls:=.type "list",data:=.seq ([]:List Value).toArray } }:Shared)=s3 at I3 ⊢
 have lt3:∀ b ∈ fp,b < s3.heap.objs.size:=fun b hb=>by rw [<- hS3];show b < (s2.heap.push _).objs.size;rw [Heap.size_push];exact Nat.lt_succ_of_lt (lt2 b hb)
 have k3:∀ b o,s2.heap.get? b=some o->s3.heap.get? b=some o:=fun b o e=>by rw [<- hS3];exact Heap.get?_push_of_some _ e
 refine wpAny_newFunctionEnv B.xG (by intro y hy;simp at hy) (fun h₁ hns hsb=>?_) B.kind
 have old:∀ b o,s3.heap.get? b=some o->h₁.get? b=some o:=fun b o e=>hsb.extBut b o (Nat.ne_of_lt (Heap.lt_size e)) (Heap.get?_push_of_some _ e)
 have IY:=Ku (tk:=s3.toks + ([]:List (Str × Value)).length) B I3 f3 lt3 hns old
 have hx:NoX (blk X N' sc s3.heap.objs.size s3 (upd H2 s2.heap.objs.size (.lst [])) fp):=fun _ _ z=>z
 obtain ⟨inner,ht,hg,hif,hin⟩:=O.ok s3.heap.objs.size s3 (upd H2 s2.heap.objs.size (.lst [])) fp s2.heap.objs.size it
 have stY:tn 0 h₁:=T.keep _ _ _ st2 fun b _ o e=>old b o (k3 b o e)
 have fY:∀ b ∈ fp,jj (blk X N' sc s3.heap.objs.size s3 (upd H2 s2.heap.objs.size (.lst [])) fp) (X.pn ++ pins) (upd H2 s2.heap.objs.size (.lst [])) b:=fun b hb=>by
  obtain ⟨g0,g1,g2,g3,g4,g5⟩:=f3 b hb
  refine ⟨g0,Nat.ne_of_lt (lt3 b hb),fun z=>(List.mem_cons.mp (I3.pq b z)).elim g1 g2,.inl hb,fun x c e=>?_,fun p hp=>g5 p (by have hp':p ∈ ([]:List (Addr × Obj)) ++ (X.pn ++ pins):=hp;simpa using hp')⟩
  rcases k_ (fun y hy e=>I3.ok.has y.1 (B.fr y hy e)) e with z | z
  · exact g4 x c z
  · simp at z
 have loop:codeAny (model X.prog X.w) X.A (.compLoop (.ListComp elt (⟨tg,iter,ifs,0⟩::gs) sc pos) 0 (.ref it) (.ref s2.heap.objs.size) (blk X N' sc s3.heap.objs.size s3 (upd H2 s2.heap.objs.size (.lst [])) fp).env)
  (compPost (model X.prog X.w) X.A E use QQ (.ref s2.heap.objs.size) s3.heap.objs.size) { s3 with heap:=h₁,toks:=s3.toks + ([]:List (Str × Value)).length }:=by
  refine codeAny_mono (Be (Y:=blk X N' sc s3.heap.objs.size s3 (upd H2 s2.heap.objs.size (.lst [])) fp) hx hc ht T hg hif hin IY stY fY (hl _ hD)) fun r s' hr=>?_
  cases r with
  | error e=>exact False.elim hr
  | ok fl=>
    obtain ⟨H',IY',q⟩:=hr
    have fin:=hend s2.heap.objs.size _ s3 s' _ H' fp _ _ rfl I3 f3 IY' q
    cases use with
    | none=>exact fin
    | some u=>exact fin
 exact vf (g:=⟨tg,iter,ifs,0⟩) rfl rfl loop (T.self _ 0 _ _ _ stY loop)
theorem Bf (B:jX X N' sc nt idx) (hc:X.calm=true) (hi:PI X tg iter wi) (O:pH X N' sc elt tg iter ifs gs pos g tif tin) (hs:∀ x,foldedSetIterable iter X.env x=pure x:=by intro _;rfl):
 PE X (.ListComp elt (⟨tg,iter,ifs,0⟩::gs) sc pos) (v5 nt idx wi g tif tin):=by
 intro pins s σ H Q I h
 rw [eval_ListComp]
 refine wpAny_comprehension_free (use:=none) (cl:=dI X.env.cells sc.names []) rfl hs (jT fun y hy e=>I.ok.has y.1 (B.fr y hy e)) B.kind B.loc
  (xJ B hc hi O I h (fun _ _ z=>z) fun D C s3 s' H3 H' fp sJ σY hC I3 f3 IY q=>?_)
 subst hC
 obtain ⟨m,hn,_⟩:=IY.loc
 exact ⟨m,hn,fun h' hs'=>⟨.ref D,H',xH I3 f3 IY hs',rfl,q⟩⟩
theorem Bg {i:Nat} {y:Str} {py spos:Pos} (hN:X.N.Nodup) (hi':X.N[i]? =some y) (hy:Loc X.env.scope y) (B:jX X N' sc nt idx) (hc:X.calm=true) (hi:PI X tg iter wi) (O:pH X N' sc elt tg iter ifs gs pos g tif tin)
 (hsw:swapsWith (.ListComp elt (⟨tg,iter,ifs,0⟩::gs) sc pos) (some (.Name y py)) spos.line X.env=pure true:=by rfl) (hs:∀ x,foldedSetIterable iter X.env x=pure x:=by intro _;rfl)
 (hf:X.fn y=true\/X.env.scope.names.lookup y=some .local:=by first | exact .inl rfl | exact .inr rfl | assumption):
 PS X (.Assign [.Name y py] (.ListComp elt (⟨tg,iter,ifs,0⟩::gs) sc pos) spos) (HH (v5 nt idx wi g tif tin) (vW i)):=by
 intro pins s σ H D0 I h
 rw [exec_Assign_Name_used _ _ _ _ hsw]
 refine wpAny_bind (wpAny_standAt (wpAny_bind ?_))
 show wpAny _ X.A (do let _ <- comprehension (.ListComp elt (⟨tg,iter,ifs,0⟩::gs) sc pos) sc X.env _ (newList []) false (eval iter X.env) (some (assign (.Name y py) X.env))) _ _ s
 refine wpAny_bind (wpAny_mono (wpAny_comprehension_free (use:=some (assign (.Name y py) X.env)) (Q:=fun _ s'=>SP X pins D0 .next s') (cl:=dI X.env.cells sc.names []) rfl hs (jT fun y hy e=>I.ok.has y.1 (B.fr y hy e)) B.kind B.loc
  (xJ B hc hi O I h (fun _ _ z=>z) fun D C s3 s' H3 H' fp sJ σY hC I3 f3 IY q=>?_)) (fun _ s' hq=>wpAny_pure (wpAny_pure hq)) fun _ _ e=>e)
 subst hC
 obtain ⟨m,hn,_⟩:=id IY.loc
 obtain ⟨oC,es,ep,hoC,hdC,rest⟩:=id hn
 have IX:Inv X pins σ H' s':=xH (h':=s'.heap) I3 f3 IY (Heap.SameBut.refl ..)
 have neL:s3.heap.objs.size ≠ X.env.locals:=Nat.ne_of_gt I3.lt
 have nfs:s3.heap.objs.size ∉ X.fs:=I3.MJ (Nat.le_refl _)
 have Q0:∀ x c,X.env.cells.lookup x=some c->c ≠ s3.heap.objs.size:=fun x c e z=>by
  obtain ⟨v,hv⟩:=I3.cell x c e
  exact absurd hv.lt (by rw [z];exact Nat.lt_irrefl _)
 have S7:s'.heap.get? s3.heap.objs.size=some oC:=hoC
 have hfree:H' s3.heap.objs.size=none:=IY.free
 have IP:Inv X (pins ++ [(s3.heap.objs.size,oC)]) σ H' s':=IX.uo fun p hp=>by
  rcases List.mem_append.mp hp with z | z
  · exact IX.pin p (List.mem_append_right _ z)
  · have e:p=(s3.heap.objs.size,oC):=by simpa using z
    subst e
    exact ⟨S7,hfree,neL,nfs,fun v z=>by rw [hdC] at z;cases z⟩
 show wpAny _ X.A (assign (.Name y py) X.env (.ref D)) _ _ _
 refine wpAny_assign_Name (nU IP hN hi' hy (v:=.ref D) rfl (fun s'' I''=>?_) hf)
 have pC:=I''.pin (s3.heap.objs.size,oC) (List.mem_append_right _ (List.mem_append_right _ (List.mem_singleton.mpr rfl)))
 refine ⟨m,⟨oC,es,ep,pC.1,hdC,rest⟩,fun h' hs'=>?_⟩
 refine ⟨_,H',(I''.kY).turned (it:=s3.heap.objs.size) (h':=h') (t':=s''.toks) (fun b o hb e=>hs'.extBut b o hb e) pC.2.1 neL (.inr I3.sz) Q0 (fun p hp z=>?_),q⟩
 have:=(I3.pin p hp).1
 exact absurd (Heap.lt_size this) (by rw [z];exact Nat.lt_irrefl _)
theorem Dj {te:TE} (hg:∀ C s₀ H₀ fp,PG (blk X N' sc C s₀ H₀ fp) tg g) (hif:∀ C s₀ H₀ fp,PTs (blk X N' sc C s₀ H₀ fp) ifs tif) (he:∀ C s₀ H₀ fp,PE (blk X N' sc C s₀ H₀ fp) elt te):
 pH X N' sc elt tg iter ifs [] pos g tif (fun D=>sI D te):=
 ⟨fun C s₀ H₀ fp D it=>⟨_,QZ elt tg iter ifs sc pos (.ref it) (.ref D) _,hg C s₀ H₀ fp,hif C s₀ H₀ fp,Bd (he C s₀ H₀ fp)⟩⟩
theorem Q3 {tg2 bC:Expr} {dJ:List Expr} {te:TE} {wi2:TI} {g2:TG} {NQ:TT} (hc:X.calm=true) (hg:∀ C s₀ H₀ fp,PG (blk X N' sc C s₀ H₀ fp) tg g) (hif:∀ C s₀ H₀ fp,PTs (blk X N' sc C s₀ H₀ fp) ifs tif)
 (hi2:∀ C s₀ H₀ fp,PI (blk X N' sc C s₀ H₀ fp) tg2 bC wi2) (hg2:∀ C s₀ H₀ fp,PG (blk X N' sc C s₀ H₀ fp) tg2 g2) (Ij:∀ C s₀ H₀ fp,PTs (blk X N' sc C s₀ H₀ fp) dJ NQ) (he:∀ C s₀ H₀ fp,PE (blk X N' sc C s₀ H₀ fp) elt te)
 (hs:∀ C s₀ H₀ fp x,foldedSetIterable bC (blk X N' sc C s₀ H₀ fp).env x=pure x:=by intro _ _ _ _ _;rfl):
 pH X N' sc elt tg iter ifs [⟨tg2,bC,dJ,0⟩] pos g tif (fun D=>FJ wi2 g2 NQ (sI D te)):=by
 refine ⟨fun C s₀ H₀ fp D it=>⟨_,NK elt tg iter tg2 bC ifs dJ sc pos (.ref it) (.ref D) _,hg C s₀ H₀ fp,hif C s₀ H₀ fp,?_⟩⟩
 have hx:NoX (blk X N' sc C s₀ H₀ fp):=fun _ _ z=>z
 intro pins s σ H N I h
 refine wpAny_bind (thn (hi2 C s₀ H₀ fp pins s σ H _ I h) fun v s1 h1=>?_)
 refine wpAny_bind (wpAny_standAt (wpAny_bind (wpAny_of_eq (hs C s₀ H₀ fp v) ?_)))
 refine wpAny_bind (wpAny_holding (thn h1 fun itv s2 h2=>?_))
 obtain ⟨it2,fp2,tn2,J2,H2,e,I2,T2,st2,f2,hl2⟩:=h2
 subst e
 have loop:=Be (Y:=blk X N' sc C s₀ H₀ fp) hx hc (NP elt tg iter tg2 bC ifs dJ sc pos (.ref it2) (.ref D) _) T2 (hg2 C s₀ H₀ fp) (Ij C s₀ H₀ fp) (Bd (he C s₀ H₀ fp)) I2 st2 f2 hl2
 have loop':codeAny (model (blk X N' sc C s₀ H₀ fp).prog (blk X N' sc C s₀ H₀ fp).w) (blk X N' sc C s₀ H₀ fp).A (.compLoop (.ListComp elt [⟨tg,iter,ifs,0⟩,⟨tg2,bC,dJ,0⟩] sc pos) 1 (.ref it2) (.ref D) (blk X N' sc C s₀ H₀ fp).env)
  (fun r s'=>match r with | .ok f=>wpAny (model (blk X N' sc C s₀ H₀ fp).prog (blk X N' sc C s₀ H₀ fp).w) (blk X N' sc C s₀ H₀ fp).A (pure ()) (fun _ s'=>∃ H',Inv (blk X N' sc C s₀ H₀ fp) pins σ H' s'/\N H') (blk X N' sc C s₀ H₀ fp).xe s' | .error e=>cameBackBy (model (blk X N' sc C s₀ H₀ fp).prog (blk X N' sc C s₀ H₀ fp).w) (blk X N' sc C s₀ H₀ fp).A (blk X N' sc C s₀ H₀ fp).env (blk X N' sc C s₀ H₀ fp).xe e s') s2:=
  codeAny_mono loop fun r s' hr=>by
   cases r with
   | error e=>exact False.elim hr
   | ok fl=>exact wpAny_pure hr
 exact wpAny_bind (wpAny_runOwn (h:=none) (vf (g:=⟨tg2,bC,dJ,0⟩) rfl rfl loop' (T2.self _ 0 _ _ _ st2 loop')))
end
end L2
set_option maxRecDepth 100000
set_option maxHeartbeats 4000000
namespace L2
open PySem PySem.Spec PySem.SeqAt PyProof.Rows
def NZ (N N':List Str) (sc osc:Scope) (nt:Nat) (idx:List Nat):Bool:=
 decide (sc.kind= .function) && sc.names.all (fun y=>decide (y.2 ≠ .cell)) && sc.names.all (fun y=> !decide (y.2= .local) || decide (sc.names.lookup y.1=some .local)) &&
 sc.names.all (fun y=> !decide (y.2= .free) || (decide (osc.names.lookup y.1=some .cell) || decide (osc.names.lookup y.1=some .free))) && decide (nt + idx.length=N'.length) &&
 (idx.zip (N'.drop nt)).all (fun p=>decide (N[p.1]? =some p.2) && decide (sc.names.lookup p.2=some .free))
theorem cG {X:Cx} {N N':List Str} {sc osc:Scope} {nt:Nat} {idx:List Nat} (h1:X.env.scope=osc) (h2:X.N=N) (h:NZ N N' sc osc nt idx=true):jX X N' sc nt idx:=by
 unfold NZ at h
 simp only [Bool.and_eq_true,List.all_eq_true,decide_eq_true_eq,Bool.or_eq_true,Bool.not_eq_true',decide_eq_false_iff_not] at h
 obtain ⟨⟨⟨⟨⟨a,b⟩,c⟩,d⟩,e⟩,f⟩:=h
 refine ⟨a,b,fun y hy q=>(c y hy).resolve_left (fun z=>z q),fun y hy q=>?_,e,fun p hp=>?_⟩
 · have z:=(d y hy).resolve_left (fun z=>z q)
   unfold Env.kindOf
   rw [h1]
   exact z
 · rw [h2];exact f p hp
structure Low (o u n d:Int):Prop where
 pos:0 < d
 gcd:Int.gcd n d=1
 eq:n * u=o * d
 le1:n.natAbs <= o.natAbs
 le2:d.natAbs <= u.natAbs
abbrev Drawn:List Int->List Int->Prop:=Paired fun n l=>0 <= n/\n < l
end L2
set_option maxRecDepth 100000
set_option maxHeartbeats 4000000
namespace L2
open PySem PySem.Spec PySem.SeqAt PyProof.Rows
section
variable {X:Cx}
theorem xK {bs:List Bool}:∀ {us:List Value},Vals (bs.map V.bl) us->LSm.BoolsAre us bs:=by
 induction bs with
 | nil=>intro us r;rw [List.map_nil] at r;cases r;exact .nil
 | cons b bs ih=>
   intro us r
   rw [List.map_cons] at r
   cases r with
   | cons r1 r2=>
     obtain rfl:=(show _=Value.bool b from r1)
     exact .cons b (ih r2)
def xM (f:List Bool->Bool):List V->Hp->VK->Prop:=fun xs H Q=>∃ p bs,xs= [.ref p]/\H p=some (.lst (bs.map V.bl))/\Q (.bl (f bs)) H
theorem lK (hc:X.calm=true):cU X (.builtin "all") (xM fun bs=>bs.all id):=by
 intro pins s σ H xs us Q I r h
 obtain ⟨p,bs,rfl,hp,q⟩:=h
 obtain ⟨u,rfl,ru⟩:=vals1 r
 cases ru
 obtain ⟨_,its,n,rv,ho⟩:=(show bw X.prog X.w H s.heap p (.lst (bs.map V.bl)) from I.hok p _ hp)
 have hb:=xK rv
 have hl:s.heap.IsList p its.toArray:=⟨_,ho,rfl,_,rfl⟩
 have hlt:p < s.heap.objs.size:=Heap.lt_size ho
 refine call_all_walk (wpAny_pyIter_list hl ?_)
 refine ⟨s.heap.objs.size,[s.heap.objs.size,p],[s.heap.objs.size],its.toArray.size,_,_,fun i=>(bs[i]?).getD true,rfl,Walks.list (A:=X.A.in1) (I.ok.hd hc) _ p (Nat.ne_of_lt hlt) its.toArray,
  ⟨⟨_,Heap.get?_push_size _ rfl,rfl,rfl⟩,hl.push _⟩,fun i v s' Q' E' hP hQ=>?_,fun h' tk hk=>?_⟩
 · obtain ⟨b,e,rfl⟩:=hb.get i v (by simpa using hP)
   simp only [e,Option.getD_some] at hQ
   exact wpAny_truthy_bool hQ
 · have e:((List.range its.toArray.size).all fun i=>(bs[i]?).getD true)=bs.all id:=by
    rw [List.size_toArray,hb.length];exact LSm.range_all bs
   rw [e]
   exact ⟨.bl _,H,I.kept (h':=h') (t':=tk) (LSm.kept_iter hk),rfl,q⟩
theorem FN (hc:X.calm=true):cU X (.builtin "any") (xM fun bs=>bs.any id):=by
 intro pins s σ H xs us Q I r h
 obtain ⟨p,bs,rfl,hp,q⟩:=h
 obtain ⟨u,rfl,ru⟩:=vals1 r
 cases ru
 obtain ⟨_,its,n,rv,ho⟩:=(show bw X.prog X.w H s.heap p (.lst (bs.map V.bl)) from I.hok p _ hp)
 have hb:=xK rv
 have hl:s.heap.IsList p its.toArray:=⟨_,ho,rfl,_,rfl⟩
 have hlt:p < s.heap.objs.size:=Heap.lt_size ho
 refine call_any_walk (wpAny_pyIter_list hl ?_)
 refine ⟨s.heap.objs.size,[s.heap.objs.size,p],[s.heap.objs.size],its.toArray.size,_,_,fun i=>(bs[i]?).getD false,rfl,Walks.list (A:=X.A.in1) (I.ok.hd hc) _ p (Nat.ne_of_lt hlt) its.toArray,
  ⟨⟨_,Heap.get?_push_size _ rfl,rfl,rfl⟩,hl.push _⟩,fun i v s' Q' E' hP hQ=>?_,fun h' tk hk=>?_⟩
 · obtain ⟨b,e,rfl⟩:=hb.get i v (by simpa using hP)
   simp only [e,Option.getD_some] at hQ
   exact wpAny_truthy_bool hQ
 · have e:((List.range its.toArray.size).any fun i=>(bs[i]?).getD false)=bs.any id:=by
    rw [List.size_toArray,hb.length];exact LSm.range_any bs
   rw [e]
   exact ⟨.bl _,H,I.kept (h':=h') (t':=tk) (LSm.kept_iter hk),rfl,q⟩
end
section
variable {X:Cx} {K:PySem.W.Frag} {tg l o e:Expr} {es:List Expr} {tl to te:TE} {t:TA} {pos apos:Pos}
theorem Bh (h:X.K=K):IxR X (rIx K):=h ▸ Fp
def S8 (K:PySem.W.Frag):List V->Hp->VK->Prop:=fun xs H Q=>∃ p ys,xs= [.ref p]/\(SqL K H p ys\/SqT K H p ys)/\Q (.int ys.length) H
def Q4 (K:PySem.W.Frag):List V->Hp->VK->Prop:=fun xs H Q=>∃ p ys,xs= [.ref p]/\(SqL K H p ys\/SqT K H p ys)/\(ys.length <= sizeLine->Q (.int ys.length) H)
theorem pI:cU X (.builtin "len") (Q4 X.K):=by
 intro pins s σ H xs us Q I r h
 obtain ⟨p,ys,e,hs,q⟩:=h
 have hz:ys.length <= sizeLine:=by
  rcases hs with z | z
  · exact (I.list z).choose_spec.2.2
  · exact (I.tuple z).choose_spec.2.2
 exact cj pins s σ H xs us Q I r ⟨p,ys,e,hs,q hz⟩
end
theorem xN {lo:Int} {n:Nat} {g:TG} {tif:TT} {tin:TN} {σ:St} {H:Hp} {Q:Hp->Prop} (Pv:Nat->Hp->Prop) (h0:Pv 0 H)
 (hs:∀ i H,i < n->Pv i H->g (.int (lo + i)) σ H fun σ2 H2=>Wk σ σ2/\tif σ2 H2 fun b H3=>if b=true then tin σ2 H3 (Pv (i + 1)) else Pv (i + 1) H3) (hd:∀ H,Pv n H->Q H):sH (Itr lo n) g tif tin σ H Q:=by
 refine ⟨fun i m H=>m=n - i/\i <= n/\Pv i H,⟨n,by simp,Nat.zero_le _,h0⟩,?_⟩
 rintro i m H ⟨rfl,hi,p⟩
 by_cases hlt:i < n
 · refine .inr ⟨hlt,Pv (i + 1),fun H' p'=>⟨n - (i + 1),by omega,rfl,hlt,p'⟩,fun x H' y=>?_⟩
   obtain ⟨e,y⟩:=y
   subst e y
   exact hs i _ hlt p
 · have e:i=n:=by omega
   subst e
   exact .inl ⟨Nat.le_refl _,hd H p⟩
example (a b v:V):Wk (sgb 1 [0,1] [some a,some b]) ((sgb 1 [0,1] [some a,some b]).set 0 (some v)):=⟨rfl,rfl,trivial⟩
def tyN:PyData->String
 | .none=>"NoneType"
 | .bool _=>"bool"
 | .int _=>"int"
 | .str _=>"str"
 | .list _=>"list"
 | .tuple _=>"tuple"
 | .dict _=>"dict"
theorem Rep.ty {K:PySem.W.Frag} {H:Hp} {v:V} {d:PyData} (r:Rep H v d):iZ K H v (.type (tyN d)):=by
 cases r with
 | non=>exact .non
 | bl b=>exact .bl b
 | int i=>exact .int i
 | str x=>exact .str x
 | lst h _=>exact .lst h
 | tup h _=>exact .tup h
end L2
set_option maxRecDepth 100000
set_option maxHeartbeats 4000000
namespace L2
open PySem PySem.Spec PySem.SeqAt PyProof.Rows
def Kp (fs:List Addr) (g h:Heap):Prop:=∀ b o,g.get? b=some o->(b ∉ fs->h.get? b=some o)/\(b ∈ fs->∃ sl,h.get? b=some { o with slots:=sl })
theorem Kp.of_keeps {fs:List Addr} {g h:Heap} (k:∀ b o,g.get? b=some o->h.get? b=some o):Kp fs g h:=fun b o e=>⟨fun _=>k b o e,fun _=>⟨o.slots,k b o e⟩⟩
def Fly (g:Heap) (fl:Value) (e:Addr) (cls:Value) (d:Option Addr) (a0:Value) (h:Heap):Prop:=
 g.get? e=none/\∃ oe vs T oT ts,h.get? e=some oe/\oe.cls=cls/\oe.dict=d/\oe.data= .fields vs/\vs[0]? =some a0/\vs[1]? =some (.ref T)/\T ≠ e/\g.get? T=none/\h.get? T=some oT/\oT.data= .fields ts/\ts[3]? =some fl
section
variable {M:Model} {A:Around} {E:Value->Shared->Prop} {s:Shared} {base g:Heap} {env:Env} {outer:List Env} {L e:Addr} {a0:Value}
theorem vg {oe:Obj} {vs:Array Value} {head:Value} {hadNext:Bool} {Q:Unit->Shared->Prop} (hfr:A.frames=some (env::outer)) (hl:s.heap.FunFrames base (env::outer)) (hf:env.frame=some L)
 (he:s.heap.get? e=some oe) (hd:oe.data= .fields vs) (hsz:1 < vs.size)
 (h:∀ h' T oT ts,(∀ b o,s.heap.get? b=some o->b ≠ e->(b ∉ frs (env::outer)->h'.get? b=some o)/\∃ sl,h'.get? b=some { o with slots:=sl })->s.heap.get? T=none->
   h'.get? e=some (Obj.mapFields (·.setIfInBounds 1 (.ref T)) oe)->h'.get? T=some oT->oT.data= .fields ts->ts[3]? =some (rawInt L)->Q () { s with heap:=h' }):
 wpAny M A (do let a <- frameOf env;let pl <- entryPlaceOf L hadNext;let b <- EntryCells.newEntry head a .none (rawInt L) .none pl;setField (.ref e) 1 b) Q E s:=by
 have hene:e ∉ (env::outer).filterMap (·.frame):=fun hm=>by
  obtain ⟨_,o,ho,hnf⟩:=hl.mem hm
  rw [he] at ho;cases ho;exact hnf vs hd
 refine wpAny_bind (wpAny_frameOf_fun hfr hl hf fun h1 hs1=>?_)
 refine wpAny_bind (wpAny_entryPlaceOf fun pl hpl=>?_)
 unfold EntryCells.newEntry newFields
 refine wpAny_bind (wpAny_newObj_type ?_ (hpl.sizeOk5 _ _ _ _ _))
 have he1:h1.get? e=some oe:=(hs1.2.1 e hene).trans he
 refine wpAny_setField (Heap.get?_push_of_some _ he1) hd hsz ?_
 have hTe:h1.objs.size ≠ e:=Nat.ne_of_gt (Heap.lt_size he1)
 refine h _ h1.objs.size _ _ (fun b o hb hbe=>?_) ?_ ?_ ((Heap.get?_update_other _ _ hTe.symm).trans (Heap.get?_push_size h1 rfl)) rfl ?_
 · have up:∀ o',h1.get? b=some o'->((h1.push { cls:=.type "traceback",dict:=none,data:=.fields ([head,.ref L,.none,rawInt L,.none] ++ (if pl.isEmpty then List.replicate 6 Value.none else pl)).toArray }).update e (Obj.mapFields (·.setIfInBounds 1 (Value.ref h1.objs.size)))).get? b=some o':=fun o' q=>by
    rw [Heap.get?_update_other _ _ hbe.symm];exact Heap.get?_push_of_some _ q
   refine ⟨fun hn=>up o ((hs1.2.1 b hn).trans hb),?_⟩
   obtain ⟨sl,q⟩:=hs1.2.2 b o hb
   exact ⟨sl,up _ q⟩
 · cases q:s.heap.get? h1.objs.size with
   | none=>rfl
   | some o=>
     obtain ⟨sl,q'⟩:=hs1.2.2 _ o q
     exact absurd (Heap.lt_size q') (Nat.lt_irrefl _)
 · exact Heap.get?_update_self _ (Heap.get?_push_of_some _ he1) (Obj.isFreed_of_fields (Obj.data_mapFields hd _))
 · first
    | (simp;done)
    | (rcases hpl with rfl | ⟨_,_,_,_,_,_,_,rfl⟩ <;> simp)
theorem nH (f:Array Value->Array Value) (o:Obj):(Obj.mapFields f o).dict=o.dict:=by
 obtain ⟨c,d,dt,sl⟩:=o;cases dt <;> rfl
theorem Dk {oe:Obj} {vs:Array Value} {Q:Unit->Shared->Prop} (hfr:A.frames=some (env::outer)) (hl:s.heap.FunFrames base (env::outer)) (hf:env.frame=some L)
 (he:s.heap.get? e=some oe) (hd:oe.data= .fields vs) (h0:vs[0]? =some a0) (h1:vs[1]? =some .none) (hg:g.get? e=none) (hgs:Kp (frs (env::outer)) g s.heap)
 (h:∀ h',Kp (frs (env::outer)) g h'->Fly g (rawInt L) e oe.cls oe.dict a0 h'->Q () { s with heap:=h' }):wpAny M A (noteFrame (.ref e) env) Q E s:=by
 unfold noteFrame
 simp only [hf]
 refine wpAny_bind (wpAny_field he hd h1 ?_)
 rw [if_neg (by decide)]
 have sz:=(Array.getElem?_eq_some_iff.mp h1).1
 refine vg hfr hl hf he hd sz fun h' T oT ts k kT ke kt kd k3=>h h' (fun b o q=>?_) ⟨hg,_,_,T,oT,ts,ke,Obj.cls_mapFields _ _,nH _ _,Obj.data_mapFields hd _,by rw [Array.getElem?_setIfInBounds_ne (by decide)];exact h0,by simp [sz],fun z=>?_,?_,kt,kd,k3⟩
 · have hbe:b ≠ e:=fun z=>by rw [z,hg] at q;cases q
   refine ⟨fun hb=>(k b o ((hgs b o q).1 hb) hbe).1 hb,fun hb=>?_⟩
   obtain ⟨sl,q1⟩:=(hgs b o q).2 hb
   obtain ⟨sl2,q2⟩:=(k b _ q1 hbe).2
   exact ⟨sl2,q2⟩
 · rw [z,he] at kT;cases kT
 · cases q:g.get? T with
   | none=>rfl
   | some o=>
     exfalso
     by_cases hb:T ∈ frs (env::outer)
     · obtain ⟨sl,q1⟩:=(hgs T o q).2 hb
       rw [kT] at q1;cases q1
     · have q1:=(hgs T o q).1 hb
       rw [kT] at q1;cases q1
theorem vh {cls:Value} {d:Option Addr} {Q:Unit->Shared->Prop} (hfr:A.frames=some (env::outer)) (hl:s.heap.FunFrames base (env::outer)) (hf:env.frame=some L)
 (hF:Fly g .none e cls d a0 s.heap) (hgs:Kp (frs (env::outer)) g s.heap)
 (h:∀ h',Kp (frs (env::outer)) g h'->Fly g (rawInt L) e cls d a0 h'->Q () { s with heap:=h' }):wpAny M A (noteFrame (.ref e) env) Q E s:=by
 obtain ⟨hg,oe,vs,T,oT,ts,he,hc,hdd,hd,h0,h1,hTe,hgT,hT,hdT,h3⟩:=hF
 subst hc hdd
 unfold noteFrame
 simp only [hf]
 refine wpAny_bind (wpAny_field he hd h1 ?_)
 rw [if_pos (show (Value.ref T != Value.none)=true from by simp)]
 refine wpAny_bind (wpAny_field hT hdT h3 ?_)
 rw [if_neg (show ¬ ((Value.none == rawInt L)=true) from by simp [rawInt])]
 refine wpAny_bind (wpAny_setField hT hdT (Array.getElem?_eq_some_iff.mp h3).1 ?_)
 have other:∀ b,b ≠ T->(s.heap.update T (Obj.mapFields (·.setIfInBounds 3 Value.none))).get? b=s.heap.get? b:=fun b hb=>Heap.get?_update_other _ _ (Ne.symm hb)
 have sz:=(Array.getElem?_eq_some_iff.mp h1).1
 have Q5:(s.heap.update T (Obj.mapFields (·.setIfInBounds 3 Value.none))).FunFrames base (env::outer):=hl.of_keeps fun b o hb hnf=>⟨o,(other b fun q=>by rw [q,hT] at hb;cases hb;exact hnf ts hdT).trans hb,rfl⟩
 refine vg hfr Q5 hf ((other e (Ne.symm hTe)).trans he) hd sz fun h' T2 oT2 ts2 k kT ke kt kd k3=>h h' (fun b o q=>?_) ⟨hg,_,_,T2,oT2,ts2,ke,Obj.cls_mapFields _ _,nH _ _,Obj.data_mapFields hd _,by rw [Array.getElem?_setIfInBounds_ne (by decide)];exact h0,by simp [sz],fun z=>?_,?_,kt,kd,k3⟩
 · have hbe:b ≠ e:=fun z=>by rw [z,hg] at q;cases q
   have hbT:b ≠ T:=fun z=>by rw [z,hgT] at q;cases q
   refine ⟨fun hb=>(k b o ((other b hbT).trans ((hgs b o q).1 hb)) hbe).1 hb,fun hb=>?_⟩
   obtain ⟨sl,q1⟩:=(hgs b o q).2 hb
   obtain ⟨sl2,q2⟩:=(k b _ ((other b hbT).trans q1) hbe).2
   exact ⟨sl2,q2⟩
 · rw [z,other e (Ne.symm hTe),he] at kT;cases kT
 · cases q:g.get? T2 with
   | none=>rfl
   | some o=>
     exfalso
     have hbT:T2 ≠ T:=fun z=>by rw [z,hgT] at q;cases q
     rw [other _ hbT] at kT
     by_cases hb:T2 ∈ frs (env::outer)
     · obtain ⟨sl,q1⟩:=(hgs T2 o q).2 hb
       rw [kT] at q1;cases q1
     · have q1:=(hgs T2 o q).1 hb
       rw [kT] at q1;cases q1
theorem nY {fs:List Addr} {cls fl:Value} {d:Option Addr} {Q:Unit->Shared->Prop} (hF:Fly g fl e cls d a0 s.heap) (hgs:Kp fs g s.heap)
 (h:∀ h',Kp fs g h'->Fly g .none e cls d a0 h'->Q () { s with heap:=h' }):wpAny M A (setFlight (.ref e) none) Q E s:=by
 obtain ⟨hg,oe,vs,T,oT,ts,he,hc,hdd,hd,h0,h1,hTe,hgT,hT,hdT,h3⟩:=hF
 have sz:=(Array.getElem?_eq_some_iff.mp h3).1
 have other:∀ b,b ≠ T->(s.heap.update T (Obj.mapFields (·.setIfInBounds 3 ((none:Option Addr).elim Value.none fun f=>rawInt f)))).get? b=s.heap.get? b:=fun b hb=>Heap.get?_update_other _ _ (Ne.symm hb)
 unfold setFlight
 refine wpAny_bind (wpAny_field he hd h1 ?_)
 rw [if_pos (show (Value.ref T != Value.none)=true from by simp)]
 refine wpAny_setField hT hdT sz (h _ (fun b o q=>?_) ?_)
 · have hbT:b ≠ T:=fun z=>by rw [z,hgT] at q;cases q
   exact ⟨fun hb=>(other b hbT).trans ((hgs b o q).1 hb),fun hb=>let ⟨sl,q1⟩:=(hgs b o q).2 hb;⟨sl,(other b hbT).trans q1⟩⟩
 · exact ⟨hg,oe,vs,T,_,_,(other e (Ne.symm hTe)).trans he,hc,hdd,hd,h0,h1,hTe,hgT,Heap.get?_update_self _ hT (Obj.isFreed_of_fields (Obj.data_mapFields hdT _)),Obj.data_mapFields hdT _,by simp [sz]⟩
theorem Aa {oe:Obj} {vs:Array Value} {Q:Unit->Shared->Prop} (hfr:A.frames=some (env::outer)) (hl:s.heap.FunFrames base (env::outer)) (hf:env.frame=some L)
 (he:s.heap.get? e=some oe) (hd:oe.data= .fields vs) (h0:vs[0]? =some a0) (h1:vs[1]? =some .none) (hg:g.get? e=none) (hgs:Kp (frs (env::outer)) g s.heap)
 (h:∀ h',Kp (frs (env::outer)) g h'->Fly g .none e oe.cls oe.dict a0 h'->Q () { s with heap:=h' }):wpAny M A (leaving env (.ref e)) Q E s:=by
 unfold leaving
 exact wpAny_bind (Dk hfr hl hf he hd h0 h1 hg hgs fun h' k F=>nY (s:={ s with heap:=h' }) F k fun h'' k2 F2=>h h'' k2 F2)
theorem Dl {cls:Value} {d:Option Addr} {Q:Unit->Shared->Prop} (hfr:A.frames=some (env::outer)) (hl:s.heap.FunFrames base (env::outer)) (hf:env.frame=some L)
 (hF:Fly g .none e cls d a0 s.heap) (hgs:Kp (frs (env::outer)) g s.heap)
 (h:∀ h',Kp (frs (env::outer)) g h'->Fly g .none e cls d a0 h'->Q () { s with heap:=h' }):wpAny M A (leaving env (.ref e)) Q E s:=by
 unfold leaving
 exact wpAny_bind (vh hfr hl hf hF hgs fun h' k F=>nY (s:={ s with heap:=h' }) F k fun h'' k2 F2=>h h'' k2 F2)
end
end L2
set_option maxRecDepth 100000
set_option maxHeartbeats 4000000
namespace L2
open PySem PySem.Spec PySem.SeqAt PyProof.Rows
structure Ord (bm:List Value):Prop where
 v:bm.contains (.type "ValueError")=true
 b:bm.contains (.type "BaseException")=true
 a:bm.contains (.type "AttributeError")=false
 n:bm.contains (.type "NameError")=false
theorem Ord.cv {bm:List Value} (T:Ord bm) (C:Addr):(Value.ref C::bm).contains (.type "ValueError")=true:=by rw [List.contains_cons,T.v,Bool.or_true]
theorem Ord.cb {bm:List Value} (T:Ord bm) (C:Addr):(Value.ref C::bm).contains (.type "BaseException")=true:=by rw [List.contains_cons,T.b,Bool.or_true]
theorem Ord.ca {bm:List Value} (T:Ord bm) (C:Addr):(Value.ref C::bm).contains (.type "AttributeError")=false:=by rw [List.contains_cons,T.a];rfl
theorem Ord.cn {bm:List Value} (T:Ord bm) (C:Addr):(Value.ref C::bm).contains (.type "NameError")=false:=by rw [List.contains_cons,T.n];rfl
abbrev VF:=PySem.F.excBase_ValueError
abbrev cV (C t:Addr) (d:Option Addr):Obj:={ cls:=.ref C,dict:=d,data:=.fields #[.ref t,.none,.none,.none,.bool false,.none] }
section
variable {prog:Program} {w:World} {A:Around} {E:Value->Shared->Prop} {h:Heap} {g:Array GenState} {d:PySem.Drawn} {t:Nat} {os:OsState}
variable {nm q:Str} {C N:Addr} {bs bm:List Value} {hdct:Bool} {sn:List Str} {sub:List Value} {ab:Bool} {col:Option Bool} {dd:Option Addr} {k0 k1 k2 k3 k5:Option Value}
theorem N5 {R:Result->Shared->Prop} {rest:List Value} (T:Ord bm) (hC:h.get? C=some (excClassObj nm q C N bs bm hdct sn sub ab col dd k0 k1 k2 k3 k5 "ValueError.__new__"))
 (hq:R (.ok (.ret (.ref (h.objs.size + 1)))) ⟨(h.push { cls:=.type "tuple",data:=.seq rest.toArray }).push (cV C h.objs.size none),g,d,t,os⟩) (hrest:rest.length <= sizeLine:=by size_fits):
 codeAny (model prog w) A (.builtin "ValueError.__new__" ⟨.ref C::rest,[]⟩) R ⟨h,g,d,t,os⟩:=by
 have hends:=VF.ends
 have c1:=T.cv C
 have c2:=T.ca C
 have c3:=T.cn C
 refine codeAny_builtinAt VF.entry ?_
 unfold Builtin.«BaseException.__new__»
 refine PySem.wpAt_bind ?_
 show PySem.wpAt _ _ _ (stack >>= _) _ _ _
 refine PySem.wpAt_bind (PySem.wpAt_stack fun p below=>PySem.wpAt_of_wpAny ?_)
 wp_walk
 refine PySem.wpAt_of_wpAny ?_
 rw [VF.owner]
 repeat (first | with_reducible refine wpAny_madeHere_exc VF.canon hC ?_ | with_reducible refine wpAny_loadPart_at hC ?_ | (with_reducible refine wpAny_isSubtype_exc hC ?_;first | rw [c1] | rw [c2] | rw [c3]) | wp_step)
 show R _ _
 rw [Heap.size_push]
 exact hq
theorem Ik {M:Model} {rest:List Value} {Q:Unit->Shared->Prop} (T:Ord bm) (hC:h.get? C=some (excClassObj nm q C N bs bm hdct sn sub ab col dd k0 k1 k2 k3 k5 "ValueError.__new__"))
 (hq:Q () ⟨h,g,d,t,os⟩):wpAny M A (checkBuiltinCall "ValueError.__new__" ⟨.ref C::rest,[]⟩) Q E ⟨h,g,d,t,os⟩:=by
 have c1:=T.cv C
 have hstar:=VF.noStar
 simp only [checkBuiltinCall,VF.newKind,VF.newSplit,VF.newRow]
 repeat (first | refine wpAny_loadPart_at hC ?_ | (refine wpAny_isSubtype_exc hC ?_;rw [c1]) | refine wpAny_staticBase_exc hC ?_ | refine wpAny_madeBy_exc hC ?_ | simp only [bne_self_eq_false,Bool.false_eq_true,if_false] | wp_step)
 exact hq
theorem Kw {rest:List Value} {fI:Addr} {Q:Value->Shared->Prop} (T:Ord bm) (hC:h.get? C=some (excClassObj nm q C N bs bm hdct sn sub ab col dd k0 k1 k2 k3 k5 "ValueError.__new__"))
 (hi:PySem.W.Looks (model prog w) h (typeLookup (.ref C) "__init__") (some (.ref fI))) (hb:∀ self,PySem.W.Looks (model prog w) h (bindSpecial (.ref fI) self) (.ref fI,[self]))
 (hq:wpAny (model prog w) (A.under (.builtin "type.__call__" ⟨.ref C::rest,[]⟩)) (call (.ref fI) (.ref (h.objs.size + 1)::rest)) (fun r s'=>r= .none/\Q (.ref (h.objs.size + 1)) s') E
   ⟨(h.push { cls:=.type "tuple",data:=.seq rest.toArray }).push (cV C h.objs.size none),g,d,t,os⟩) (hrest:rest.length <= sizeLine:=by size_fits):
 wpAny (model prog w) A (call (.ref C) rest) Q E ⟨h,g,d,t,os⟩:=by
 have f1:=tc_lookup
 have f2:=tc_bind (.ref C)
 have hT:(⟨h,g,d,t,os⟩:Shared).TypeIs (.ref C) "type":=⟨_,hC,rfl⟩
 refine wpAny_call (codeAny_of_tree ?_)
 show wpAny _ _ (callAny (.ref C) _) _ _ _
 repeat (any_goals (first | assumption | with_reducible refine wpAny_loadPart_at hC ?_ | wp_step))
 refine ⟨rfl,?_⟩
 refine codeAny_call_builtin_at (Code.quiet_builtin _ (by decide +kernel)) entry_typeCall (wpAny_check_type_call_sub hC ?_)
 repeat (first | with_reducible refine wpAny_loadPart_at hC ?_ | with_reducible refine wpAny_madeBy_exc hC ?_ | wp_step)
 refine codeAny_call_builtin_code (Code.quiet_builtin _ VF.quiet) (Ik T hC ?_)
 refine N5 T hC ?_ hrest
 show wpAny _ _ _ _ _ _
 have k:∀ b o,h.get? b=some o->((h.push { cls:=.type "tuple",data:=.seq rest.toArray }).push (cV C h.objs.size none)).get? b=some o:=fun b o e=>Heap.get?_push_of_some _ (Heap.get?_push_of_some _ e)
 have hC1:=k _ _ hC
 have hget:((h.push { cls:=.type "tuple",data:=.seq rest.toArray }).push (cV C h.objs.size none)).get? (h.objs.size + 1)=some (cV C h.objs.size none):=by heap_get
 have hcC:(Value.ref C::bm).contains (.ref C)=true:=by simp
 unfold isInstance
 repeat (first | with_reducible refine wpAny_loadPart_at hget ?_ | wp_step)
 show wpAny _ _ (isSubtype (.ref C) (.ref C)) _ _ _
 refine wpAny_isSubtype_exc hC1 ?_
 rw [hcC]
 repeat (first | with_reducible refine wpAny_loadPart_at hget ?_ | wp_step)
 show wpAny _ _ (typeLookup (.ref C) _) _ _ _
 refine (hi.keeps k).here ?_
 refine wpAny_holding (wpAny_bind (((hb _).keeps k).here ?_))
 refine wpAny_bind (wpAny_mono hq (fun r s' hr=>?_) fun _ _ x=>x)
 obtain ⟨rfl,hQ⟩:=hr
 wp_walk
 exact hQ
end
end L2
set_option maxRecDepth 100000
set_option maxHeartbeats 4000000
namespace L2
open PySem PySem.Spec PySem.SeqAt PyProof.Rows
open PySem.Builtin.ObjectAttr
abbrev bmV:List Value:=[.type "ValueError",.type "Exception",.type "BaseException",.type "object"]
theorem Dm (self:Value):refuseLoop self "__setattr__" bmV=pure ():=by
 kernel_rfl
theorem sO (self:Value):∀ as:List Addr,refuseLoop self "__setattr__" (as.map Value.ref ++ bmV)=pure ()
 | []=>Dm self
 | c::r=>by rw [List.map_cons,List.cons_append,refuseLoop_ref];exact sO self r
theorem Bj:∀ as:List Addr,(as.map Value.ref ++ bmV).contains (.type "object")=true
 | []=>by decide
 | c::r=>by rw [List.map_cons,List.cons_append,List.contains_cons,Bj r,Bool.or_true]
section
variable {prog:Program} {w:World} {A:Around} {E:Value->Shared->Prop} {s:Shared} {K:PySem.W.Frag} {C e t:Addr} {v:Value} {name:Str} {cd:ClassData} {as:List Addr}
theorem Ky {Q:Unit->Shared->Prop} (X:K.In s.heap) (hx:s.heap.get? e=some (cV C t none)) (hc:PySem.W.clsIn K C=some cd) (hm:cd.mro=as.map Value.ref ++ bmV) (hd:cd.hasDict=true)
 (hs:PySem.W.findIn K (.ref C) "__setattr__" =some (some (.builtin "object.__setattr__"))) (ht:PySem.W.findIn K (.ref C) name=some none)
 (h:∀ h' dx,s.heap.get? dx=none->h'.Ns1 dx (fun y=>if y=name then some v else none)->h'.get? e=some (cV C t (some dx))->(∀ b o,b ≠ e->s.heap.get? b=some o->h'.get? b=some o)->Q () { s with heap:=h',toks:=s.toks + 2 }):
 wpAny (model prog w) A (setAttr (.ref e) name v) Q E s:=by
 have SF:=PySem.F.store_object
 have J:PySem.W.InstAt s.heap e (cV C t none) C none:=⟨hx,rfl,rfl,trivial⟩
 have J1:PySem.W.InstAt ({ s with toks:=s.toks + 1 }:Shared).heap e (cV C t none) C none:=J
 have ne:cd.mro.isEmpty=false:=by rw [hm];cases as <;> rfl
 have sub:PySem.W.Looks (model prog w) s.heap (isInstance (.ref e) (.type "object")) true:=J.type.andThen (PySem.W.looks_mroIn X (by unfold PySem.W.mroIn;rw [hc,Option.bind_some,if_neg (by rw [ne];decide),hm,Bj as]))
 refine PySem.W.set_plain X J hs ?_
 refine codeAny_call_builtin SF.slot.plain SF.entry (@PySem.W.check_slot (model prog w) _ _ { s with toks:=s.toks + 1 } "object.__setattr__" "object" "__setattr__" (.ref e) [.str name s.toks,v] [] _ SF.kind SF.split sub (SF.args (.ref e) (.str name s.toks) v) ?_)
 have hmro:PySem.W.Looks (model prog w) s.heap (mroOf (.ref C)) cd.mro:=(PySem.W.looks_clsIn X hc).andThen .now
 rw [PySem.W.osa_eq,refuse_eq]
 refine wpAny_bind (wpAny_bind (J1.type.here (wpAny_bind (PySem.W.Looks.here (s:={ s with toks:=s.toks + 1 }) hmro ?_))))
 rw [hm,sO]
 refine wpAny_pure (wpAny_bind (J1.type.here (wpAny_bind (PySem.W.Looks.here (s:={ s with toks:=s.toks + 1 }) (PySem.W.looks_findIn X ht) (wpAny_bind (wpAny_pure ?_))))))
 show wpAny _ _ (storeInOwnDict (.ref e) (.ref C) (.str name s.toks) name v false) _ _ _
 refine wpAny_bind (wpAny_pure (wpAny_bind ?_))
 show wpAny _ _ (instanceDict e true) _ _ _
 unfold instanceDict
 refine wpAny_bind (wpAny_loadPart (s:={ s with toks:=s.toks + 1 }) hx (wpAny_bind (PySem.W.Looks.here (s:={ s with toks:=s.toks + 1 }) (PySem.W.looks_clsIn X hc) ?_)))
 rw [hd]
 show wpAny _ _ (alloc { cls:=.type "dict",data:=.dict #[] } >>= fun d=>update e (fun o=>{ o with dict:=some d }) >>= fun _=>dictMade (.ref C) e d) _ _ _
 refine wpAny_bind (wpAny_alloc (wpAny_bind (wpAny_update (o:=cV C t none) (Heap.get?_push_of_some _ hx) (wpAny_pure ?_))))
 have hlt:e < s.heap.objs.size:=Heap.lt_size hx
 have hE:((s.heap.push PySem.W.emptyDict).update e (fun o=>{ o with dict:=some s.heap.objs.size })).get? e=some (cV C t (some s.heap.objs.size)):=Heap.get?_update_self _ (Heap.get?_push_of_some _ hx) rfl
 have hD:((s.heap.push PySem.W.emptyDict).update e (fun o=>{ o with dict:=some s.heap.objs.size })).get? s.heap.objs.size=some PySem.W.emptyDict:=(Heap.get?_update_other _ _ (Nat.ne_of_lt hlt)).trans (Heap.get?_push_size _ rfl)
 have hn:((s.heap.push PySem.W.emptyDict).update e (fun o=>{ o with dict:=some s.heap.objs.size })).Ns1 s.heap.objs.size (fun _=>none):=
  Heap.Ns1.of_empty ⟨PySem.W.emptyDict,#[],_,hD,rfl,(fun e he=>absurd he (by simp)),fun _=>rfl⟩
 show wpAny _ _ (storeInDict s.heap.objs.size (.str name s.toks) name v) _ _ _
 refine wpAny_bind (wpAny_pure (wpAny_bind ?_))
 refine wpAny_nsSet1 (s:={ s with heap:=(s.heap.push PySem.W.emptyDict).update e (fun o=>{ o with dict:=some s.heap.objs.size }),toks:=s.toks + 1 }) hn fun h' hn2 hs2=>?_
 obtain ⟨oD,esD,epD,hoD,hdD,hcD⟩:=hn2.count (PySem.Within.cons name v (ns:=[]) (fun _ z=>absurd rfl z))
 refine wpAny_bind (wpAny_lookBehind hoD (by rw [hdD];exact pastItsLine_dict (Nat.le_trans hcD (by show 1 <= sizeLine + 1;exact Nat.le_add_left 1 _))) ?_)
 refine wpAny_pure (h h' s.heap.objs.size (Heap.get?_none_of_le (Nat.le_refl _)) hn2 ((hs2.2 _ (Nat.ne_of_lt hlt)).trans hE) fun b o hb q=>?_)
 refine (hs2.2 b (Nat.ne_of_lt (Heap.lt_size q))).trans ((Heap.get?_update_other _ _ (Ne.symm hb)).trans (Heap.get?_push_of_some _ q))
end
section
variable {prog:Program} {w:World} {A:Around} {E:Value->Shared->Prop} {h:Heap} {g:Array GenState} {d:PySem.Drawn} {t:Nat} {os:OsState}
variable {nm q:Str} {C N e ta:Addr} {bs bm:List Value} {hdct:Bool} {sn:List Str} {sub:List Value} {ab:Bool} {col:Option Bool} {dd od:Option Addr} {k0 k1 k2 k3 k5:Option Value}
theorem init_exc {rest:List Value} {Q:Value->Shared->Prop} (T:Ord bm) (hC:h.get? C=some (excClassObj nm q C N bs bm hdct sn sub ab col dd k0 k1 k2 k3 k5 "ValueError.__new__")) (he:h.get? e=some (cV C ta od))
 (hq:∀ h',h'.get? e=some (cV C h.objs.size od)->(∀ b o,b ≠ e->h.get? b=some o->h'.get? b=some o)->Q .none ⟨h',g,d,t,os⟩) (hrest:rest.length <= sizeLine:=by size_fits):
 wpAny (model prog w) A (call (.builtin "ValueError.__init__") (.ref e::rest)) Q E ⟨h,g,d,t,os⟩:=by
 have c1:=T.cv C
 have hstar:=VF.noStar
 refine wpAny_call (codeAny_call_builtin VF.init.plain VF.initEntry ?_)
 simp only [checkBuiltinCall,VF.initKind,VF.initSplit,VF.initRow]
 have hcls:(cV C ta od).cls= .ref C:=rfl
 repeat (first | (with_reducible refine wpAny_loadPart_at he ?_;rw [hcls]) | with_reducible refine wpAny_loadPart_at hC ?_ | (with_reducible refine wpAny_isSubtype_exc hC ?_;rw [c1]) | wp_step)
 refine wpAny_onRaise ?_
 rw [show ∀ (a b:String) (n:Nat),Bind.check ⟨.positional,"*","ValueError",.self,[⟨"args",.varPos,false⟩]⟩ a b n (List.map (fun x=>x.fst) ({ pos:=Value.ref e::rest }:Args).kw)=pure () from
  fun a b n=>check_star_args _ _ _ _ _ _]
 refine wpAny_pure ?_
 have hlt:=Heap.lt_size he
 wp_walk
 refine hq _ (Heap.get?_update_self _ (Heap.get?_push_of_some _ he) rfl) fun b o hb z=>?_
 exact (Heap.get?_update_other _ _ (Ne.symm hb)).trans (Heap.get?_push_of_some _ z)
end
end L2
set_option maxRecDepth 100000
set_option maxHeartbeats 4000000
namespace L2
open PySem PySem.Spec PySem.SeqAt PyProof.Rows
section
variable {prog:Program} {w:World} {A:Around} {E:Value->Shared->Prop} {h:Heap} {g:Array GenState} {d:PySem.Drawn} {t:Nat} {os:OsState}
variable {nm q:Str} {C N e dx:Addr} {bs bm:List Value} {hdct:Bool} {sn:List Str} {sub:List Value} {ab:Bool} {col:Option Bool} {dd:Option Addr} {k0 k1 k2 k3 k5:Option Value} {K:PySem.W.Frag} {cd:ClassData}
theorem Kz {name:Str} {v:Value} {oe:Obj} {mA:Str->Option Value} {expr:Bool} {Q:Value->Shared->Prop} (X:K.In h) (T:Ord bm) (hC:h.get? C=some (excClassObj nm q C N bs bm hdct sn sub ab col dd k0 k1 k2 k3 k5 "ValueError.__new__"))
 (g1:PySem.W.findIn K (.ref C) "__getattribute__" =some (some (.builtin "BaseException.__getattribute__"))) (g2:PySem.W.findIn K (.ref C) "__getattr__" =some none) (g3:PySem.W.findIn K (.ref C) name=some none)
 (hcls:PySem.W.clsIn K C=some cd) (hcd:cd.hasDict=true) {vs:Array Value} (hx:h.get? e=some oe) (hc:oe.cls= .ref C) (hfd:oe.data= .fields vs) (hdi:oe.dict=some dx) (hn:h.Ns1 dx mA) (hv:mA name=some v) (hh:PySem.W.handedIn v=true)
 (hq:Q v ⟨h,g,d,t + 1,os⟩):wpAny (model prog w) A (getAttr (.ref e) name expr) Q E ⟨h,g,d,t,os⟩:=by
 have FB:=PySem.F.attrBase_ValueError
 have f3:=FB.ga.bind (.ref e)
 have L1:=PySem.W.looks_findIn (M:=model prog w) X g1
 have L2:=PySem.W.looks_findIn (M:=model prog w) X g2
 have L3:=PySem.W.looks_findIn (M:=model prog w) X g3
 have hx0:(expr && onTheHeap (Value.builtin "BaseException.__getattribute__"))=false:=by cases expr <;> rfl
 have hx2:(Value.builtin "BaseException.__getattribute__" == Value.builtin "object.__getattribute__")=false:=by decide +kernel
 have hx1:(onTheHeap (Value.ref C) && Value.builtin "BaseException.__getattribute__" == Value.builtin "object.__getattribute__")=false:=by rw [hx2];rfl
 have cb:=T.cb C
 unfold getAttr
 repeat (any_goals (first | assumption | (with_reducible refine wpAny_loadPart_at hx ?_;rw [hc]) | with_reducible refine PySem.W.Looks.here L1 ?_ | with_reducible refine PySem.W.Looks.here L2 ?_ | wp_step))
 refine codeAny_call_builtin FB.ga.plain PySem.F.entry_bexc_ga ?_
 have hk:builtinKind "BaseException.__getattribute__" =some .slot:=by decide +kernel
 have hsplit:splitId "BaseException.__getattribute__" =some ("BaseException","__getattribute__"):=by decide +kernel
 have ha:=PySem.F.args_bexc_ga (.ref e) (.str name t)
 simp only [checkBuiltinCall,hk,hsplit]
 refine wpAny_bind ?_
 unfold isInstance
 repeat (first | (with_reducible refine wpAny_loadPart_at hx ?_;rw [hc]) | (with_reducible refine wpAny_isSubtype_exc hC ?_;rw [cb]) | wp_step)
 repeat (any_goals (first | assumption | (with_reducible refine wpAny_loadPart_at hx ?_;rw [hc]) | with_reducible refine PySem.W.Looks.here L3 ?_ | wp_step))
 rw [hfd]
 show wpAny _ _ (instanceDict e false) _ _ _
 unfold instanceDict
 refine wpAny_bind (wpAny_loadPart_at hx ?_)
 rw [hc,hdi]
 refine wpAny_bind (PySem.W.Looks.here (PySem.W.looks_clsIn X hcls) ?_)
 rw [hcd]
 refine wpAny_pure ?_
 show wpAny _ _ (Builtin.ObjectAttr.inDict name (some dx)) _ _ _
 unfold Builtin.ObjectAttr.inDict
 refine wpAny_nsGet hn.ns ?_
 rw [hv]
 refine wpAny_bind (wpAny_rule (wpAny_pure (wpAny_pure ?_)))
 show wpAny _ _ (handedOut v) _ _ _
 rw [PySem.W.handedOut_of hh]
 exact wpAny_pure hq
end
end L2
set_option maxRecDepth 100000
set_option maxHeartbeats 4000000
namespace L2
open PySem PySem.Spec PySem.SeqAt PyProof.Rows
structure Sup (H':Hp) (h0 g h:Heap):Prop where
 sub:∀ b o,g.get? b=some o->h.get? b=some o
 old:∀ b o,h.get? b=some o->((∃ o0,h0.get? b=some o0)\/∃ u,H' b=some u)->g.get? b=some o
def CXE (P:Program) (w:World):CXT:=fun outer H s E ev s'=>∃ (e:Addr) (C:Value) (d:Option Addr) (a0:Value) (H':Hp) (g:Heap),ev= .ref e/\s'.os=s.os/\AllBare s'.gens/\
 Un (frs outer) [] H H' s.heap s'.heap/\HOk P w H' s'.heap/\Fly g .none e C d a0 s'.heap/\Sup H' s.heap g s'.heap/\E C d H'
theorem qY {P:Program} {w:World} {outer:List Env} {H:Hp} {s s':Shared} {e:Value}:¬ CXE P w outer H s (fun _ _ _=>False) e s':=fun ⟨_,_,_,_,_,_,_,_,_,_,_,_,_,h⟩=>h
theorem bw.get {P:Program} {w:World} {H:Hp} {h:Heap} {a:Addr} {o:HO} (x:bw P w H h a o):∃ ob,h.get? a=some ob:=by
 cases o with
 | lst xs=>obtain ⟨_,_,_,_,e⟩:=x;exact ⟨_,e⟩
 | tup xs=>obtain ⟨_,_,_,ob,e,_⟩:=x;exact ⟨_,e⟩
 | dK kvs=>obtain ⟨_,_,_,_,o,_,_,e,_⟩:=x;exact ⟨_,e⟩
 | dT kvs=>obtain ⟨_,_,_,_,o,_,_,e,_⟩:=x;exact ⟨_,e⟩
 | set S n=>obtain ⟨o,_,_,_,e,_⟩:=x;exact ⟨_,e⟩
 | ins C dx fs=>obtain ⟨_,_,_,e,_⟩:=x;exact ⟨_,e⟩
 | own y=>obtain ⟨_,e⟩:=x;exact ⟨_,e⟩
 | xd fs=>obtain ⟨_,⟨_,_,_,e,_⟩,_⟩:=x;exact ⟨_,e⟩
 | rng lo hi=>obtain ⟨_,_,_,e⟩:=x;exact ⟨_,e⟩
 | frz ob u=>obtain ⟨e,_⟩:=x;exact ⟨_,e⟩
 | tbl ps=>exact ⟨_,(show h.get? a=some _ from x)⟩
 | met f y=>exact ⟨_,(show h.get? a=some _ from x)⟩
 | ext φ=>obtain ⟨_,⟨_,e⟩,_⟩:=x;exact ⟨_,e⟩
def only (g h:Heap):Heap:=PySem.W.hideAll h ((List.range h.objs.size).filter fun b=>(g.get? b).isNone)
theorem vm {g h:Heap} {b:Addr} (hb:g.get? b=none):(only g h).get? b=none:=by
 cases q:(only g h).get? b with
 | none=>rfl
 | some o=>
   have e:h.get? b=some o:=PySem.W.of_hideAll _ q
   have hm:b ∈ (List.range h.objs.size).filter fun b=>(g.get? b).isNone:=List.mem_filter.mpr ⟨List.mem_range.mpr (Heap.lt_size e),by rw [hb];rfl⟩
   have q2:(only g h).get? b=none:=PySem.W.hideAll_none _ hm
   rw [q] at q2;cases q2
theorem Il {g h:Heap} {b:Addr} {o o':Obj} (e:h.get? b=some o) (hb:g.get? b=some o'):(only g h).get? b=some o:=by
 refine PySem.W.hideAll_get _ e fun hm=>?_
 have:=(List.mem_filter.mp hm).2
 rw [hb] at this;cases this
theorem KC {g h:Heap} {b:Addr} {o:Obj} (e:(only g h).get? b=some o):h.get? b=some o:=PySem.W.of_hideAll _ e
theorem Fly.only {g h:Heap} {fl:Value} {e:Addr} {C:Value} {d:Option Addr} {a0:Value} (F:Fly g fl e C d a0 h):Fly (only g h) fl e C d a0 h:=by
 obtain ⟨hg,oe,vs,T,oT,ts,h1,h2,h3,h4,h5,h6,h7,h8,r⟩:=F
 exact ⟨vm hg,oe,vs,T,oT,ts,h1,h2,h3,h4,h5,h6,h7,vm h8,r⟩
theorem nZ {env:Env} {outer:List Env} {L:Addr} (h:env.frame=some L):frs (env::outer)=L::frs outer:=by
 unfold frs;rw [List.filterMap_cons,h]
structure Own (X:Cx):Prop where
 ex:X.ex= []
 st:X.stack=X.env::X.outer
 fr:X.env.frame=some X.env.locals
section
variable {X:Cx} {pins:List (Addr × Obj)} {σ:St} {H H':Hp} {s s':Shared} {E:XK} {e:Addr} {C:Value} {d:Option Addr} {a0:Value} {g h':Heap}
theorem Own.frs (O:Own X):L2.frs X.stack=X.env.locals::X.fs:=by rw [O.st,nZ O.fr]
theorem Inv.FQ (I:Inv X pins σ H s) (O:Own X) {b:Addr} {o:Obj} (q:X.s₀.heap.get? b=some o):∃ o',s.heap.get? b=some o':=I.base.there b o q (by rw [O.ex];simp)
theorem FT {fs:List Addr} {base h h':Heap} {l:List Env} (u:Un fs [] H H' h h') (hs:∀ b ∈ L2.frs l,b ∈ fs) (hf:∀ b ∈ L2.frs l,H b=none) (hl:h.FunFrames base l):h'.FunFrames base l:=by
 induction l with
 | nil=>trivial
 | cons env rest ih=>
   obtain ⟨hk,⟨L,o,hfr,hn,ho,hd⟩,hr⟩:=hl
   have hm:L ∈ L2.frs (env::rest):=by rw [nZ hfr];exact List.mem_cons_self
   obtain ⟨sl,e⟩:=u.slot L o ho (hf L hm) (hs L hm) (by simp)
   exact ⟨hk,⟨L,_,hfr,hn,e,hd⟩,ih (fun b hb=>hs b (by rw [nZ hfr];exact List.mem_cons_of_mem _ hb)) (fun b hb=>hf b (by rw [nZ hfr];exact List.mem_cons_of_mem _ hb)) hr⟩
theorem FW (O:Own X) (I:Inv X pins σ H s) (hos:s'.os=s.os) (hb:AllBare s'.gens) (u:Un (L2.frs X.stack) [] H H' s.heap s'.heap) (ok:HOk X.prog X.w H' s'.heap)
 (sup:Sup H' X.s₀.heap g s'.heap) (k:Kp (L2.frs X.stack) g h') (F:Fly g .none e C d a0 h') (hE:E C d H'):CXE X.prog X.w X.outer X.H₀ X.s₀ E (.ref e) { s' with heap:=h' }:=by
 have b0:Un X.fs [] X.H₀ H X.s₀.heap s.heap:=by have:=I.base;rw [O.ex] at this;exact this
 have fr:=O.frs
 rw [fr] at u k
 have u0:Un (X.env.locals::X.fs) [] X.H₀ H' X.s₀.heap s'.heap:=(b0.mono (fun b hb=>List.mem_cons_of_mem _ hb) fun _ h=>h).trans u
 have hL:X.s₀.heap.get? X.env.locals=none:=Heap.get?_none_of_le I.ok.above
 have neL:∀ {b o},X.s₀.heap.get? b=some o->b ≠ X.env.locals:=fun q z=>by rw [z,hL] at q;cases q
 have nof:∀ b u',H' b=some u'->b ∉ X.env.locals::X.fs:=fun b u' q hm=>by
  have hm':b ∈ L2.frs X.stack:=by rw [fr];exact hm
  obtain ⟨_,o,ho,_⟩:=I.stack.mem hm'
  rw [u.free b o ho (I.ji b hm') (by simp)] at q;cases q
 refine ⟨e,C,d,a0,H',L2.only g h',rfl,hos.trans I.os,hb,⟨fun b o q n hf _=>?_,fun b o q n hf _=>?_,u0.free,fun b o q _=>?_,u0.tups,u0.gO,u0.gP⟩,fun a o ea=>?_,F.only,⟨fun b o q=>KC q,fun b o q hc=>?_⟩,hE⟩
 · have hn:b ∉ X.env.locals::X.fs:=fun z=>(List.mem_cons.mp z).elim (neL q) hf
   exact (k b o (sup.old b o (u0.keep b o q n hn (by simp)) (.inl ⟨o,q⟩))).1 hn
 · obtain ⟨sl,q1⟩:=u0.slot b o q n (List.mem_cons_of_mem _ hf) (by simp)
   obtain ⟨sl2,q2⟩:=(k b _ (sup.old b _ q1 (.inl ⟨o,q⟩))).2 (List.mem_cons_of_mem _ hf)
   exact ⟨sl2,q2⟩
 · obtain ⟨o',q1⟩:=u0.there b o q (by simp)
   have q2:=sup.old b _ q1 (.inl ⟨o,q⟩)
   by_cases hm:b ∈ X.env.locals::X.fs
   · obtain ⟨sl,q3⟩:=(k b _ q2).2 hm
     exact ⟨_,q3⟩
   · exact ⟨_,(k b _ q2).1 hm⟩
 · refine (ok a o ea).stay (fun b v hbv q=>?_) (fun _ q=>q) fun _ _ q=>q
   have tr:∃ u',H' b=some u':=by
    rcases hbv with z | z
    · exact ⟨o,by rw [z];exact ea⟩
    · exact ⟨_,z⟩
   obtain ⟨u',z⟩:=tr
   exact (k b v (sup.old b v q (.inr ⟨u',z⟩))).1 (nof b u' z)
 · have:∃ o',g.get? b=some o':=by
    rcases hc with ⟨o0,q0⟩ | ⟨u',z⟩
    · obtain ⟨o',q1⟩:=u0.there b o0 q0 (by simp)
      exact ⟨_,sup.old b _ q1 (.inl ⟨o0,q0⟩)⟩
    · obtain ⟨o',q1⟩:=(ok b u' z).get
      exact ⟨_,sup.old b _ q1 (.inr ⟨u',z⟩)⟩
   obtain ⟨o',q2⟩:=this
   exact Il q q2
def qZ (X:Cx) (E:XK):Value->Shared->Prop:=fun e s'=>wpAny (model X.prog X.w) X.A (leaving X.env e) (fun _ s''=>CXE X.prog X.w X.outer X.H₀ X.s₀ E e s'') (fun e' s''=>CXE X.prog X.w X.outer X.H₀ X.s₀ E e' s'') s'
theorem q_ {E':XK} (O:Own X) (hx:X.xe=qZ X E) (hE:∀ C d H,E' C d H->E C d H):Passes (CXE X.prog X.w) X E':=by
 intro pins σ H s ev s' I h
 obtain ⟨e,C,d,a0,H',g,rfl,hos,hb,u,ok,F,sup,q⟩:=h
 rw [hx]
 unfold qZ
 have hfr:X.A.frames=some (X.env::X.outer):=by rw [I.ok.frames,O.st]
 have hl:s'.heap.FunFrames X.base (X.env::X.outer):=by
  have:=FT u (fun _ h=>h) I.ji I.stack
  rw [O.st] at this;exact this
 refine Dl hfr hl O.fr F (Kp.of_keeps sup.sub) fun h' k F'=>?_
 rw [<- O.st] at k
 refine FW O I hos hb u ok ⟨sup.sub,fun b o q hc=>sup.old b o q ?_⟩ k F' (hE _ _ _ q)
 rcases hc with ⟨o0,q0⟩ | z
 · exact .inl (I.FQ O q0)
 · exact .inr z
theorem KD {oe:Obj} {vs:Array Value} (O:Own X) (hx:X.xe=qZ X E) (I:Inv X pins σ H s) (he:s.heap.get? e=some oe) (hd:oe.data= .fields vs) (h0:vs[0]? =some a0) (h1:vs[1]? =some .none) (hn:X.s₀.heap.get? e=none)
 (hm:Mut (H e)) (hE:E oe.cls oe.dict (fun b=>if b=e then none else H b)):X.xe (.ref e) s:=by
 rw [hx]
 unfold qZ
 have hfr:X.A.frames=some (X.env::X.outer):=by rw [I.ok.frames,O.st]
 have hl:s.heap.FunFrames X.base (X.env::X.outer):=by have:=I.stack;rw [O.st] at this;exact this
 have ne:∀ {b u},(fun b=>if b=e then none else H b) b=some u->b ≠ e/\H b=some u:=fun {b u} q=>by
  have q':(if b=e then none else H b)=some u:=q
  by_cases z:b=e
  · rw [if_pos z] at q';cases q'
  · rw [if_neg z] at q';exact ⟨z,q'⟩
 have eo:∀ {b:Addr},b ≠ e->(fun b=>if b=e then none else H b) b=H b:=fun z=>if_neg z
 have N6:∀ b xs,H b=some (.tup xs)->b ≠ e:=fun b xs q z=>by rw [<- z,q] at hm;exact hm
 have S9:∀ b a,H b=some (.own a)->b ≠ e:=fun b a q z=>by rw [<- z,q] at hm;exact hm
 have S_:∀ b o u,H b=some (.frz o u)->b ≠ e:=fun b o u q z=>by rw [<- z,q] at hm;exact hm
 have Tc:∀ b ps,H b=some (.tbl ps)->b ≠ e:=fun b ps q z=>by rw [<- z,q] at hm;exact hm
 refine Aa (g:=PySem.W.hideAll s.heap [e]) hfr hl O.fr he hd h0 h1 (PySem.W.hideAll_none _ List.mem_cons_self) (Kp.of_keeps fun b o q=>PySem.W.of_hideAll _ q) fun h' k F=>?_
 rw [<- O.st] at k
 refine FW (H':=fun b=>if b=e then none else H b) O I rfl I.bare ⟨fun _ _ q _ _ _=>q,fun b o q _ _ _=>⟨o.slots,q⟩,fun b o _ n _=>?_,fun b o q _=>⟨o,q⟩,fun b xs q=>(eo (N6 b xs q)).trans q,fun b o u q=>(eo (S_ b o u q)).trans q,fun b ps q=>⟨#[],by rw [Array.append_empty];exact (eo (Tc b ps q)).trans q⟩⟩ ?_ ⟨fun b o q=>PySem.W.of_hideAll _ q,fun b o q hc=>?_⟩ k F hE
 · by_cases z:b=e
   · exact if_pos z
   · exact (if_neg z).trans n
 · intro a o ea
   obtain ⟨z,q⟩:=ne ea
   exact (I.hok a o q).stay (fun _ _ _ q=>q) (fun b q=>(eo (S9 b a q)).trans q) fun b xs q=>(eo (N6 b xs q)).trans q
 · refine PySem.W.hideAll_get _ q fun z=>?_
   have z':b=e:=by simpa using z
   rcases hc with ⟨o0,q0⟩ | ⟨u',q0⟩
   · rw [z',hn] at q0;cases q0
   · exact (ne q0).1 z'
end
end L2
set_option maxRecDepth 100000
set_option maxHeartbeats 4000000
namespace L2
open PySem PySem.Spec PySem.SeqAt PyProof.Rows
def XO (e C:Addr) (d:Option Addr):HO:=.ext fun h=>∃ t,h.get? e=some (cV C t d)
theorem Dq {P:Program} {w:World} {H:Hp} {h:Heap} {e C t:Addr} {d:Option Addr} (q:h.get? e=some (cV C t d)):bw P w H h e (XO e C d):=
 ⟨⟨t,q⟩,⟨_,q⟩,fun h1 h2 ⟨t',q'⟩ k=>⟨t',k _ q'⟩⟩
theorem Dr {P:Program} {w:World} {H:Hp} {h:Heap} {e C:Addr} {d:Option Addr} (ok:HOk P w H h) (q:H e=some (XO e C d)):∃ t,h.get? e=some (cV C t d):=(ok e _ q).1
theorem Im {H:Hp} {a:Addr} {o:HO} (h:H a=some o):upd H a o=H:=by
 funext b;unfold upd;split
 · rename_i e;rw [e,h]
 · rfl
theorem kE:∀ as:List Addr,Ord (as.map Value.ref ++ bmV)
 | []=>⟨by decide,by decide,by decide,by decide⟩
 | c::r=>by
   obtain ⟨a,b,c',d⟩:=kE r
   exact ⟨by rw [List.map_cons,List.cons_append,List.contains_cons,a,Bool.or_true],by rw [List.map_cons,List.cons_append,List.contains_cons,b,Bool.or_true],by rw [List.map_cons,List.cons_append,List.contains_cons,c'];rfl,by rw [List.map_cons,List.cons_append,List.contains_cons,d];rfl⟩
structure eG (K:PySem.W.Frag) (C:Addr):Prop where
 obj:∃ (nm q:Str) (N:Addr) (bs:List Value) (as:List Addr) (sn:List Str) (sub:List Value) (ab:Bool) (col:Option Bool) (dd:Option Addr) (k0 k1 k2 k3 k5:Option Value),
  K.lookup C=some (excClassObj nm q C N bs (as.map Value.ref ++ bmV) true sn sub ab col dd k0 k1 k2 k3 k5 "ValueError.__new__")
 Td:PySem.W.findIn K (.ref C) "__setattr__" =some (some (.builtin "object.__setattr__"))
 Te:PySem.W.findIn K (.ref C) "__getattribute__" =some (some (.builtin "BaseException.__getattribute__"))
 Tf:PySem.W.findIn K (.ref C) "__getattr__" =some none
theorem eG.cls {K:PySem.W.Frag} {C:Addr} (c:eG K C):∃ (cd:ClassData) (as:List Addr),PySem.W.clsIn K C=some cd/\cd.mro=as.map Value.ref ++ bmV/\cd.hasDict=true:=by
 obtain ⟨nm,q,N,bs,as,sn,sub,ab,col,dd,k0,k1,k2,k3,k5,e⟩:=c.obj
 have e2:PySem.W.clsIn K C=some { name:=nm,bases:=bs,mro:=.ref C::(as.map Value.ref ++ bmV),ns:=N,qualname:=q,hasDict:=true,slotNames:=sn,subclasses:=sub,abstract:=ab,collection:=col,hasDel:=false }:=by unfold PySem.W.clsIn;rw [e]
 exact ⟨_,C::as,e2,rfl,rfl⟩
structure XMk (K:PySem.W.Frag) (C f:Addr):Prop where
 cls:eG K C
 init:PySem.W.findIn K (.ref C) "__init__" =some (some (.ref f))
 fn:PySem.W.typeIn K (.ref f)=some (.type "function")
 kp:PySem.W.keepIn K (.ref C)=true
section
variable {X:Cx} {pins:List (Addr × Obj)} {σ:St} {H:Hp} {s:Shared}
def Q6 (K:PySem.W.Frag) (ta tv:TE) (f:Str):TS:=fun D σ H=>tv σ H fun y H1=>ta σ H1 fun x H2=>∃ e C,x= .ref e/\H2 e=some (XO e C none)/\eG K C/\jJ K C f/\
 ∀ dx,H2 dx=none->dx ≠ e->D.nx σ (upd (upd H2 dx (.xd [(f,y)])) e (XO e C (some dx)))
theorem KH {e C:Addr} {f:Str} {y:V} {u:Value} {Q:Unit->Shared->Prop} (I:Inv X pins σ H s) (he:H e=some (XO e C none)) (c:eG X.K C) (n:jJ X.K C f) (ry:RelV y u)
 (h:∀ dx s',H dx=none->dx ≠ e->Inv X pins σ (upd (upd H dx (.xd [(f,y)])) e (XO e C (some dx))) s'->Q () s'):wpAny (model X.prog X.w) X.A (setAttr (.ref e) f u) Q X.xe s:=by
 obtain ⟨t,hx⟩:=Dr I.hok he
 obtain ⟨cd,as,hc,hm,hd⟩:=c.cls
 refine Ky I.kIn hx hc hm hd c.Td n fun h' dx hdx hn hE k=>?_
 have hdn:H dx=none:=by
  cases q:H dx with
  | none=>rfl
  | some o=>
    obtain ⟨ob,z⟩:=(I.hok dx o q).get
    rw [hdx] at z;cases z
 have hde:dx ≠ e:=fun z=>by rw [z,hx] at hdx;cases hdx
 have nT:∀ b xs,H b=some (.tup xs)->b ≠ e:=fun b xs q z=>by rw [z,he] at q;cases q
 have nO:∀ b a,H b=some (.own a)->b ≠ e:=fun b a q z=>by rw [z,he] at q;cases q
 have nF:∀ b o u,H b=some (.frz o u)->b ≠ e:=fun b o u q z=>by rw [z,he] at q;cases q
 have nB:∀ b ps,H b=some (.tbl ps)->b ≠ e:=fun b ps q z=>by rw [z,he] at q;cases q
 have up:∀ {b o},H b=some o->b ≠ e->upd (upd H dx (.xd [(f,y)])) e (XO e C (some dx)) b=some o:=fun q z=>by rw [au z,au (aD q hdn)];exact q
 refine h dx _ hdn hde (I.un (h':=h') (t':=s.toks + 2) ⟨fun b o q n _ _=>k b o (fun z=>by rw [z,he] at n;cases n) q,fun b o q n _ _=>⟨o.slots,k b o (fun z=>by rw [z,he] at n;cases n) q⟩,fun b o q n _=>?_,fun b o q _=>?_,fun b xs q=>up q (nT b xs q),fun b o u q=>up q (nF b o u q),fun b ps q=>⟨#[],by rw [Array.append_empty];exact up q (nB b ps q)⟩⟩ fun a o q=>?_)
 · have h1:b ≠ e:=fun z=>by rw [z,he] at n;cases n
   have h2:b ≠ dx:=fun z=>by rw [z,hdx] at q;cases q
   rw [au h1,au h2];exact n
 · by_cases z:b=e
   · subst z;exact ⟨_,hE⟩
   · exact ⟨o,k b o z q⟩
 · by_cases z:a=e
   · subst z;rw [aC] at q;cases q;exact Dq hE
   · rw [au z] at q
     by_cases z2:a=dx
     · subst z2;rw [aC] at q;cases q
       refine ⟨_,hn,fun g=>?_⟩
       rw [List.lookup_cons]
       by_cases hg:g=f
       · subst hg;rw [beq_self_eq_true,if_pos rfl];exact ry
       · rw [if_neg hg,show (g == f)=false by simpa using hg];trivial
     · rw [au z2] at q
       refine (I.hok a o q).stay (fun b v hb q'=>k b v ?_ q') (fun b q'=>up q' (nO b a q')) fun b xs q'=>up q' (nT b xs q')
       rcases hb with z3 | z3
       · rw [z3];exact z
       · exact nO b a z3
theorem KJ {o value:Expr} {f:Str} {pos pos':Pos} {ta tv:TE} (ha:PE X o ta) (hv:PE X value tv) (hs:swapsWith value (some (.Attribute o f pos')) pos.line X.env=pure false:=by rfl):
 PS X (.Assign [.Attribute o f pos'] value pos) (Q6 X.K ta tv f):=by
 intro pins s σ H D I h
 refine plainObj_wpAny_Assign_Attribute (thn (hv pins s σ H _ I h) fun u s1 ⟨y,H1,I1,ry,q1⟩=>thn (ha pins s1 σ H1 _ I1 q1) fun ov s2 ⟨x,H2,I2,rx,e,C,ex,he,c,n,q2⟩=>?_) hs
 subst ex
 obtain rfl:ov=Value.ref e:=rx
 exact KH I2 he c n ry fun dx s' h1 h2 I3=>⟨σ,_,I3,q2 dx h1 h2⟩
def N7 (K:PySem.W.Frag) (t:TA):TE:=fun σ H Q=>t σ H fun vs H1=>∃ e C d y,vs= [.ref e,y]/\H1 e=some (XO e C d)/\eG K C/\Q .non H1
theorem Io {e C:Addr} {d:Option Addr} {us:List Value} {Q:Value->Shared->Prop} (I:Inv X pins σ H s) (he:H e=some (XO e C d)) (c:eG X.K C) (hl:us.length <= sizeLine)
 (h:∀ s',Inv X pins σ H s'->Q .none s'):wpAny (model X.prog X.w) X.A (call (.builtin "ValueError.__init__") (.ref e::us)) Q X.xe s:=by
 obtain ⟨t,hx⟩:=Dr I.hok he
 obtain ⟨nm,q,N,bs,as,sn,sub,ab,col,dd,k0,k1,k2,k3,k5,lk⟩:=c.obj
 have hC:=I.kIn _ _ lk
 obtain ⟨hp,g,dr,tk,os⟩:=s
 refine init_exc (kE as) hC hx (fun h' hE k=>?_) hl
 have I2:=I.write (x:=e) (e:=e) (o:=XO e C d) (h':=h') (t':=tk) (by rw [he];trivial) (.inl rfl) (fun b u hb q=>k b u hb q) ⟨_,hE⟩ (Dq hE)
 rw [Im he] at I2
 exact h _ I2
theorem Ip {p apos pos:Pos} {a b:Expr} {t:TA} (hg:Gl X "ValueError") (hm:X.mg "ValueError" =none) (ha:PA X [a,b] t)
 (hst:starEach [a,b] X.env=(false,eval a X.env)::starEach [b] X.env:=by rfl) (hpl:(backTo pos (starEach [b] X.env)).any (·.1)=false:=by rfl) (hl:(2:Nat) <= sizeLine:=by decide) {pl:Sem Bool}
 (ht:eval (.Call (.Attribute (.Name "ValueError" p) "__init__" apos) [a,b] [] pos) X.env=(do
   let ov <- eval (.Name "ValueError" p) X.env
   standAt apos.atName
   let (f,first) <- holding [ov] (getMethod ov "__init__" pl)
   callWith pos f first (backTo pos (starEach [a,b] X.env)) (backToKw pos (keywordEach [] X.env))):=by rfl):
 PE X (.Call (.Attribute (.Name "ValueError" p) "__init__" apos) [a,b] [] pos) (N7 X.K t):=by
 intro pins s σ H Q I h
 obtain ⟨m,F⟩:=I.fr
 refine PySem.W.methodCall_KW (pl:=pl) (m8 I hg hm rfl ?_) ht
 refine PySem.W.method_type (K:=X.K) F I.mod.kin (v:=.builtin "ValueError.__init__") (by rfl) (by decide +kernel) (by rfl) (by rfl) ?_
 refine PyProof.Rows.callWith_builtin1 (thn (ha pos pins _ σ H _ (I.tok _) h) fun us s2 ⟨vs,H2,I2,r,e,C,d,y,ev,he,c,q⟩=>?_) hst hpl
 subst ev
 obtain ⟨u1,u2,rfl,r1,r2⟩:=vals2 r
 obtain rfl:u1=Value.ref e:=r1
 exact Io (us:=[u2]) I2 he c (Nat.le_trans (show 1 <= 2 by decide) hl) fun s' I3=>⟨.non,H2,I3,rfl,q⟩
structure CI (K:PySem.W.Frag) (S f:Addr):Prop where
 sp:PySem.W.specialIn K (.ref S) "__getattribute__" =some (some (.builtin "type.__getattribute__"))
 rd:PySem.W.readsIn K S (.type "type")=true
 fc:PySem.W.findCls K (.ref S) (.type "type") "__init__" =some (.val (.ref f))
 hd:PySem.W.handedIn (.ref f)=true
 kp:PySem.W.keepIn K (.ref f)=true
theorem Ir {CX:CXT} {k:Nat} {f S:Addr} {fd:FuncData} {ps:List Str} {sp:Sp} {E:XK} {x:Str} {p apos pos:Pos} {e:Expr} {es:List Expr} {t:TA} (c:CI X.K S f) (F:bK X.prog X.w X.K X.mg X.base CX k f fd ps sp) (hr:bz k X.A) (hg:Gl X x) (hm:X.mg x=some (.ref S)) (hb:Binds X.K fd ps []) (hx:Passes CX X E)
 (ha:PA X (e::es) t) (hdb:(x == ("__debug__":Str))=false:=by decide)
 (hst:starEach (e::es) X.env=(false,eval e X.env)::starEach es X.env:=by rfl) (hpl:(backTo pos (starEach es X.env)).any (·.1)=false:=by rfl) {pl:Sem Bool}
 (ht:eval (.Call (.Attribute (.Name x p) "__init__" apos) (e::es) [] pos) X.env=(do
   let ov <- eval (.Name x p) X.env
   standAt apos.atName
   let (f,first) <- holding [ov] (getMethod ov "__init__" pl)
   callWith pos f first (backTo pos (starEach (e::es) X.env)) (backToKw pos (keywordEach [] X.env))):=by rfl):
 PE X (.Call (.Attribute (.Name x p) "__init__" apos) (e::es) [] pos) (vY sp [] E t):=by
 intro pins s σ H Q I h
 refine PySem.W.methodCall_KW (pl:=pl) (j_ I hg hm ?_ hdb) ht
 refine PySem.W.method_cls I.kIn c.sp (PySem.W.cls_value I.kIn c.rd c.fc c.hd ?_)
 refine PySem.W.callWith_K (first:=[]) (K:=X.K) (h₀:=X.base) I.ok.mod.kin c.kp (thn (ha pos pins _ σ H _ (I.tok _) h) fun us s2 ⟨vs,H2,I2,r,q⟩=>⟨I2.kIn,?_⟩) hst hpl
 exact Fo F hr hb .nil hx I2 r q
theorem FZ {CX:CXT} {k:Nat} {f C:Addr} {fd:FuncData} {ps:List Str} {sp:Sp} {E:XK} {us:List Value} {vs:List V} {R:Addr->Hp->Prop} (M:XMk X.K C f) (F:bK X.prog X.w X.K X.mg X.base CX k f fd ps sp) (hr:bz (k + 1) X.A) (hb:Binds X.K fd ps [])
 (hx:Passes CX X E) (I:Inv X pins σ H s) (r:Vals vs us) (hlu:us.length <= sizeLine)
 (h:∀ e,H e=none->sp (.ref e::vs) (upd H e (XO e C none)) (fun v H2=>v= .non/\R e H2) E):
 wpAny (model X.prog X.w) X.A (call (.ref C) us) (fun u s'=>∃ e H',u= .ref e/\s.heap.get? e=none/\Inv X pins σ H' s'/\R e H') X.xe s:=by
 obtain ⟨nm,q,N,bs,as,sn,sub,ab,col,dd,k0,k1,k2,k3,k5,lk⟩:=M.cls.obj
 have hC:=I.kIn _ _ lk
 have fr:H (s.heap.objs.size + 1)=none:=I.hok.fresh (Nat.le_succ _)
 have hq:=h (s.heap.objs.size + 1) fr
 have kp:∀ b o,s.heap.get? b=some o->((s.heap.push { cls:=.type "tuple",data:=.seq us.toArray }).push (cV C s.heap.objs.size none)).get? b=some o:=fun b o e=>Heap.get?_push_of_some _ (Heap.get?_push_of_some _ e)
 have hget:((s.heap.push { cls:=.type "tuple",data:=.seq us.toArray }).push (cV C s.heap.objs.size none)).get? (s.heap.objs.size + 1)=some (cV C s.heap.objs.size none):=by heap_get
 have I2:Inv X pins σ (upd H (s.heap.objs.size + 1) (XO (s.heap.objs.size + 1) C none)) { s with heap:=(s.heap.push { cls:=.type "tuple",data:=.seq us.toArray }).push (cV C s.heap.objs.size none),toks:=s.toks }:=
  I.laid kp (Nat.le_succ _) (Dq hget)
 have r2:Vals (V.ref (s.heap.objs.size + 1)::vs) (Value.ref (s.heap.objs.size + 1)::us):=.cons rfl r
 have hl:(Value.ref (s.heap.objs.size + 1)::us).length=ps.length:=by
  have e:=r2.length
  rw [F.len _ _ _ _ hq] at e
  exact e.symm
 have hbs:=hb { s with heap:=(s.heap.push { cls:=.type "tuple",data:=.seq us.toArray }).push (cV C s.heap.objs.size none),toks:=s.toks } (Value.ref (s.heap.objs.size + 1)::us) I2.kIn (by rw [List.append_nil];exact hl)
 rw [List.append_nil] at hbs
 refine Kw (h:=s.heap) (g:=s.gens) (d:=s.drawn) (t:=s.toks) (os:=s.os) (kE as) hC (PySem.W.looks_findIn I.kIn M.init) (fun self=>PySem.W.bind_fn I.kIn self M.fn) ?_ hlu
 refine wpAny_call (codeAny_mono (F.run _ X.stack _ _ ⟨Value.ref (s.heap.objs.size + 1)::us,[]⟩ (Value.ref (s.heap.objs.size + 1)::us) _ _ E (hr.make C us []) (I2.env0.make C us []) hbs r2 hq) fun r s' hq'=>?_)
 cases r with
 | error e=>exact hx pins σ _ _ e s' I2 hq'
 | ok fl=>
   cases fl with
   | ret u=>
     obtain ⟨v,H',I3,rv,ev,q3⟩:=I2.after hq'
     subst ev
     exact ⟨rv,_,H',rfl,Heap.get?_none_of_le (Nat.le_succ _),I3,q3⟩
   | next=>exact False.elim hq'
   | brk=>exact False.elim hq'
   | cont=>exact False.elim hq'
theorem Ab {M:Model} {A:Around} {E:Value->Shared->Prop} {s:Shared} {env:Env} {C:Addr} {x:Sem Value} {Q:Flow->Shared->Prop} (hh:A.handled=none)
 (h:wpAny M A x (fun v s₁=>∃ (e t N:Addr) (d:Option Addr) (nm q:Str) (bs:List Value) (as:List Addr) (sn:List Str) (sub:List Value) (ab:Bool) (col:Option Bool) (dd:Option Addr) (k0 k1 k2 k3 k5:Option Value),v= .ref e/\s₁.heap.get? C=some (excClassObj nm q C N bs (as.map Value.ref ++ bmV) true sn sub ab col dd k0 k1 k2 k3 k5 "ValueError.__new__")/\
   s₁.heap.get? e=some (cV C t d)/\E (.ref e) s₁) E s):
 wpAny M A (raiseStmt env (some x) none) Q E s:=by
 unfold raiseStmt
 refine wpAny_bind (wpAny_mono h (fun v s₁ h₁=>?_) fun _ _ x=>x)
 obtain ⟨e,t,N,d,nm,q,bs,as,sn,sub,ab,col,dd,k0,k1,k2,k3,k5,rfl,hC,he,hE⟩:=h₁
 have hcB:=(kE as).cb C
 obtain ⟨hp,g,dr,tk,os⟩:=s₁
 repeat (first | with_reducible refine wpAny_loadPart_at he ?_ | with_reducible refine wpAny_loadPart_at hC ?_ | (with_reducible refine wpAny_isSubtype_exc hC ?_;rw [hcB]) | wp_step)
 exact wpAny_raiseNew_none hh hE
def F_ (C:Addr) (sp:Sp) (E:XK) (t:TA):TS:=fun D σ H=>t σ H fun vs H1=>vs.length <= sizeLine/\∀ e,H1 e=none->sp (.ref e::vs) (upd H1 e (XO e C none)) (fun v H2=>v= .non/\∃ d,H2 e=some (XO e C d)/\E (.ref C) d (fun b=>if b=e then none else H2 b)) E0
theorem Iu {k:Nat} {f C:Addr} {fd:FuncData} {ps:List Str} {sp:Sp} {E:XK} {us:List Value} {vs:List V} (O:Own X) (hxe:X.xe=qZ X E) (M:XMk X.K C f) (F:bK X.prog X.w X.K X.mg X.base CX0 k f fd ps sp) (hr:bz (k + 1) X.A) (hb:Binds X.K fd ps [])
 (I:Inv X pins σ H s) (r:Vals vs us) (hlu:vs.length <= sizeLine)
 (h:∀ e,H e=none->sp (.ref e::vs) (upd H e (XO e C none)) (fun v H2=>v= .non/\∃ d,H2 e=some (XO e C d)/\E (.ref C) d (fun b=>if b=e then none else H2 b)) E0):
 wpAny (model X.prog X.w) X.A (call (.ref C) us) (fun v s₁=>∃ (e t N:Addr) (d:Option Addr) (nm q:Str) (bs:List Value) (as:List Addr) (sn:List Str) (sub:List Value) (ab:Bool) (col:Option Bool) (dd:Option Addr) (k0 k1 k2 k3 k5:Option Value),v= .ref e/\s₁.heap.get? C=some (excClassObj nm q C N bs (as.map Value.ref ++ bmV) true sn sub ab col dd k0 k1 k2 k3 k5 "ValueError.__new__")/\
  s₁.heap.get? e=some (cV C t d)/\X.xe (.ref e) s₁) X.xe s:=by
 refine thn (FZ M F hr hb Dg I r (by rw [<- r.length];exact hlu) h) fun u s' ⟨e,H',hu,hn,I',d,he,q⟩=>?_
 obtain ⟨nm,qn,N,bs,as,sn,sub,ab,col,dd,k0,k1,k2,k3,k5,lk⟩:=M.cls.obj
 obtain ⟨t,hx⟩:=Dr I'.hok he
 refine ⟨e,t,N,d,nm,qn,bs,as,sn,sub,ab,col,dd,k0,k1,k2,k3,k5,hu,I'.kIn _ _ lk,hx,?_⟩
 refine KD (a0:=.ref t) O hxe I' hx rfl rfl rfl ?_ (by rw [he];trivial) q
 cases z:X.s₀.heap.get? e with
 | none=>rfl
 | some o=>
   obtain ⟨o',z'⟩:=I.FQ O z
   rw [hn] at z';cases z'
theorem Ga {k:Nat} {f C:Addr} {fd:FuncData} {ps:List Str} {sp:Sp} {E:XK} {x:Str} {p cpos pos:Pos} (O:Own X) (hxe:X.xe=qZ X E) (hc:X.calm=true) (M:XMk X.K C f) (F:bK X.prog X.w X.K X.mg X.base CX0 k f fd ps sp) (hr:bz (k + 1) X.A) (hb:Binds X.K fd ps [])
 (hg:Gl X x) (hm:X.mg x=some (.ref C)) (hdb:(x == ("__debug__":Str))=false:=by decide):PS X (.Raise (some (.Call (.Name x p) [] [] cpos)) none pos) (F_ C sp E Ia):=by
 intro pins s σ H D I h
 rw [arm_exec_Raise]
 refine wpAny_bind (wpAny_standAt ?_)
 refine Ab (I.ok.hd hc) (C:=C) ?_
 refine wpAny_bind (wpAny_mono (Q:=fun v s₁=>_) (wpAny_Call_Name_kw (j_ I hg hm (PySem.W.callWith_K0 I.kIn M.kp (Iu (us:=[]) O hxe M F hr hb I .nil h.1 h.2)) hdb)) (fun v s₁ q=>wpAny_bind (wpAny_standAt (wpAny_pure q))) fun _ _ z=>z)
end
end L2
set_option maxRecDepth 100000
set_option maxHeartbeats 4000000
namespace L2
open PySem PySem.Spec PySem.SeqAt PyProof.Rows
def uB (K:PySem.W.Frag) (C S:Addr):Prop:=∃ cd:ClassData,PySem.W.clsIn K C=some cd/\cd.mro.contains (.ref S)=true
theorem Ac {M:Model} {A:Around} {E:Value->Shared->Prop} {s:Shared} {K:PySem.W.Frag} {C S e:Addr} {oe:Obj} {Q:Bool->Shared->Prop} (X:K.In s.heap) (c:eG K C) (cS:eG K S) (hsub:uB K C S)
 (he:s.heap.get? e=some oe) (hcls:oe.cls= .ref C) (hq:Q true s):wpAny M A (excMatches (.ref e) (.ref S)) Q E s:=by
 obtain ⟨nm,q,N,bs,as,sn,sub,ab,col,dd,k0,k1,k2,k3,k5,lk⟩:=c.obj
 obtain ⟨nm',q',N',bs',as',sn',sub',ab',col',dd',k0',k1',k2',k3',k5',lk'⟩:=cS.obj
 have hC:=X _ _ lk
 have hS:=X _ _ lk'
 have hcB:=(kE as').cb S
 have hcS:(Value.ref C::(as.map Value.ref ++ bmV)).contains (.ref S)=true:=by
  obtain ⟨cd,e1,e2⟩:=hsub
  unfold PySem.W.clsIn at e1
  rw [lk] at e1
  cases e1
  exact e2
 have f:=tc_notTuple
 obtain ⟨h,g,d,t,os⟩:=s
 unfold excMatches
 repeat (first | (with_reducible refine wpAny_loadPart_at he ?_;rw [hcls]) | with_reducible refine wpAny_loadPart_at hS ?_ | with_reducible refine wpAny_loadPart_at hC ?_ | (with_reducible refine wpAny_isSubtype_exc hS ?_;rw [hcB]) | (with_reducible refine wpAny_isSubtype_exc hC ?_;rw [hcS]) | wp_step)
 exact hq
abbrev markX (X:Cx) (e:Addr) (oe:Obj):Cx:={ X with A:=X.A.mark (some (.ref e)),calm:=false,pn:=(e,oe)::X.pn,xe:=fun _ _=>False }
abbrev lM (X:Cx) (E:Value->Shared->Prop) (pn:List (Addr × Obj)):Cx:={ X with xe:=E,pn:=pn }
section
variable {X:Cx} {pins:List (Addr × Obj)} {σ:St} {H H':Hp} {s s':Shared} {e:Addr} {oe:Obj}
theorem Cx.Ok.with {E:Value->Shared->Prop} {pn:List (Addr × Obj)} (o:X.Ok):(lM X E pn).Ok:=⟨o.mod,o.kind,o.glob,o.blt,o.above,o.inj,o.has,o.cab,o.hd,o.frames,o.stk,o.exf,o.bs,o.bsz,o.mD,o.o_,o.gQ,o.frf⟩
theorem Cx.Ok.without {E:Value->Shared->Prop} {pn:List (Addr × Obj)} (o:(lM X E pn).Ok):X.Ok:=⟨o.mod,o.kind,o.glob,o.blt,o.above,o.inj,o.has,o.cab,o.hd,o.frames,o.stk,o.exf,o.bs,o.bsz,o.mD,o.o_,o.gQ,o.frf⟩
theorem Cx.Ok.marked (o:X.Ok) (hf:(X.A.mark (some (.ref e))).frames=X.A.frames):(markX X e oe).Ok:=⟨o.mod,o.kind,o.glob,o.blt,o.above,o.inj,o.has,o.cab,fun z=>absurd (show false=true from z) (by decide),hf.trans o.frames,o.stk,o.exf,o.bs,o.bsz,o.mD,o.o_,o.gQ,o.frf⟩
theorem Inv.with {E:Value->Shared->Prop} (I:Inv X pins σ H s):Inv (lM X E (X.pn ++ pins)) [] σ H s:=⟨I.ok.with,I.os,I.bare,I.base,I.loc,I.cell,I.free,I.dU,fun p hp=>I.pin p (by simpa using hp),I.hok,I.len⟩
theorem Inv.without {E:Value->Shared->Prop} {rT:List (Addr × Obj)} (I:Inv (lM X E (X.pn ++ pins)) rT σ H s):Inv X pins σ H s:=⟨I.ok.without,I.os,I.bare,I.base,I.loc,I.cell,I.free,I.dU,fun p hp=>I.pin p (List.mem_append_left _ hp),I.hok,I.len⟩
theorem Inv.marked (I:Inv X pins σ H s) (he:s.heap.get? e=some oe) (hn:H e=none) (hL:e ≠ X.env.locals) (hf:e ∉ X.fs) (hd:∀ v,oe.data ≠ .cell v):Inv (markX X e oe) pins σ H s:=⟨I.ok.marked rfl,I.os,I.bare,I.base,I.loc,I.cell,I.free,I.dU,fun p hp=>by
 have hp':p ∈ (e,oe)::(X.pn ++ pins):=hp
 rcases List.mem_cons.mp hp' with z | z
 · subst z;exact ⟨he,hn,hL,hf,hd⟩
 · exact I.pin p z,I.hok,I.len⟩
theorem SP.without {E:Value->Shared->Prop} {D:Ends} {f:Flow} (h:SP (lM X E (X.pn ++ pins)) [] D f s'):SP X pins D f s':=by
 cases f with
 | next=>obtain ⟨a,b,I,q⟩:=h;exact ⟨a,b,I.without,q⟩
 | brk=>obtain ⟨a,b,I,q⟩:=h;exact ⟨a,b,I.without,q⟩
 | cont=>obtain ⟨a,b,I,q⟩:=h;exact ⟨a,b,I.without,q⟩
 | ret u=>obtain ⟨v,a,b,I,r,q⟩:=h;exact ⟨v,a,b,I.without,r,q⟩
def Q7 (K:PySem.W.Frag) (oe:Obj) (f:Str):TE:=fun σ H Q=>∃ C dx fs v,oe.cls= .ref C/\oe.dict=some dx/\(∃ vs,oe.data= .fields vs)/\eG K C/\jJ K C f/\H dx=some (.xd fs)/\fs.lookup f=some v/\Q v H
theorem KN {i:Nat} {n f:Str} {p pos:Pos} (hN:X.N[i]? =some n) (hv:Vis X.env.scope n) (hb:attributeBase (.Name n p) f X.env (eval (.Name n p) X.env)=eval (.Name n p) X.env:=by rfl) (hd:(n == ("__debug__":Str))=false:=by decide) (hcd:(n == ("__classdict__":Str))=false:=by decide):
 PE (markX X e oe) (.Attribute (.Name n p) f pos) (fun σ H Q=>σ[i]? =some (some (.ref e))/\Q7 X.K oe f σ H Q):=by
 intro pins s σ H Q I h
 obtain ⟨hσ,C,dx,fs,v,hc,hdx,⟨vs,hfd⟩,c,na,hH,hl,q⟩:=h
 refine Kl hb (thn (rW (X:=markX X e oe) (i:=i) hN hv hd hcd pins s σ H (fun y H1=>y= .ref e/\H1=H) I ⟨.ref e,hσ,rfl,rfl⟩) fun u s1 ⟨x,H1,I1,rx,ex,eH⟩=>?_)
 subst ex eH
 obtain rfl:u=Value.ref e:=rx
 have pe:=(I1.pin (e,oe) (by simp)).1
 obtain ⟨mA,hns,hrel⟩:=(show ∃ mA,s1.heap.Ns1 dx mA/\∀ f,uh (fs.lookup f) (mA f) from I1.hok dx _ hH)
 have hr:=hrel f
 rw [hl] at hr
 obtain ⟨uv,hu,ru⟩:=hr.some_of
 obtain ⟨nm,q',N,bs,as,sn,sub,ab,col,dd,k0,k1,k2,k3,k5,lk⟩:=c.obj
 have kin:X.K.In s1.heap:=I1.kIn
 have hC:=kin _ _ lk
 obtain ⟨cd,as',h1,h2,h3⟩:=c.cls
 obtain ⟨hp,g,dr,tk,os⟩:=s1
 exact Kz kin (kE as) hC c.Te c.Tf na h1 h3 pe hc hfd hdx hns hu (Fi ru) ⟨v,H1,I1.tok _,ru,q⟩
theorem Q8 {fs:List Addr} {h h1 h2 g:Heap} {P:Program} {w:World} (u:Un fs [] H H' h h1) (ok:HOk P w H' h1) (sup:Sup H' h g h1) (k:Kp fs g h2) (nof:∀ b u',H' b=some u'->b ∉ fs):Un fs [] H H' h h2/\HOk P w H' h2:=by
 refine ⟨⟨fun b o q n hf _=>?_,fun b o q n hf _=>?_,u.free,fun b o q _=>?_,u.tups,u.gO,u.gP⟩,fun a o ea=>?_⟩
 · exact (k b o (sup.old b o (u.keep b o q n hf (by simp)) (.inl ⟨o,q⟩))).1 hf
 · obtain ⟨sl,q1⟩:=u.slot b o q n hf (by simp)
   obtain ⟨sl2,q2⟩:=(k b _ (sup.old b _ q1 (.inl ⟨o,q⟩))).2 hf
   exact ⟨sl2,q2⟩
 · obtain ⟨o',q1⟩:=u.there b o q (by simp)
   have q2:=sup.old b _ q1 (.inl ⟨o,q⟩)
   by_cases hm:b ∈ fs
   · obtain ⟨sl,q3⟩:=(k b _ q2).2 hm
     exact ⟨_,q3⟩
   · exact ⟨_,(k b _ q2).1 hm⟩
 · refine (ok a o ea).stay (fun b v hbv q=>?_) (fun _ q=>q) fun _ _ q=>q
   have tr:∃ u',H' b=some u':=by
    rcases hbv with z | z
    · exact ⟨o,by rw [z];exact ea⟩
    · exact ⟨_,z⟩
   obtain ⟨u',z⟩:=tr
   exact (k b v (sup.old b v q (.inr ⟨u',z⟩))).1 (nof b u' z)
theorem KQ {M:Model} {A:Around} {E:Value->Shared->Prop} {n:Str} {pos:Pos} {Q:Unit->Shared->Prop} (I:Inv X pins σ H s) (hl:X.env.scope.names.lookup n=some .local)
 (h:∀ s',Inv X pins (List.replicate X.N.length none) H s'->Q () s'):wpAny M A (do bindName X.env n .none;unbindBehindTheSuite X.env n pos) Q E s:=by
 obtain ⟨m,hn,_⟩:=id I.loc
 have hcls:(X.env.scope.kind == .class || (X.env.scope.kind == .module && X.env.locals != X.env.globals))=false:=by rw [I.ok.kind];rfl
 refine wpAny_nameGoes hl hn hcls fun h' m' hn' hs=>h _ ?_
 have hL:X.s₀.heap.get? X.env.locals=none:=Heap.get?_none_of_le I.ok.above
 have kk:∀ b o,b ≠ X.env.locals->s.heap.get? b=some o->h'.get? b=some o:=fun b o hb q=>hs.extBut b o hb q
 have nL:∀ b o,X.s₀.heap.get? b=some o->b ≠ X.env.locals:=fun b o q z=>by rw [z,hL] at q;cases q
 refine ⟨I.ok,I.os,I.bare,⟨fun b o q n' hf hx=>kk b o (nL b o q) (I.base.keep b o q n' hf hx),fun b o q n' hf hx=>?_,I.base.free,fun b o q hx=>?_,I.base.tups,I.base.gO,I.base.gP⟩,⟨m',hn',fun i x v h1 h2 h3=>?_⟩,fun x c hc=>?_,I.free,I.dU,fun p hp=>?_,fun a o ea=>?_,by simp⟩
 · obtain ⟨sl,q1⟩:=I.base.slot b o q n' hf hx
   exact ⟨sl,kk b _ (nL b o q) q1⟩
 · obtain ⟨o',q1⟩:=I.base.there b o q hx
   exact ⟨o',kk b _ (nL b o q) q1⟩
 · rw [List.getElem?_replicate] at h2
   split at h2 <;> cases h2
 · obtain ⟨v,o,ho,hd⟩:=I.cell x c hc
   exact ⟨v,o,kk c o (I.cne x c hc) ho,hd⟩
 · obtain ⟨a,b,c,d⟩:=I.pin p hp
   exact ⟨kk _ _ c a,b,c,d⟩
 · refine (I.hok a o ea).stay (fun b v hb q=>kk b v (fun z=>?_) q) (fun _ q=>q) fun _ _ q=>q
   have hF:=I.free
   rcases hb with z2 | z2
   · rw [<- z,z2,ea] at hF;cases hF
   · rw [<- z,z2] at hF;cases hF
def Gb (K:PySem.W.Frag) (n i:Nat) (S:Addr) (th:Addr->Obj->TS) (rt:VK):XK:=fun C d H'=>∃ Ca,C= .ref Ca/\eG K Ca/\uB K Ca S/\
 ∀ e oe,oe.cls= .ref Ca->oe.dict=d->(∃ vs,oe.data= .fields vs)->H' e=none->th e oe { nx:=fun _ _=>False,rt:=rt } ((List.replicate n none).set i (some (.ref e))) H'
theorem N8 {body:List Stmt} {cx:Str} {cp hpos pos:Pos} {n:Str} {i:Nat} {b₀:Stmt} {suite:List Stmt} {S:Addr} {tb:XK->TS} {th:Addr->Obj->TS} (O:Own X) (hN:X.N.Nodup) (hi:X.N[i]? =some n) (hloc:X.env.scope.names.lookup n=some .local)
 (hg:Gl X cx) (hm:X.mg cx=some (.ref S)) (cS:eG X.K S) (hs:∀ e oe,PSs (markX X e oe) (b₀::suite) (th e oe))
 (hb:∀ E' pn E,Passes (CXE X.prog X.w) (lM X E' pn) E->PSs (lM X E' pn) body (tb E)) (hdb:(cx == ("__debug__":Str))=false:=by decide):
 PS X (.Try body [.ExceptHandler (some (.Name cx cp)) (some n) (b₀::suite) hpos] [] [] pos) (fun D σ H=>tb (Gb X.K X.N.length i S th D.rt) D σ H):=by
 intro pins s σ H D I h
 refine wpAny_Try_except ?_
 have key:=hb (fun e s₁=>wpAny (model X.prog X.w) X.A (noteFrame e X.env) (fun _ s₂=>wpAny (model X.prog X.w) X.A (setFlight e none) (fun _ s₃=>wpAny (model X.prog X.w) X.A (handleBy e X.env [.ExceptHandler (some (.Name cx cp)) (some n) (b₀::suite) hpos]) (SP X pins D) X.xe s₃) X.xe s₂) X.xe s₁)
  (X.pn ++ pins) (Gb X.K X.N.length i S th D.rt) ?_ [] s σ H D I.with h
 · refine wpAny_mono key (fun f s₁ q=>?_) fun _ _ z=>z
   have q':=SP.without q
   cases f with
   | next=>exact wpAny_execs_nil q'
   | brk=>exact q'
   | cont=>exact q'
   | ret u=>exact q'
 · intro rT σ1 H1 s1 ev s2 I1' hx
   have I1:Inv X pins σ1 H1 s1:=Inv.without I1'
   obtain ⟨e,C,d,a0,H',g,rfl,hos,hbr,u,ok,F,sup,Ca,rfl,c,hsub,hth⟩:=hx
   have u':Un (L2.frs X.stack) [] H1 H' s1.heap s2.heap:=u
   have fr:=O.frs
   have hfr:X.A.frames=some (X.env::X.outer):=by rw [I1.ok.frames,O.st]
   have hl:s2.heap.FunFrames X.base (X.env::X.outer):=by
    have:=FT u' (fun _ h=>h) I1.ji I1.stack
    rw [O.st] at this;exact this
   have nof:∀ b u'',H' b=some u''->b ∉ L2.frs X.stack:=fun b u'' q hm'=>by
    obtain ⟨_,o,ho,_⟩:=I1.stack.mem hm'
    rw [u'.free b o ho (I1.ji b hm') (by simp)] at q;cases q
   have mk:∀ h2,Kp (L2.frs (X.env::X.outer)) g h2->Inv X pins σ1 H' { s2 with heap:=h2 }:=fun h2 k=>by
    rw [<- O.st] at k
    obtain ⟨u2,ok2⟩:=Q8 u' ok sup k nof
    exact I1.call' (s':={ s2 with heap:=h2 }) (ch:=[]) hos u2 ok2 hbr fun b z=>absurd z (by simp)
   have hge:∀ h2,Fly g .none e (.ref Ca) d a0 h2->H' e=none/\e ≠ X.env.locals/\e ∉ X.fs:=fun h2 F2=>by
    obtain ⟨hg0,oe,vs,T,oT,ts,he,_⟩:=id F
    have nin:s1.heap.get? e=none:=by
     cases q:s1.heap.get? e with
     | none=>rfl
     | some o=>rw [sup.old e _ he (.inl ⟨o,q⟩)] at hg0;cases hg0
    refine ⟨?_,fun z=>?_,fun z=>?_⟩
    · cases q:H' e with
      | none=>rfl
      | some o=>rw [sup.old e _ he (.inr ⟨o,q⟩)] at hg0;cases hg0
    · have:=I1.lt
      obtain ⟨m,⟨o,es,ep,ho,_⟩,_⟩:=I1.loc
      rw [<- z,nin] at ho;cases ho
    · have hm':e ∈ L2.frs X.stack:=by rw [fr];exact List.mem_cons_of_mem _ z
      obtain ⟨_,o,ho,_⟩:=I1.stack.mem hm'
      rw [nin] at ho;cases ho
   show wpAny _ X.A (noteFrame (.ref e) X.env) _ _ s2
   refine vh hfr hl O.fr F (Kp.of_keeps sup.sub) fun h1 k1 F1=>?_
   refine nY (s:={ s2 with heap:=h1 }) F1 k1 fun h2 k2 F2=>?_
   have I2:=mk h2 k2
   obtain ⟨z1,z2,z3⟩:=hge h2 F2
   obtain ⟨_,oe2,vs2,T2,oT2,ts2,he2,hc2,hd2,hf2,_⟩:=id F2
   have ok2:(markX X e oe2).Ok:=I2.ok.marked rfl
   have J2:Inv (markX X e oe2) pins σ1 H' { s2 with heap:=h2 }:=I2.marked he2 z1 z2 z3 (fun v=>by rw [hf2];nofun)
   refine wpAny_handleBy_cons (codeAny_handlers_test ?_) (by intro q;cases q)
   refine j_ (X:=markX X e oe2) J2 hg hm ?_ hdb
   refine Ac I2.kIn c cS hsub he2 hc2 ?_
   refine codeAny_handlers_suite_as ?_
   refine nY (s:={ s2 with heap:=h2 }) F2 k2 fun h3 k3 F3=>?_
   have I3:=mk h3 k3
   obtain ⟨_,oe,vs,T,oT,ts,he3,hc3,hd3,hf3,_⟩:=id F3
   have J3:Inv (markX X e oe) pins (List.replicate X.N.length none) H' { s2 with heap:=h3 }:=(I3.marked he3 z1 z2 z3 (fun v=>by rw [hf3];nofun)).weak (by rw [List.length_replicate];exact I3.len.symm) fun j v q=>by
    rw [List.getElem?_replicate] at q
    split at q <;> cases q
   refine nU (X:=markX X e oe) J3 hN hi (.inl hloc) (v:=.ref e) rfl (fun s4 J4=>?_) (.inr hloc)
   refine wpAny_mono (hs e oe pins s4 _ H' _ J4 (hth e oe hc3 hd3 ⟨vs,hf3⟩ z1)) (fun f s5 q=>?_) fun _ _ z=>z.elim
   cases f with
   | next=>obtain ⟨_,_,_,z⟩:=q;exact z.elim
   | brk=>obtain ⟨_,_,_,z⟩:=q;exact z.elim
   | cont=>obtain ⟨_,_,_,z⟩:=q;exact z.elim
   | ret uv=>
     obtain ⟨v,σ5,H5,J5,rv,q5⟩:=q
     have I5:Inv X pins σ5 H5 s5:=⟨⟨J5.ok.mod,J5.ok.kind,J5.ok.glob,J5.ok.blt,J5.ok.above,J5.ok.inj,J5.ok.has,J5.ok.cab,I.ok.hd,I.ok.frames,J5.ok.stk,J5.ok.exf,J5.ok.bs,J5.ok.bsz,J5.ok.mD,J5.ok.o_,J5.ok.gQ,J5.ok.frf⟩,J5.os,J5.bare,J5.base,J5.loc,J5.cell,J5.free,J5.dU,fun p hp=>J5.pin p (List.mem_cons_of_mem _ hp),J5.hok,J5.len⟩
     exact KQ I5 hloc fun s6 I6=>⟨v,_,H5,I6,rv,q5⟩
end
end L2
set_option maxRecDepth 100000
set_option maxHeartbeats 4000000
namespace L2
open PySem PySem.Spec PySem.SeqAt PyProof.Rows
section
variable {X:Cx} {pins:List (Addr × Obj)} {σ:St} {H:Hp} {s:Shared} {h':Heap}
end
def Itz (K:PySem.W.Frag) (a b:Addr):It:=
 ⟨fun i H=>∃ xs ys x y,SqL K H a xs/\SqL K H b ys/\xs[i]? =some x/\ys[i]? =some y,
  fun i H v H'=>∃ T x y,H T=none/\v= .ref T/\H'=upd H T (.tup [x,y])/\(∀ xs,SqL K H a xs->xs[i]? =some x)/\∀ ys,SqL K H b ys->ys[i]? =some y,
  fun i H=>∃ xs ys,SqL K H a xs/\SqL K H b ys/\(xs.length <= i\/ys.length <= i)⟩
structure Us (z TI TO i1 i2 a b:Addr) (i:Nat) (h:Heap):Prop where
 hz:IsZip h z TI TO .none
 hTI:IsPair h TI (.ref i1) (.ref i2)
 hTO:∃ p q,IsPair h TO p q
 h1:h.IsListIter i1 a i
 h2:h.IsListIter i2 b i
section
variable {X:Cx}
def Itd (lo:Int) (n:Nat):It:=⟨fun i _=>i < n,fun i H x H'=>H'=H/\x= .int (lo - i),fun i _=>n <= i⟩
end
end L2
namespace Ev
noncomputable section
inductive W where | non | bl (b:Bool) | int (i:Int) | str (c:List Nat) | ref (n:Nat)
 deriving DecidableEq
abbrev Fs:=List (List Nat × W)
inductive O where
 | tup (xs:List W) | lst (xs:List W) | ins (C:Nat) (fs:Fs) | dk (kvs:List (W × W)) | dt (kvs:List (List W × W))
 deriving DecidableEq
inductive Tr where | lf | nd (o:Option O) (l r:Tr)
def Tr.get (t:Tr):Nat->Option O:=Tr.rec (fun _=>none) (fun o _ _ gl gr k=>Nat.rec o (fun k _=>Bool.rec (gr (Nat.div k 2)) (gl (Nat.div k 2)) (Nat.beq (Nat.mod k 2) 0)) k) t
def Tr.set (d:Nat):Tr->Nat->O->Tr:=Nat.rec (fun t _ _=>t) (fun _ ih t k o=>Tr.rec
    (Nat.rec (.nd (some o) .lf .lf) (fun k _=>Bool.rec (.nd none .lf (ih .lf (Nat.div k 2) o)) (.nd none (ih .lf (Nat.div k 2) o) .lf) (Nat.beq (Nat.mod k 2) 0)) k)
    (fun x l r _ _=>Nat.rec (.nd (some o) l r) (fun k _=>Bool.rec (.nd x l (ih r (Nat.div k 2) o)) (.nd x (ih l (Nat.div k 2) o) r) (Nat.beq (Nat.mod k 2) 0)) k) t) d
inductive Hs where | mk (n:Nat) (t:Tr)
def Hs.n (h:Hs):Nat:=Hs.rec (fun n _=>n) h
def Hs.get (h:Hs) (k:Nat):Option O:=Hs.rec (fun _ t=>t.get k) h
def Hs.set (h:Hs) (k:Nat) (o:O):Hs:=Hs.rec (fun n t=>.mk n (t.set (Nat.succ k) k o)) h
def Hs.push (h:Hs) (o:O):Hs:=Hs.rec (fun n t=>.mk (Nat.add n 1) (t.set (Nat.succ n) n o)) h
inductive R (α:Type) where | ok (a:α) (h:Hs) | ex (C:Nat) (fs:Fs) (h:Hs) | no
def R.bind {α β:Type} (r:R α) (f:α->Hs->R β):R β:=R.rec (fun a h=>f a h) (fun C fs h=>.ex C fs h) .no r
def R.nox {α:Type} (r:R α):R α:=R.rec (fun a h=>.ok a h) (fun _ _ _=>.no) .no r
def W.elim {β:Type} (w:W) (z:β) (b:Bool->β) (i:Int->β) (s:List Nat->β) (r:Nat->β):β:=W.rec z b i s r w
def W.onI {β:Type} (w:W) (f:Int->R β):R β:=W.rec .no (fun _=>.no) f (fun _=>.no) (fun _=>.no) w
def W.onR {β:Type} (w:W) (f:Nat->R β):R β:=W.rec .no (fun _=>.no) (fun _=>.no) (fun _=>.no) f w
def W.onB {β:Type} (w:W) (f t:R β):R β:=W.rec .no (fun b=>Bool.rec f t b) (fun _=>.no) (fun _=>.no) (fun _=>.no) w
def ifB {β:Type} (b:Bool) (t f:β):β:=Bool.rec f t b
def gY (ws:List W) (f:W->R W):R W:=List.rec .no (fun a r _=>List.rec (f a) (fun _ _ _=>.no) r) ws
def iD (ws:List W) (f:W->W->R W):R W:=List.rec .no (fun a r _=>List.rec .no (fun b r _=>List.rec (f a b) (fun _ _ _=>.no) r) r) ws
def n6 (ws:List W) (f:Int->Int->R W):R W:=iD ws fun a b=>a.onI fun i=>b.onI fun j=>f i j
abbrev Sg:=List (Option W)
inductive Fl where | nx (τ:Sg) | rt (w:W) | bk (τ:Sg) | ct (τ:Sg)
def app {α:Type} (xs ys:List α):List α:=List.rec ys (fun x _ r=>x::r) xs
def len {α:Type} (xs:List α):Nat:=List.rec 0 (fun _ _ r=>Nat.add r 1) xs
def nth {α:Type} (xs:List α):Nat->Option α:=List.rec (fun _=>none) (fun x _ ih k=>Nat.rec (some x) (fun k _=>ih k) k) xs
def drp {α:Type} (xs:List α):Nat->List α:=List.rec (fun _=>[]) (fun x r ih k=>Nat.rec (x::r) (fun k _=>ih k) k) xs
def tak {α:Type} (xs:List α):Nat->List α:=List.rec (fun _=>[]) (fun x _ ih k=>Nat.rec [] (fun k _=>x::ih k) k) xs
def setAt {α:Type} (τ:List α) (w:α):Nat->List α:=List.rec (fun _=>[]) (fun x r ih k=>Nat.rec (w::r) (fun k _=>x::ih k) k) τ
def aN (τ:Sg):Nat->Option W:=List.rec (fun _=>none) (fun x _ ih k=>Nat.rec x (fun k _=>ih k) k) τ
def codes (x:List Nat):List Nat->Bool:=List.rec (fun y=>List.rec true (fun _ _ _=>false) y) (fun a _ ih y=>List.rec false (fun b r _=>ifB (Nat.beq a b) (ih r) false) y) x
def fget (fs:Fs) (f:List Nat):Option W:=List.rec none (fun p _ r=>ifB (codes p.1 f) (some p.2) r) fs
def ieq (i j:Int):Bool:=Int.rec (fun a=>Int.rec (fun b=>Nat.beq a b) (fun _=>false) j) (fun a=>Int.rec (fun _=>false) (fun b=>Nat.beq a b) j) i
def ilt (i j:Int):Bool:=Int.rec (fun a=>Int.rec (fun b=>Nat.ble (Nat.add a 1) b) (fun _=>false) j) (fun a=>Int.rec (fun _=>true) (fun b=>Nat.ble (Nat.add b 1) a) j) i
def Opt {α β:Type} (o:Option α) (f:α->R β):R β:=Option.rec .no f o
def O.items {β:Type} (o:O) (f:List W->R β):R β:=O.rec f f (fun _ _=>.no) (fun _=>.no) (fun _=>.no) o
def O.onL {β:Type} (o:O) (f:List W->R β):R β:=O.rec (fun _=>.no) f (fun _ _=>.no) (fun _=>.no) (fun _=>.no) o
def O.onT {β:Type} (o:O) (f:List W->R β):R β:=O.rec f (fun _=>.no) (fun _ _=>.no) (fun _=>.no) (fun _=>.no) o
def O.onS {β:Type} (o:O) (f:List W->R β):R β:=O.rec (fun _=>.no) f (fun _ _=>.no) (fun _=>.no) (fun _=>.no) o
def O.onI {β:Type} (o:O) (f:Nat->Fs->R β):R β:=O.rec (fun _=>.no) (fun _=>.no) f (fun _=>.no) (fun _=>.no) o
def Hs.at {β:Type} (h:Hs) (w:W) (f:Nat->O->R β):R β:=w.onR fun n=>Opt (h.get n) (f n)
def R.alloc (h:Hs) (o:O):R W:=.ok (.ref h.n) (h.push o)
def R.yes (b:Bool) (h:Hs):R W:=.ok (.bl b) h
inductive D where | non | bl (b:Bool) | int (i:Int) | str (c:List Nat) | lst (xs:List D) | tup (xs:List D)
def okC (c:List Nat):Bool:=List.rec true (fun x _ r=>ifB (Nat.ble (x + 1) 1114112) r false) c
def gh (f:W->Option D) (xs:List W):Option (List D):=List.rec (some []) (fun x _ r=>Option.rec none (fun d=>Option.rec none (fun ds=>some (d::ds)) r) (f x)) xs
def toD (h:Hs) (n:Nat):W->Option D:=Nat.rec (fun _=>none) (fun _ ih w=>W.elim w (some .non) (fun b=>some (.bl b)) (fun i=>some (.int i)) (fun c=>ifB (okC c) (some (.str c)) none) fun k=>
 Option.rec none (fun o=>O.rec (fun xs=>Option.rec none (fun ds=>some (.tup ds)) (gh ih xs)) (fun xs=>Option.rec none (fun ds=>some (.lst ds)) (gh ih xs)) (fun _ _=>none) (fun _=>none) (fun _=>none) o) (h.get k)) n
def D.bools (b:Bool) (d:D):Bool:=D.casesOn d false (fun c=>Bool.rec (!c) c b) (fun _=>false) (fun _=>false) (fun _=>false) (fun _=>false)
mutual
def cg:D->D->Bool
 | .non,.non=>true
 | .bl a,.bl b=>a == b
 | .int i,.int j=>ieq i j
 | .str x,.str y=>codes x y
 | .lst xs,.lst ys=>eN xs ys
 | .tup xs,.tup ys=>eN xs ys
 | .bl a,.int j=>ieq (if a then 1 else 0) j
 | .int i,.bl b=>ieq i (if b then 1 else 0)
 | _,_=>false
def eN:List D->List D->Bool
 | [],[]=>true
 | x::xs,y::ys=>cg x y && eN xs ys
 | _,_=>false
end
mutual
def dF:D->D->Bool
 | .non,.non=>true
 | .bl a,.bl b=>a == b
 | .int i,.int j=>ieq i j
 | .str x,.str y=>codes x y
 | .lst xs,.lst ys=>iG xs ys
 | .tup xs,.tup ys=>iG xs ys
 | _,_=>false
def iG:List D->List D->Bool
 | [],[]=>true
 | x::xs,y::ys=>dF x y && iG xs ys
 | _,_=>false
end
def xO (i j:Int):Int:=Int.rec (fun a=>Int.rec (fun b=>.ofNat (Nat.add a b)) (fun b=>Int.subNatNat a (Nat.add b 1)) j) (fun a=>Int.rec (fun b=>Int.subNatNat b (Nat.add a 1)) (fun b=>.negSucc (Nat.add (Nat.add a b) 1)) j) i
def Ds (i j:Int):Int:=Int.rec (fun a=>Int.rec (fun b=>Bool.rec (.negSucc (Nat.sub (Nat.sub b a) 1)) (.ofNat (Nat.sub a b)) (Nat.ble b a)) (fun b=>.ofNat (Nat.add (Nat.add a b) 1)) j) (fun a=>Int.rec (fun b=>.negSucc (Nat.add a b)) (fun b=>i - .negSucc b) j) i
def fmod (i j:Int):Int:=Int.rec (fun a=>Int.rec (fun b=>.ofNat (Nat.mod a b)) (fun b=>i % .negSucc b) j) (fun a=>Int.rec (fun b=>.negSucc a % .ofNat b) (fun b=>.negSucc a % .negSucc b) j) i
structure Pr where
 f:List W->Hs->R W
def Sml (i:Int):Bool:=Int.rec (fun a=>Nat.ble (a + 1) (2 ^ 4000)) (fun a=>Nat.ble (a + 2) (2 ^ 4000)) i
def size (xs:List W) (k:R W):R W:=ifB (Nat.ble (len xs) 16777215) k .no
def N_ (h:Hs) (a b:W):R W:=h.at a fun _ x=>h.at b fun _ y=>O.casesOn x (fun _=>.no) (fun xs=>y.onL fun ys=>size (app xs ys) (.alloc h (.lst (app xs ys)))) (fun _ _=>.no) (fun _=>.no) (fun _=>.no)
def Oa (h:Hs) (a b:W):R W:=W.elim a .no (fun _=>.no) (fun i=>b.onI fun j=>.ok (.int (xO i j)) h) (fun _=>.no) (fun _=>N_ h a b)
def Ob (h:Hs) (i j:Int):R W:=.ok (.int (Ds i j)) h
def Oc (h:Hs) (i j:Int):R W:=ifB (ilt 0 j) (.ok (.int (fmod i j)) h) .no
def JQ (h:Hs) (i j:Int):R W:=ifB (ilt 0 j) (ifB (Sml j) (.ok (.int (i.fdiv j)) h) .no) .no
def Od (h:Hs) (i j:Int):R W:=ifB (ilt i 1000) (ifB (ilt 0 i) (ifB (ilt 0 j) (ifB (ilt j 1000) (.ok (.int (i ^ j.toNat)) h) .no) .no) .no) .no
def Th (h:Hs) (a:W):R W:=a.onI fun i=>.ok (.int (-i)) h
def Ti (h:Hs) (a:W):R W:=a.onI fun i=>.ok (.int (Int.ofNat i.natAbs)) h
def Iw (h:Hs) (i j:Int):R W:=.ok (.int (ifB (ilt j i) j i)) h
def Tj (h:Hs) (i j:Int):R W:=.ok (.int (ifB (ilt i j) j i)) h
def Iz (n:Nat) (i:Int):Nat:=Int.rec (fun k=>k) (fun k=>ifB (Nat.ble (k + 1) n) (n - (k + 1)) n) i
def pIx (h:Hs) (a b:W):R W:=h.at a fun _ o=>o.items fun xs=>b.onI fun i=>Opt (nth xs (Iz (len xs) i)) fun w=>.ok w h
def Oe (h:Hs) (a:W):R W:=h.at a fun _ o=>o.items fun xs=>.ok (.int (.ofNat (len xs))) h
def Q9 (w:W):Bool:=W.elim w true (fun _=>false) (fun _=>false) (fun _=>false) (fun _=>false)
def wD (h:Hs) (w:W) (f:D->R W):R W:=Opt (toD h 12 w) f
def pEq (f:Bool->Bool) (h:Hs) (a b:W):R W:=wD h a fun x=>wD h b fun y=>.yes (f (cg x y)) h
def JR (h:Hs) (a b:W):R W:=wD h a fun x=>wD h b fun y=>.yes (dF x y) h
def xP (xs:List W):Bool:=List.rec false (fun _ _ _=>true) xs
def Gd (h:Hs) (a:W):R W:=W.elim a (.yes false h) (fun b=>.yes b h) (fun i=>.yes (!ieq i 0) h) (fun _=>.no) (fun _=>h.at a fun _ o=>o.items fun xs=>.yes (xP xs) h)
def nJ (h:Hs) (a b:W):R W:=h.at a fun n o=>o.onL fun xs=>size xs (.ok .non (h.set n (.lst (app xs [b]))))
def init (xs:List W):List W:=List.rec [] (fun x r ih=>List.rec [] (fun _ _ _=>x::ih) r) xs
def Og (h:Hs) (a:W):R W:=h.at a fun n o=>o.onL fun _=>.ok .non (h.set n (.lst []))
def Q_ (h:Hs) (a:W):R W:=h.at a fun _ o=>o.items fun xs=>.alloc h (.lst xs)
def eqF (a b:W):Option Bool:=W.elim a
 (W.elim b (some true) (fun _=>some false) (fun _=>some false) (fun _=>some false) (fun _=>none)) (fun _=>none)
 (fun i=>W.elim b (some false) (fun _=>none) (fun j=>some (ieq i j)) (fun _=>some false) (fun _=>none))
 (fun x=>W.elim b (some false) (fun _=>none) (fun _=>some false) (fun y=>some (codes x y)) (fun _=>none)) (fun _=>none)
def Dt (a:W) (xs:List W):Option Bool:=List.rec (some false) (fun x _ ih=>Option.rec none (fun b=>Option.rec none (fun r=>some (ifB b true r)) ih) (eqF x a)) xs
def pIn (f:Bool->Bool) (h:Hs) (a b:W):R W:=h.at b fun _ o=>o.items fun xs=>Opt (eqF a a) fun _=>Opt (Dt a xs) fun c=>.yes (f c) h
def bools (xs:List W):Option (List Bool):=List.rec (some []) (fun x _ ih=>W.elim x none (fun b=>Option.rec none (fun r=>some (b::r)) ih) (fun _=>none) (fun _=>none) (fun _=>none)) xs
def allB (xs:List Bool):Bool:=List.rec true (fun b _ r=>ifB b r false) xs
def anyB (xs:List Bool):Bool:=List.rec false (fun b _ r=>ifB b true r) xs
def IV (f:List Bool->Bool) (h:Hs) (a:W):R W:=h.at a fun _ o=>o.onL fun xs=>Opt (bools xs) fun bs=>.yes (f bs) h
def xQ (xs:List W):List W->Option Bool:=List.rec (fun ys=>some (List.rec false (fun _ _ _=>true) ys)) (fun x _ ih ys=>List.rec (some false) (fun y r _=>W.elim x none (fun _=>none) (fun i=>W.elim y none (fun _=>none) (fun j=>ifB (ieq i j) (ih r) (some (ilt i j))) (fun _=>none) (fun _=>none)) (fun _=>none) (fun _=>none)) ys) xs
def lO (xs:List W):Bool:=List.rec true (fun x _ r=>W.elim x false (fun _=>false) (fun _=>r) (fun _=>false) (fun _=>false)) xs
def pLt (h:Hs) (a b:W):R W:=W.elim a .no (fun _=>.no) (fun i=>b.onI fun j=>.yes (ilt i j) h) (fun _=>.no) (fun _=>h.at a fun _ x=>h.at b fun _ y=>x.onT fun xs=>y.onT fun ys=>ifB (lO xs) (ifB (lO ys) (Opt (xQ xs ys) fun c=>.yes c h) .no) .no)
def tabOf (tb:List (List Nat × List Int)) (c:List Nat):List Int:=List.rec [] (fun p _ r=>ifB (codes p.1 c) p.2 r) tb
def xR (i:Int) (xs:List Int):Bool:=List.rec false (fun x _ r=>ifB (ieq x i) true r) xs
def Tn (tb:List (List Nat × List Int)) (h:Hs) (a b:W):R W:=a.onI fun i=>W.elim b .no (fun _=>.no) (fun _=>.no) (fun c=>.yes (!xR i (tabOf tb c)) h) (fun _=>.no)
def gG (xs:List W):Option (List Int):=List.rec (some []) (fun x _ ih=>W.elim x none (fun _=>none) (fun i=>Option.rec none (fun r=>some (i::r)) ih) (fun _=>none) (fun _=>none)) xs
def dd (l:List Int):List Int->List Int:=List.rec (fun acc=>acc) (fun x _ ih acc=>ih (ifB (xR x acc) acc (app acc [x]))) l
def pLs (h:Hs) (a:W):R W:=h.at a fun _ o=>o.onL fun xs=>ifB (Nat.ble (len xs) 1000) (Opt (gG xs) fun ns=>.ok (.int (.ofNat (len (dd ns [])))) h) .no
def xT (n:Nat):Int->List W:=Nat.rec (fun _=>[]) (fun _ ih lo=>.int lo::ih (lo + 1)) n
def pLr (h:Hs) (i j:Int):R W:=ifB (ilt (-1000) i) (ifB (ilt i 1000) (ifB (ilt (-1000) j) (ifB (ilt j 1000) (.alloc h (.lst (xT (j - i).toNat i))) .no) .no) .no) .no
def keq (a b:W):Bool:=W.elim a false (fun _=>false) (fun i=>W.elim b false (fun _=>false) (fun j=>ieq i j) (fun _=>false) (fun _=>false)) (fun x=>W.elim b false (fun _=>false) (fun _=>false) (fun y=>codes x y) (fun _=>false)) (fun _=>false)
def Pr.add:Pr:=⟨fun ws h=>iD ws (Oa h)⟩
def Pr.sub:Pr:=⟨fun ws h=>n6 ws (Ob h)⟩
def Pr.fdiv:Pr:=⟨fun ws h=>n6 ws (JQ h)⟩
def Pr.mod:Pr:=⟨fun ws h=>n6 ws (Oc h)⟩
def Pr.pow:Pr:=⟨fun ws h=>n6 ws (Od h)⟩
def Pr.neg:Pr:=⟨fun ws h=>gY ws (Th h)⟩
def Pr.abs:Pr:=⟨fun ws h=>gY ws (Ti h)⟩
def Pr.min:Pr:=⟨fun ws h=>n6 ws (Iw h)⟩
def Pr.max:Pr:=⟨fun ws h=>n6 ws (Tj h)⟩
def Pr.lt:Pr:=⟨fun ws h=>iD ws (pLt h)⟩
def Pr.le:Pr:=⟨fun ws h=>n6 ws fun i j=>.yes (!ilt j i) h⟩
def Pr.gt:Pr:=⟨fun ws h=>n6 ws fun i j=>.yes (ilt j i) h⟩
def Pr.eq:Pr:=⟨fun ws h=>iD ws (pEq id h)⟩
def Pr.ne:Pr:=⟨fun ws h=>iD ws (pEq not h)⟩
def Pr.ix:Pr:=⟨fun ws h=>iD ws (pIx h)⟩
def Pr.len:Pr:=⟨fun ws h=>gY ws (Oe h)⟩
def Pr.tup:Pr:=⟨fun ws h=>size ws (.alloc h (.tup ws))⟩
def Pr.lst:Pr:=⟨fun ws h=>size ws (.alloc h (.lst ws))⟩
def Pr.pJ:Pr:=⟨fun ws h=>gY ws fun a=>a.onB (.yes true h) (.yes false h)⟩
def Pr.truth:Pr:=⟨fun ws h=>gY ws (Gd h)⟩
def Pr.append:Pr:=⟨fun ws h=>iD ws (nJ h)⟩
def Pr.clear:Pr:=⟨fun ws h=>gY ws (Og h)⟩
def Pr.list:Pr:=⟨fun ws h=>gY ws (Q_ h)⟩
def Pr.lQ:Pr:=⟨fun ws h=>iD ws (pIn not h)⟩
def Pr.all:Pr:=⟨fun ws h=>gY ws (IV allB h)⟩
def Pr.any:Pr:=⟨fun ws h=>gY ws (IV anyB h)⟩
def Pr.same:Pr:=⟨fun ws h=>iD ws (JR h)⟩
def Pr.tab (tb:List (List Nat × List Int)):Pr:=⟨fun ws h=>iD ws (Tn tb h)⟩
def Pr.pK:Pr:=⟨fun ws h=>gY ws (pLs h)⟩
def Pr.xU:Pr:=⟨fun ws h=>n6 ws (pLr h)⟩
def eO (p:Pr) (ws:List W) (h:Hs):R W:=p.f ws h
inductive Tg where | nm (i:Nat) | tup (ts:List Tg)
inductive Iv where | lst (n:Nat) | tup (n:Nat) | rng (lo:Int) (n:Nat) | zip (n m:Nat) | dwn (lo:Int) (n:Nat)
inductive A where | w (w:W) | ws (l:List W) | iv (v:Iv) | fl (f:Fl) | u
def A.toW {β:Type} (a:A) (f:W->R β):R β:=A.rec f (fun _=>.no) (fun _=>.no) (fun _=>.no) .no a
def A.toL {β:Type} (a:A) (f:List W->R β):R β:=A.rec (fun _=>.no) f (fun _=>.no) (fun _=>.no) .no a
def A.toV {β:Type} (a:A) (f:Iv->R β):R β:=A.rec (fun _=>.no) (fun _=>.no) f (fun _=>.no) .no a
def A.toF {β:Type} (a:A) (f:Fl->R β):R β:=A.rec (fun _=>.no) (fun _=>.no) (fun _=>.no) f .no a
abbrev Ks:=List (Nat->Nat->List W->Hs->R A)
abbrev Dn:=Ks->Nat->Sg->Hs->R A
structure X where
 f:Dn
structure I where
 f:Dn
structure S where
 f:Dn
inductive G where | mk (i:I) (t:Tg) (c:Option X)
inductive Fn where | mk (np n:Nat) (body:List S) | non
def ofW (r:R W):R A:=R.rec (fun w h=>.ok (.w w) h) (fun C f h=>.ex C f h) .no r
def goA (es:List X):Dn:=List.rec (fun _ _ _ h=>.ok (.ws []) h) (fun e _ ih K n τ h=>R.rec (motive:=fun _=>R A) (fun r h=>A.rec (motive:=fun _=>R A) (fun w=>R.rec (motive:=fun _=>R A) (fun r h=>A.rec (motive:=fun _=>R A) (fun _=>.no) (fun ws=>.ok (.ws (w::ws)) h) (fun _=>.no) (fun _=>.no) .no r) (fun C fs h=>.ex C fs h) .no (ih K n τ h)) (fun _=>.no) (fun _=>.no) (fun _=>.no) .no r) (fun C fs h=>.ex C fs h) .no (e.f K n τ h)) es
def gm (ss:List S):Dn:=List.rec (fun _ _ τ h=>.ok (.fl (.nx τ)) h) (fun s _ ih K n τ h=>R.rec (motive:=fun _=>R A) (fun r h=>A.rec (motive:=fun _=>R A) (fun _=>.no) (fun _=>.no) (fun _=>.no) (fun f=>Fl.rec (motive:=fun _=>R A) (fun τ=>ih K n τ h) (fun w=>.ok (.fl (.rt w)) h) (fun τ=>.ok (.fl (.bk τ)) h) (fun τ=>.ok (.fl (.ct τ)) h) f) .no r) (fun C fs h=>.ex C fs h) .no (s.f K n τ h)) ss
def bindL (f:Tg->W->Sg->Option Sg) (ts:List Tg):List W->Sg->Option Sg:=List.rec (fun ws τ=>List.rec (some τ) (fun _ _ _=>none) ws) (fun t _ ih ws τ=>List.rec none (fun w r _=>Option.rec none (fun τ=>ih r τ) (f t w τ)) ws) ts
def aM (h:Hs) (n:Nat):Tg->W->Sg->Option Sg:=Nat.rec (fun _ _ _=>none) (fun _ ih t w τ=>Tg.casesOn t (fun i=>some (setAt τ (some w) i)) fun ts=>
 W.elim w none (fun _=>none) (fun _=>none) (fun _=>none) fun k=>Option.rec none (fun o=>O.rec (fun xs=>bindL ih ts xs τ) (fun _=>none) (fun _ _=>none) (fun _=>none) (fun _=>none) o) (h.get k)) n
def Iv.next {β:Type} (v:Iv) (i:Nat) (h:Hs) (fin:R β) (go:W->Hs->R β):R β:=
 Iv.rec (fun n=>Opt (h.get n) fun o=>o.onS fun xs=>Option.rec fin (fun w=>go w h) (nth xs i)) (fun n=>Opt (h.get n) fun o=>o.onT fun xs=>Option.rec fin (fun w=>go w h) (nth xs i)) (fun lo n=>Bool.rec fin (go (.int (lo + .ofNat i)) h) (Nat.ble (Nat.add i 1) n))
  (fun n m=>Opt (h.get n) fun o=>o.onS fun xs=>Opt (h.get m) fun o=>o.onS fun ys=>Option.rec fin (fun x=>Option.rec fin (fun y=>go (.ref h.n) (h.push (.tup [x,y]))) (nth ys i)) (nth xs i))
  (fun lo n=>Bool.rec fin (go (.int (lo - .ofNat i)) h) (Nat.ble (Nat.add i 1) n)) v
def dM (nt:Nat) (idx:List Nat) (τ:Sg):Sg:=Nat.rec (List.rec [] (fun i _ r=>aN τ i::r) idx) (fun _ r=>none::r) nt
def Tp (n:Nat) (i:Int):Nat:=Int.rec (fun k=>ifB (Nat.ble k n) k n) (fun k=>n - (k + 1)) i
def rm (K:Ks) (n:Nat) (e:Option X) (τ:Sg) (h:Hs) (k:Option Int->Hs->R A):R A:=
 Option.rec (k none h) (fun e=>(e.f K n τ h).bind fun a h=>a.toW fun w=>w.onI fun i=>k (some i) h) e
def sIx (n d:Nat) (o:Option Int):Nat:=Option.rec d (Tp n) o
def frame (n:Nat) (ws:List W):Sg:=app (List.rec [] (fun w _ r=>some w::r) ws) (Nat.rec [] (fun _ r=>none::r) (n - len ws))
def sS (h:Hs) (f:Fl):R A:=Fl.rec (fun _=>.ok (.w .non) h) (fun w=>.ok (.w w) h) (fun _=>.no) (fun _=>.no) f
def JS (K:Ks) (n:Nat) (h:Hs) (ws:List W) (F:Fn):R A:=Fn.rec (fun np k b=>ifB (Nat.beq (len ws) np) ((gm b K n (frame k ws) h).bind fun r h=>r.toF fun f=>sS h f) .no) .no F
def bN (Pg:List Fn) (d:Nat):Ks:=Nat.rec [] (fun _ K=>(fun n f ws h=>Opt (nth Pg f) (JS K n h ws))::K) d
def jM (f:Nat) (ws:List W) (K:Ks) (n:Nat) (h:Hs):R A:=Nat.rec .no (fun n _=>List.rec .no (fun c _ _=>c n f ws h) K) n
def qz (h:Hs) (f:Fl) (go:Sg->R A):R A:=Fl.rec go (fun w=>.ok (.fl (.rt w)) h) (fun τ=>.ok (.fl (.nx τ)) h) go f
def pL (v:Iv) (t:Tg) (b:List S) (K:Ks) (n:Nat):Nat->Sg->Hs->R A:=Nat.rec (fun _ _ _=>.no) (fun n ih i τ h=>v.next i h (.ok (.fl (.nx τ)) h) fun w h=>Opt (aM h 9 t w τ) fun τ=>(gm b K n τ h).bind fun r h=>r.toF fun f=>qz h f fun τ=>ih (Nat.add i 1) τ h) n
def Tq (c:X) (b:List S) (K:Ks) (n:Nat):Sg->Hs->R A:=Nat.rec (fun _ _=>.no) (fun n ih τ h=>(c.f K n τ h).bind fun r h=>r.toW fun w=>w.onB (.ok (.fl (.nx τ)) h) ((gm b K n τ h).bind fun r h=>r.toF fun f=>qz h f fun τ=>ih τ h)) n
def test (K:Ks) (m:Nat) (τ:Sg) (h:Hs) (c:Option X) (n k:Hs->R A):R A:=Option.rec (k h) (fun c=>(c.f K m τ h).bind fun r h=>r.toW fun w=>w.onB (n h) (k h)) c
def emit (h:Hs) (D:Nat) (w:W) (k:Hs->R A):R A:=(nJ h (.ref D) w).bind fun _ h=>k h
def Tt (v:Iv) (t:Tg) (c:Option X) (e:X) (D:Nat) (K:Ks) (n:Nat):Nat->Sg->Hs->R A:=Nat.rec (fun _ _ _=>.no) (fun n ih i τ h=>v.next i h (.ok .u h) fun w h=>Opt (aM h 9 t w τ) fun τ1=>
 test K n τ1 h c (fun h=>ih (Nat.add i 1) τ h) (fun h=>(e.f K n τ1 h).bind fun r h=>r.toW fun w=>emit h D w fun h=>ih (Nat.add i 1) τ h)) n
def inner (K:Ks) (n:Nat) (τ:Sg) (h:Hs) (e:X) (D:Nat) (m:Option G) (k:Hs->R A):R A:=
 Option.rec ((e.f K n τ h).bind fun r h=>r.toW fun w=>emit h D w k) (fun g=>G.rec (fun i t c=>(i.f K n τ h).bind fun r h=>r.toV fun v=>(Tt v t c e D K n 0 τ h).bind fun _ h=>k h) g) m
def bY (v:Iv) (t:Tg) (c:Option X) (m:Option G) (e:X) (D:Nat) (K:Ks) (n:Nat):Nat->Sg->Hs->R A:=Nat.rec (fun _ _ _=>.no) (fun n ih i τ h=>v.next i h (.ok .u h) fun w h=>Opt (aM h 9 t w τ) fun τ1=>
 test K n τ1 h c (fun h=>ih (Nat.add i 1) τ h) (fun h=>inner K n τ1 h e D m fun h=>ih (Nat.add i 1) τ h)) n
def X.var (i:Nat):X:=⟨fun _ _ τ h=>Option.rec (motive:=fun _=>R A) .no (fun w=>.ok (.w w) h) (aN τ i)⟩
def X.cst (w:W):X:=⟨fun _ _ _ h=>.ok (.w w) h⟩
def X.pr (p:Pr) (as:List X):X:=⟨fun K n τ h=>R.rec (motive:=fun _=>R A) (fun r h=>A.rec (motive:=fun _=>R A) (fun _=>.no) (fun ws=>R.rec (motive:=fun _=>R A) (fun w h=>.ok (.w w) h) (fun C f h=>.ex C f h) .no (p.f ws h)) (fun _=>.no) (fun _=>.no) .no r) (fun C fs h=>.ex C fs h) .no (goA as K n τ h)⟩
def X.and (a b:X):X:=⟨fun K n τ h=>R.rec (motive:=fun _=>R A) (fun r h=>A.rec (motive:=fun _=>R A) (fun w=>W.rec (motive:=fun _=>R A) .no (fun bb=>Bool.rec (motive:=fun _=>R A) (.ok (.w (.bl false)) h) (b.f K n τ h) bb) (fun _=>.no) (fun _=>.no) (fun _=>.no) w) (fun _=>.no) (fun _=>.no) (fun _=>.no) .no r) (fun C fs h=>.ex C fs h) .no (a.f K n τ h)⟩
def X.or (a b:X):X:=⟨fun K n τ h=>R.rec (motive:=fun _=>R A) (fun r h=>A.rec (motive:=fun _=>R A) (fun w=>W.rec (motive:=fun _=>R A) .no (fun bb=>Bool.rec (motive:=fun _=>R A) (b.f K n τ h) (.ok (.w (.bl true)) h) bb) (fun _=>.no) (fun _=>.no) (fun _=>.no) w) (fun _=>.no) (fun _=>.no) (fun _=>.no) .no r) (fun C fs h=>.ex C fs h) .no (a.f K n τ h)⟩
def X.slice (a:X) (lo hi:Option X):X:=⟨fun K n τ h=>(a.f K n τ h).bind fun r h=>r.toW fun w=>rm K n lo τ h fun l h=>rm K n hi τ h fun u h=>h.at w fun _ o=>
 O.rec (fun xs=>ifB (ifB (Nat.beq (sIx (len xs) 0 l) 0) (Nat.beq (sIx (len xs) (len xs) u) (len xs)) false) .no (ofW (.alloc h (.tup (tak (drp xs (sIx (len xs) 0 l)) (sIx (len xs) (len xs) u - sIx (len xs) 0 l)))))) (fun xs=>ofW (.alloc h (.lst (tak (drp xs (sIx (len xs) 0 l)) (sIx (len xs) (len xs) u - sIx (len xs) 0 l))))) (fun _ _=>.no) (fun _=>.no) (fun _=>.no) o⟩
def X.call (f:Nat) (as:List X):X:=⟨fun K n τ h=>(goA as K n τ h).bind fun a h=>a.toL fun ws=>jM f ws K n h⟩
def X.comp (nt:Nat) (idx:List Nat) (it:I) (t:Tg) (c:Option X) (m:Option G) (e:X):X:=⟨fun K n τ h=>(it.f K n τ h).bind fun r h=>r.toV fun v=>
 (bY v t c m e h.n K n 0 (dM nt idx τ) (h.push (.lst []))).nox.bind fun _ h'=>.ok (.w (.ref h.n)) h'⟩
def X.make (C f:Nat) (as:List X):X:=⟨fun K n τ h=>(goA as K n τ h).bind fun a h=>a.toL fun ws=>(jM f (.ref h.n::ws) K n (h.push (.ins C []))).bind fun r h'=>r.toW fun w=>ifB (Q9 w) (.ok (.w (.ref h.n)) h') .no⟩
def qC:List Nat:=[116,111,108,100]
def noT:List Nat:=[110,111]
def fu:List Nat:=[119,111,114,100]
def X.told (nx:Nat) (idx:List Nat) (e:X):X:=⟨fun K n τ h=>List.rec .no (fun _ K1 _=>List.rec .no (fun _ K2 _=>
 R.rec (fun r h=>r.toW fun w=>ofW (.alloc h (.tup [.str qC,w]))) (fun C fs h=>ifB (Nat.ble (C + 1) nx) (Opt (fget fs fu) fun w=>ofW (.alloc h (.tup [.str noT,w]))) .no) .no (e.f K2 n (dM 0 idx τ) h)) K1) K⟩
def X.lm (p:Pr) (a:X) (as:List X):X:=⟨fun K n τ h=>(a.f K n τ h).bind fun r h=>r.toW fun w=>h.at w fun _ o=>o.onL fun _=>(goA as K n τ h).bind fun r h=>r.toL fun ws=>ofW (eO p (w::ws) h)⟩
def I.seq (e:X):I:=⟨fun K n τ h=>(e.f K n τ h).bind fun r h=>r.toW fun w=>h.at w fun n o=>O.casesOn o (fun _=>.ok (.iv (.tup n)) h) (fun _=>.ok (.iv (.lst n)) h) (fun _ _=>.no) (fun _=>.no) (fun _=>.no)⟩
def within (i:Int) (k:R A):R A:=ifB (ilt i 1000000000) (ifB (ilt (-1000000000) i) k .no) .no
def Du (ws:List W) (f:W->R A):R A:=List.rec .no (fun a r _=>List.rec (f a) (fun _ _ _=>.no) r) ws
def uC (ws:List W) (f:W->W->R A):R A:=List.rec .no (fun a r _=>List.rec .no (fun b r _=>List.rec (f a b) (fun _ _ _=>.no) r) r) ws
def I.uD (as:List X):I:=⟨fun K n τ h=>(goA as K n τ h).bind fun r h=>r.toL fun ws=>Du ws fun w=>w.onI fun j=>within j (.ok (.iv (.rng 0 j.toNat)) h)⟩
def I.Dv (as:List X):I:=⟨fun K n τ h=>(goA as K n τ h).bind fun r h=>r.toL fun ws=>uC ws fun v w=>v.onI fun i=>w.onI fun j=>within i (within j (.ok (.iv (.rng i (j - i).toNat)) h))⟩
def I.zip (as:List X):I:=⟨fun K n τ h=>(goA as K n τ h).bind fun r h=>r.toL fun ws=>uC ws fun v w=>h.at v fun n o=>o.onL fun _=>h.at w fun m o=>o.onL fun _=>.ok (.iv (.zip n m)) h⟩
def S.asg (t:Tg) (e:X):S:=⟨fun K n τ h=>(e.f K n τ h).bind fun r h=>r.toW fun w=>Opt (aM h 9 t w τ) fun τ=>.ok (.fl (.nx τ)) h⟩
def S.expr (e:X):S:=⟨fun K n τ h=>(e.f K n τ h).bind fun r h=>r.toW fun _=>.ok (.fl (.nx τ)) h⟩
def S.ret (e:X):S:=⟨fun K n τ h=>(e.f K n τ h).bind fun r h=>r.toW fun w=>.ok (.fl (.rt w)) h⟩
def S.ife (c:X) (a b:List S):S:=⟨fun K n τ h=>(c.f K n τ h).bind fun r h=>r.toW fun w=>w.onB (gm b K n τ h) (gm a K n τ h)⟩
def S.for_ (i:I) (t:Tg) (b:List S):S:=⟨fun K n τ h=>(i.f K n τ h).bind fun r h=>r.toV fun v=>pL v t b K n 0 τ h⟩
def S.bk:S:=⟨fun _ _ τ h=>.ok (.fl (.bk τ)) h⟩
def S.ct:S:=⟨fun _ _ τ h=>.ok (.fl (.ct τ)) h⟩
def S.raise (C:Nat) (c:List Nat):S:=⟨fun _ _ _ h=>.ex C [(fu,.str c)] h⟩
def S.par (i j:Nat) (a b:X):S:=⟨fun K n τ h=>(goA [a,b] K n τ h).bind fun r h=>r.toL fun ws=>uC ws fun u w=>.ok (.fl (.nx (setAt (setAt τ (some u) i) (some w) j))) h⟩
inductive Q where
 | x (e:X) | a (es:List X) | i (e:I) | s (s:S) | ss (l:List S)
 | lp (v:Iv) (i:Nat) (t:Tg) (b:List S) | wh (c:X) (b:List S)
 | cl (v:Iv) (i:Nat) (t:Tg) (c:Option X) (m:Option G) (e:X) (D:Nat)
 | call (f:Nat) (ws:List W)
abbrev E:=Nat->Q->Sg->Hs->R A
def evs (Pg:List Fn) (n:Nat):E:=fun d q τ h=>Q.rec (fun e=>e.f (bN Pg d) n τ h) (fun es=>goA es (bN Pg d) n τ h) (fun e=>e.f (bN Pg d) n τ h) (fun s=>s.f (bN Pg d) n τ h) (fun l=>gm l (bN Pg d) n τ h)
 (fun v i t b=>pL v t b (bN Pg d) n i τ h) (fun c b=>Tq c b (bN Pg d) n τ h) (fun v i t c m e D=>bY v t c m e D (bN Pg d) n i τ h) (fun f ws=>jM f ws (bN Pg d) n h) q
def body (V:E) (d:Nat) (h:Hs) (ws:List W) (F:Fn):R A:=Fn.rec (fun np n b=>ifB (Nat.beq (len ws) np) ((V d (.ss b) (frame n ws) h).bind fun r h=>r.toF fun f=>sS h f) .no) .no F
end
end Ev
namespace Ev
theorem jN {α:Type} (xs ys:List α):app xs ys=xs ++ ys:=by
 induction xs with
 | nil=>rfl
 | cons x xs ih=>exact congrArg (x::·) ih
theorem len_eq {α:Type} (xs:List α):len xs=xs.length:=by
 induction xs with
 | nil=>rfl
 | cons x xs ih=>exact congrArg (· + 1) ih
theorem iH {α:Type} (xs:List α) (i:Nat):nth xs i=xs[i]?:=by
 induction xs generalizing i with
 | nil=>rfl
 | cons x xs ih=>cases i with
   | zero=>rfl
   | succ i=>exact ih i
theorem xV {α:Type} (xs:List α) (i:Nat):drp xs i=xs.drop i:=by
 induction xs generalizing i with
 | nil=>cases i <;> rfl
 | cons x xs ih=>cases i with
   | zero=>rfl
   | succ i=>exact ih i
theorem xW {α:Type} (xs:List α) (i:Nat):tak xs i=xs.take i:=by
 induction xs generalizing i with
 | nil=>cases i <;> rfl
 | cons x xs ih=>cases i with
   | zero=>rfl
   | succ i=>exact congrArg (x::·) (ih i)
theorem jk {α:Type} (xs:List α) (w:α) (i:Nat):setAt xs w i=xs.set i w:=by
 induction xs generalizing i with
 | nil=>cases i <;> rfl
 | cons x xs ih=>cases i with
   | zero=>rfl
   | succ i=>exact congrArg (x::·) (ih i)
theorem jl (xs:Sg) (i:Nat):aN xs i=(xs[i]?).getD none:=by
 induction xs generalizing i with
 | nil=>cases i <;> rfl
 | cons x xs ih=>cases i with
   | zero=>rfl
   | succ i=>exact ih i
theorem ir {a b:Nat}:Nat.beq a b=true ↔ a=b:=⟨Nat.eq_of_beq_eq_true,fun h=>by subst h;exact Nat.beq_refl a⟩
theorem jY {a b:Nat}:Nat.beq a b=false ↔ a ≠ b:=by
 rw [<- Bool.not_eq_true,ir]
theorem ble_eq (a b:Nat):Nat.ble a b=decide (a <= b):=by
 cases h:Nat.ble a b with
 | true=>exact (decide_eq_true (Nat.le_of_ble_eq_true h)).symm
 | false=>exact (decide_eq_false fun z=>by rw [Nat.ble_eq_true_of_le z] at h;cases h).symm
theorem eU {x y:List Nat}:codes x y=true ↔ x=y:=by
 induction x generalizing y with
 | nil=>cases y with
   | nil=>exact ⟨fun _=>rfl,fun _=>rfl⟩
   | cons b r=>exact ⟨fun h=>Bool.noConfusion h,fun h=>nomatch h⟩
 | cons a x ih=>cases y with
   | nil=>exact ⟨fun h=>Bool.noConfusion h,fun h=>nomatch h⟩
   | cons b r=>
     show ifB (Nat.beq a b) (codes x r) false=true ↔ _
     cases e:Nat.beq a b with
     | true=>rw [ir.mp e];exact ih.trans ⟨fun h=>by rw [h],fun h=>(List.cons.inj h).2⟩
     | false=>exact ⟨fun h=>Bool.noConfusion h,fun h=>absurd (List.cons.inj h).1 (jY.mp e)⟩
theorem cT (i j:Int):ieq i j=decide (i=j):=by
 cases i with
 | ofNat a=>cases j with
   | ofNat b=>
     show Nat.beq a b=_
     cases e:Nat.beq a b with
     | true=>rw [ir.mp e];exact (decide_eq_true rfl).symm
     | false=>exact (decide_eq_false fun z=>jY.mp e (Int.ofNat.inj z)).symm
   | negSucc b=>exact (decide_eq_false fun z=>nomatch z).symm
 | negSucc a=>cases j with
   | ofNat b=>exact (decide_eq_false fun z=>nomatch z).symm
   | negSucc b=>
     show Nat.beq a b=_
     cases e:Nat.beq a b with
     | true=>rw [ir.mp e];exact (decide_eq_true rfl).symm
     | false=>exact (decide_eq_false fun z=>jY.mp e (Int.negSucc.inj z)).symm
theorem bA (i j:Int):ilt i j=decide (i < j):=by
 cases i with
 | ofNat a=>cases j with
   | ofNat b=>
     show Nat.ble (a + 1) b=_
     rw [ble_eq]
     exact decide_eq_decide.mpr ⟨fun h=>by have:(a:Int) < b:=by omega
                                           exact this,fun h=>by have:(a:Int) < b:=h
                                                                omega⟩
   | negSucc b=>exact (decide_eq_false (by intro h;have:(a:Int) < Int.negSucc b:=h;omega)).symm
 | negSucc a=>cases j with
   | ofNat b=>exact (decide_eq_true (by show Int.negSucc a < (b:Int);omega)).symm
   | negSucc b=>
     show Nat.ble (b + 1) a=_
     rw [ble_eq]
     exact decide_eq_decide.mpr ⟨fun h=>by omega,fun h=>by omega⟩
theorem get_set (d:Nat):∀ (t:Tr) (k k':Nat) (o:O),k < d->(t.set d k o).get k'=if k'=k then some o else t.get k':=by
 induction d with
 | zero=>intro t k k' o h;exact absurd h (Nat.not_lt_zero _)
 | succ d ih=>
   intro t k k' o h
   have half:∀ a b:Nat,a % 2=b % 2->(a / 2=b / 2 ↔ a + 1=b + 1):=fun a b e=>by omega
   cases t with
   | lf=>
     cases k with
     | zero=>cases k' with
       | zero=>rfl
       | succ k'=>
         show ifB (Nat.beq (k' % 2) 0) (Tr.get .lf (k' / 2)) (Tr.get .lf (k' / 2))=_
         rw [if_neg (by omega)]
         cases Nat.beq (k' % 2) 0 <;> rfl
     | succ k=>
       have hk:k / 2 < d:=by omega
       show (ifB (Nat.beq (k % 2) 0) (Tr.nd none (Tr.set d .lf (k / 2) o) .lf) (Tr.nd none .lf (Tr.set d .lf (k / 2) o)):Tr).get k'=_
       cases e:Nat.beq (k % 2) 0 with
       | true=>cases k' with
         | zero=>rfl
         | succ k'=>
           show ifB (Nat.beq (k' % 2) 0) (Tr.get (Tr.set d .lf (k / 2) o) (k' / 2)) (Tr.get .lf (k' / 2))=_
           have e1:=ir.mp e
           cases e':Nat.beq (k' % 2) 0 with
           | true=>
             have e2:=ir.mp e'
             show Tr.get (Tr.set d .lf (k / 2) o) (k' / 2)=_
             rw [ih .lf _ _ _ hk]
             by_cases z:k' / 2=k / 2
             · rw [if_pos z,if_pos (by omega)]
             · rw [if_neg z,if_neg (by omega)];rfl
           | false=>
             have e2:=jY.mp e'
             show none=_
             rw [if_neg (by intro z;apply e2;have:k'=k:=by omega
                            rw [this];exact e1)];rfl
       | false=>cases k' with
         | zero=>rfl
         | succ k'=>
           show ifB (Nat.beq (k' % 2) 0) (Tr.get .lf (k' / 2)) (Tr.get (Tr.set d .lf (k / 2) o) (k' / 2))=_
           have e1:=jY.mp e
           cases e':Nat.beq (k' % 2) 0 with
           | false=>
             have e2:=jY.mp e'
             show Tr.get (Tr.set d .lf (k / 2) o) (k' / 2)=_
             rw [ih .lf _ _ _ hk]
             by_cases z:k' / 2=k / 2
             · rw [if_pos z,if_pos (by omega)]
             · rw [if_neg z,if_neg (by omega)];rfl
           | true=>
             have e2:=ir.mp e'
             show none=_
             rw [if_neg (by intro z;apply e1;have:k'=k:=by omega
                            rw [<- this];exact e2)];rfl
   | nd x l r=>
     cases k with
     | zero=>cases k' with
       | zero=>rfl
       | succ k'=>rw [if_neg (by omega)];rfl
     | succ k=>
       have hk:k / 2 < d:=by omega
       show (ifB (Nat.beq (k % 2) 0) (Tr.nd x (Tr.set d l (k / 2) o) r) (Tr.nd x l (Tr.set d r (k / 2) o)):Tr).get k'=_
       cases e:Nat.beq (k % 2) 0 with
       | true=>cases k' with
         | zero=>rfl
         | succ k'=>
           show ifB (Nat.beq (k' % 2) 0) (Tr.get (Tr.set d l (k / 2) o) (k' / 2)) (Tr.get r (k' / 2))=(if k' + 1=k + 1 then some o else ifB (Nat.beq (k' % 2) 0) (Tr.get l (k' / 2)) (Tr.get r (k' / 2)))
           have e1:=ir.mp e
           cases e':Nat.beq (k' % 2) 0 with
           | true=>
             have e2:=ir.mp e'
             show Tr.get (Tr.set d l (k / 2) o) (k' / 2)=(if k' + 1=k + 1 then some o else Tr.get l (k' / 2))
             rw [ih l _ _ _ hk]
             by_cases z:k' / 2=k / 2
             · rw [if_pos z,if_pos (by omega)]
             · rw [if_neg z,if_neg (by omega)]
           | false=>
             have e2:=jY.mp e'
             show Tr.get r (k' / 2)=(if k' + 1=k + 1 then some o else Tr.get r (k' / 2))
             rw [if_neg (by intro z;apply e2;have:k'=k:=by omega
                            rw [this];exact e1)]
       | false=>cases k' with
         | zero=>rfl
         | succ k'=>
           show ifB (Nat.beq (k' % 2) 0) (Tr.get l (k' / 2)) (Tr.get (Tr.set d r (k / 2) o) (k' / 2))=(if k' + 1=k + 1 then some o else ifB (Nat.beq (k' % 2) 0) (Tr.get l (k' / 2)) (Tr.get r (k' / 2)))
           have e1:=jY.mp e
           cases e':Nat.beq (k' % 2) 0 with
           | false=>
             have e2:=jY.mp e'
             show Tr.get (Tr.set d r (k / 2) o) (k' / 2)=(if k' + 1=k + 1 then some o else Tr.get r (k' / 2))
             rw [ih r _ _ _ hk]
             by_cases z:k' / 2=k / 2
             · rw [if_pos z,if_pos (by omega)]
             · rw [if_neg z,if_neg (by omega)]
           | true=>
             have e2:=ir.mp e'
             show Tr.get l (k' / 2)=(if k' + 1=k + 1 then some o else Tr.get l (k' / 2))
             rw [if_neg (by intro z;apply e1;have:k'=k:=by omega
                            rw [<- this];exact e2)]
theorem Hs.pM (h:Hs) (o:O):(h.push o).n=h.n + 1:=by cases h;rfl
theorem Hs.gH (h:Hs) (k:Nat) (o:O):(h.set k o).n=h.n:=by cases h;rfl
theorem Hs.lg (h:Hs) (o:O) (k:Nat):(h.push o).get k=if k=h.n then some o else h.get k:=by
 cases h with | mk n t=>exact get_set (n + 1) t n k o (Nat.lt_succ_self n)
theorem Hs.get_set (h:Hs) (o:O) (j k:Nat):(h.set j o).get k=if k=j then some o else h.get k:=by
 cases h with | mk n t=>exact Ev.get_set (j + 1) t j k o (Nat.lt_succ_self j)
end Ev
set_option maxRecDepth 100000
set_option maxHeartbeats 4000000
namespace Ev
open PySem L2
inductive RW (ρ:List Addr):W->V->Prop
 | non:RW ρ .non .non
 | bl (b):RW ρ (.bl b) (.bl b)
 | int (i):RW ρ (.int i) (.int i)
 | str (c):RW ρ (.str c) (.str ⟨c.toArray⟩)
 | ref {n a}:ρ[n]? =some a->RW ρ (.ref n) (.ref a)
theorem RW.inj {ρ:List Addr} {w:W} {v v':V} (h:RW ρ w v) (h':RW ρ w v'):v=v':=by
 cases h <;> cases h' <;> first | rfl | skip
 rename_i a e a' e'
 rw [e] at e';rw [Option.some.inj e']
theorem fP {ρ ρ':List Addr} (e:ρ <+:ρ') {n:Nat} {a:Addr} (h:ρ[n]? =some a):ρ'[n]? =some a:=by
 obtain ⟨t,rfl⟩:=e
 have hn:n < ρ.length:=(List.getElem?_eq_some_iff.mp h).1
 rw [List.getElem?_append_left hn];exact h
theorem RW.mono {ρ ρ':List Addr} (e:ρ <+:ρ') {w:W} {v:V} (h:RW ρ w v):RW ρ' w v:=by
 cases h with
 | non=>exact .non
 | bl b=>exact .bl b
 | int i=>exact .int i
 | str c=>exact .str c
 | ref h=>exact .ref (fP e h)
abbrev RWs (ρ:List Addr):List W->List V->Prop:=Paired (RW ρ)
theorem RWs.mono {ρ ρ':List Addr} (e:ρ <+:ρ') {ws:List W} {vs:List V} (h:RWs ρ ws vs):RWs ρ' ws vs:=Paired.nR h fun _ _ r=>r.mono e
theorem RWs.inj {ρ:List Addr}:∀ {ws:List W} {vs vs':List V},RWs ρ ws vs->RWs ρ ws vs'->vs=vs'
 | _,_,_,.nil,.nil=>rfl
 | _,_,_,.cons r t,.cons r' t'=>by rw [r.inj r',RWs.inj t t']
theorem RWs.get {ρ:List Addr}:∀ {ws:List W} {vs:List V} {i:Nat} {w:W},RWs ρ ws vs->ws[i]? =some w->∃ v,vs[i]? =some v/\RW ρ w v
 | _,_,_,_,.nil,e=>by simp at e
 | _,_,0,_,.cons r _,e=>by simp at e;subst e;exact ⟨_,rfl,r⟩
 | _,_,i + 1,w,.cons _ t,e=>by
   obtain ⟨u,h1,h2⟩:=RWs.get (i:=i) (w:=w) t (by simpa using e)
   exact ⟨u,by simpa using h1,h2⟩
theorem RWs.append {ρ:List Addr}:∀ {xs ys:List W} {us ws:List V},RWs ρ xs us->RWs ρ ys ws->RWs ρ (xs ++ ys) (us ++ ws)
 | _,_,_,_,.nil,s=>s
 | _,_,_,_,.cons r t,s=>.cons r (RWs.append t s)
theorem RWs.take {ρ:List Addr}:∀ {xs:List W} {us:List V} (n:Nat),RWs ρ xs us->RWs ρ (xs.take n) (us.take n)
 | _,_,0,_=>.nil
 | _,_,_ + 1,.nil=>.nil
 | _,_,n + 1,.cons r t=>.cons r (RWs.take n t)
theorem RWs.drop {ρ:List Addr}:∀ {xs:List W} {us:List V} (n:Nat),RWs ρ xs us->RWs ρ (xs.drop n) (us.drop n)
 | _,_,0,r=>r
 | _,_,_ + 1,.nil=>.nil
 | _,_,n + 1,.cons _ t=>RWs.drop n t
theorem RWs.length {ρ:List Addr} {ws:List W} {vs:List V} (h:RWs ρ ws vs):ws.length=vs.length:=Paired.length h
def RO (ρ:List Addr):Option W->Option V->Prop
 | none,_=>True
 | some w,some v=>RW ρ w v
 | some _,none=>False
theorem RO.mono {ρ ρ':List Addr} (e:ρ <+:ρ'):∀ {w:Option W} {v:Option V},RO ρ w v->RO ρ' w v
 | none,_,_=>trivial
 | some _,some _,h=>RW.mono e h
abbrev RS (ρ:List Addr):Sg->St->Prop:=Paired (RO ρ)
theorem RS.mono {ρ ρ':List Addr} (e:ρ <+:ρ') {τ:Sg} {σ:St} (h:RS ρ τ σ):RS ρ' τ σ:=Paired.nR h fun _ _ r=>r.mono e
theorem RS.get {ρ:List Addr}:∀ {τ:Sg} {σ:St} {i:Nat} {w:W},RS ρ τ σ->aN τ i=some w->∃ v,σ[i]? =some (some v)/\RW ρ w v
 | _,_,_,_,.nil,e=>nomatch e
 | some _::_,some v::_,0,_,.cons r _,e=>by cases e;exact ⟨v,rfl,r⟩
 | some _::_,none::_,0,_,.cons r _,e=>r.elim
 | none::_,_,0,_,_,e=>nomatch e
 | _::_,_::_,i + 1,w,.cons _ t,e=>by
   obtain ⟨u,h1,h2⟩:=RS.get (i:=i) (w:=w) t e
   exact ⟨u,by simpa using h1,h2⟩
theorem RS.set {ρ:List Addr} {w:W} {v:V} (r:RW ρ w v):∀ {τ:Sg} {σ:St} (i:Nat),RS ρ τ σ->RS ρ (setAt τ (some w) i) (σ.set i (some v))
 | _,_,_,.nil=>by rw [jk];exact .nil
 | _::_,_::_,0,.cons _ t=>.cons (show RO ρ (some w) (some v) from r) t
 | _::_,_::_,i + 1,.cons q t=>.cons q (RS.set r i t)
def nm (c:List Nat):Str:=⟨c.toArray⟩
theorem xX {a b:List Nat} (h:nm a=nm b):a=b:=by
 have:=congrArg (fun s:Str=>s.cps.toList) h
 simpa [nm] using this
def FR (ρ:List Addr):Fs->List (Str × V)->Prop:=Paired fun p q=>q.1=nm p.1/\RW ρ p.2 q.2
theorem FR.mono {ρ ρ':List Addr} (e:ρ <+:ρ') {fs:Fs} {gs:List (Str × V)} (h:FR ρ fs gs):FR ρ' fs gs:=Paired.nR h fun _ _ r=>⟨r.1,r.2.mono e⟩
theorem FR.get {ρ:List Addr} {f:List Nat}:∀ {fs:Fs} {gs:List (Str × V)} {w:W},FR ρ fs gs->fget fs f=some w->∃ v,gs.lookup (nm f)=some v/\RW ρ w v
 | _,_,_,.nil,e=>nomatch e
 | p::fs,(x,v)::gs,w,.cons r t,e=>by
   obtain ⟨e1,r1⟩:=r
   have e1:x=nm p.1:=e1
   have e':ifB (codes p.1 f) (some p.2) (fget fs f)=some w:=e
   rw [List.lookup_cons]
   cases c:codes p.1 f with
   | true=>
     rw [c] at e';cases e'
     rw [e1,eU.mp c]
     exact ⟨v,by simp,r1⟩
   | false=>
     rw [c] at e'
     have:(nm f == x)=false:=by
      rw [e1]
      refine beq_eq_false_iff_ne.mpr fun z=>?_
      rw [eU.mpr (xX z).symm] at c;cases c
     rw [this]
     exact FR.get t e'
inductive KW:W->Key->Prop
 | int (i):KW (.int i) (.inl i)
 | str (c):KW (.str c) (.inr ⟨c.toArray⟩)
structure Cn where
 c:Nat->Addr
 P:Addr
 q:Str
 on:Bool
instance:CoeFun Cn (fun _=>Nat->Addr):=⟨Cn.c⟩
section
variable (cl:Cn)
def Tb (H:Hp):Prop:=cl.on=true->∃ ps,H cl.P=some (.tbl ps)/\TriplesOk ps.toList/\∀ pos cv,codeAmong pos ps.toList=some cv->∃ c',cv= .ref c'/\H c'=some (.ext fun h=>h.CodeRec (.ref c') cl.q)
def OA (ρ:List Addr) (H:Hp) (a:Addr):O->Prop
 | .tup xs=>∃ vs,RWs ρ xs vs/\H a=some (.tup vs)
 | .lst xs=>∃ vs,RWs ρ xs vs/\H a=some (.lst vs)
 | .ins C fs=>∃ dx gs,FR ρ fs gs/\H a=some (.ins (cl C) dx gs)
 | .dk kvs=>∃ gs,Paired (fun p q=>KW p.1 q.1/\RW ρ p.2 q.2) kvs gs/\H a=some (.dK gs)
 | .dt kvs=>∃ gs,Paired (fun p q=>Paired KW p.1 q.1/\RW ρ p.2 q.2) kvs gs/\H a=some (.dT gs)
structure Sim (ρ:List Addr) (h:Hs) (H:Hp):Prop where
 len:ρ.length=h.n
 nd:ρ.Nodup
 obj:∀ n a,ρ[n]? =some a->∃ o,h.get n=some o/\OA cl ρ H a o
 tb:Tb cl H
end
section
variable {cl:Cn} {ρ ρ':List Addr} {h:Hs} {H H':Hp}
theorem OA.som {a:Addr} {o:O} (x:OA cl ρ H a o):∃ u,H a=some u:=by
 cases o with
 | tup xs=>exact ⟨_,x.choose_spec.2⟩
 | lst xs=>exact ⟨_,x.choose_spec.2⟩
 | ins C fs=>obtain ⟨_,_,_,e⟩:=x;exact ⟨_,e⟩
 | dk kvs=>exact ⟨_,x.choose_spec.2⟩
 | dt kvs=>exact ⟨_,x.choose_spec.2⟩
theorem OA.keep {a:Addr} {o:O} (x:OA cl ρ H a o) (e:ρ <+:ρ') (k:H' a=H a):OA cl ρ' H' a o:=by
 cases o with
 | tup xs=>obtain ⟨vs,r,q⟩:=x;exact ⟨vs,r.mono e,k.trans q⟩
 | lst xs=>obtain ⟨vs,r,q⟩:=x;exact ⟨vs,r.mono e,k.trans q⟩
 | ins C fs=>obtain ⟨dx,gs,r,q⟩:=x;exact ⟨dx,gs,r.mono e,k.trans q⟩
 | dk kvs=>obtain ⟨gs,r,q⟩:=x;exact ⟨gs,Paired.nR r fun _ _ z=>⟨z.1,z.2.mono e⟩,k.trans q⟩
 | dt kvs=>obtain ⟨gs,r,q⟩:=x;exact ⟨gs,Paired.nR r fun _ _ z=>⟨z.1,z.2.mono e⟩,k.trans q⟩
def Pl:Option HO->Prop
 | some (.tbl _)=>False
 | some (.ext _)=>False
 | _=>True
theorem Tb.upd {p:Addr} {u:HO} (t:Tb cl H) (n:Pl (H p)):Tb cl (upd H p u):=fun on=>by
 obtain ⟨ps,h1,h2,h3⟩:=t on
 have ne:∀ {b:Addr} {w:HO},H b=some w->¬ Pl (some w)->b ≠ p:=fun {b w} e z q=>by rw [q] at e;rw [e] at n;exact z n
 refine ⟨ps,by rw [au (ne h1 (fun z=>z))];exact h1,h2,fun pos cv e=>?_⟩
 obtain ⟨c',e1,e2⟩:=h3 pos cv e
 exact ⟨c',e1,by rw [au (ne e2 (fun z=>z))];exact e2⟩
theorem OA.pl {a:Addr} {o:O} (x:OA cl ρ H a o):Pl (H a):=by
 cases o with
 | tup xs=>rw [x.choose_spec.2];trivial
 | lst xs=>rw [x.choose_spec.2];trivial
 | ins C fs=>obtain ⟨_,_,_,e⟩:=x;rw [e];trivial
 | dk kvs=>rw [x.choose_spec.2];trivial
 | dt kvs=>rw [x.choose_spec.2];trivial
theorem Sim.som (s:Sim cl ρ h H) {a:Addr} (e:a ∈ ρ):∃ u,H a=some u:=by
 obtain ⟨n,hn⟩:=List.getElem?_of_mem e
 obtain ⟨o,_,x⟩:=s.obj n a hn
 exact x.som
theorem Sim.new (s:Sim cl ρ h H) {p:Addr} (e:H p=none):p ∉ ρ:=fun z=>by
 obtain ⟨u,q⟩:=s.som z
 rw [e] at q;cases q
theorem Sim.at (s:Sim cl ρ h H) {n:Nat} {a:Addr} {o:O} (e:ρ[n]? =some a) (q:h.get n=some o):OA cl ρ H a o:=by
 obtain ⟨o',q',x⟩:=s.obj n a e
 rw [q] at q';cases q';exact x
theorem Sim.push (s:Sim cl ρ h H) {p:Addr} {u:HO} {o:O} (e:H p=none) (x:OA cl (ρ ++ [p]) (upd H p u) p o):Sim cl (ρ ++ [p]) (h.push o) (upd H p u) where
 len:=by rw [List.length_append,Hs.pM,s.len];rfl
 nd:=List.nodup_append.mpr ⟨s.nd,by simp,fun a ha b hb z=>by
  simp only [List.mem_singleton] at hb
  exact s.new e (by rw [<- hb,<- z];exact ha)⟩
 obj:=fun n a hn=>by
  rw [Hs.lg]
  by_cases hlt:n < ρ.length
  · rw [List.getElem?_append_left hlt] at hn
    obtain ⟨o',q,y⟩:=s.obj n a hn
    refine ⟨o',by rw [if_neg (by rw [<- s.len];omega)];exact q,y.keep (List.prefix_append _ _) ?_⟩
    obtain ⟨w,hw⟩:=y.som
    exact au (aD hw e)
  · have hn':n=ρ.length:=by
     have:=(List.getElem?_eq_some_iff.mp hn).1
     rw [List.length_append] at this
     simp at this;omega
    subst hn'
    rw [List.getElem?_append_right (Nat.le_refl _),Nat.sub_self] at hn
    simp at hn;subst hn
    exact ⟨o,by rw [if_pos s.len],x⟩
 tb:=s.tb.upd (by rw [e];trivial)
theorem Sim.put (s:Sim cl ρ h H) {n:Nat} {a:Addr} {u:HO} {o:O} (e:ρ[n]? =some a) (x:OA cl ρ (upd H a u) a o):Sim cl ρ (h.set n o) (upd H a u) where
 len:=by rw [Hs.gH,s.len]
 nd:=s.nd
 obj:=fun m b hm=>by
  rw [Hs.get_set]
  by_cases z:m=n
  · subst z;rw [e] at hm;cases hm
    exact ⟨o,if_pos rfl,x⟩
  · obtain ⟨o',q,y⟩:=s.obj m b hm
    refine ⟨o',by rw [if_neg z];exact q,y.keep (List.prefix_refl _) (au fun zz=>z ?_)⟩
    subst zz
    exact (List.getElem?_inj (List.getElem?_eq_some_iff.mp hm).1 s.nd).mp (hm.trans e.symm)
 tb:=by
  obtain ⟨o',_,y⟩:=s.obj n a e
  exact s.tb.upd y.pl
def Bt (cl:Cn) (ρ:List Addr) (H:Hp) (ρ':List Addr) (H':Hp):Prop:=ρ <+:ρ'/\∀ b u,H b=some u->b ∉ ρ->b ∉ ρ'/\((cl.on=true->b ≠ cl.P)->H' b=some u)/\∃ u',H' b=some u'
theorem Bt.refl:Bt cl ρ H ρ H:=⟨List.prefix_refl _,fun _ u q n=>⟨n,fun _=>q,u,q⟩⟩
theorem Bt.trans {Oh:List Addr} {H'':Hp} (x:Bt cl ρ H ρ' H') (y:Bt cl ρ' H' Oh H''):Bt cl ρ H Oh H'':=⟨x.1.trans y.1,fun b u q n=>by
 obtain ⟨n1,q1,u1,q2⟩:=x.2 b u q n
 obtain ⟨n2,q3,u2,q4⟩:=y.2 b u1 q2 n1
 refine ⟨n2,fun c=>?_,u2,q4⟩
 have e:=q1 c
 rw [q2] at e;cases e
 exact q3 c⟩
theorem Bt.new {p:Addr} {u:HO} (e:H p=none):Bt cl ρ H (ρ ++ [p]) (upd H p u):=⟨List.prefix_append _ _,fun b v q n=>by
 have ne:b ≠ p:=aD q e
 have q':upd H p u b=some v:=by rw [au ne];exact q
 refine ⟨fun z=>?_,fun _=>q',v,q'⟩
 rcases List.mem_append.mp z with z | z
 · exact n z
 · simp at z;exact ne z⟩
theorem Bt.put {a:Addr} {u:HO} {n:Nat} (e:ρ[n]? =some a):Bt cl ρ H ρ (upd H a u):=⟨List.prefix_refl _,fun b v q nb=>by
 have q':upd H a u b=some v:=by rw [au fun z=>nb (by rw [z];exact List.mem_of_getElem? e)];exact q
 exact ⟨nb,fun _=>q',v,q'⟩⟩
end
section
variable (cl:Cn)
def Post (ρ:List Addr) (H:Hp) (E:XK) {α:Type} (r:R α) (P:α->Hs->List Addr->Hp->Prop):Prop:=match r with
 | .ok a h=>∀ ρ' H',Bt cl ρ H ρ' H'->Sim cl ρ' h H'->P a h ρ' H'
 | .ex C fs h=>∀ ρ' H' dx gs,Bt cl ρ H ρ' H'->Sim cl ρ' h H'->FR ρ' fs gs->dx ∉ ρ'->H' dx=some (.xd gs)->E (.ref (cl C)) (some dx) H'
 | .no=>False
end
section
variable {cl:Cn} {ρ ρ':List Addr} {h:Hs} {H H':Hp} {E:XK} {α β:Type}
theorem Post.mono {r:R α} {P P':α->Hs->List Addr->Hp->Prop} (x:Post cl ρ H E r P) (f:∀ a h ρ' H',Bt cl ρ H ρ' H'->Sim cl ρ' h H'->P a h ρ' H'->P' a h ρ' H'):Post cl ρ H E r P':=by
 cases r with
 | ok a h=>exact fun ρ' H' b s=>f a h ρ' H' b s (x ρ' H' b s)
 | ex C fs h=>exact x
 | no=>exact x
theorem Post.later {r:R α} {P:α->Hs->List Addr->Hp->Prop} (x:Post cl ρ H E r P) (b:Bt cl ρ H ρ' H'):Post cl ρ' H' E r P:=by
 cases r with
 | ok a h=>exact fun ρ2 H2 b2 s=>x ρ2 H2 (b.trans b2) s
 | ex C fs h=>exact fun ρ2 H2 dx gs b2 s f n q=>x ρ2 H2 dx gs (b.trans b2) s f n q
 | no=>exact x
theorem Post.bind {r:R α} {f:α->Hs->R β} {P:β->Hs->List Addr->Hp->Prop} (x:Post cl ρ H E (r.bind f) P):Post cl ρ H E r fun a h1 ρ1 H1=>Post cl ρ1 H1 E (f a h1) P:=by
 cases r with
 | ok a h1=>exact fun ρ1 H1 b s1=>Post.later (ρ:=ρ) (H:=H) x b
 | ex C fs h1=>exact x
 | no=>exact x
end
end Ev
set_option maxRecDepth 100000
set_option maxHeartbeats 4000000
namespace Ev
open PySem L2
section
variable (Pg:List Fn) (cl:Cn) (E:XK) (d:Nat)
def VP (Q:VK):A->Hs->List Addr->Hp->Prop:=fun r _ ρ H=>∃ w,r= .w w/\∀ v,RW ρ w v->Q v H
def LP (Q:List V->Hp->Prop):A->Hs->List Addr->Hp->Prop:=fun r _ ρ H=>∃ ws,r= .ws ws/\∀ vs,RWs ρ ws vs->Q vs H
def Ag (σ0:St) (τ:Sg) (σ:St):Prop:=∀ i,aN τ i=none->σ[i]? =σ0[i]?
def FP (σ0:St) (D:Ends) (ρ:List Addr) (H:Hp):Fl->Prop
 | .nx τ=>∀ σ,RS ρ τ σ->Ag σ0 τ σ->D.nx σ H
 | .bk τ=>∀ σ,RS ρ τ σ->Ag σ0 τ σ->D.bk σ H
 | .ct τ=>∀ σ,RS ρ τ σ->Ag σ0 τ σ->D.ct σ H
 | .rt w=>∀ v,RW ρ w v->D.rt v H
def SPo (σ0:St) (D:Ends):A->Hs->List Addr->Hp->Prop:=fun r _ ρ H=>∃ f,r= .fl f/\FP σ0 D ρ H f
def ev (q:Q) (σ:St) (H:Hp) (P:A->Hs->List Addr->Hp->Prop):Prop:=∃ ρ τ h n,Sim cl ρ h H/\RS ρ τ σ/\Post cl ρ H E (evs Pg n d q τ h) P
def tE (a:X):TE:=fun σ H Q=>ev Pg cl E d (.x a) σ H (VP Q)
def tT (a:X):TT:=fun σ H Q=>ev Pg cl E d (.x a) σ H (VP fun v H'=>∃ b,v= .bl b/\Q b H')
def tA (as:List X):TA:=fun σ H Q=>ev Pg cl E d (.a as) σ H (LP Q)
def evS (σ0:St) (q:Q) (σ:St) (H:Hp) (P:A->Hs->List Addr->Hp->Prop):Prop:=∃ ρ τ h n,Sim cl ρ h H/\RS ρ τ σ/\Ag σ0 τ σ/\Post cl ρ H E (evs Pg n d q τ h) P
def tS (σ0:St) (s:S):TS:=fun D σ H=>evS Pg cl E d σ0 (.s s) σ H (SPo σ0 D)
def tSs (σ0:St) (s:List S):TS:=fun D σ H=>evS Pg cl E d σ0 (.ss s) σ H (SPo σ0 D)
end
section
variable {Pg:List Fn} {cl:Cn} {E:XK} {d:Nat} {X:Cx} {σ:St} {H:Hp} {P:A->Hs->List Addr->Hp->Prop}
theorem PE.of {e:Expr} {t t':TE} (h:PE X e t) (f:∀ σ H Q,t' σ H Q->t σ H Q):PE X e t':=fun pins s σ H Q I q=>h pins s σ H Q I (f σ H Q q)
theorem PT.of {e:Expr} {t t':TT} (h:PT X e t) (f:∀ σ H Q,t' σ H Q->t σ H Q):PT X e t':=fun pins s σ H Q I q=>h pins s σ H Q I (f σ H Q q)
theorem PW.of {e:Expr} {t t':TT} (h:PW X e t) (f:∀ σ H Q,t' σ H Q->t σ H Q):PW X e t':=fun wh pins s σ H Q I q=>h wh pins s σ H Q I (f σ H Q q)
theorem PA.of {es:List Expr} {t t':TA} (h:PA X es t) (f:∀ σ H Q,t' σ H Q->t σ H Q):PA X es t':=fun pos pins s σ H Q I q=>h pos pins s σ H Q I (f σ H Q q)
theorem PS.of {e:Stmt} {t t':TS} (h:PS X e t) (f:∀ D σ H,t' D σ H->t D σ H):PS X e t':=fun pins s σ H D I q=>h pins s σ H D I (f D σ H q)
theorem PSs.of {e:List Stmt} {t t':TS} (h:PSs X e t) (f:∀ D σ H,t' D σ H->t D σ H):PSs X e t':=fun pins s σ H D I q=>h pins s σ H D I (f D σ H q)
theorem ev.step {q:Q} (x:ev Pg cl E d q σ H P):∃ ρ τ h n,Sim cl ρ h H/\RS ρ τ σ/\Post cl ρ H E (evs Pg n d q τ h) P:=x
theorem evS.step {q:Q} {σ0:St} (x:evS Pg cl E d σ0 q σ H P):∃ ρ τ h n,Sim cl ρ h H/\RS ρ τ σ/\Ag σ0 τ σ/\Post cl ρ H E (evs Pg n d q τ h) P:=x
theorem ev.then {q:Q} {ρ:List Addr} {τ:Sg} {h:Hs} {n:Nat} {f:A->Hs->R A} {P P':A->Hs->List Addr->Hp->Prop} (s:Sim cl ρ h H) (r:RS ρ τ σ) (p:Post cl ρ H E ((evs Pg n d q τ h).bind f) P)
 (g:∀ a h1 ρ1 H1,Bt cl ρ H ρ1 H1->Sim cl ρ1 h1 H1->Post cl ρ1 H1 E (f a h1) P->P' a h1 ρ1 H1):ev Pg cl E d q σ H P':=⟨ρ,τ,h,n,s,r,p.bind.mono g⟩
theorem evS.then {q:Q} {σ0:St} {ρ:List Addr} {τ:Sg} {h:Hs} {n:Nat} {f:A->Hs->R A} {P P':A->Hs->List Addr->Hp->Prop} (s:Sim cl ρ h H) (r:RS ρ τ σ) (ag:Ag σ0 τ σ) (p:Post cl ρ H E ((evs Pg n d q τ h).bind f) P)
 (g:∀ a h1 ρ1 H1,Bt cl ρ H ρ1 H1->Sim cl ρ1 h1 H1->Post cl ρ1 H1 E (f a h1) P->P' a h1 ρ1 H1):evS Pg cl E d σ0 q σ H P':=⟨ρ,τ,h,n,s,r,ag,p.bind.mono g⟩
theorem cM {ρ:List Addr} {H:Hp} {a:A} {f:W->R A} (p:Post cl ρ H E (a.toW f) P):∃ w,a= .w w/\Post cl ρ H E (f w) P:=by
 cases a with
 | w w=>exact ⟨w,rfl,p⟩
 | _=>exact p.elim
theorem nM {ρ:List Addr} {H:Hp} {a:A} {f:List W->R A} (p:Post cl ρ H E (a.toL f) P):∃ w,a= .ws w/\Post cl ρ H E (f w) P:=by
 cases a with
 | ws w=>exact ⟨w,rfl,p⟩
 | _=>exact p.elim
theorem xY {ρ:List Addr} {H:Hp} {a:A} {f:Iv->R A} (p:Post cl ρ H E (a.toV f) P):∃ w,a= .iv w/\Post cl ρ H E (f w) P:=by
 cases a with
 | iv w=>exact ⟨w,rfl,p⟩
 | _=>exact p.elim
theorem sU {ρ:List Addr} {H:Hp} {a:A} {f:Fl->R A} (p:Post cl ρ H E (a.toF f) P):∃ w,a= .fl w/\Post cl ρ H E (f w) P:=by
 cases a with
 | fl w=>exact ⟨w,rfl,p⟩
 | _=>exact p.elim
theorem fK {ρ:List Addr} {H:Hp} {α β:Type} {o:Option α} {f:α->R β} {P:β->Hs->List Addr->Hp->Prop} (p:Post cl ρ H E (Opt o f) P):∃ w,o=some w/\Post cl ρ H E (f w) P:=by
 cases o with
 | some w=>exact ⟨w,rfl,p⟩
 | none=>exact p.elim
theorem sV {ρ:List Addr} {H:Hp} {β:Type} {w:W} {f:Int->R β} {P:β->Hs->List Addr->Hp->Prop} (p:Post cl ρ H E (w.onI f) P):∃ i,w= .int i/\Post cl ρ H E (f i) P:=by
 cases w with
 | int w=>exact ⟨w,rfl,p⟩
 | _=>exact p.elim
theorem Ge {ρ:List Addr} {H:Hp} {β:Type} {w:W} {f:Nat->R β} {P:β->Hs->List Addr->Hp->Prop} (p:Post cl ρ H E (w.onR f) P):∃ i,w= .ref i/\Post cl ρ H E (f i) P:=by
 cases w with
 | ref w=>exact ⟨w,rfl,p⟩
 | _=>exact p.elim
theorem sW {ρ:List Addr} {H:Hp} {β:Type} {w:W} {f t:R β} {P:β->Hs->List Addr->Hp->Prop} (p:Post cl ρ H E (w.onB f t) P):(w= .bl true/\Post cl ρ H E t P)\/(w= .bl false/\Post cl ρ H E f P):=by
 cases w with
 | bl b=>cases b with
   | true=>exact .inl ⟨rfl,p⟩
   | false=>exact .inr ⟨rfl,p⟩
 | _=>exact p.elim
theorem sX {ρ:List Addr} {H:Hp} {β:Type} {b:Bool} {t:R β} {P:β->Hs->List Addr->Hp->Prop} (p:Post cl ρ H E (ifB b t .no) P):b=true/\Post cl ρ H E t P:=by
 cases b with
 | true=>exact ⟨rfl,p⟩
 | false=>exact p.elim
theorem at_of {ρ:List Addr} {H:Hp} {h:Hs} {β:Type} {w:W} {f:Nat->O->R β} {P:β->Hs->List Addr->Hp->Prop} (s:Sim cl ρ h H) {v:V} (r:RW ρ w v) (p:Post cl ρ H E (h.at w f) P):
 ∃ n o a,w= .ref n/\v= .ref a/\ρ[n]? =some a/\h.get n=some o/\OA cl ρ H a o/\Post cl ρ H E (f n o) P:=by
 obtain ⟨n,rfl,p⟩:=Ge p
 obtain ⟨o,e,p⟩:=fK p
 cases r with
 | ref q=>exact ⟨n,o,_,rfl,rfl,q,e,s.at q e,p⟩
theorem Oi {ρ:List Addr} {H:Hp} {β:Type} {o:O} {f:List W->R β} {P:β->Hs->List Addr->Hp->Prop} (p:Post cl ρ H E (o.onL f) P):∃ xs,o= .lst xs/\Post cl ρ H E (f xs) P:=by
 cases o with
 | lst xs=>exact ⟨xs,rfl,p⟩
 | _=>exact p.elim
theorem Post.now {ρ:List Addr} {H:Hp} {h:Hs} {α:Type} {a:α} {P:α->Hs->List Addr->Hp->Prop} (s:Sim cl ρ h H) (p:Post cl ρ H E (.ok a h) P):P a h ρ H:=p ρ H Bt.refl s
theorem Post.eV {ρ:List Addr} {H:Hp} {h:Hs} {w:W} {v:V} {Q:VK} (s:Sim cl ρ h H) (p:Post cl ρ H E (.ok (.w w) h) (VP Q)) (r:RW ρ w v):Q v H:=by
 obtain ⟨w',e,q⟩:=p.now s
 cases e;exact q v r
theorem Post.new {ρ:List Addr} {H:Hp} {h:Hs} {o:O} {u:HO} {p:Addr} {Q:VK} (s:Sim cl ρ h H) (x:Post cl ρ H E (ofW (.alloc h o)) (VP Q)) (e:H p=none) (z:OA cl (ρ ++ [p]) (upd H p u) p o):Q (.ref p) (upd H p u):=by
 obtain ⟨w',e',q⟩:=x (ρ ++ [p]) (upd H p u) (Bt.new e) (s.push e z)
 cases e'
 exact q _ (.ref (by rw [<- s.len,List.getElem?_append_right (Nat.le_refl _),Nat.sub_self];rfl))
theorem Post.newL {ρ:List Addr} {H:Hp} {h:Hs} {xs:List W} {vs:List V} {p:Addr} {Q:VK} (s:Sim cl ρ h H) (x:Post cl ρ H E (ofW (.alloc h (.lst xs))) (VP Q)) (e:H p=none) (r:RWs ρ xs vs):Q (.ref p) (upd H p (.lst vs)):=
 x.new s e ⟨vs,r.mono (List.prefix_append _ _),aC⟩
theorem Post.Dw {ρ:List Addr} {H:Hp} {h:Hs} {xs:List W} {vs:List V} {p:Addr} {Q:VK} (s:Sim cl ρ h H) (x:Post cl ρ H E (ofW (.alloc h (.tup xs))) (VP Q)) (e:H p=none) (r:RWs ρ xs vs):Q (.ref p) (upd H p (.tup vs)):=
 x.new s e ⟨vs,r.mono (List.prefix_append _ _),aC⟩
theorem Post.putL {ρ:List Addr} {H:Hp} {h:Hs} {xs:List W} {vs:List V} {n:Nat} {a:Addr} {w:W} {v:V} {Q:VK} (s:Sim cl ρ h H) (x:Post cl ρ H E (ofW (.ok w (h.set n (.lst xs)))) (VP Q)) (e:ρ[n]? =some a) (r:RWs ρ xs vs) (rw:RW ρ w v):Q v (upd H a (.lst vs)):=by
 obtain ⟨w',e',q⟩:=x ρ (upd H a (.lst vs)) (Bt.put e) (s.put e ⟨vs,r,aC⟩)
 cases e'
 exact q _ rw
theorem Oj {i:Nat} {x:Str} {pos:Pos} (hN:X.N[i]? =some x:=by rfl) (hv:Vis X.env.scope x:=by first | exact Or.inl rfl | exact Or.inr (Or.inl rfl) | exact Or.inr (Or.inr rfl)) (hd:(x == ("__debug__":Str))=false:=by decide)
 (hcd:(x == ("__classdict__":Str))=false:=by decide):PE X (.Name x pos) (tE Pg cl E d (.var i)):=PE.of (rW hN hv hd hcd) fun σ H Q x=>by
 obtain ⟨ρ,τ,h,n,s,r,p⟩:=x.step
 obtain ⟨w,e,p⟩:=fK (show Post cl ρ H E (Opt (aN τ i) fun w=>.ok (.w w) h) (VP Q) from p)
 obtain ⟨v,ev,rv⟩:=r.get e
 exact ⟨v,ev,p.eV s rv⟩
theorem pN {e:Expr} {w:W} {v:V} (h:PE X e (tC v)) (r:RW [] w v):PE X e (tE Pg cl E d (.cst w)):=PE.of h fun σ H Q x=>by
 obtain ⟨ρ,τ,h,n,s,_,p⟩:=x.step
 exact Post.eV s (show Post cl ρ H E (.ok (.w w) h) (VP Q) from p) (r.mono (List.nil_prefix))
theorem aH {i:Int} {j pos}:PE X (.Constant (.int i) j pos) (tE Pg cl E d (.cst (.int i))):=pN bU (.int i)
theorem n8 {b j pos}:PE X (.Constant (.bool b) j pos) (tE Pg cl E d (.cst (.bl b))):=pN JF (.bl b)
theorem Gf (c:List Nat) {x:Str} {j pos} (e:x= ⟨c.toArray⟩:=by decide +kernel):PE X (.Constant (.str x) j pos) (tE Pg cl E d (.cst (.str c))):=by
 subst e;exact pN rY (.str c)
theorem az:PA X [] (tA Pg cl E d []):=PA.of aJ fun σ H Q x=>by
 obtain ⟨ρ,τ,h,n,s,_,p⟩:=x.step
 obtain ⟨ws,e,q⟩:=Post.now s (show Post cl ρ H E (.ok (.ws []) h) (LP Q) from p)
 cases e;exact q [] .nil
theorem dR {e:Expr} {es:List Expr} {a:Ev.X} {as:List Ev.X} (ha:PE X e (tE Pg cl E d a)) (hr:PA X es (tA Pg cl E d as)) (hs:starEach (e::es) X.env=(false,eval e X.env)::starEach es X.env:=by rfl):PA X (e::es) (tA Pg cl E d (a::as)):=
 PA.of (ao ha hr hs) fun σ H Q x=>by
 obtain ⟨ρ,τ,h,n,s,r,p⟩:=x.step
 refine ev.then s r (show Post cl ρ H E ((evs Pg n d (.x a) τ h).bind fun r h=>r.toW fun w=>(evs Pg n d (.a as) τ h).bind fun r h=>r.toL fun ws=>.ok (.ws (w::ws)) h) (LP Q) from p) fun a1 h1 ρ1 H1 b1 s1 p1=>?_
 obtain ⟨w,rfl,p1⟩:=cM p1
 refine ⟨w,rfl,fun v rv=>?_⟩
 refine ev.then s1 (r.mono b1.1) p1 fun a2 h2 ρ2 H2 b2 s2 p2=>?_
 obtain ⟨ws,rfl,p2⟩:=nM p2
 refine ⟨ws,rfl,fun vs rs=>?_⟩
 obtain ⟨ws',e,q⟩:=p2.now s2
 cases e
 exact q _ (.cons (rv.mono b2.1) rs)
def Op2 (cl:Cn) (p:Pr) (r:R2):Prop:=∀ (E:XK) (ρ:List Addr) (h:Hs) (H:Hp) (w1 w2:W) (v1 v2:V) (Q:VK),Sim cl ρ h H->RW ρ w1 v1->RW ρ w2 v2->Post cl ρ H E (ofW (eO p [w1,w2] h)) (VP Q)->r v1 v2 H Q
def Op1 (cl:Cn) (p:Pr) (r:V->Hp->VK->Prop):Prop:=∀ (E:XK) (ρ:List Addr) (h:Hs) (H:Hp) (w1:W) (v1:V) (Q:VK),Sim cl ρ h H->RW ρ w1 v1->Post cl ρ H E (ofW (eO p [w1] h)) (VP Q)->r v1 H Q
theorem pP {p:Pr} {r:R2} (o:Op2 cl p r) {a b:Ev.X} {Q:VK} (x:tE Pg cl E d (.pr p [a,b]) σ H Q):tOp r (tE Pg cl E d a) (tE Pg cl E d b) σ H Q:=by
 obtain ⟨ρ,τ,h,n,s,rs,q⟩:=x.step
 have q:Post cl ρ H E ((evs Pg n d (.a [a,b]) τ h).bind fun a h=>a.toL fun ws=>ofW (eO p ws h)) (VP Q):=q
 have q1:=q.bind
 refine ev.then s rs (show Post cl ρ H E ((evs Pg n d (.x a) τ h).bind fun r h=>r.toW fun w=>(evs Pg n d (.a [b]) τ h).bind fun r h=>r.toL fun ws=>.ok (.ws (w::ws)) h) _ from q1) fun a1 h1 ρ1 H1 b1 s1 p1=>?_
 obtain ⟨w1,rfl,pz⟩:=cM p1
 clear p1
 refine ⟨w1,rfl,fun v1 rv1=>?_⟩
 have p1':=pz.bind
 refine ev.then s1 (rs.mono b1.1) (show Post cl ρ1 H1 E ((evs Pg n d (.x b) τ h1).bind fun r h=>r.toW fun w=>(evs Pg n d (.a []) τ h).bind fun r h=>r.toL fun ws=>.ok (.ws (w::ws)) h) _ from p1') fun a2 h2 ρ2 H2 b2 s2 p2=>?_
 obtain ⟨w2,rfl,pz⟩:=cM p2
 clear p2
 refine ⟨w2,rfl,fun v2 rv2=>?_⟩
 have p3:=Post.now s2 (show Post cl ρ2 H2 E (.ok (A.ws [w2]) h2) _ from pz)
 have p4:=Post.now s2 (show Post cl ρ2 H2 E (.ok (A.ws [w1,w2]) h2) _ from p3)
 exact o E ρ2 h2 H2 w1 w2 v1 v2 Q s2 (rv1.mono b2.1) rv2 p4
theorem sY {p:Pr} {r:V->Hp->VK->Prop} (o:Op1 cl p r) {a:Ev.X} {Q:VK} (x:tE Pg cl E d (.pr p [a]) σ H Q):tUn r (tE Pg cl E d a) σ H Q:=by
 obtain ⟨ρ,τ,h,n,s,rs,q⟩:=x.step
 have q:Post cl ρ H E ((evs Pg n d (.a [a]) τ h).bind fun a h=>a.toL fun ws=>ofW (eO p ws h)) (VP Q):=q
 have q1:=q.bind
 refine ev.then s rs (show Post cl ρ H E ((evs Pg n d (.x a) τ h).bind fun r h=>r.toW fun w=>(evs Pg n d (.a []) τ h).bind fun r h=>r.toL fun ws=>.ok (.ws (w::ws)) h) _ from q1) fun a1 h1 ρ1 H1 b1 s1 p1=>?_
 obtain ⟨w1,rfl,pz⟩:=cM p1
 clear p1
 refine ⟨w1,rfl,fun v1 rv1=>?_⟩
 have p3:=Post.now s1 (show Post cl ρ1 H1 E (.ok (A.ws [w1]) h1) _ from pz)
 exact o E ρ1 h1 H1 w1 v1 Q s1 rv1 p3
def OpN (cl:Cn) (p:Pr) (r:List V->Hp->VK->Prop):Prop:=∀ (E:XK) (ρ:List Addr) (h:Hs) (H:Hp) (ws:List W) (vs:List V) (Q:VK),Sim cl ρ h H->RWs ρ ws vs->Post cl ρ H E (ofW (eO p ws h)) (VP Q)->r vs H Q
theorem Dy {p:Pr} {r:List V->Hp->VK->Prop} (o:OpN cl p r) {as:List Ev.X} {Q:VK} (x:tE Pg cl E d (.pr p as) σ H Q):tCB r (tA Pg cl E d as) σ H Q:=by
 obtain ⟨ρ,τ,h,n,s,rs,q⟩:=x.step
 refine ev.then s rs (show Post cl ρ H E ((evs Pg n d (.a as) τ h).bind fun a h=>a.toL fun ws=>ofW (eO p ws h)) (VP Q) from q) fun a1 h1 ρ1 H1 b1 s1 p1=>?_
 obtain ⟨ws,rfl,p1⟩:=nM p1
 exact ⟨ws,rfl,fun vs rv=>o E ρ1 h1 H1 ws vs Q s1 rv p1⟩
end
end Ev
set_option maxRecDepth 100000
set_option maxHeartbeats 4000000
namespace Ev
open PySem L2
section
variable {cl:Cn} {E:XK} {ρ:List Addr} {H:Hp} {h:Hs} {P:A->Hs->List Addr->Hp->Prop}
theorem oI {w:W} {f:Int->R W} (p:Post cl ρ H E (ofW (w.onI f)) P):∃ i,w= .int i/\Post cl ρ H E (ofW (f i)) P:=by
 cases w with
 | int w=>exact ⟨w,rfl,p⟩
 | _=>exact p.elim
theorem oB {w:W} {f t:R W} (p:Post cl ρ H E (ofW (w.onB f t)) P):∃ b,w= .bl b/\Post cl ρ H E (ofW (ifB b t f)) P:=by
 cases w with
 | bl b=>exact ⟨b,rfl,p⟩
 | _=>exact p.elim
theorem oIf {b:Bool} {t:R W} (p:Post cl ρ H E (ofW (ifB b t .no)) P):b=true/\Post cl ρ H E (ofW t) P:=by
 cases b with
 | true=>exact ⟨rfl,p⟩
 | false=>exact p.elim
theorem iQ {α:Type} {o:Option α} {f:α->R W} (p:Post cl ρ H E (ofW (Opt o f)) P):∃ w,o=some w/\Post cl ρ H E (ofW (f w)) P:=by
 cases o with
 | some w=>exact ⟨w,rfl,p⟩
 | none=>exact p.elim
theorem oAt {w:W} {f:Nat->O->R W} (s:Sim cl ρ h H) {v:V} (r:RW ρ w v) (p:Post cl ρ H E (ofW (h.at w f)) P):
 ∃ n o a,w= .ref n/\v= .ref a/\ρ[n]? =some a/\h.get n=some o/\OA cl ρ H a o/\Post cl ρ H E (ofW (f n o)) P:=by
 cases w with
 | ref n=>
   obtain ⟨o,e,p⟩:=iQ (show Post cl ρ H E (ofW (Opt (h.get n) (f n))) P from p)
   cases r with
   | ref q=>exact ⟨n,o,_,rfl,rfl,q,e,s.at q e,p⟩
 | _=>exact p.elim
theorem oL {o:O} {f:List W->R W} (p:Post cl ρ H E (ofW (o.onL f)) P):∃ xs,o= .lst xs/\Post cl ρ H E (ofW (f xs)) P:=by
 cases o with
 | lst xs=>exact ⟨xs,rfl,p⟩
 | _=>exact p.elim
theorem oIt {o:O} {f:List W->R W} (p:Post cl ρ H E (ofW (o.items f)) P):∃ xs,(o= .lst xs\/o= .tup xs)/\Post cl ρ H E (ofW (f xs)) P:=by
 cases o with
 | lst xs=>exact ⟨xs,.inl rfl,p⟩
 | tup xs=>exact ⟨xs,.inr rfl,p⟩
 | _=>exact p.elim
theorem v7 {xs:List W} {k:R W} (p:Post cl ρ H E (ofW (size xs k)) P):xs.length <= 16777215/\Post cl ρ H E (ofW k) P:=by
 obtain ⟨e,p⟩:=oIf p
 rw [ble_eq,len_eq] at e
 exact ⟨of_decide_eq_true e,p⟩
theorem kI:sizeLine=16777216:=sizeLine_eq
theorem OA.sq {K:PySem.W.Frag} {a:Addr} {o:O} {xs:List W} (e:o= .lst xs\/o= .tup xs) (x:OA cl ρ H a o):∃ vs,RWs ρ xs vs/\(SqL K H a vs\/SqT K H a vs):=by
 rcases e with rfl | rfl
 · obtain ⟨vs,r,q⟩:=x;exact ⟨vs,r,.inl (SqL.of q)⟩
 · obtain ⟨vs,r,q⟩:=x;exact ⟨vs,r,.inr (SqT.of q)⟩
theorem Post.yes {b c:Bool} {Q:VK} (s:Sim cl ρ h H) (p:Post cl ρ H E (ofW (.yes b h)) (VP Q)) (e:b=c):Q (.bl c) H:=by subst e;exact Post.eV s p (.bl b)
end
section
variable {cl:Cn}
theorem Bk (i j:Int):xO i j=i + j:=by cases i <;> cases j <;> rfl
theorem Bl (i j:Int):Ds i j=i - j:=by
 cases i with
 | ofNat a=>
   cases j with
   | ofNat b=>
     show (Bool.rec (Int.negSucc (b - a - 1)) (Int.ofNat (a - b)) (Nat.ble b a):Int)=(a:Int) - (b:Int)
     cases z:Nat.ble b a with
     | true=>
       have:=Nat.le_of_ble_eq_true z
       show ((a - b:Nat):Int)=_
       omega
     | false=>
       have:¬ b <= a:=fun q=>by rw [Nat.ble_eq_true_of_le q] at z;cases z
       show Int.negSucc (b - a - 1)=_
       rw [Int.negSucc_eq]
       omega
   | negSucc b=>rfl
 | negSucc a=>
   cases j with
   | ofNat b=>
     show Int.negSucc (a + b)=Int.negSucc a - (b:Int)
     rw [Int.negSucc_eq,Int.negSucc_eq];omega
   | negSucc b=>rfl
theorem fmod_eq (i j:Int):fmod i j=i % j:=by cases i <;> cases j <;> rfl
theorem jZ:Op2 cl .sub (rI0 fun i j=>.int (i - j)):=fun E ρ h H w1 w2 v1 v2 Q s r1 r2 p=>by
 obtain ⟨i,rfl,p⟩:=oI (show Post cl ρ H E (ofW (w1.onI fun i=>w2.onI fun j=>Ob h i j)) (VP Q) from p)
 obtain ⟨j,rfl,p⟩:=oI p
 have p:Post cl ρ H E (ofW (.ok (.int (Ds i j)) h)) (VP Q):=p
 rw [Bl] at p
 cases r1;cases r2
 exact ⟨i,j,rfl,rfl,Post.eV s p (.int _)⟩
theorem Ol {i:Int} (h:Sml i=true):L2.Sml i:=by
 unfold L2.Sml
 cases i with
 | ofNat a=>
   have:Nat.ble (a + 1) (2 ^ 4000)=true:=h
   rw [ble_eq] at this
   have:=of_decide_eq_true this
   show a < 2 ^ 4000
   omega
 | negSucc a=>
   have:Nat.ble (a + 2) (2 ^ 4000)=true:=h
   rw [ble_eq] at this
   have:=of_decide_eq_true this
   show a + 1 < 2 ^ 4000
   omega
theorem lU:Op2 cl .mod (rI (fun _ j=>0 < j) fun i j=>.int (i % j)):=fun E ρ h H w1 w2 v1 v2 Q s r1 r2 p=>by
 obtain ⟨i,rfl,p⟩:=oI (show Post cl ρ H E (ofW (w1.onI fun i=>w2.onI fun j=>Oc h i j)) (VP Q) from p)
 obtain ⟨j,rfl,p⟩:=oI p
 obtain ⟨c,p⟩:=oIf p
 rw [bA] at c
 rw [fmod_eq] at p
 cases r1;cases r2
 exact ⟨i,j,rfl,rfl,of_decide_eq_true c,Post.eV s p (.int _)⟩
theorem Om:Op2 cl .fdiv (rI (fun _ j=>JM j) fun i j=>.int (i.fdiv j)):=fun E ρ h H w1 w2 v1 v2 Q s r1 r2 p=>by
 obtain ⟨i,rfl,p⟩:=oI (show Post cl ρ H E (ofW (w1.onI fun i=>w2.onI fun j=>JQ h i j)) (VP Q) from p)
 obtain ⟨j,rfl,p⟩:=oI p
 obtain ⟨c,p⟩:=oIf p
 obtain ⟨c2,p⟩:=oIf p
 rw [bA] at c
 have c:=of_decide_eq_true c
 cases r1;cases r2
 exact ⟨i,j,rfl,rfl,⟨by omega,Ol c2⟩,Post.eV s p (.int _)⟩
theorem Ra:Op2 cl .pow (rI HW fun i j=>.int (i ^ j.toNat)):=fun E ρ h H w1 w2 v1 v2 Q s r1 r2 p=>by
 obtain ⟨i,rfl,p⟩:=oI (show Post cl ρ H E (ofW (w1.onI fun i=>w2.onI fun j=>Od h i j)) (VP Q) from p)
 obtain ⟨j,rfl,p⟩:=oI p
 obtain ⟨c,p⟩:=oIf p
 obtain ⟨c2,p⟩:=oIf p
 obtain ⟨c3,p⟩:=oIf p
 obtain ⟨c4,p⟩:=oIf p
 rw [bA] at c c2 c3 c4
 have c:=of_decide_eq_true c
 have c2:=of_decide_eq_true c2
 have c3:=of_decide_eq_true c3
 have c4:=of_decide_eq_true c4
 cases r1;cases r2
 exact ⟨i,j,rfl,rfl,⟨by omega,by omega,by omega⟩,Post.eV s p (.int _)⟩
theorem Rb:Op1 cl .neg (rU fun i=>.int (-i)):=fun E ρ h H w1 v1 Q s r1 p=>by
 obtain ⟨i,rfl,p⟩:=oI (show Post cl ρ H E (ofW (w1.onI fun i=>.ok (.int (-i)) h)) (VP Q) from p)
 cases r1
 exact ⟨i,rfl,Post.eV s p (.int _)⟩
theorem Rc {p:Pr} {f g:Int->Int->Bool} (hp:∀ h w1 w2,eO p [w1,w2] h=w1.onI fun i=>w2.onI fun j=>.yes (f i j) h) (e:∀ i j,f i j=g i j):Op2 cl p (rI0 fun i j=>.bl (g i j)):=fun E ρ h H w1 w2 v1 v2 Q s r1 r2 p=>by
 rw [hp] at p
 obtain ⟨i,rfl,p1⟩:=oI p
 obtain ⟨j,rfl,p2⟩:=oI p1
 cases r1;cases r2
 exact ⟨i,j,rfl,rfl,Post.yes s p2 (e i j)⟩
theorem oT {E:XK} {ρ:List Addr} {H:Hp} {P:A->Hs->List Addr->Hp->Prop} {o:O} {f:List W->R W} (p:Post cl ρ H E (ofW (o.onT f)) P):∃ xs,o= .tup xs/\Post cl ρ H E (ofW (f xs)) P:=by
 cases o with
 | tup xs=>exact ⟨xs,rfl,p⟩
 | _=>exact p.elim
theorem ints_of {ρ:List Addr}:∀ {xs:List W} {vs:List V},RWs ρ xs vs->lO xs=true->∃ ns:List Int,xs=ns.map W.int/\vs=ns.map V.int
 | _,_,.nil,_=>⟨[],rfl,rfl⟩
 | x::xs,v::vs,.cons r t,e=>by
   cases r with
   | int i=>
     obtain ⟨ns,e1,e2⟩:=ints_of t (show lO xs=true from e)
     exact ⟨i::ns,by rw [e1];rfl,by rw [e2];rfl⟩
   | _=>cases e
theorem Bm:∀ (ns ms:List Int),xQ (ns.map W.int) (ms.map W.int)=some (HT.lexLt ns ms)
 | [],[]=>rfl
 | [],_::_=>rfl
 | _::_,[]=>rfl
 | i::ns,j::ms=>by
   show ifB (ieq i j) (xQ (ns.map W.int) (ms.map W.int)) (some (ilt i j))=_
   rw [cT,Bm ns ms,bA]
   by_cases z:i=j
   · rw [decide_eq_true z]
     simp [ifB,HT.lexLt,z]
   · rw [decide_eq_false z]
     simp [ifB,HT.lexLt,z]
def Oo (K:PySem.W.Frag):R2:=fun x y H Q=>rI0 (fun i j=>.bl (decide (i < j))) x y H Q\/Nj K x y H Q
theorem IW {K:PySem.W.Frag}:Op2 cl .lt (Oo K):=fun E ρ h H w1 w2 v1 v2 Q s r1 r2 p=>by
 have p:Post cl ρ H E (ofW (pLt h w1 w2)) (VP Q):=p
 cases w1 with
 | int i=>
   obtain ⟨j,rfl,p1⟩:=oI (show Post cl ρ H E (ofW (w2.onI fun j=>.yes (ilt i j) h)) (VP Q) from p)
   cases r1;cases r2
   exact .inl ⟨i,j,rfl,rfl,Post.yes s p1 (bA i j)⟩
 | ref n=>
   obtain ⟨n,o,a,_,rfl,e1,g1,x1,p1⟩:=oAt s r1 (show Post cl ρ H E (ofW (h.at (.ref n) fun _ x=>h.at w2 fun _ y=>x.onT fun xs=>y.onT fun ys=>ifB (lO xs) (ifB (lO ys) (Opt (xQ xs ys) fun c=>.yes c h) .no) .no)) (VP Q) from p)
   obtain ⟨m,o2,b,_,rfl,e2,g2,x2,p2⟩:=oAt s r2 p1
   obtain ⟨xs,rfl,p3⟩:=oT p2
   obtain ⟨ys,rfl,p4⟩:=oT p3
   obtain ⟨c1,p5⟩:=oIf p4
   obtain ⟨c2,p6⟩:=oIf p5
   obtain ⟨c,ec,p7⟩:=iQ p6
   obtain ⟨vs,rv,q1⟩:=x1
   obtain ⟨us,ru,q2⟩:=x2
   obtain ⟨ns,rfl,rfl⟩:=ints_of rv c1
   obtain ⟨ms,rfl,rfl⟩:=ints_of ru c2
   rw [Bm] at ec
   exact .inr ⟨a,b,ns,ms,rfl,rfl,SqT.of q1,SqT.of q2,Post.yes s p7 (Option.some.inj ec).symm⟩
 | _=>exact p.elim
theorem Oq:Op2 cl .gt (rI0 fun i j=>.bl (decide (j < i))):=Rc (f:=fun i j=>ilt j i) (fun _ _ _=>rfl) fun i j=>bA j i
theorem Ot:Op1 cl .pJ (fun x H Q=>∃ c,x= .bl c/\Q (.bl (!c)) H):=fun E ρ h H w1 v1 Q s r1 p=>by
 obtain ⟨b,rfl,p⟩:=oB (show Post cl ρ H E (ofW (w1.onB (.yes true h) (.yes false h))) (VP Q) from p)
 cases r1
 refine ⟨b,rfl,?_⟩
 cases b with
 | true=>exact Post.yes s p rfl
 | false=>exact Post.yes s p rfl
def KY:R2:=fun x y H Q=>rI0 (fun i j=>.int (i + j)) x y H Q\/Ny x y H Q
theorem lV:Op2 cl .add KY:=fun E ρ h H w1 w2 v1 v2 Q s r1 r2 p=>by
 have p:Post cl ρ H E (ofW (Oa h w1 w2)) (VP Q):=p
 cases w1 with
 | int i=>
   obtain ⟨j,rfl,p⟩:=oI (show Post cl ρ H E (ofW (w2.onI fun j=>.ok (.int (xO i j)) h)) (VP Q) from p)
   have p:Post cl ρ H E (ofW (.ok (.int (xO i j)) h)) (VP Q):=p
   rw [Bk] at p
   cases r1;cases r2
   exact .inl ⟨i,j,rfl,rfl,Post.eV s p (.int _)⟩
 | ref n=>
   obtain ⟨n,o,a,_,rfl,e1,g1,x1,p⟩:=oAt s r1 (show Post cl ρ H E (ofW (N_ h (.ref n) w2)) (VP Q) from p)
   obtain ⟨m,o2,b,_,rfl,e2,g2,x2,p⟩:=oAt s r2 p
   cases o with
   | lst xs=>
     obtain ⟨ys,rfl,p⟩:=oL p
     obtain ⟨z,p⟩:=v7 p
     obtain ⟨vs,rv,q1⟩:=x1
     obtain ⟨us,ru,q2⟩:=x2
     rw [jN] at z p
     have l1:=rv.length
     have l2:=ru.length
     rw [List.length_append] at z
     exact .inr ⟨a,b,vs,us,rfl,rfl,q1,q2,by rw [kI];omega,fun p' hp=>Post.newL s p hp (rv.append ru)⟩
   | _=>exact p.elim
 | _=>exact p.elim
theorem Ou {n:Nat} {i:Int} {j:Nat} (h:Iz n i=j) (hj:j < n):ixN n i=some j:=by
 unfold ixN
 cases i with
 | ofNat k=>
   have h:k=j:=h
   rw [if_pos (by show (0:Int) <= (k:Int);omega),if_pos (by show (k:Int) < n;omega)]
   exact congrArg some h
 | negSucc k=>
   have h:ifB (Nat.ble (k + 1) n) (n - (k + 1)) n=j:=h
   rw [ble_eq] at h
   by_cases c:k + 1 <= n
   · rw [decide_eq_true c] at h
     have h:n - (k + 1)=j:=h
     rw [if_neg (by omega),if_pos (by omega)]
     exact congrArg some (by omega)
   · rw [decide_eq_false c] at h
     have h:n=j:=h
     omega
theorem Gg {vs:List V} {xs:List W} {ρ:List Addr} {i:Int} {w:W} (r:RWs ρ xs vs) (e:nth xs (Iz (len xs) i)=some w):∃ v,atI vs i=some v/\RW ρ w v:=by
 rw [iH,len_eq] at e
 obtain ⟨v,ev,rv⟩:=r.get e
 refine ⟨v,?_,rv⟩
 unfold atI
 have hl:=r.length
 have hlt:=(List.getElem?_eq_some_iff.mp ev).1
 rw [hl] at ev hlt
 rw [Ou rfl hlt]
 exact ev
theorem Tu {K:PySem.W.Frag}:Op2 cl .ix (rIx K):=fun E ρ h H w1 w2 v1 v2 Q s r1 r2 p=>by
 obtain ⟨n,o,a,rfl,rfl,e1,g1,x1,p⟩:=oAt s r1 (show Post cl ρ H E (ofW (pIx h w1 w2)) (VP Q) from p)
 obtain ⟨xs,e,p1⟩:=oIt p
 obtain ⟨i,rfl,p2⟩:=oI p1
 obtain ⟨w,ew,p3⟩:=iQ p2
 cases r2
 rcases e with rfl | rfl
 · obtain ⟨vs,rv,q⟩:=x1
   obtain ⟨v,ev,rw⟩:=Gg rv ew
   exact .inl ⟨a,vs,i,v,rfl,rfl,SqL.of q,ev,Post.eV s p3 rw⟩
 · obtain ⟨vs,rv,q⟩:=x1
   obtain ⟨v,ev,rw⟩:=Gg rv ew
   exact .inr (.inl ⟨a,vs,i,v,rfl,rfl,SqT.of q,ev,Post.eV s p3 rw⟩)
theorem v8 {ρ:List Addr} {ws:List W} {vs:List V} {f:W->R W} {P:A->Hs->List Addr->Hp->Prop} {H:Hp} {E:XK} (r:RWs ρ ws vs) (p:Post cl ρ H E (ofW (gY ws f)) P):∃ w v,ws= [w]/\vs= [v]/\RW ρ w v/\Post cl ρ H E (ofW (f w)) P:=by
 cases r with
 | nil=>exact p.elim
 | cons r1 t=>cases t with
   | nil=>exact ⟨_,_,rfl,rfl,r1,p⟩
   | cons _ _=>exact p.elim
theorem v9 {ρ:List Addr} {ws:List W} {vs:List V} {f:W->W->R W} {P:A->Hs->List Addr->Hp->Prop} {H:Hp} {E:XK} (r:RWs ρ ws vs) (p:Post cl ρ H E (ofW (iD ws f)) P):∃ w v w' v',ws= [w,w']/\vs= [v,v']/\RW ρ w v/\RW ρ w' v'/\Post cl ρ H E (ofW (f w w')) P:=by
 cases r with
 | nil=>exact p.elim
 | cons r1 t=>cases t with
   | nil=>exact p.elim
   | cons r2 t=>cases t with
     | nil=>exact ⟨_,_,_,_,rfl,rfl,r1,r2,p⟩
     | cons _ _=>exact p.elim
theorem v_ {K:PySem.W.Frag}:OpN cl .len (S8 K):=fun E ρ h H ws vs Q s r p=>by
 obtain ⟨w,v,rfl,rfl,r1,p⟩:=v8 r (show Post cl ρ H E (ofW (gY ws (Oe h))) (VP Q) from p)
 obtain ⟨n,o,a,rfl,rfl,e1,g1,x1,p⟩:=oAt s r1 p
 obtain ⟨xs,e,p⟩:=oIt p
 obtain ⟨us,ru,q⟩:=x1.sq (K:=K) e
 refine ⟨a,us,rfl,q,?_⟩
 rw [len_eq,ru.length] at p
 exact Post.eV s p (.int _)
theorem Rf:OpN cl .tup (fun xs H Q=>xs.length <= sizeLine/\∀ p,H p=none->Q (.ref p) (upd H p (.tup xs))):=fun E ρ h H ws vs Q s r p=>by
 obtain ⟨z,p⟩:=v7 (show Post cl ρ H E (ofW (size ws (.alloc h (.tup ws)))) (VP Q) from p)
 have:=r.length
 exact ⟨by rw [kI];omega,fun p' hp=>Post.Dw s p hp r⟩
theorem Rg:OpN cl .lst (fun xs H Q=>xs.length <= sizeLine/\∀ p,H p=none->Q (.ref p) (upd H p (.lst xs))):=fun E ρ h H ws vs Q s r p=>by
 obtain ⟨z,p⟩:=v7 (show Post cl ρ H E (ofW (size ws (.alloc h (.lst ws)))) (VP Q) from p)
 have:=r.length
 exact ⟨by rw [kI];omega,fun p' hp=>Post.newL s p hp r⟩
theorem Gh {ρ:List Addr} {a b:W} {u v:V} {c:Bool} (ra:RW ρ a u) (rb:RW ρ b v) (e:eqF a b=some c):jb u=true/\jb v=true/\eqV u v=c:=by
 cases ra with
 | non=>cases rb <;> first | (cases e;exact ⟨rfl,rfl,rfl⟩) | cases e
 | bl x=>cases e
 | int i=>cases rb with
   | non=>cases e;exact ⟨rfl,rfl,rfl⟩
   | int j=>
     have e:some (ieq i j)=some c:=e
     cases e
     refine ⟨rfl,rfl,?_⟩
     rw [cT]
     show (i == j)=_
     by_cases z:i=j
     · subst z;simp
     · rw [decide_eq_false z];exact beq_eq_false_iff_ne.mpr z
   | str x=>cases e;exact ⟨rfl,rfl,rfl⟩
   | _=>cases e
 | str x=>cases rb with
   | non=>cases e;exact ⟨rfl,rfl,rfl⟩
   | int j=>cases e;exact ⟨rfl,rfl,rfl⟩
   | str y=>
     have e:some (codes x y)=some c:=e
     cases e
     refine ⟨rfl,rfl,?_⟩
     show (({ cps:=x.toArray }:Str) == { cps:=y.toArray })=_
     cases z:codes x y with
     | true=>rw [eU.mp z];exact beq_self_eq_true _
     | false=>exact beq_eq_false_iff_ne.mpr fun q=>by rw [eU.mpr (xX q)] at z;cases z
   | _=>cases e
 | ref _=>cases e
end
end Ev
set_option maxRecDepth 100000
set_option maxHeartbeats 4000000
namespace Ev
open PySem PySem.Spec PySem.SeqAt PyProof.Rows L2
section
variable {cl:Cn}
theorem Bo {ρ:List Addr} {a:W} {v:V} (ra:RW ρ a v):∀ {xs:List W} {vs:List V} {c:Bool},RWs ρ xs vs->Dt a xs=some c->vs.all jb=true/\inV v vs=c
 | _,_,c,.nil,e=>by cases e;exact ⟨rfl,rfl⟩
 | x::xs,u::us,c,.cons r t,e=>by
   have e:Option.rec none (fun b=>Option.rec none (fun r=>some (ifB b true r)) (Dt a xs)) (eqF x a)=some c:=e
   cases h1:eqF x a with
   | none=>rw [h1] at e;cases e
   | some b=>
     rw [h1] at e
     cases h2:Dt a xs with
     | none=>rw [h2] at e;cases e
     | some r'=>
       rw [h2] at e
       have e:some (ifB b true r')=some c:=e
       cases e
       obtain ⟨f1,f2,f3⟩:=Gh r ra h1
       obtain ⟨g1,g2⟩:=Bo ra t h2
       refine ⟨by rw [List.all_cons,f1,g1];rfl,?_⟩
       show (eqV u v || inV v us)=_
       rw [f3,g2]
       cases b <;> rfl
theorem Rh {K:PySem.W.Frag} (neg:Bool) {p:Pr} {f:Bool->Bool} (hp:∀ h w1 w2,eO p [w1,w2] h=pIn f h w1 w2) (hf:∀ c:Bool,f c=if neg then !c else c):Op2 cl p (rIn K neg):=fun E ρ h H w1 w2 v1 v2 Q s r1 r2 p=>by
 rw [hp] at p
 obtain ⟨n,o,a,rfl,rfl,e1,g1,x1,p1⟩:=oAt s r2 p
 obtain ⟨xs,e,p2⟩:=oIt p1
 obtain ⟨c0,h0,p3⟩:=iQ p2
 obtain ⟨c,hc,p4⟩:=iQ p3
 obtain ⟨us,ru,q⟩:=x1.sq (K:=K) e
 obtain ⟨f1,_,_⟩:=Gh r1 r1 h0
 obtain ⟨g1,g2⟩:=Bo r1 ru hc
 exact ⟨a,us,rfl,q,f1,g1,Post.yes s p4 (by rw [hf,g2])⟩
theorem Bp {K:PySem.W.Frag}:Op2 cl .lQ (rIn K true):=Rh true (f:=not) (fun _ _ _=>rfl) fun _=>rfl
theorem xZ {ρ:List Addr}:∀ {xs:List W} {vs:List V} {bs:List Bool},RWs ρ xs vs->bools xs=some bs->vs=bs.map V.bl
 | _,_,bs,.nil,e=>by cases e;rfl
 | x::xs,u::us,bs,.cons r t,e=>by
   cases r with
   | bl b=>
     have e:Option.rec none (fun r=>some (b::r)) (bools xs)=some bs:=e
     cases h:bools xs with
     | none=>rw [h] at e;cases e
     | some bs'=>
       rw [h] at e
       have e:some (b::bs')=some bs:=e
       cases e
       rw [List.map_cons,xZ t h]
   | _=>cases e
theorem Bq (bs:List Bool):allB bs=bs.all id:=by
 induction bs with
 | nil=>rfl
 | cons b bs ih=>
   show ifB b (allB bs) false=_
   rw [ih,List.all_cons]
   cases b <;> rfl
theorem Br (bs:List Bool):anyB bs=bs.any id:=by
 induction bs with
 | nil=>rfl
 | cons b bs ih=>
   show ifB b true (anyB bs)=_
   rw [ih,List.any_cons]
   cases b <;> rfl
theorem Gi {p:Pr} {f g:List Bool->Bool} (hp:∀ h ws,eO p ws h=gY ws (IV f h)) (e:∀ bs,f bs=g bs):OpN cl p (xM g):=fun E ρ h H ws vs Q s r p=>by
 rw [hp] at p
 obtain ⟨w,v,rfl,rfl,r1,p1⟩:=v8 r p
 obtain ⟨n,o,a,rfl,rfl,e1,g1,x1,p2⟩:=oAt s r1 p1
 obtain ⟨xs,rfl,p3⟩:=oL p2
 obtain ⟨bs,hb,p4⟩:=iQ p3
 obtain ⟨us,ru,q⟩:=x1
 rw [xZ ru hb] at q
 exact ⟨a,bs,rfl,q,Post.yes s p4 (e bs)⟩
theorem Dz:OpN cl .all (xM fun bs=>bs.all id):=Gi (fun _ _=>rfl) Bq
theorem Ri:OpN cl .any (xM fun bs=>bs.any id):=Gi (fun _ _=>rfl) Br
def OpM (cl:Cn) (p:Pr) (r:V->List V->Hp->VK->Prop):Prop:=∀ (E:XK) (ρ:List Addr) (h:Hs) (H:Hp) (w:W) (v:V) (ws:List W) (vs:List V) (Q:VK),Sim cl ρ h H->RW ρ w v->RWs ρ ws vs->Post cl ρ H E (ofW (eO p (w::ws) h)) (VP Q)->r v vs H Q
theorem n_:OpM cl .append Bb:=fun E ρ h H w v ws vs Q s r rs p=>by
 obtain ⟨w1,v1,w2,v2,e,e',r1,r2,p1⟩:=v9 (.cons r rs) (show Post cl ρ H E (ofW (iD (w::ws) (nJ h))) (VP Q) from p)
 cases e;cases e'
 obtain ⟨n,o,a,rfl,rfl,e1,g1,x1,p2⟩:=oAt s r1 p1
 obtain ⟨xs,rfl,p3⟩:=oL p2
 obtain ⟨z,p4⟩:=v7 p3
 obtain ⟨us,ru,q⟩:=x1
 have hl:=ru.length
 rw [jN] at p4
 exact ⟨a,us,v2,rfl,rfl,q,by rw [kI];omega,Post.putL s p4 e1 (ru.append (.cons r2 .nil)) .non⟩
theorem Rj:OpN cl .min (fun xs H Q=>∃ i j,xs= [.int i,.int j]/\Q (.int (if j < i then j else i)) H):=fun E ρ h H ws vs Q s r p=>by
 obtain ⟨w1,v1,w2,v2,rfl,rfl,r1,r2,p1⟩:=v9 r (show Post cl ρ H E (ofW (iD ws fun a b=>a.onI fun i=>b.onI fun j=>Iw h i j)) (VP Q) from p)
 obtain ⟨i,rfl,p2⟩:=oI p1
 obtain ⟨j,rfl,p3⟩:=oI p2
 cases r1;cases r2
 refine ⟨i,j,rfl,?_⟩
 have e:ifB (ilt j i) j i=if j < i then j else i:=by
  rw [bA]
  by_cases z:j < i
  · rw [decide_eq_true z,if_pos z];rfl
  · rw [decide_eq_false z,if_neg z];rfl
 unfold Iw at p3
 rw [e] at p3
 exact Post.eV s p3 (.int _)
theorem KZ {K:PySem.W.Frag} {E:XK} {ρ:List Addr} {h:Hs} {H:Hp} {w:W} {v:V} {Q:VK} (s:Sim cl ρ h H) (r:RW ρ w v) (p:Post cl ρ H E (ofW (eO .truth [w] h)) (VP Q)):∃ k,CN K v H k/\Q (.bl k) H:=by
 have p:Post cl ρ H E (ofW (Gd h w)) (VP Q):=p
 cases r with
 | non=>exact ⟨false,rfl,Post.yes s p rfl⟩
 | bl b=>exact ⟨b,rfl,Post.yes s p rfl⟩
 | int i=>
   refine ⟨i != 0,rfl,Post.yes s p ?_⟩
   rw [cT]
   by_cases z:i=0
   · subst z;rfl
   · rw [decide_eq_false z];exact (bne_iff_ne.mpr z).symm
 | str c=>exact p.elim
 | @ref n a q=>
   obtain ⟨n,o,a',e0,e0',e1,g1,x1,p1⟩:=oAt s (.ref q) (show Post cl ρ H E (ofW (h.at (.ref n) fun _ o=>o.items fun xs=>.yes (xP xs) h)) (VP Q) from p)
   cases e0;cases e0'
   obtain ⟨xs,e,p2⟩:=oIt p1
   have ne:∀ {vs:List V},RWs ρ xs vs->xP xs= !vs.isEmpty:=fun r=>by cases r <;> rfl
   rcases e with rfl | rfl
   · obtain ⟨us,ru,q2⟩:=x1
     exact ⟨_,.inl ⟨us,SqL.of q2,rfl⟩,Post.yes s p2 (ne ru)⟩
   · obtain ⟨us,ru,q2⟩:=x1
     exact ⟨_,.inr (.inl ⟨us,SqT.of q2,rfl⟩),Post.yes s p2 (ne ru)⟩
mutual
def pd:D->PyData
 | .non=>.none | .bl b=>.bool b | .int i=>.int i | .str c=>.str ⟨c.toArray⟩ | .lst xs=>.list (pds xs) | .tup xs=>.tuple (pds xs)
def pds:List D->List PyData
 | []=>[]
 | x::xs=>pd x::pds xs
end
theorem DG (i j:Int):(i == j)=ieq i j:=by
 rw [cT]
 by_cases z:i=j
 · subst z;simp
 · rw [decide_eq_false z];exact beq_eq_false_iff_ne.mpr z
theorem JT (x y:List Nat):(({ cps:=x.toArray }:Str) == { cps:=y.toArray })=codes x y:=by
 cases z:codes x y with
 | true=>rw [eU.mp z];exact beq_self_eq_true _
 | false=>exact beq_eq_false_iff_ne.mpr fun q=>by rw [eU.mpr (xX q)] at z;cases z
mutual
theorem Gj:∀ a b:D,PyData.eqv (pd a) (pd b)=cg a b
 | .non,b=>by cases b <;> simp only [pd,PyData.eqv,cg]
 | .bl x,b=>by cases b <;> simp only [pd,PyData.eqv,cg,DG]
 | .int x,b=>by cases b <;> simp only [pd,PyData.eqv,cg,DG]
 | .str x,b=>by cases b <;> simp only [pd,PyData.eqv,cg,JT]
 | .lst xs,b=>by
   cases b <;> simp only [pd,PyData.eqv,cg]
   exact uE xs _
 | .tup xs,b=>by
   cases b <;> simp only [pd,PyData.eqv,cg]
   exact uE xs _
theorem uE:∀ a b:List D,PyData.eqvAll (pds a) (pds b)=eN a b
 | [],b=>by cases b <;> simp only [pds,PyData.eqvAll,eN]
 | x::xs,b=>by
   cases b with
   | nil=>simp only [pds,PyData.eqvAll,eN]
   | cons y ys=>simp only [pds,PyData.eqvAll,eN,Gj x y,uE xs ys]
end
theorem Ov:∀ c:List Nat,okC c=true->PySem.PyData.canLay0 (.str ⟨c.toArray⟩)=true:=fun c h=>by
 have:∀ x ∈ c,x < 1114112:=by
  induction c with
  | nil=>intro x hx;cases hx
  | cons y c ih=>
    have h:ifB (Nat.ble (y + 1) 1114112) (okC c) false=true:=h
    rw [ble_eq] at h
    by_cases z:y + 1 <= 1114112
    · rw [decide_eq_true z] at h
      intro x hx
      rcases List.mem_cons.mp hx with rfl | hx
      · omega
      · exact ih h x hx
    · rw [decide_eq_false z] at h;cases h
 simp only [PyData.canLay0]
 first | (unfold PyData.strOk;simpa using this) | simpa [PySem.strOk] using this
theorem nP {ρ:List Addr} {h:Hs} {H:Hp} (s:Sim cl ρ h H):∀ (n:Nat) {w:W} {v:V} {dd:D},RW ρ w v->toD h n w=some dd->Rep H v (pd dd)/\(pd dd).canLay0=true/\(pd dd).depth <= n
 | 0,_,_,_,_,e=>nomatch e
 | n + 1,w,v,dd,r,e=>by
   have all:∀ {xs:List W} {vs:List V} {ds:List D},RWs ρ xs vs->gh (toD h n) xs=some ds->bL H vs (pds ds)/\PyData.canLayAll0 (pds ds)=true/\PyData.depthAll (pds ds) <= n:=by
    intro xs
    induction xs with
    | nil=>
      intro vs ds r e
      cases r;cases e
      exact ⟨.nil,by simp only [pds,PyData.canLayAll0],by simp only [pds,PyData.depthAll];omega⟩
    | cons x xs ih=>
      intro vs ds r e
      cases r with
      | cons r1 t=>
        have e:Option.rec none (fun d=>Option.rec none (fun ds=>some (d::ds)) (gh (toD h n) xs)) (toD h n x)=some ds:=e
        cases h1:toD h n x with
        | none=>rw [h1] at e;cases e
        | some d1=>
          rw [h1] at e
          cases h2:gh (toD h n) xs with
          | none=>rw [h2] at e;cases e
          | some ds2=>
            rw [h2] at e
            have e:some (d1::ds2)=some ds:=e
            cases e
            obtain ⟨a1,a2,a3⟩:=nP s n r1 h1
            obtain ⟨b1,b2,b3⟩:=ih t h2
            refine ⟨.cons a1 b1,?_,?_⟩
            · simp only [pds,PyData.canLayAll0,a2,b2];rfl
            · simp only [pds,PyData.depthAll];omega
   cases r with
   | non=>cases e;exact ⟨.non,by simp only [pd,PyData.canLay0],by simp only [pd,PyData.depth];omega⟩
   | bl b=>cases e;exact ⟨.bl b,by simp only [pd,PyData.canLay0],by simp only [pd,PyData.depth];omega⟩
   | int i=>cases e;exact ⟨.int i,by simp only [pd,PyData.canLay0],by simp only [pd,PyData.depth];omega⟩
   | str c=>
     have e:ifB (okC c) (some (D.str c)) none=some dd:=e
     cases z:okC c with
     | false=>rw [z] at e;cases e
     | true=>
       rw [z] at e
       cases e
       exact ⟨.str _,Ov c z,by simp only [pd,PyData.depth];omega⟩
   | @ref k a q=>
     cases hg:h.get k with
     | none=>
       have:toD h (n + 1) (.ref k)=none:=by
        show Option.rec (motive:=fun _=>Option D) none _ (h.get k)=none
        rw [hg]
       rw [this] at e;cases e
     | some o=>
       have x:=s.at q hg
       cases o with
       | tup xs=>
         have:toD h (n + 1) (.ref k)=Option.rec none (fun ds=>some (D.tup ds)) (gh (toD h n) xs):=by
          show Option.rec (motive:=fun _=>Option D) none _ (h.get k)=_
          rw [hg]
          rfl
         rw [this] at e
         cases h2:gh (toD h n) xs with
         | none=>rw [h2] at e;cases e
         | some ds=>
           rw [h2] at e
           have e:some (D.tup ds)=some dd:=e
           cases e
           obtain ⟨vs,rv,qq⟩:=x
           obtain ⟨b1,b2,b3⟩:=all rv h2
           exact ⟨.tup qq b1,by simp only [pd,PyData.canLay0];exact b2,by simp only [pd,PyData.depth];omega⟩
       | lst xs=>
         have:toD h (n + 1) (.ref k)=Option.rec none (fun ds=>some (D.lst ds)) (gh (toD h n) xs):=by
          show Option.rec (motive:=fun _=>Option D) none _ (h.get k)=_
          rw [hg]
          rfl
         rw [this] at e
         cases h2:gh (toD h n) xs with
         | none=>rw [h2] at e;cases e
         | some ds=>
           rw [h2] at e
           have e:some (D.lst ds)=some dd:=e
           cases e
           obtain ⟨vs,rv,qq⟩:=x
           obtain ⟨b1,b2,b3⟩:=all rv h2
           exact ⟨.lst qq b1,by simp only [pd,PyData.canLay0];exact b2,by simp only [pd,PyData.depth];omega⟩
       | _=>
         have:toD h (n + 1) (.ref k)=none:=by
          show Option.rec (motive:=fun _=>Option D) none _ (h.get k)=none
          rw [hg]
         rw [this] at e;cases e
theorem vo {d:PyData} (h1:d.canLay0=true) (h2:d.depth <= 12):shaped d=true:=by
 unfold shaped
 rw [h1,decide_eq_true (by omega)];rfl
theorem JV {p:Pr} {f:Bool->Bool} (hp:∀ h w1 w2,eO p [w1,w2] h=pEq f h w1 w2):Op2 cl p (fun x y H Q=>∃ dx dy,Rep H x dx/\Rep H y dy/\shaped dx=true/\shaped dy=true/\Q (.bl (f (PyData.eqv dx dy))) H):=fun E ρ h H w1 w2 v1 v2 Q s r1 r2 p=>by
 rw [hp] at p
 obtain ⟨x,ex,p1⟩:=iQ p
 obtain ⟨y,ey,p2⟩:=iQ p1
 obtain ⟨a1,a2,a3⟩:=nP s 12 r1 ex
 obtain ⟨b1,b2,b3⟩:=nP s 12 r2 ey
 exact ⟨_,_,a1,b1,vo a2 a3,vo b2 b3,Post.yes s p2 (by rw [Gj])⟩
theorem I9:Op2 cl .eq Nz:=JV (f:=id) fun _ _ _=>rfl
theorem rz:Op2 cl .ne NB:=JV (f:=not) fun _ _ _=>rfl
mutual
theorem Bs:∀ a b:D,PySem.Spec.same (pd a) (pd b)=dF a b
 | .non,b=>by cases b <;> simp only [pd,PySem.Spec.same,dF]
 | .bl x,b=>by cases b <;> simp only [pd,PySem.Spec.same,dF]
 | .int x,b=>by cases b <;> simp only [pd,PySem.Spec.same,dF,DG]
 | .str x,b=>by cases b <;> simp only [pd,PySem.Spec.same,dF,JT]
 | .lst xs,b=>by
   cases b <;> simp only [pd,PySem.Spec.same,dF]
   exact rA xs _
 | .tup xs,b=>by
   cases b <;> simp only [pd,PySem.Spec.same,dF]
   exact rA xs _
theorem rA:∀ a b:List D,PySem.Spec.sameAll (pds a) (pds b)=iG a b
 | [],b=>by cases b <;> simp only [pds,PySem.Spec.sameAll,iG]
 | x::xs,b=>by
   cases b with
   | nil=>simp only [pds,PySem.Spec.sameAll,iG]
   | cons y ys=>simp only [pds,PySem.Spec.sameAll,iG,Bs x y,rA xs ys]
end
end
end Ev
set_option maxRecDepth 100000
set_option maxHeartbeats 4000000
namespace Ev
open PySem PySem.Spec PySem.SeqAt PyProof.Rows L2
section
variable {Pg:List Fn} {cl:Cn} {E:XK} {d:Nat} {X:Cx} {σ:L2.St} {H:Hp}
theorem bM {op:Operator} {p:Pr} {r:R2} {a b:Expr} {x y:Ev.X} {pos:Pos} (z:Op2 cl p r) (o:OpR X (binaryOp op) r) (ha:PE X a (tE Pg cl E d x)) (hb:PE X b (tE Pg cl E d y)):PE X (.BinOp a op b pos) (tE Pg cl E d (.pr p [x,y])):=
 PE.of (cF o ha hb) fun _ _ _ q=>pP z q
theorem Rk {op:UnaryOp} {p:Pr} {r:V->Hp->VK->Prop} {a:Expr} {x:Ev.X} {pos:Pos} (z:Op1 cl p r) (o:UnR X (unaryOp op) r) (ha:PE X a (tE Pg cl E d x)):PE X (.UnaryOp op a pos) (tE Pg cl E d (.pr p [x])):=
 PE.of (QT o ha) fun _ _ _ q=>sY z q
theorem pQ {op:CmpOp} {p:Pr} {r:R2} {a b:Expr} {x y:Ev.X} {pos:Pos} (z:Op2 cl p r) (o:OpR X (compareOp op) r) (ha:PE X a (tE Pg cl E d x)) (hb:PE X b (tE Pg cl E d y)) (hm:behindInMarks op b=false):PE X (.Compare a [op] [b] pos) (tE Pg cl E d (.pr p [x,y])):=
 PE.of (nj o ha hb hm) fun _ _ _ q=>pP z q
theorem fL {op:CmpOp} {p:Pr} {r:R2} {a b:Expr} {x y:Ev.X} {pos:Pos} (z:Op2 cl p r) (o:OpR X (compareOp op) r) (ha:PE X a (tE Pg cl E d x)) (hb:PE X b (tE Pg cl E d y)) (hm:behindInMarks op b=false):PT X (.Compare a [op] [b] pos) (tT Pg cl E d (.pr p [x,y])):=
 PT.of (nA o ha hb hm) fun _ _ _ q=>pP z q
theorem sZ {a:Expr} {x:Ev.X} {pos} (ha:PT X a (tT Pg cl E d x)):PT X (.UnaryOp .Not a pos) (tT Pg cl E d (.pr .pJ [x])):=PT.of (wY ha) fun σ H Q q=>by
 obtain ⟨ρ,τ,h,n,s,r,p⟩:=(show tE Pg cl E d x σ H (fun v H1=>∃ c,v= .bl c/\∃ b,V.bl (!c)= .bl b/\Q b H1) from sY Ot q)
 refine ⟨ρ,τ,h,n,s,r,p.mono fun a h ρ H _ _ ⟨w,e,g⟩=>⟨w,e,fun v rv=>?_⟩⟩
 obtain ⟨c,ec,b,eb,qb⟩:=g v rv
 cases eb
 exact ⟨c,ec,qb⟩
theorem jm {a:Expr} {x:Ev.X} (ha:PE X a (tE Pg cl E d x)) (he:∀ whole,isTrue a X.env whole=(do let v <- whole;standAt a.pos;holding [v] (truthy v))):PT X a (tT Pg cl E d (.pr .truth [x])):=PT.of (HY ha he) fun σ H Q q=>
 sY (r:=fun v H1 Q'=>∃ k,CN X.K v H1 k/\Q' (.bl k) H1) (fun E ρ h H w v Q s r p=>KZ s r p) q |> fun z=>by
 obtain ⟨ρ,τ,h,n,s,r,p⟩:=z
 refine ⟨ρ,τ,h,n,s,r,p.mono fun a h ρ H _ _ ⟨w,e,g⟩=>⟨w,e,fun v rv=>?_⟩⟩
 obtain ⟨k,t,b,eb,qb⟩:=g v rv
 cases eb
 exact ⟨k,t,qb⟩
theorem Ow {a b:Ev.X} {Q:VK} (x:tE Pg cl E d (.and a b) σ H Q):JG (tE Pg cl E d a) (tE Pg cl E d b) σ H Q:=by
 obtain ⟨ρ,τ,h,n,s,rs,q⟩:=x.step
 refine ev.then s rs (show Post cl ρ H E ((evs Pg n d (.x a) τ h).bind fun r h=>r.toW fun w=>w.onB (.ok (.w (.bl false)) h) (evs Pg n d (.x b) τ h)) (VP Q) from q) fun a1 h1 ρ1 H1 b1 s1 p1=>?_
 obtain ⟨w,rfl,p2⟩:=cM p1
 refine ⟨w,rfl,fun v rv=>?_⟩
 rcases sW p2 with ⟨rfl,p3⟩ | ⟨rfl,p3⟩
 · cases rv
   exact ⟨true,rfl,b_ ⟨ρ1,τ,h1,n,s1,rs.mono b1.1,p3⟩⟩
 · cases rv
   exact ⟨false,rfl,aX (Post.eV s1 p3 (.bl false))⟩
theorem Rm {a b:Ev.X} {Q:VK} (x:tE Pg cl E d (.or a b) σ H Q):Sh (tE Pg cl E d a) (tE Pg cl E d b) σ H Q:=by
 obtain ⟨ρ,τ,h,n,s,rs,q⟩:=x.step
 refine ev.then s rs (show Post cl ρ H E ((evs Pg n d (.x a) τ h).bind fun r h=>r.toW fun w=>w.onB (evs Pg n d (.x b) τ h) (.ok (.w (.bl true)) h)) (VP Q) from q) fun a1 h1 ρ1 H1 b1 s1 p1=>?_
 obtain ⟨w,rfl,p2⟩:=cM p1
 refine ⟨w,rfl,fun v rv=>?_⟩
 rcases sW p2 with ⟨rfl,p3⟩ | ⟨rfl,p3⟩
 · cases rv
   exact ⟨true,rfl,b_ (Post.eV s1 p3 (.bl true))⟩
 · cases rv
   exact ⟨false,rfl,aX ⟨ρ1,τ,h1,n,s1,rs.mono b1.1,p3⟩⟩
theorem Ox {a b:Expr} {rest:List Expr} {x y:Ev.X} {pos:Pos} (ha:PE X a (tE Pg cl E d x)) (hb:PE X (.BoolOp .And (b::rest) pos) (tE Pg cl E d y)):PE X (.BoolOp .And (a::b::rest) pos) (tE Pg cl E d (.and x y)):=PE.of (m_ ha hb) fun _ _ _ q=>Ow q
theorem Oz {a b:Ev.X} {Q:Bool->Hp->Prop} (x:tT Pg cl E d (.or a b) σ H Q):tOr (tT Pg cl E d a) (tT Pg cl E d b) σ H Q:=by
 obtain ⟨ρ,τ,h,n,s,r,p⟩:=(show tE Pg cl E d a σ H (fun v H1=>∃ c,v= .bl c/\if c=true then ∃ b,V.bl true= .bl b/\Q b H1 else tT Pg cl E d b σ H1 Q) from Rm x)
 refine ⟨ρ,τ,h,n,s,r,p.mono fun a h ρ H _ _ ⟨w,e,g⟩=>⟨w,e,fun v rv=>?_⟩⟩
 obtain ⟨c,ec,q⟩:=g v rv
 refine ⟨c,ec,?_⟩
 cases c with
 | false=>exact q
 | true=>
   obtain ⟨b,eb,q⟩:=(show ∃ b,V.bl true= .bl b/\Q b H from q)
   cases eb;exact q
theorem wg {a b:Expr} {rest:List Expr} {x y:Ev.X} {pos:Pos} (ha:PT X a (tT Pg cl E d x)) (hb:PW X (.BoolOp .Or (b::rest) pos) (tT Pg cl E d y)):PW X (.BoolOp .Or (a::b::rest) pos) (tT Pg cl E d (.or x y)):=PW.of (pw_or ha hb) fun _ _ _ q=>Oz q
theorem tu (n d:Nat) (o:Option Int):sIx n d o=HT.sIx n d o:=by
 cases o with
 | none=>rfl
 | some i=>cases i with
   | ofNat k=>
     show ifB (Nat.ble k n) k n=if (Int.ofNat k) < 0 then ((Int.ofNat k) + (n:Int)).toNat else min (Int.ofNat k).toNat n
     rw [if_neg (by show ¬ (k:Int) < 0;omega),ble_eq]
     show _=min k n
     by_cases c:k <= n
     · rw [decide_eq_true c,Nat.min_eq_left c];rfl
     · rw [decide_eq_false c,Nat.min_eq_right (by omega)];rfl
   | negSucc k=>
     show n - (k + 1)=if (Int.negSucc k) < 0 then ((Int.negSucc k) + (n:Int)).toNat else min (Int.negSucc k).toNat n
     rw [if_pos (by omega)]
     omega
def tO (o:Option Ev.X) (Pg:List Fn) (cl:Cn) (E:XK) (d:Nat):TO:=match o with
 | none=>A_
 | some e=>JL (tE Pg cl E d e)
theorem uF:PO X none (tO none Pg cl E d):=Km
theorem uG {e:Expr} {x:Ev.X} (h:PE X e (tE Pg cl E d x)):PO X (some e) (tO (some x) Pg cl E d):=Ko h
theorem Bu {e:Option Ev.X} {ρ:List Addr} {τ:Sg} {h:Hs} {n:Nat} {k:Option Int->Hs->R A} {P:A->Hs->List Addr->Hp->Prop} {Q:Option Int->Hp->Prop} (s:Sim cl ρ h H) (rs:RS ρ τ σ) (p:Post cl ρ H E (rm (bN Pg d) n e τ h k) P)
 (g:∀ i h1 ρ1 H1,Bt cl ρ H ρ1 H1->Sim cl ρ1 h1 H1->Post cl ρ1 H1 E (k i h1) P->Q i H1):tO e Pg cl E d σ H Q:=by
 cases e with
 | none=>exact g none h ρ H Bt.refl s p
 | some e=>
   refine ev.then s rs (show Post cl ρ H E ((evs Pg n d (.x e) τ h).bind fun a h=>a.toW fun w=>w.onI fun i=>k (some i) h) P from p) fun a1 h1 ρ1 H1 b1 s1 p1=>?_
   obtain ⟨w,rfl,p2⟩:=cM p1
   obtain ⟨i,rfl,p3⟩:=sV p2
   refine ⟨_,rfl,fun v rv=>?_⟩
   cases rv
   exact ⟨i,rfl,g (some i) h1 ρ1 H1 b1 s1 p3⟩
def OD (K:PySem.W.Frag):V->Option Int->Option Int->Hp->VK->Prop:=fun x lo hi H Q=>Nt K x lo hi H Q\/Nh K x lo hi H Q
theorem I_ {K:PySem.W.Frag} {a:Ev.X} {lo hi:Option Ev.X} {Q:VK} (x:tE Pg cl E d (.slice a lo hi) σ H Q):tSl (OD K) (tE Pg cl E d a) (tO lo Pg cl E d) (tO hi Pg cl E d) σ H Q:=by
 obtain ⟨ρ,τ,h,n,s,rs,z⟩:=x.step
 refine ev.then s rs (show Post cl ρ H E ((evs Pg n d (.x a) τ h).bind fun r h=>r.toW fun w=>rm (bN Pg d) n lo τ h fun l h=>rm (bN Pg d) n hi τ h fun u h=>h.at w fun _ o=>
  O.rec (fun xs=>ifB (ifB (Nat.beq (sIx (len xs) 0 l) 0) (Nat.beq (sIx (len xs) (len xs) u) (len xs)) false) .no (ofW (.alloc h (.tup (tak (drp xs (sIx (len xs) 0 l)) (sIx (len xs) (len xs) u - sIx (len xs) 0 l)))))) (fun xs=>ofW (.alloc h (.lst (tak (drp xs (sIx (len xs) 0 l)) (sIx (len xs) (len xs) u - sIx (len xs) 0 l))))) (fun _ _=>.no) (fun _=>.no) (fun _=>.no) o) (VP Q) from z) fun a1 h1 ρ1 H1 b1 s1 p1=>?_
 obtain ⟨w,rfl,p2⟩:=cM p1
 refine ⟨w,rfl,fun v rv=>?_⟩
 refine Bu s1 (rs.mono b1.1) p2 fun l h2 ρ2 H2 b2 s2 p3=>?_
 refine Bu s2 ((rs.mono b1.1).mono b2.1) p3 fun u h3 ρ3 H3 b3 s3 p4=>?_
 obtain ⟨k,o,ad,_,rfl,e1,g1,x1,p5⟩:=at_of s3 (rv.mono (b2.1.trans b3.1)) p4
 cases o with
 | lst xs=>
   obtain ⟨vs,ru,q⟩:=x1
   have p6:Post cl ρ3 H3 E (ofW (.alloc h3 (.lst (tak (drp xs (sIx (len xs) 0 l)) (sIx (len xs) (len xs) u - sIx (len xs) 0 l))))) (VP Q):=p5
   rw [xW,xV,len_eq,tu,tu,ru.length] at p6
   exact .inl ⟨ad,vs,rfl,SqL.of q,fun p hp=>Post.newL s3 p6 hp ((ru.drop _).take _)⟩
 | tup xs=>
   obtain ⟨vs,ru,q⟩:=x1
   have p6:Post cl ρ3 H3 E (ifB (ifB (Nat.beq (sIx (len xs) 0 l) 0) (Nat.beq (sIx (len xs) (len xs) u) (len xs)) false) .no (ofW (.alloc h3 (.tup (tak (drp xs (sIx (len xs) 0 l)) (sIx (len xs) (len xs) u - sIx (len xs) 0 l)))))) (VP Q):=p5
   rw [xW,xV,len_eq,tu,tu,ru.length] at p6
   refine .inr ⟨ad,vs,rfl,SqT.of q,?_,fun p hp=>?_⟩
   · rintro ⟨c1,c2⟩
     rw [ir.mpr c1,ir.mpr c2] at p6
     exact p6.elim
   · cases c:ifB (Nat.beq (HT.sIx vs.length 0 l) 0) (Nat.beq (HT.sIx vs.length vs.length u) vs.length) false with
     | true=>rw [c] at p6;exact p6.elim
     | false=>rw [c] at p6;exact Post.Dw s3 p6 hp ((ru.drop _).take _)
 | _=>exact p5.elim
theorem rB {e:Expr} {lo hi:Option Expr} {x:Ev.X} {xl xh:Option Ev.X} {pos p2:Pos} (he:PE X e (tE Pg cl E d x)) (hl:PO X lo (tO xl Pg cl E d)) (hh:PO X hi (tO xh Pg cl E d)):PE X (.Subscript e (.Slice lo hi none p2) pos) (tE Pg cl E d (.slice x xl xh)):=
 PE.of (Ih (Kr.or Ni) he hl hh) fun _ _ _ q=>I_ q
theorem j0 {a b:Expr} {x y:Ev.X} {pos:Pos} (ha:PE X a (tE Pg cl E d x)) (hb:PE X b (tE Pg cl E d y)) (hs:Ba b:=by exact fun _ _=>rfl):PE X (.Subscript a b pos) (tE Pg cl E d (.pr .ix [x,y])):=
 PE.of (sE Fp ha hb hs) fun _ _ _ q=>pP Tu q
theorem tD {es:List Expr} {xs:List Ev.X} {x1 pos} (h:PA X es (tA Pg cl E d xs)):PE X (.Tuple es x1 pos) (tE Pg cl E d (.pr .tup xs)):=PE.of (xg h) fun _ _ _ q=>Dy Rf q
theorem dW {es:List Expr} {xs:List Ev.X} {pos} (h:PA X es (tA Pg cl E d xs)):PE X (.List es pos) (tE Pg cl E d (.pr .lst xs)):=PE.of (xj h) fun _ _ _ q=>Dy Rg q
theorem K3 {K:PySem.W.Frag} {p:Pr} {r:V->List V->Hp->VK->Prop} (o:OpM cl p r) {a:Ev.X} {as:List Ev.X} {Q:VK} (x:tE Pg cl E d (.lm p a as) σ H Q):tBM K "list" r (tE Pg cl E d a) (tA Pg cl E d as) σ H Q:=by
 obtain ⟨ρ,τ,h,n,s,rs,q⟩:=x.step
 refine ev.then s rs (show Post cl ρ H E ((evs Pg n d (.x a) τ h).bind fun r h=>r.toW fun w=>h.at w fun _ o=>o.onL fun _=>(evs Pg n d (.a as) τ h).bind fun r h=>r.toL fun ws=>ofW (eO p (w::ws) h)) (VP Q) from q) fun a1 h1 ρ1 H1 b1 s1 p1=>?_
 obtain ⟨w1,rfl,p2⟩:=cM p1
 refine ⟨w1,rfl,fun v1 rv1=>?_⟩
 obtain ⟨k,ob,ad,rfl,rfl,e1,g1,x1,p3⟩:=at_of s1 rv1 p2
 obtain ⟨xs,rfl,p4⟩:=Oi p3
 obtain ⟨vs,ru,qh⟩:=x1
 refine ⟨.inl ⟨rfl,_,SqL.of qh⟩,?_⟩
 refine ev.then s1 (rs.mono b1.1) p4 fun a2 h2 ρ2 H2 b2 s2 p5=>?_
 obtain ⟨ws,rfl,p6⟩:=nM p5
 exact ⟨ws,rfl,fun us ru'=>o E ρ2 h2 H2 _ _ ws us Q s2 (rv1.mono b2.1) ru' p6⟩
theorem tH {p:Pr} {r:V->List V->Hp->VK->Prop} {o e:Expr} {es:List Expr} {x y:Ev.X} {ys:List Ev.X} {name:Str} {id:String} {apos cpos:Pos} (z:OpM cl p r) (slot:Slot "list" name id) (hty:typeOf (.builtin id)=pure (.type "method_descriptor")) (hm:MtM X id r)
 (ho:PE X o (tE Pg cl E d x)) (ha:PA X (e::es) (tA Pg cl E d (y::ys))) (hbase:attributeBase o name X.env (eval o X.env)=eval o X.env:=by rfl)
 (hfew:((backTo cpos (starEach (e::es) X.env)).all (fun x=> !x.1) && (backToKw cpos (keywordEach [] X.env)).all (fun x=>x.1.isSome)
   && decide ((e::es).length + ([]:List Keyword).length + (if ([]:List Keyword).isEmpty then 0 else 1) < 30))=true:=by rfl)
 (hline:(apos.endLine == cpos.line)=true:=by rfl) (hs:starEach (e::es) X.env=(false,eval e X.env)::starEach es X.env:=by rfl) (hplain:(backTo cpos (starEach es X.env)).any (·.1)=false:=by rfl):
 PE X (.Call (.Attribute o name apos) (e::es) [] cpos) (tE Pg cl E d (.lm p x (y::ys))):=PE.of (De PySem.F.plainAttrs_list slot hty hm ho ha hbase hfew hline hs hplain) fun _ _ _ q=>K3 z q
theorem dB {p:Pr} {r:List V->Hp->VK->Prop} {x:Str} {e:Expr} {es:List Expr} {y:Ev.X} {ys:List Ev.X} {id:String} {pos q:Pos} (z:OpN cl p r) (hc:cU X (.builtin id) r) (hg:Gl X x) (hm:X.mg x=none) (hv:bootBuiltins x=some (.builtin id)) (ha:PA X (e::es) (tA Pg cl E d (y::ys))) (hn:x ≠ "__name__":=by decide) (hdb:(x == ("__debug__":Str))=false:=by decide)
 (he:starEach (e::es) X.env=(false,eval e X.env)::starEach es X.env:=by rfl) (hpl:(backTo pos (starEach es X.env)).any (·.1)=false:=by rfl):PE X (.Call (.Name x q) (e::es) [] pos) (tE Pg cl E d (.pr p (y::ys))):=
 PE.of (aU hc hg hm hv ha hn hdb he hpl) fun _ _ _ q=>Dy z q
end
end Ev
set_option maxRecDepth 100000
set_option maxHeartbeats 4000000
namespace Ev
open PySem PySem.Spec PySem.SeqAt PyProof.Rows L2
section
mutual
def vars:Tg->List Nat
 | .nm i=>[i]
 | .tup ts=>oh ts
def oh:List Tg->List Nat
 | []=>[]
 | t::ts=>vars t ++ oh ts
end
def Off (vs:List Nat) (σ σ':L2.St):Prop:=σ'.length=σ.length/\∀ i,i ∉ vs->σ'[i]? =σ[i]?
theorem Off.refl {vs:List Nat} {σ:L2.St}:Off vs σ σ:=⟨rfl,fun _ _=>rfl⟩
theorem Off.trans {vs us:List Nat} {σ σ' OJ:L2.St} (a:Off vs σ σ') (b:Off us σ' OJ):Off (vs ++ us) σ OJ:=⟨b.1.trans a.1,fun i hi=>by
 rw [List.mem_append] at hi
 exact (b.2 i fun z=>hi (.inr z)).trans (a.2 i fun z=>hi (.inl z))⟩
def tG (cl:Cn) (t:Tg):TG:=fun v σ H Q=>∃ ρ h w τ n τ',Sim cl ρ h H/\RW ρ w v/\RS ρ τ σ/\aM h n t w τ=some τ'/\∀ σ',RS ρ τ' σ'->Off (vars t) σ σ'->Q σ' H
def tGs (cl:Cn) (ts:List Tg):TGs:=fun vs σ H Q=>∃ ρ h ws τ n τ',Sim cl ρ h H/\RWs ρ ws vs/\RS ρ τ σ/\bindL (aM h n) ts ws τ=some τ'/\∀ σ',RS ρ τ' σ'->Off (oh ts) σ σ'->Q σ' H
variable {Pg:List Fn} {cl:Cn} {E:XK} {d:Nat} {X:Cx} {σ:L2.St} {H:Hp}
theorem PG.of {e:Expr} {t t':TG} (h:PG X e t) (f:∀ v σ H Q,t' v σ H Q->t v σ H Q):PG X e t':=fun pins s σ H v u Q I r q=>h pins s σ H v u Q I r (f v σ H Q q)
theorem PGs.of {e:List Expr} {t t':TGs} (h:PGs X e t) (f:∀ v σ H Q,t' v σ H Q->t v σ H Q):PGs X e t':=fun pins s σ H v u Q I r q=>h pins s σ H v u Q I r (f v σ H Q q)
theorem ou {i:Nat} {v:V} {Q:L2.St->Hp->Prop} (x:tG cl (.nm i) v σ H Q):vW i v σ H Q:=by
 obtain ⟨ρ,h,w,τ,n,τ',s,r,rs,e,q⟩:=x
 cases n with
 | zero=>cases e
 | succ n=>
   have e:some (setAt τ (some w) i)=some τ':=e
   cases e
   refine q _ (rs.set r i) ⟨List.length_set,fun j hj=>?_⟩
   have ne:i ≠ j:=fun z=>hj (by simp [vars,z])
   rw [List.getElem?_set_ne ne]
theorem K4 {i:Nat} {x:Str} {pos:Pos} (hN:X.N.Nodup) (hi:X.N[i]? =some x) (hx:Loc X.env.scope x) (hf:X.fn x=true\/X.env.scope.names.lookup x=some .local:=by first | exact .inl rfl | exact .inr rfl | assumption):PG X (.Name x pos) (tG cl (.nm i)):=PG.of (uq hN hi hx hf) fun _ _ _ _ q=>ou q
theorem fQ:PGs X [] (tGs cl []):=PGs.of Kf fun vs σ H Q x=>by
 obtain ⟨ρ,h,ws,τ,n,τ',s,r,rs,e,q⟩:=x
 cases r with
 | nil=>
   have e:some τ=some τ':=e
   cases e
   exact ⟨rfl,q σ rs Off.refl⟩
 | cons _ _=>cases e
theorem bh {e:Expr} {es:List Expr} {t:Tg} {ts:List Tg} (h1:PG X e (tG cl t)) (h2:PGs X es (tGs cl ts)) (hs:(assignEach (e::es) X.env).map (·.2)=assign e X.env::(assignEach es X.env).map (·.2):=by rfl):PGs X (e::es) (tGs cl (t::ts)):=
 PGs.of (HF h1 h2 hs) fun vs σ H Q x=>by
 obtain ⟨ρ,h,ws,τ,n,τ',s,r,rs,e,q⟩:=x
 cases r with
 | nil=>cases e
 | @cons w v ws vs r1 rt=>
   have e:Option.rec none (fun τ=>bindL (aM h n) ts ws τ) (aM h n t w τ)=some τ':=e
   cases e1:aM h n t w τ with
   | none=>rw [e1] at e;cases e
   | some τ1=>
     rw [e1] at e
     refine ⟨v,vs,rfl,ρ,h,w,τ,n,τ1,s,r1,rs,e1,fun σ1 rs1 o1=>?_⟩
     exact ⟨ρ,h,ws,τ1,n,τ',s,rt,rs1,e,fun σ2 rs2 o2=>q σ2 rs2 (by have:=o1.trans o2;simpa [oh] using this)⟩
theorem iI {es:List Expr} {k:Nat} {ts:List Tg} {n:Nat} {pos:Pos} (hc:X.calm=true) (h:PGs X es (tGs cl ts)) (hl:ts.length=n:=by rfl)
 (hn:(assignEach es X.env).length=n:=by rfl) (hst:(assignEach es X.env).findIdx? (·.1)=none:=by rfl):PG X (.Tuple es k pos) (tG cl (.tup ts)):=PG.of (M6 hc h hn hst) fun v σ H Q x=>by
 obtain ⟨ρ,h,w,τ,m,τ',s,r,rs,e,q⟩:=x
 cases m with
 | zero=>cases e
 | succ m=>
   cases r with
   | @ref j a qa=>
     have e:Option.rec none (fun o=>O.rec (fun xs=>bindL (aM h m) ts xs τ) (fun _=>none) (fun _ _=>none) (fun _=>none) (fun _=>none) o) (h.get j)=some τ':=e
     cases hg:h.get j with
     | none=>rw [hg] at e;cases e
     | some o=>
       rw [hg] at e
       have x1:=s.at qa hg
       cases o with
       | tup xs=>
         have e:bindL (aM h m) ts xs τ=some τ':=e
         obtain ⟨vs,rv,qh⟩:=x1
         have len:∀ (ts:List Tg) (xs:List W) (τ τ':Sg),bindL (aM h m) ts xs τ=some τ'->xs.length=ts.length:=by
          intro ts
          induction ts with
          | nil=>intro xs τ τ' e;cases xs with
            | nil=>rfl
            | cons _ _=>cases e
          | cons t ts ih=>intro xs τ τ' e;cases xs with
            | nil=>cases e
            | cons y ys=>
              have e:Option.rec none (fun τ=>bindL (aM h m) ts ys τ) (aM h m t y τ)=some τ':=e
              cases e1:aM h m t y τ with
              | none=>rw [e1] at e;cases e
              | some τ1=>rw [e1] at e;exact congrArg (· + 1) (ih ys τ1 τ' e)
         refine ⟨a,vs,rfl,SqT.of qh,by rw [<- rv.length,len ts xs τ τ' e,hl],?_⟩
         exact ⟨ρ,h,xs,τ,m,τ',s,rv,rs,e,fun σ' rs' o'=>q σ' rs' (by simpa [vars] using o')⟩
       | _=>cases e
   | _=>cases e
theorem Gk {α:Type} (τ:Sg) (w:W) (i j:Nat):aN (setAt τ (some w) i) j=none->aN τ j=none/\(j=i->τ.length <= j):=by
 rw [jk,jl,jl]
 intro h
 by_cases z:i=j
 · subst z
   by_cases l:i < τ.length
   · rw [List.getElem?_set_self l] at h;cases h
   · refine ⟨?_,fun _=>Nat.not_lt.mp l⟩
     rw [List.getElem?_eq_none (Nat.not_lt.mp l)];rfl
 · rw [List.getElem?_set_ne z] at h
   exact ⟨h,fun q=>absurd q.symm z⟩
theorem bind_none {h:Hs}:∀ (n:Nat) {t:Tg} {w:W} {τ τ':Sg},aM h n t w τ=some τ'->τ'.length=τ.length/\∀ i,aN τ' i=none->aN τ i=none/\(i ∈ vars t->τ.length <= i)
 | 0,_,_,_,_,e=>nomatch e
 | n + 1,t,w,τ,τ',e=>by
   have lst:∀ (ts:List Tg) (ws:List W) (τ τ':Sg),bindL (aM h n) ts ws τ=some τ'->τ'.length=τ.length/\∀ i,aN τ' i=none->aN τ i=none/\(i ∈ oh ts->τ.length <= i):=by
    intro ts
    induction ts with
    | nil=>
      intro ws τ τ' e
      cases ws with
      | nil=>cases e;exact ⟨rfl,fun i hi=>⟨hi,fun z=>by simp [oh] at z⟩⟩
      | cons _ _=>cases e
    | cons t ts ih=>
      intro ws τ τ' e
      cases ws with
      | nil=>cases e
      | cons y ys=>
        have e:Option.rec none (fun τ=>bindL (aM h n) ts ys τ) (aM h n t y τ)=some τ':=e
        cases e1:aM h n t y τ with
        | none=>rw [e1] at e;cases e
        | some τ1=>
          rw [e1] at e
          obtain ⟨l1,a1⟩:=bind_none n e1
          obtain ⟨l2,a2⟩:=ih ys τ1 τ' e
          refine ⟨l2.trans l1,fun i hi=>?_⟩
          obtain ⟨b1,b2⟩:=a2 i hi
          obtain ⟨c1,c2⟩:=a1 i b1
          refine ⟨c1,fun z=>?_⟩
          simp only [oh,List.mem_append] at z
          rcases z with z | z
          · exact c2 z
          · rw [<- l1];exact b2 z
   cases t with
   | nm i=>
     have e:some (setAt τ (some w) i)=some τ':=e
     cases e
     refine ⟨by rw [jk,List.length_set],fun j hj=>?_⟩
     obtain ⟨a,b⟩:=Gk (α:=Unit) τ w i j hj
     exact ⟨a,fun z=>b (by simpa [vars] using z)⟩
   | tup ts=>
     cases w with
     | ref k=>
       have e:Option.rec none (fun o=>O.rec (fun xs=>bindL (aM h n) ts xs τ) (fun _=>none) (fun _ _=>none) (fun _=>none) (fun _=>none) o) (h.get k)=some τ':=e
       cases hg:h.get k with
       | none=>rw [hg] at e;cases e
       | some o=>
         rw [hg] at e
         cases o with
         | tup xs=>
           obtain ⟨a,b⟩:=lst ts xs τ τ' e
           exact ⟨a,fun i hi=>by simpa [vars] using b i hi⟩
         | _=>cases e
     | _=>cases e
theorem Bv {h:Hs} {n:Nat} {t:Tg} {w:W} {τ τ':Sg} {ρ:List Addr} {σ σ' σ0:L2.St} (e:aM h n t w τ=some τ') (rs:RS ρ τ σ) (o:Off (vars t) σ σ') (ag:Ag σ0 τ σ):Ag σ0 τ' σ':=fun i hi=>by
 obtain ⟨l,a⟩:=bind_none n e
 obtain ⟨b1,b2⟩:=a i hi
 have len:τ.length=σ.length:=Paired.length rs
 by_cases z:i ∈ vars t
 · have h1:=b2 z
   rw [<- ag i b1,List.getElem?_eq_none (by rw [o.1];omega),List.getElem?_eq_none (by omega)]
 · rw [o.2 i z];exact ag i b1
section
variable {σ0:L2.St}
theorem x_ {t:Tg} {e:Ev.X} {D:Ends} (x:tS Pg cl E d σ0 (.asg t e) D σ H):HH (tE Pg cl E d e) (tG cl t) D σ H:=by
 obtain ⟨ρ,τ,h,n,s,rs,ag,q⟩:=x.step
 refine ev.then s rs (show Post cl ρ H E ((evs Pg n d (.x e) τ h).bind fun r h=>r.toW fun w=>Opt (aM h 9 t w τ) fun τ=>.ok (.fl (.nx τ)) h) (SPo σ0 D) from q) fun a1 h1 ρ1 H1 b1 s1 p1=>?_
 obtain ⟨w,rfl,p2⟩:=cM p1
 obtain ⟨τ',e1,p3⟩:=fK p2
 refine ⟨w,rfl,fun v rv=>⟨ρ1,h1,w,τ,9,τ',s1,rv,rs.mono b1.1,e1,fun σ' rs' o1=>?_⟩⟩
 obtain ⟨f,ef,qf⟩:=p3.now s1
 cases ef
 exact qf σ' rs' (Bv e1 rs o1 ag)
theorem O1 {i:Nat} {x:Str} {e:Expr} {y:Ev.X} {pos pos':Pos} (hN:X.N.Nodup) (hi:X.N[i]? =some x) (hx:Loc X.env.scope x) (he:PE X e (tE Pg cl E d y)) (hs:swapsWith e (some (.Name x pos')) pos.line X.env=pure false:=by rfl) (hf:X.fn x=true\/X.env.scope.names.lookup x=some .local:=by first | exact .inl rfl | exact .inr rfl | assumption):
 PS X (.Assign [.Name x pos'] e pos) (tS Pg cl E d σ0 (.asg (.nm i) y)):=PS.of (jH hN hi hx he hs hf) fun D σ H q=>by
 obtain ⟨ρ,τ,h,n,s,rs,p⟩:=x_ q
 exact ⟨ρ,τ,h,n,s,rs,p.mono fun a h ρ H _ _ ⟨w,e,g⟩=>⟨w,e,fun v rv=>ou (g v rv)⟩⟩
theorem kJ {e:Expr} {y:Ev.X} {pos:Pos} (he:PE X e (tE Pg cl E d y)) (hs:swapsWith e none pos.line X.env=pure false:=by rfl):PS X (.Expr e pos) (tS Pg cl E d σ0 (.expr y)):=PS.of (ni he hs) fun D σ H x=>by
 obtain ⟨ρ,τ,h,n,s,rs,ag,q⟩:=x.step
 refine ev.then s rs (show Post cl ρ H E ((evs Pg n d (.x y) τ h).bind fun r h=>r.toW fun _=>.ok (.fl (.nx τ)) h) (SPo σ0 D) from q) fun a1 h1 ρ1 H1 b1 s1 p1=>?_
 obtain ⟨w,rfl,p2⟩:=cM p1
 refine ⟨w,rfl,fun v rv=>?_⟩
 obtain ⟨f,ef,qf⟩:=p2.now s1
 cases ef
 exact qf σ (rs.mono b1.1) ag
theorem cH {e:Expr} {y:Ev.X} {pos:Pos} (he:PE X e (tE Pg cl E d y)):PS X (.Return (some e) pos) (tS Pg cl E d σ0 (.ret y)):=PS.of (dh he) fun D σ H x=>by
 obtain ⟨ρ,τ,h,n,s,rs,ag,q⟩:=x.step
 refine ev.then s rs (show Post cl ρ H E ((evs Pg n d (.x y) τ h).bind fun r h=>r.toW fun w=>.ok (.fl (.rt w)) h) (SPo σ0 D) from q) fun a1 h1 ρ1 H1 b1 s1 p1=>?_
 obtain ⟨w,rfl,p2⟩:=cM p1
 obtain ⟨f,ef,qf⟩:=p2.now s1
 cases ef
 exact ⟨w,rfl,qf⟩
theorem jx {c:Expr} {a b:List Stmt} {x:Ev.X} {sa sb:List S} {pos:Pos} (hc:PT X c (tT Pg cl E d x)) (ha:PSs X a (tSs Pg cl E d σ0 sa)) (hb:PSs X b (tSs Pg cl E d σ0 sb)):PS X (.If c a b pos) (tS Pg cl E d σ0 (.ife x sa sb)):=PS.of (jV hc ha hb) fun D σ H z=>by
 obtain ⟨ρ,τ,h,n,s,rs,ag,q⟩:=z.step
 refine ev.then s rs (show Post cl ρ H E ((evs Pg n d (.x x) τ h).bind fun r h=>r.toW fun w=>w.onB (evs Pg n d (.ss sb) τ h) (evs Pg n d (.ss sa) τ h)) (SPo σ0 D) from q) fun a1 h1 ρ1 H1 b1 s1 p1=>?_
 obtain ⟨w,rfl,p2⟩:=cM p1
 refine ⟨w,rfl,fun v rv=>?_⟩
 rcases sW p2 with ⟨rfl,p3⟩ | ⟨rfl,p3⟩
 · cases rv
   exact ⟨true,rfl,b_ ⟨ρ1,τ,h1,n,s1,rs.mono b1.1,ag,p3⟩⟩
 · cases rv
   exact ⟨false,rfl,aX ⟨ρ1,τ,h1,n,s1,rs.mono b1.1,ag,p3⟩⟩
theorem aA:PSs X [] (tSs Pg cl E d σ0 []):=PSs.of ig fun D σ H x=>by
 obtain ⟨ρ,τ,h,n,s,rs,ag,q⟩:=x.step
 obtain ⟨f,ef,qf⟩:=Post.now s (show Post cl ρ H E (.ok (.fl (.nx τ)) h) (SPo σ0 D) from q)
 cases ef
 exact qf σ rs ag
theorem ak {st:Stmt} {rest:List Stmt} {a:S} {as:List S} (h1:PS X st (tS Pg cl E d σ0 a)) (h2:PSs X rest (tSs Pg cl E d σ0 as)):PSs X (st::rest) (tSs Pg cl E d σ0 (a::as)):=PSs.of (bG h1 h2) fun D σ H x=>by
 obtain ⟨ρ,τ,h,n,s,rs,ag,q⟩:=x.step
 refine evS.then s rs ag (show Post cl ρ H E ((evs Pg n d (.s a) τ h).bind fun r h=>r.toF fun f=>Fl.rec (fun τ=>evs Pg n d (.ss as) τ h) (fun w=>.ok (.fl (.rt w)) h) (fun τ=>.ok (.fl (.bk τ)) h) (fun τ=>.ok (.fl (.ct τ)) h) f) (SPo σ0 D) from q) fun a1 h1 ρ1 H1 b1 s1 p1=>?_
 obtain ⟨f,rfl,p2⟩:=sU p1
 refine ⟨f,rfl,?_⟩
 cases f with
 | nx τ1=>exact fun σ1 rs1 ag1=>⟨ρ1,τ1,h1,n,s1,rs1,ag1,p2⟩
 | rt w=>
   obtain ⟨f,ef,qf⟩:=Post.now s1 (show Post cl ρ1 H1 E (.ok (.fl (.rt w)) h1) (SPo σ0 D) from p2)
   cases ef;exact qf
 | bk τ1=>
   obtain ⟨f,ef,qf⟩:=Post.now s1 (show Post cl ρ1 H1 E (.ok (.fl (.bk τ1)) h1) (SPo σ0 D) from p2)
   cases ef;exact qf
 | ct τ1=>
   obtain ⟨f,ef,qf⟩:=Post.now s1 (show Post cl ρ1 H1 E (.ok (.fl (.ct τ1)) h1) (SPo σ0 D) from p2)
   cases ef;exact qf
end
inductive gZ (K:PySem.W.Frag) (ρ:List Addr):Iv->It->Prop
 | lst {n a}:ρ[n]? =some a->gZ K ρ (.lst n) (Itl K a)
 | tup {n a}:ρ[n]? =some a->gZ K ρ (.tup n) (Itt K a)
 | rng (lo n):gZ K ρ (.rng lo n) (Itr lo n)
 | zip {n m a b}:ρ[n]? =some a->ρ[m]? =some b->gZ K ρ (.zip n m) (Itz K a b)
 | dwn (lo n):gZ K ρ (.dwn lo n) (Itd lo n)
theorem gZ.mono {K:PySem.W.Frag} {ρ ρ':List Addr} (e:ρ <+:ρ') {v:Iv} {J:It} (x:gZ K ρ v J):gZ K ρ' v J:=by
 cases x with
 | lst h=>exact .lst (fP e h)
 | tup h=>exact .tup (fP e h)
 | rng lo n=>exact .rng lo n
 | zip h h'=>exact .zip (fP e h) (fP e h')
 | dwn lo n=>exact .dwn lo n
theorem Bw {K:PySem.W.Frag} {ρ:List Addr} {h:Hs} {v:Iv} {J:It} {i:Nat} {fin:R A} {go:W->Hs->R A} {P:A->Hs->List Addr->Hp->Prop} (s:Sim cl ρ h H) (x:gZ K ρ v J) (p:Post cl ρ H E (v.next i h fin go) P):
 (J.stop i H/\Post cl ρ H E fin P)\/(J.go i H/\∃ w h',∀ y H',J.yld i H y H'->∃ ρ',Bt cl ρ H ρ' H'/\Sim cl ρ' h' H'/\RW ρ' w y/\Post cl ρ' H' E (go w h') P):=by
 have here:∀ {w:W} {v':V},RW ρ w v'->Post cl ρ H E (go w h) P->(∀ y H',J.yld i H y H'->H'=H/\y=v')->∃ w h',∀ y H',J.yld i H y H'->∃ ρ',Bt cl ρ H ρ' H'/\Sim cl ρ' h' H'/\RW ρ' w y/\Post cl ρ' H' E (go w h') P:=fun {w v'} rw p f=>⟨w,h,fun y H' z=>by
  obtain ⟨rfl,rfl⟩:=f y H' z
  exact ⟨ρ,Bt.refl,s,rw,p⟩⟩
 cases x with
 | @lst n a e=>
   obtain ⟨o,ho,p1⟩:=fK (show Post cl ρ H E (Opt (h.get n) fun o=>o.onS fun xs=>Option.rec fin (fun w=>go w h) (nth xs i)) P from p)
   have x1:=s.at e ho
   cases o with
   | lst xs=>
     obtain ⟨vs,rv,q⟩:=x1
     have p2:Post cl ρ H E (Option.rec fin (fun w=>go w h) (nth xs i)) P:=p1
     rw [iH] at p2
     have hl:=rv.length
     cases hx:xs[i]? with
     | none=>
       rw [hx] at p2
       exact .inl ⟨⟨vs,SqL.of q,by have:=List.getElem?_eq_none_iff.mp hx;omega⟩,p2⟩
     | some w=>
       rw [hx] at p2
       obtain ⟨v',ev,rw⟩:=rv.get hx
       exact .inr ⟨⟨vs,v',SqL.of q,ev⟩,here rw p2 fun y H' z=>⟨z.1,by
        have:=z.2 vs (SqL.of q)
        rw [ev] at this
        exact (Option.some.inj this).symm⟩⟩
   | _=>exact p1.elim
 | @tup n a e=>
   obtain ⟨o,ho,p1⟩:=fK (show Post cl ρ H E (Opt (h.get n) fun o=>o.onT fun xs=>Option.rec fin (fun w=>go w h) (nth xs i)) P from p)
   have x1:=s.at e ho
   cases o with
   | tup xs=>
     obtain ⟨vs,rv,q⟩:=x1
     have p2:Post cl ρ H E (Option.rec fin (fun w=>go w h) (nth xs i)) P:=p1
     rw [iH] at p2
     have hl:=rv.length
     cases hx:xs[i]? with
     | none=>
       rw [hx] at p2
       exact .inl ⟨⟨vs,SqT.of q,by have:=List.getElem?_eq_none_iff.mp hx;omega⟩,p2⟩
     | some w=>
       rw [hx] at p2
       obtain ⟨v',ev,rw⟩:=rv.get hx
       exact .inr ⟨⟨vs,v',SqT.of q,ev⟩,here rw p2 fun y H' z=>⟨z.1,by
        have:=z.2 vs (SqT.of q)
        rw [ev] at this
        exact (Option.some.inj this).symm⟩⟩
   | _=>exact p1.elim
 | rng lo n=>
   have p1:Post cl ρ H E (Bool.rec fin (go (.int (lo + .ofNat i)) h) (Nat.ble (i + 1) n)) P:=p
   rw [ble_eq] at p1
   by_cases c:i + 1 <= n
   · rw [decide_eq_true c] at p1
     exact .inr ⟨c,here (.int _) p1 fun y H' z=>z⟩
   · rw [decide_eq_false c] at p1
     exact .inl ⟨by show n <= i;omega,p1⟩
 | dwn lo n=>
   have p1:Post cl ρ H E (Bool.rec fin (go (.int (lo - .ofNat i)) h) (Nat.ble (i + 1) n)) P:=p
   rw [ble_eq] at p1
   by_cases c:i + 1 <= n
   · rw [decide_eq_true c] at p1
     exact .inr ⟨c,here (.int _) p1 fun y H' z=>z⟩
   · rw [decide_eq_false c] at p1
     exact .inl ⟨by show n <= i;omega,p1⟩
 | @zip n m a b ea eb=>
   obtain ⟨o,ho,p1⟩:=fK (show Post cl ρ H E (Opt (h.get n) fun o=>o.onS fun xs=>Opt (h.get m) fun o=>o.onS fun ys=>Option.rec fin (fun x=>Option.rec fin (fun y=>go (.ref h.n) (h.push (.tup [x,y]))) (nth ys i)) (nth xs i)) P from p)
   have x1:=s.at ea ho
   cases o with
   | lst xs=>
     obtain ⟨vs,rv,q⟩:=x1
     obtain ⟨o2,ho2,p2⟩:=fK (show Post cl ρ H E (Opt (h.get m) fun o=>o.onS fun ys=>Option.rec fin (fun x=>Option.rec fin (fun y=>go (.ref h.n) (h.push (.tup [x,y]))) (nth ys i)) (nth xs i)) P from p1)
     have x2:=s.at eb ho2
     cases o2 with
     | lst ys=>
       obtain ⟨us,ru,q2⟩:=x2
       have p3:Post cl ρ H E (Option.rec fin (fun x=>Option.rec fin (fun y=>go (.ref h.n) (h.push (.tup [x,y]))) (nth ys i)) (nth xs i)) P:=p2
       rw [iH,iH] at p3
       have hl:=rv.length
       have hl2:=ru.length
       cases hx:xs[i]? with
       | none=>
         rw [hx] at p3
         exact .inl ⟨⟨vs,us,SqL.of q,SqL.of q2,.inl (by have:=List.getElem?_eq_none_iff.mp hx;omega)⟩,p3⟩
       | some x=>
         rw [hx] at p3
         cases hy:ys[i]? with
         | none=>
           have p4:Post cl ρ H E (Option.rec fin (fun y=>go (.ref h.n) (h.push (.tup [x,y]))) ys[i]?) P:=p3
           rw [hy] at p4
           exact .inl ⟨⟨vs,us,SqL.of q,SqL.of q2,.inr (by have:=List.getElem?_eq_none_iff.mp hy;omega)⟩,p4⟩
         | some y=>
           have p4:Post cl ρ H E (Option.rec fin (fun y=>go (.ref h.n) (h.push (.tup [x,y]))) ys[i]?) P:=p3
           rw [hy] at p4
           obtain ⟨x',ex,rx⟩:=rv.get hx
           obtain ⟨y',ey,ry⟩:=ru.get hy
           refine .inr ⟨⟨vs,us,x',y',SqL.of q,SqL.of q2,ex,ey⟩,.ref h.n,h.push (.tup [x,y]),fun v H' ⟨T,x2,y2,hT,hv,hH,f1,f2⟩=>?_⟩
           have e1:=f1 vs (SqL.of q)
           have e2:=f2 us (SqL.of q2)
           rw [ex] at e1
           rw [ey] at e2
           cases e1
           cases e2
           subst hv hH
           have pe:=List.prefix_append ρ [T]
           have s2:Sim cl (ρ ++ [T]) (h.push (.tup [x,y])) (upd H T (.tup [x',y'])):=s.push hT ⟨[x',y'],.cons (rx.mono pe) (.cons (ry.mono pe) .nil),aC⟩
           exact ⟨ρ ++ [T],Bt.new hT,s2,.ref (by rw [<- s.len,List.getElem?_append_right (Nat.le_refl _),Nat.sub_self];rfl),p4.later (Bt.new hT)⟩
     | _=>exact p2.elim
   | _=>exact p1.elim
def DI (Pg:List Fn) (cl:Cn) (E:XK) (d:Nat) (K:PySem.W.Frag) (i:I) (wi:TI):Prop:=∀ (σ:L2.St) (H:Hp) (R:It->Hp->Prop),ev Pg cl E d (.i i) σ H (fun r _ ρ1 H1=>∃ v,r= .iv v/\∀ J,gZ K ρ1 v J->R J H1)->wi σ H R
theorem PI.or {tg l:Expr} {w w':TI} (h:PI X tg l w) (h':PI X tg l w'):PI X tg l (fun σ H R=>w σ H R\/w' σ H R):=fun pins s σ H R I q=>q.elim (h pins s σ H R I) (h' pins s σ H R I)
theorem b7 {K:PySem.W.Frag} {e:Ev.X}:DI Pg cl E d K (.seq e) (fun σ H R=>CJ K (tE Pg cl E d e) σ H R\/HN K (tE Pg cl E d e) σ H R):=fun σ H R x=>by
 obtain ⟨ρ,τ,h,n,s,rs,q⟩:=x.step
 have q1:Post cl ρ H E ((evs Pg n d (.x e) τ h).bind fun r h=>r.toW fun w=>h.at w fun n o=>(O.casesOn (motive:=fun _=>Ev.R A) o (fun _=>.ok (.iv (.tup n)) h) (fun _=>.ok (.iv (.lst n)) h) (fun _ _=>.no) (fun _=>.no) (fun _=>.no))) (fun r _ ρ1 H1=>∃ v,r= .iv v/\∀ J,gZ K ρ1 v J->R J H1):=q
 have q2:=q1.bind
 cases er:evs Pg n d (.x e) τ h with
 | no=>rw [er] at q2;exact q2.elim
 | ex C fs h1=>exact .inl ⟨ρ,τ,h,n,s,rs,by rw [er] at q2 ⊢;exact q2⟩
 | ok a h1=>
   rw [er] at q1
   have q3:Post cl ρ H E (a.toW fun w=>h1.at w fun n o=>(O.casesOn (motive:=fun _=>Ev.R A) o (fun _=>.ok (.iv (.tup n)) h1) (fun _=>.ok (.iv (.lst n)) h1) (fun _ _=>.no) (fun _=>.no) (fun _=>.no))) (fun r _ ρ1 H1=>∃ v,r= .iv v/\∀ J,gZ K ρ1 v J->R J H1):=q1
   obtain ⟨w,rfl,q4⟩:=cM q3
   obtain ⟨k,rfl,q5⟩:=Ge q4
   obtain ⟨o,ho,q6⟩:=fK q5
   cases o with
   | lst xs=>
     refine .inl ⟨ρ,τ,h,n,s,rs,?_⟩
     rw [er]
     intro ρ1 H1 b1 s1
     refine ⟨_,rfl,fun v rv=>?_⟩
     cases rv with
     | @ref _ a ea=>
       obtain ⟨vs,rv,qh⟩:=s1.at ea ho
       obtain ⟨v,ev,g⟩:=(show Post cl ρ H E (.ok (A.iv (.lst k)) h1) _ from q6) ρ1 H1 b1 s1
       cases ev
       exact ⟨a,rfl,⟨vs,SqL.of qh⟩,g _ (.lst ea)⟩
   | tup xs=>
     refine .inr ⟨ρ,τ,h,n,s,rs,?_⟩
     rw [er]
     intro ρ1 H1 b1 s1
     refine ⟨_,rfl,fun v rv=>?_⟩
     cases rv with
     | @ref _ a ea=>
       obtain ⟨vs,rv,qh⟩:=s1.at ea ho
       obtain ⟨v,ev,g⟩:=(show Post cl ρ H E (.ok (A.iv (.tup k)) h1) _ from q6) ρ1 H1 b1 s1
       cases ev
       exact ⟨a,rfl,⟨vs,SqT.of qh⟩,g _ (.tup ea)⟩
   | _=>exact q6.elim
theorem pR {ρ:List Addr} {H:Hp} {i:Int} {k:R A} {P:A->Hs->List Addr->Hp->Prop} (p:Post cl ρ H E (within i k) P):(-(2 ^ 62) <= i/\i < 2 ^ 62)/\Post cl ρ H E k P:=by
 obtain ⟨c,p⟩:=sX p
 obtain ⟨c2,p⟩:=sX p
 rw [bA] at c c2
 have c:=of_decide_eq_true c
 have c2:=of_decide_eq_true c2
 exact ⟨⟨by omega,by omega⟩,p⟩
theorem K5 {ρ:List Addr} {H:Hp} {ws:List W} {vs:List V} {f:W->R A} {P:A->Hs->List Addr->Hp->Prop} (r:RWs ρ ws vs) (p:Post cl ρ H E (Du ws f) P):∃ w v,ws= [w]/\vs= [v]/\RW ρ w v/\Post cl ρ H E (f w) P:=by
 cases r with
 | nil=>exact p.elim
 | cons r1 t=>cases t with
   | nil=>exact ⟨_,_,rfl,rfl,r1,p⟩
   | cons _ _=>exact p.elim
theorem K6 {ρ:List Addr} {H:Hp} {ws:List W} {vs:List V} {f:W->W->R A} {P:A->Hs->List Addr->Hp->Prop} (r:RWs ρ ws vs) (p:Post cl ρ H E (uC ws f) P):∃ w v w' v',ws= [w,w']/\vs= [v,v']/\RW ρ w v/\RW ρ w' v'/\Post cl ρ H E (f w w') P:=by
 cases r with
 | nil=>exact p.elim
 | cons r1 t=>cases t with
   | nil=>exact p.elim
   | cons r2 t=>cases t with
     | nil=>exact ⟨_,_,_,_,rfl,rfl,r1,r2,p⟩
     | cons _ _=>exact p.elim
theorem uH {K:PySem.W.Frag} {as:List Ev.X}:DI Pg cl E d K (.uD as) (L2.JH (tA Pg cl E d as)):=fun σ H R x=>by
 obtain ⟨ρ,τ,h,n,s,rs,q⟩:=x.step
 refine ev.then s rs (show Post cl ρ H E ((evs Pg n d (.a as) τ h).bind fun r h=>r.toL fun ws=>Du ws fun w=>w.onI fun j=>within j (.ok (A.iv (.rng 0 j.toNat)) h)) (fun r _ ρ1 H1=>∃ v,r= .iv v/\∀ J,gZ K ρ1 v J->R J H1) from q) fun a1 h1 ρ1 H1 b1 s1 p1=>?_
 obtain ⟨ws,rfl,p2⟩:=nM p1
 refine ⟨ws,rfl,fun vs rv=>?_⟩
 obtain ⟨w,v,rfl,rfl,r1,p3⟩:=K5 rv p2
 obtain ⟨j,rfl,p4⟩:=sV p3
 obtain ⟨c,p5⟩:=pR p4
 cases r1
 obtain ⟨v,ev,g⟩:=p5.now s1
 cases ev
 exact ⟨j,rfl,c.1,c.2,g _ (.rng _ _)⟩
theorem Bx {K:PySem.W.Frag} {as:List Ev.X}:DI Pg cl E d K (.Dv as) (L2.JK (tA Pg cl E d as)):=fun σ H R x=>by
 obtain ⟨ρ,τ,h,n,s,rs,q⟩:=x.step
 refine ev.then s rs (show Post cl ρ H E ((evs Pg n d (.a as) τ h).bind fun r h=>r.toL fun ws=>uC ws fun v w=>v.onI fun i=>w.onI fun j=>within i (within j (.ok (A.iv (.rng i (j - i).toNat)) h))) (fun r _ ρ1 H1=>∃ v,r= .iv v/\∀ J,gZ K ρ1 v J->R J H1) from q) fun a1 h1 ρ1 H1 b1 s1 p1=>?_
 obtain ⟨ws,rfl,p2⟩:=nM p1
 refine ⟨ws,rfl,fun vs rv=>?_⟩
 obtain ⟨w,v,w',v',rfl,rfl,r1,r2,p3⟩:=K6 rv p2
 obtain ⟨i,rfl,p4⟩:=sV p3
 obtain ⟨j,rfl,p5⟩:=sV p4
 obtain ⟨c,p6⟩:=pR p5
 obtain ⟨c2,p7⟩:=pR p6
 cases r1;cases r2
 obtain ⟨v,ev,g⟩:=p7.now s1
 cases ev
 exact ⟨i,j,rfl,⟨c.1,c.2,c2.1,c2.2⟩,g _ (.rng _ _)⟩
section
variable {σ0:L2.St}
theorem O3 {K:PySem.W.Frag} {i:I} {t:Tg} {b:List S} {wi:TI} {D:Ends} (di:DI Pg cl E d K i wi) (x:tS Pg cl E d σ0 (.for_ i t b) D σ H):M8 wi (tG cl t) (tSs Pg cl E d σ0 b) D σ H:=by
 obtain ⟨ρ,τ,h,n,s,rs,ag,q⟩:=x.step
 refine di σ H _ (ev.then s rs (show Post cl ρ H E ((evs Pg n d (.i i) τ h).bind fun r h=>r.toV fun v=>evs Pg n d (.lp v 0 t b) τ h) (SPo σ0 D) from q) fun a1 h1 ρ1 H1 b1 s1 p1=>?_)
 obtain ⟨v,rfl,p2⟩:=xY p1
 refine ⟨v,rfl,fun J hJ=>?_⟩
 refine ⟨fun i m σ H=>∃ ρ τ h,Sim cl ρ h H/\RS ρ τ σ/\Ag σ0 τ σ/\gZ K ρ v J/\Post cl ρ H E (evs Pg m d (.lp v i t b) τ h) (SPo σ0 D),⟨n,ρ1,τ,h1,s1,rs.mono b1.1,ag,hJ,p2⟩,?_⟩
 rintro i m σ2 H2 ⟨ρ2,τ2,h2,s2,rs2,ag2,j2,p3⟩
 cases m with
 | zero=>exact p3.elim
 | succ m=>
   have p4:Post cl ρ2 H2 E (v.next i h2 (.ok (.fl (.nx τ2)) h2) fun w h2=>Opt (aM h2 9 t w τ2) fun τ=>(evs Pg m d (.ss b) τ h2).bind fun r h=>r.toF fun f=>qz h f fun τ=>evs Pg m d (.lp v (i + 1) t b) τ h) (SPo σ0 D):=p3
   rcases Bw s2 j2 p4 with ⟨st,p5⟩ | ⟨go,w,h2',yl⟩
   · obtain ⟨f,ef,qf⟩:=p5.now s2
     cases ef
     exact .inl ⟨st,qf σ2 rs2 ag2⟩
   · refine .inr ⟨go,fun σ' H'=>∃ ρ τ h,Sim cl ρ h H'/\RS ρ τ σ'/\Ag σ0 τ σ'/\gZ K ρ v J/\Post cl ρ H' E (evs Pg m d (.lp v (i + 1) t b) τ h) (SPo σ0 D),fun σ' H' z=>⟨m,Nat.lt_succ_self m,z⟩,fun y H' yy=>?_⟩
     obtain ⟨yd,bb,s2',rw,p5⟩:=yl y H' yy
     obtain ⟨τ3,e3,p6⟩:=fK p5
     have O4:=rs2.mono bb.1
     have j2:=j2.mono bb.1
     refine ⟨yd,h2',w,τ2,9,τ3,s2',rw,O4,e3,fun σ3 rs3 o3=>?_⟩
     refine evS.then s2' rs3 (Bv e3 O4 o3 ag2) p6 fun a4 h4 ρ4 H4 b4 s4 p7=>?_
     obtain ⟨f,rfl,p8⟩:=sU p7
     refine ⟨f,rfl,?_⟩
     cases f with
     | nx τ4=>exact fun σ4 rs4 ag4=>⟨ρ4,τ4,h4,s4,rs4,ag4,j2.mono b4.1,p8⟩
     | ct τ4=>exact fun σ4 rs4 ag4=>⟨ρ4,τ4,h4,s4,rs4,ag4,j2.mono b4.1,p8⟩
     | rt w4=>
       obtain ⟨f,ef,qf⟩:=Post.now s4 (show Post cl ρ4 H4 E (.ok (.fl (.rt w4)) h4) (SPo σ0 D) from p8)
       cases ef;exact qf
     | bk τ4=>
       obtain ⟨f,ef,qf⟩:=Post.now s4 (show Post cl ρ4 H4 E (.ok (.fl (.nx τ4)) h4) (SPo σ0 D) from p8)
       cases ef;exact qf
theorem jO {iter tg:Expr} {body:List Stmt} {wi:TI} {i:I} {t:Tg} {b:List S} {pos:Pos} (hp:PassesOwn (model X.prog X.w) X.A X.env X.xe) (hc:X.calm=true) (di:DI Pg cl E d X.K i wi) (hi:PI X tg iter wi) (hg:PG X tg (tG cl t)) (hb:PSs X body (tSs Pg cl E d σ0 b))
 (hs:∀ x,foldedSetIterable iter X.env x=pure x:=by intro _;rfl):PS X (.For tg iter body [] pos) (tS Pg cl E d σ0 (.for_ i t b)):=PS.of (Fb hp hc hi hg hb hs) fun _ _ _ q=>O3 di q
end
end
end Ev
set_option maxRecDepth 100000
set_option maxHeartbeats 4000000
namespace Ev
open PySem PySem.Spec PySem.SeqAt PyProof.Rows L2
section
variable {Pg:List Fn} {cl:Cn} {E:XK} {d:Nat} {X:Cx} {σ:L2.St} {H:Hp}
def tCd (Pg:List Fn) (cl:Cn) (d:Nat):Option Ev.X->TT
 | none=>JP
 | some c=>tT Pg cl E0 d c
theorem DN:∀ {σ σ':L2.St},σ'.length=σ.length->(∀ (i:Nat) (v:V),σ[i]? =some (some v)->σ'[i]? =some (some v))->Wk σ σ'
 | [],[],_,_=>trivial
 | [],_::_,h,_=>by simp at h
 | _::_,[],h,_=>by simp at h
 | none::r,b::r',h,f=>by
   show Wk r r'
   exact DN (by simpa using h) fun i v e=>by simpa using f (i + 1) v (by simpa using e)
 | some a::r,b::r',h,f=>by
   have hb:=f 0 a rfl
   refine ⟨by simpa using hb,DN (by simpa using h) fun i v e=>by simpa using f (i + 1) v (by simpa using e)⟩
theorem Off.wk {vs:List Nat} {σ σ':L2.St} (o:Off vs σ σ') (h:∀ i ∈ vs,σ[i]? =some none):Wk σ σ':=DN o.1 fun i v e=>by
 by_cases hi:i ∈ vs
 · rw [h i hi] at e;cases e
 · rw [o.2 i hi];exact e
def Inn (Pg:List Fn) (cl:Cn) (d:Nat) (e:Ev.X) (D0:Nat) (D:Addr) (m:Option G) (C:L2.St->Prop) (tin:TN):Prop:=∀ (σ1:L2.St) (τ1:Sg) (h:Hs) (ρ:List Addr) (H:Hp) (n:Nat) (k:Hs->R A) (P:A->Hs->List Addr->Hp->Prop) (N:Hp->Prop),Sim cl ρ h H->RS ρ τ1 σ1->ρ[D0]? =some D->C σ1->
 Post cl ρ H E0 (inner (bN Pg d) n τ1 h e D0 m k) P->(∀ h' ρ' H',Bt cl ρ H ρ' H'->Sim cl ρ' h' H'->Post cl ρ' H' E0 (k h') P->N H')->tin σ1 H N
theorem By {K:PySem.W.Frag} {v:Iv} {J:It} {t:Tg} {c:Option Ev.X} {m:Option G} {e:Ev.X} {D0:Nat} {D:Addr} {C:L2.St->Prop} {tin:TN} (hin:Inn Pg cl d e D0 D m C tin) {ρ:List Addr} {h:Hs} {τ:Sg} {n:Nat} {P:A->Hs->List Addr->Hp->Prop} {Q:Hp->Prop}
 (s:Sim cl ρ h H) (rs:RS ρ τ σ) (hJ:gZ K ρ v J) (hD:ρ[D0]? =some D) (hv:∀ i ∈ vars t,σ[i]? =some none) (hC:∀ σ1,Off (vars t) σ σ1->C σ1) (p:Post cl ρ H E0 (evs Pg n d (.cl v 0 t c m e D0) τ h) P)
 (hQ:∀ r h' ρ' H',Bt cl ρ H ρ' H'->Sim cl ρ' h' H'->P r h' ρ' H'->Q H'):sH J (tG cl t) (tCd Pg cl d c) tin σ H Q:=by
 refine ⟨fun i m' H'=>∃ ρ' h',Bt cl ρ H ρ' H'/\Sim cl ρ' h' H'/\Post cl ρ' H' E0 (evs Pg m' d (.cl v i t c m e D0) τ h') P,⟨n,ρ,h,Bt.refl,s,p⟩,?_⟩
 rintro i m' H2 ⟨ρ2,h20,b2,s20,p2⟩
 cases m' with
 | zero=>exact p2.elim
 | succ m'=>
   have p3:Post cl ρ2 H2 E0 (v.next i h20 (.ok .u h20) fun w h2=>Opt (aM h2 9 t w τ) fun τ1=>
    test (bN Pg d) m' τ1 h2 c (fun h=>evs Pg m' d (.cl v (i + 1) t c m e D0) τ h) (fun h=>inner (bN Pg d) m' τ1 h e D0 m fun h=>evs Pg m' d (.cl v (i + 1) t c m e D0) τ h)) P:=p2
   rcases Bw s20 (hJ.mono b2.1) p3 with ⟨st,p4⟩ | ⟨go,w,h2,yl⟩
   · exact .inl ⟨st,hQ _ _ _ _ b2 s20 (p4.now s20)⟩
   · refine .inr ⟨go,fun H'=>∃ ρ' h',Bt cl ρ H ρ' H'/\Sim cl ρ' h' H'/\Post cl ρ' H' E0 (evs Pg m' d (.cl v (i + 1) t c m e D0) τ h') P,fun H' z=>⟨m',Nat.lt_succ_self m',z⟩,fun y H' yy=>?_⟩
     obtain ⟨yd,bb,s2,rw,p4⟩:=yl y H' yy
     obtain ⟨τ1,e1,p5⟩:=fK p4
     have b2:=b2.trans bb
     refine ⟨yd,h2,w,τ,9,τ1,s2,rw,rs.mono b2.1,e1,fun σ1 rs1 o1=>⟨o1.wk hv,?_⟩⟩
     have fin:∀ {ρ3:List Addr} {h3:Hs} {H3:Hp},Bt cl yd H' ρ3 H3->Sim cl ρ3 h3 H3->Post cl ρ3 H3 E0 (inner (bN Pg d) m' τ1 h3 e D0 m fun h=>evs Pg m' d (.cl v (i + 1) t c m e D0) τ h) P->
      tin σ1 H3 fun H'=>∃ ρ' h',Bt cl ρ H ρ' H'/\Sim cl ρ' h' H'/\Post cl ρ' H' E0 (evs Pg m' d (.cl v (i + 1) t c m e D0) τ h') P:=fun {ρ3 h3 H3} b3 s3 q3=>
      hin σ1 τ1 h3 ρ3 H3 m' _ P _ s3 (rs1.mono b3.1) (fP (b2.1.trans b3.1) hD) (hC σ1 o1) q3 fun h' ρ' H' b' s' q'=>⟨ρ',h',(b2.trans b3).trans b',s',q'⟩
     cases c with
     | none=>exact fin Bt.refl s2 p5
     | some c=>
       refine ev.then s2 rs1 (show Post cl yd H' E0 ((evs Pg m' d (.x c) τ1 h2).bind fun r h=>r.toW fun w=>w.onB (evs Pg m' d (.cl v (i + 1) t (some c) m e D0) τ h) (inner (bN Pg d) m' τ1 h e D0 m fun h=>evs Pg m' d (.cl v (i + 1) t (some c) m e D0) τ h)) P from p5) fun a3 h3 ρ3 H3 b3 s3 p6=>?_
       obtain ⟨w3,rfl,p7⟩:=cM p6
       refine ⟨w3,rfl,fun v3 rv3=>?_⟩
       rcases sW p7 with ⟨rfl,p8⟩ | ⟨rfl,p8⟩
       · cases rv3
         exact ⟨true,rfl,b_ (fin b3 s3 p8)⟩
       · cases rv3
         exact ⟨false,rfl,aX ⟨ρ3,h3,b2.trans b3,s3,p8⟩⟩
theorem rC {e:Ev.X} {D0:Nat} {D:Addr} {C:L2.St->Prop}:Inn Pg cl d e D0 D none C (sI D (tE Pg cl E0 d e)):=fun σ1 τ1 h ρ H n k P N s rs hD _ p hN=>by
 refine ev.then s rs (show Post cl ρ H E0 ((evs Pg n d (.x e) τ1 h).bind fun r h=>r.toW fun w=>(nJ h (.ref D0) w).bind fun _ h=>k h) P from p) fun a1 h1 ρ1 H1 b1 s1 p1=>?_
 obtain ⟨w,rfl,p2⟩:=cM p1
 refine ⟨w,rfl,fun v rv=>?_⟩
 have hD1:=fP b1.1 hD
 obtain ⟨o,ho,x1⟩:=s1.obj D0 D hD1
 have e1:nJ h1 (.ref D0) w=Opt (h1.get D0) fun o=>o.onL fun xs=>size xs (.ok .non (h1.set D0 (.lst (app xs [w])))):=rfl
 rw [e1,ho] at p2
 cases o with
 | lst xs=>
   have p3:Post cl ρ1 H1 E0 ((size xs (.ok .non (h1.set D0 (.lst (app xs [w]))))).bind fun _ h=>k h) P:=p2
   unfold size at p3
   rw [ble_eq,len_eq] at p3
   by_cases z:xs.length <= 16777215
   · rw [decide_eq_true z] at p3
     obtain ⟨vs,rvs,q⟩:=x1
     have hl:=rvs.length
     refine ⟨vs,q,by rw [kI];omega,?_⟩
     have s2:Sim cl ρ1 (h1.set D0 (.lst (app xs [w]))) (upd H1 D (.lst (vs ++ [v]))):=s1.put hD1 ⟨_,by rw [jN];exact rvs.append (.cons rv .nil),aC⟩
     refine hN _ ρ1 _ (b1.trans (Bt.put hD1)) s2 ?_
     exact (show Post cl ρ1 H1 E0 (k (h1.set D0 (.lst (app xs [w])))) P from p3).later (Bt.put hD1)
   · rw [decide_eq_false z] at p3
     exact p3.elim
 | _=>exact p2.elim
theorem K7 {K:PySem.W.Frag} {i2:I} {t2:Tg} {c2:Option Ev.X} {wi2:TI} {e:Ev.X} {D0:Nat} {D:Addr} (di:DI Pg cl E0 d K i2 wi2):Inn Pg cl d e D0 D (some (.mk i2 t2 c2)) (fun σ=>∀ i ∈ vars t2,σ[i]? =some none) (FJ wi2 (tG cl t2) (tCd Pg cl d c2) (sI D (tE Pg cl E0 d e))):=fun σ1 τ1 h ρ H n k P N s rs hD hC p hN=>by
 refine di σ1 H _ (ev.then s rs (show Post cl ρ H E0 ((evs Pg n d (.i i2) τ1 h).bind fun r h=>r.toV fun v=>(evs Pg n d (.cl v 0 t2 c2 none e D0) τ1 h).bind fun _ h=>k h) P from p) fun a1 h1 ρ1 H1 b1 s1 p1=>?_)
 obtain ⟨v,rfl,p2⟩:=xY p1
 refine ⟨v,rfl,fun J hJ=>?_⟩
 refine By rC (C:=fun _=>True) s1 (rs.mono b1.1) hJ (fP b1.1 hD) hC (fun _ _=>trivial) p2.bind fun r h' ρ' H' b' s' q=>?_
 exact hN h' ρ' H' (b1.trans b') s' q
theorem O5 {ρ:List Addr} {H:Hp} {α:Type} {r:R α} {P:α->Hs->List Addr->Hp->Prop} (p:Post cl ρ H E r.nox P):Post cl ρ H E0 r P:=by
 cases r with
 | ok a h=>exact p
 | ex C fs h=>exact p.elim
 | no=>exact p
theorem Gm {ρ:List Addr} {τ:Sg} (rs:RS ρ τ σ) (nt:Nat) (idx:List Nat):RS ρ (dM nt idx τ) (sgb nt idx σ):=by
 have base:RS ρ (List.rec (motive:=fun _=>Sg) [] (fun i _ r=>aN τ i::r) idx) (idx.map fun j=>(σ[j]?).getD none):=by
  induction idx with
  | nil=>exact .nil
  | cons i idx ih=>
    refine .cons ?_ ih
    show RO ρ (aN τ i) ((σ[i]?).getD none)
    cases e:aN τ i with
    | none=>exact trivial
    | some w=>
      obtain ⟨v,ev,rv⟩:=rs.get e
      rw [ev];exact rv
 unfold sgb
 induction nt with
 | zero=>exact base
 | succ nt ih=>exact .cons trivial ih
theorem ye {nt:Nat} {idx:List Nat} {i:Nat} (h:i < nt):(sgb nt idx σ)[i]? =some none:=by
 unfold sgb
 rw [List.getElem?_append_left (by simpa using h),List.getElem?_replicate,if_pos h]
theorem uI {K:PySem.W.Frag} {nt:Nat} {idx:List Nat} {it:I} {t:Tg} {c:Option Ev.X} {m:Option G} {e:Ev.X} {wi:TI} {tin:Addr->TN} {Q:VK} (di:DI Pg cl E d K it wi) {C:L2.St->Prop} (hin:∀ D0 D,Inn Pg cl d e D0 D m C (tin D)) (hv:∀ i ∈ vars t,i < nt)
 (hC:∀ σ σ1,Off (vars t) (sgb nt idx σ) σ1->C σ1) (x:tE Pg cl E d (.comp nt idx it t c m e) σ H Q):v5 nt idx wi (tG cl t) (tCd Pg cl d c) tin σ H Q:=by
 obtain ⟨ρ,τ,h,n,s,rs,q⟩:=x.step
 refine di σ H _ (ev.then s rs (show Post cl ρ H E ((evs Pg n d (.i it) τ h).bind fun r h=>r.toV fun v=>(evs Pg n d (.cl v 0 t c m e h.n) (dM nt idx τ) (h.push (.lst []))).nox.bind fun _ h'=>.ok (.w (.ref h.n)) h') (VP Q) from q) fun a1 h1 ρ1 H1 b1 s1 p1=>?_)
 obtain ⟨v,rfl,p2⟩:=xY p1
 refine ⟨v,rfl,fun J hJ D hD=>?_⟩
 have s2:Sim cl (ρ1 ++ [D]) (h1.push (.lst [])) (upd H1 D (.lst [])):=s1.push hD ⟨[],.nil,aC⟩
 have gD:(ρ1 ++ [D])[h1.n]? =some D:=by rw [<- s1.len,List.getElem?_append_right (Nat.le_refl _),Nat.sub_self];rfl
 refine By (hin h1.n D) s2 ((Gm rs nt idx).mono (b1.1.trans (List.prefix_append _ _))) (hJ.mono (List.prefix_append _ _)) gD (fun i hi=>ye (hv i hi)) (fun σ1 o=>hC σ σ1 o) (O5 (p2.later (Bt.new hD)).bind) fun r h' ρ' H' b' s' q'=>?_
 exact Post.eV s' q' (.ref (fP b'.1 gD))
theorem cZ:PTs X [] (tCd Pg cl d none):=Bc
theorem qD {c:Expr} {x:Ev.X} (h:PT X c (tT Pg cl E0 d x)):PTs X [c] (tCd Pg cl d (some x)):=Kv h
variable {N':List Str} {sc:Scope} {nt:Nat} {idx:List Nat} {elt tg iter tg2 bC:Expr} {ifs dJ:List Expr} {gs:List Comprehension} {pos:Pos} {wi wi2:TI} {it it2:I} {t t2:Tg} {c c2:Option Ev.X} {e:Ev.X}
theorem cR (B:jX X N' sc nt idx) (hc:X.calm=true) (di:DI Pg cl E d X.K it wi) (hi:PI X tg iter wi) (hg:∀ C s₀ H₀ fp,PG (blk X N' sc C s₀ H₀ fp) tg (tG cl t)) (hif:∀ C s₀ H₀ fp,PTs (blk X N' sc C s₀ H₀ fp) ifs (tCd Pg cl d c)) (he:∀ C s₀ H₀ fp,PE (blk X N' sc C s₀ H₀ fp) elt (tE Pg cl E0 d e)) (hv:∀ i ∈ vars t,i < nt)
 (hs:∀ x,foldedSetIterable iter X.env x=pure x:=by intro _;rfl):PE X (.ListComp elt [⟨tg,iter,ifs,0⟩] sc pos) (tE Pg cl E d (.comp nt idx it t c none e)):=
 PE.of (Bf B hc hi (Dj hg hif he) hs) fun _ _ _ q=>uI di (C:=fun _=>True) (fun _ _=>rC) hv (fun _ _ _=>trivial) q
theorem O6 (hv:∀ i ∈ vars t,i < nt) (hv2:∀ i ∈ vars t2,i < nt/\i ∉ vars t) (σ σ1:L2.St) (o:Off (vars t) (sgb nt idx σ) σ1):∀ i ∈ vars t2,σ1[i]? =some none:=fun i hi=>by
 obtain ⟨h1,h2⟩:=hv2 i hi
 rw [o.2 i h2];exact ye h1
theorem rD {σ0:L2.St} {i:Nat} {y:Str} {py spos:Pos} (hN:X.N.Nodup) (hi':X.N[i]? =some y) (hy:Loc X.env.scope y) (B:jX X N' sc nt idx) (hc:X.calm=true) (di:DI Pg cl E d X.K it wi) (hi:PI X tg iter wi) (hg:∀ C s₀ H₀ fp,PG (blk X N' sc C s₀ H₀ fp) tg (tG cl t)) (hif:∀ C s₀ H₀ fp,PTs (blk X N' sc C s₀ H₀ fp) ifs (tCd Pg cl d c)) (he:∀ C s₀ H₀ fp,PE (blk X N' sc C s₀ H₀ fp) elt (tE Pg cl E0 d e)) (hv:∀ i ∈ vars t,i < nt)
 (hsw:swapsWith (.ListComp elt [⟨tg,iter,ifs,0⟩] sc pos) (some (.Name y py)) spos.line X.env=pure true:=by rfl) (hs:∀ x,foldedSetIterable iter X.env x=pure x:=by intro _;rfl)
 (hf:X.fn y=true\/X.env.scope.names.lookup y=some .local:=by first | exact .inl rfl | exact .inr rfl | assumption):
 PS X (.Assign [.Name y py] (.ListComp elt [⟨tg,iter,ifs,0⟩] sc pos) spos) (tS Pg cl E d σ0 (.asg (.nm i) (.comp nt idx it t c none e))):=
 PS.of (Bg hN hi' hy B hc hi (Dj hg hif he) hsw hs hf) fun D σ H q=>by
 obtain ⟨ρ,τ,h,n,s,rs,p⟩:=x_ q
 exact uI di (C:=fun _=>True) (fun _ _=>rC) hv (fun _ _ _=>trivial) ⟨ρ,τ,h,n,s,rs,p.mono fun a h ρ H _ _ ⟨w,e,g⟩=>⟨w,e,fun v rv=>ou (g v rv)⟩⟩
theorem Ja {σ0:L2.St} {i:Nat} {y:Str} {py spos:Pos} (hN:X.N.Nodup) (hi':X.N[i]? =some y) (hy:Loc X.env.scope y) (B:jX X N' sc nt idx) (hc:X.calm=true) (di:DI Pg cl E d X.K it wi) (hi:PI X tg iter wi) (hg:∀ C s₀ H₀ fp,PG (blk X N' sc C s₀ H₀ fp) tg (tG cl t)) (hif:∀ C s₀ H₀ fp,PTs (blk X N' sc C s₀ H₀ fp) ifs (tCd Pg cl d c))
 (di2:DI Pg cl E0 d X.K it2 wi2) (hi2:∀ C s₀ H₀ fp,PI (blk X N' sc C s₀ H₀ fp) tg2 bC wi2) (hg2:∀ C s₀ H₀ fp,PG (blk X N' sc C s₀ H₀ fp) tg2 (tG cl t2)) (Ij:∀ C s₀ H₀ fp,PTs (blk X N' sc C s₀ H₀ fp) dJ (tCd Pg cl d c2))
 (he:∀ C s₀ H₀ fp,PE (blk X N' sc C s₀ H₀ fp) elt (tE Pg cl E0 d e)) (hv:∀ i ∈ vars t,i < nt) (hv2:∀ i ∈ vars t2,i < nt/\i ∉ vars t)
 (hsw:swapsWith (.ListComp elt [⟨tg,iter,ifs,0⟩,⟨tg2,bC,dJ,0⟩] sc pos) (some (.Name y py)) spos.line X.env=pure true:=by rfl) (hs:∀ x,foldedSetIterable iter X.env x=pure x:=by intro _;rfl) (hs2:∀ C s₀ H₀ fp x,foldedSetIterable bC (blk X N' sc C s₀ H₀ fp).env x=pure x:=by intro _ _ _ _ _;rfl)
 (hf:X.fn y=true\/X.env.scope.names.lookup y=some .local:=by first | exact .inl rfl | exact .inr rfl | assumption):
 PS X (.Assign [.Name y py] (.ListComp elt [⟨tg,iter,ifs,0⟩,⟨tg2,bC,dJ,0⟩] sc pos) spos) (tS Pg cl E d σ0 (.asg (.nm i) (.comp nt idx it t c (some (.mk it2 t2 c2)) e))):=
 PS.of (Bg hN hi' hy B hc hi (Q3 hc hg hif hi2 hg2 Ij he hs2) hsw hs hf) fun D σ H q=>by
 obtain ⟨ρ,τ,h,n,s,rs,p⟩:=x_ q
 exact uI di (fun _ _=>K7 di2) hv (O6 hv hv2) ⟨ρ,τ,h,n,s,rs,p.mono fun a h ρ H _ _ ⟨w,e,g⟩=>⟨w,e,fun v rv=>ou (g v rv)⟩⟩
end
section
variable {Pg:List Fn} {cl:Cn} {E:XK} {d:Nat} {X:Cx} {σ:L2.St} {H:Hp}
def spF (Pg:List Fn) (cl:Cn) (d f:Nat):Sp:=fun vs H Q E=>∃ ρ ws h n,Sim cl ρ h H/\RWs ρ ws vs/\Post cl ρ H E (evs Pg n d (.call f ws) [] h) (VP Q)
theorem call_of {f:Nat} {as:List Ev.X} {Q:VK} (x:tE Pg cl E d (.call f as) σ H Q):vY (spF Pg cl d f) [] E (tA Pg cl E d as) σ H Q:=by
 obtain ⟨ρ,τ,h,n,s,rs,q⟩:=x.step
 refine ev.then s rs (show Post cl ρ H E ((evs Pg n d (.a as) τ h).bind fun a h=>a.toL fun ws=>evs Pg n d (.call f ws) [] h) (VP Q) from q) fun a1 h1 ρ1 H1 b1 s1 p1=>?_
 obtain ⟨ws,rfl,p2⟩:=nM p1
 exact ⟨ws,rfl,fun vs rv=>⟨ρ1,ws,h1,n,s1,by rw [List.append_nil];exact rv,p2⟩⟩
theorem rE {f:Nat} {ws:List W} {h:Hs} {n:Nat} {ρ:List Addr} {P:A->Hs->List Addr->Hp->Prop} (p:Post cl ρ H E (evs Pg n d (.call f ws) [] h) P):∃ n' d' F,d=d' + 1/\Pg[f]? =some F/\Post cl ρ H E (body (evs Pg n') d' h ws F) P:=by
 cases n with
 | zero=>exact p.elim
 | succ n=>
   cases d with
   | zero=>exact p.elim
   | succ d=>
     obtain ⟨F,e,q⟩:=fK (show Post cl ρ H E (Opt (nth Pg f) (body (evs Pg n) d h ws)) P from p)
     rw [iH] at e
     exact ⟨n,d,F,rfl,e,q⟩
theorem BJ {np nn:Nat} {b:List S} {ws:List W} {h:Hs} {n:Nat} {ρ:List Addr} {P:A->Hs->List Addr->Hp->Prop} (p:Post cl ρ H E (body (evs Pg n) d h ws (.mk np nn b)) P):ws.length=np/\Post cl ρ H E ((evs Pg n d (.ss b) (frame nn ws) h).bind fun r h=>r.toF fun f=>sS h f) P:=by
 obtain ⟨e,q⟩:=sX (show Post cl ρ H E (ifB (Nat.beq (len ws) np) ((evs Pg n d (.ss b) (frame nn ws) h).bind fun r h=>r.toF fun f=>sS h f) .no) P from p)
 rw [len_eq] at e
 exact ⟨ir.mp e,q⟩
theorem Jb {ρ:List Addr} {ws:List W} {vs:List V} (r:RWs ρ ws vs) (N:List Str):RS ρ (frame N.length ws) (L2.start N vs):=by
 unfold frame L2.start
 rw [jN,len_eq,r.length]
 have rep:∀ k:Nat,RS ρ (Nat.rec (motive:=fun _=>Sg) [] (fun _ r=>none::r) k) (List.replicate k none):=fun k=>by
  induction k with
  | zero=>exact .nil
  | succ k ih=>exact .cons trivial ih
 have app':∀ {a b:Sg} {u w:L2.St},RS ρ a u->RS ρ b w->RS ρ (a ++ b) (u ++ w):=by
  intro a b u w r1 r2
  induction r1 with
  | nil=>exact r2
  | cons x _ ih=>exact .cons x ih
 refine app' ?_ (rep _)
 have go:∀ {ws:List W} {vs:List V},RWs ρ ws vs->RS ρ (List.rec (motive:=fun _=>Sg) [] (fun w _ r=>some w::r) ws) (vs.map some):=by
  intro ws vs r
  induction r with
  | nil=>exact .nil
  | cons r1 _ ih=>exact .cons r1 ih
 exact go r
theorem jy {P:Program} {w:World} {K:PySem.W.Frag} {mg:Str->Option Value} {base:Heap} {k i:Nat} {x qual:Str} {st:Stmt} {f:Addr} {fd:FuncData} {N ps:List Str} {b:List S} (F:Fun K x qual st f fd) (Sc:aQ N ps (aa st)) (hp:Pg[i]? =some (.mk ps.length N.length b))
 (hbody:∀ (σ0:L2.St) (cdv:Value) (A:Around) (outer:List Env) (s:Shared) (H:Hp) (E:XK),bz k (A.deeper (envOfC qual (aa st) s.heap.objs.size f cdv))->Passes (CXE P w) (i_ (CXE P w) P w K mg base N qual (aa st) f cdv A outer s H E) E->
   PSs (i_ (CXE P w) P w K mg base N qual (aa st) f cdv A outer s H E) (bO st) (tSs Pg cl E d σ0 b)):bK P w K mg base (CXE P w) (k + 1) f fd ps (spF Pg cl (d + 1) i):=by
 obtain ⟨oc,od,kV,doc,pm,an,cdv,ct,osl,rfl,lk,hcd⟩:=F.ex
 have Tv:∀ vs H Q E,spF Pg cl (d + 1) i vs H Q E->vs.length=ps.length:=fun vs H Q E ⟨ρ,ws,h,n,s,r,p⟩=>by
  obtain ⟨n',d',F',e1,e2,q⟩:=rE p
  rw [hp] at e2;cases e2
  rw [<- r.length];exact (BJ q).1
 refine CW lk hcd Sc Tv fun A outer s H vs Q E hr hsp=>?_
 obtain ⟨ρ,ws,h,n,s1,r,p⟩:=hsp
 obtain ⟨n',d',F',e1,e2,q⟩:=rE p
 rw [hp] at e2;cases e2
 cases e1
 obtain ⟨_,q2⟩:=BJ q
 refine ⟨_,hbody (L2.start N vs) cdv A outer s H E hr (q_ ⟨rfl,rfl,rfl⟩ rfl (fun _ _ _ z=>z)),ρ,frame N.length ws,h,n',s1,Jb r N,fun _ _=>rfl,q2.bind.mono fun a h1 ρ1 H1 b1 s2 p2=>?_⟩
 obtain ⟨fl,rfl,p3⟩:=sU p2
 refine ⟨fl,rfl,?_⟩
 cases fl with
 | nx τ=>exact fun σ' _ _=>Post.eV s2 (show Post cl ρ1 H1 E (.ok (.w .non) h1) (VP Q) from p3) .non
 | rt w=>exact fun v rv=>Post.eV s2 (show Post cl ρ1 H1 E (.ok (.w w) h1) (VP Q) from p3) rv
 | bk τ=>exact p3.elim
 | ct τ=>exact p3.elim
theorem kO {k f:Nat} {fa:Addr} {fd:FuncData} {ps:List Str} {x:Str} {e:Expr} {es:List Expr} {y:Ev.X} {ys:List Ev.X} {p pos:Pos} (F:bK X.prog X.w X.K X.mg X.base (CXE X.prog X.w) k fa fd ps (spF Pg cl d f)) (hr:bz k X.A) (hg:Gl X x) (hm:X.mg x=some (.ref fa)) (hk:PySem.W.keepIn X.K (.ref fa)=true) (hb:Binds X.K fd ps [])
 (hx:Passes (CXE X.prog X.w) X E) (ha:PA X (e::es) (tA Pg cl E d (y::ys))) (hdb:(x == ("__debug__":Str))=false:=by decide) (he:starEach (e::es) X.env=(false,eval e X.env)::starEach es X.env:=by rfl) (hpl:(backTo pos (starEach es X.env)).any (·.1)=false:=by rfl):
 PE X (.Call (.Name x p) (e::es) [] pos) (tE Pg cl E d (.call f (y::ys))):=PE.of (Ay F hr hg hm hk hb .nil hx ha hdb he hpl) fun _ _ _ q=>call_of q
theorem Sim.other {ρ:List Addr} {h:Hs} {p:Addr} {u:HO} (s:Sim cl ρ h H) (e:H p=none):Sim cl ρ h (upd H p u) where
 len:=s.len
 nd:=s.nd
 obj:=fun n a hn=>by
  obtain ⟨o,q,y⟩:=s.obj n a hn
  refine ⟨o,q,y.keep (List.prefix_refl _) ?_⟩
  obtain ⟨w,hw⟩:=y.som
  exact au (aD hw e)
 tb:=s.tb.upd (by rw [e];trivial)
theorem Bt.other {ρ:List Addr} {p:Addr} {u:HO} (e:H p=none):Bt cl ρ H ρ (upd H p u):=⟨List.prefix_refl _,fun b v q nb=>by
 have q':upd H p u b=some v:=by rw [au (aD q e)];exact q
 exact ⟨nb,fun _=>q',v,q'⟩⟩
def spX (C:Addr) (c:List Nat):Sp:=fun vs H Q _=>∃ e,vs= [.ref e]/\H e=some (XO e C none)/\∀ dx,H dx=none->dx ≠ e->Q .non (upd (upd H dx (.xd [(nm fu,.str ⟨c.toArray⟩)])) e (XO e C (some dx)))
theorem Gn {σ0:L2.St} {C:Nat} {c:List Nat} {D:Ends} (x:tS Pg cl E d σ0 (.raise C c) D σ H):F_ (cl C) (spX (cl C) c) E Ia D σ H:=by
 obtain ⟨ρ,τ,h,n,s,rs,ag,q⟩:=x.step
 have q:Post cl ρ H E (.ex C [(fu,.str c)] h) (SPo σ0 D):=q
 refine ⟨Nat.zero_le _,fun e he=>⟨e,rfl,aC,fun dx hdx ne=>⟨rfl,some dx,aC,?_⟩⟩⟩
 have Jc:H dx=none:=by rwa [au ne] at hdx
 have eq:(fun b=>if b=e then none else upd (upd (upd H e (XO e (cl C) none)) dx (.xd [(nm fu,.str ⟨c.toArray⟩)])) e (XO e (cl C) (some dx)) b)=upd H dx (.xd [(nm fu,.str ⟨c.toArray⟩)]):=by
  funext b
  by_cases z:b=e
  · subst z
    show (if b=b then none else _)=_
    rw [if_pos rfl,au (Ne.symm ne),he]
  · show (if b=e then none else _)=_
    rw [if_neg z,au z]
    by_cases z2:b=dx
    · subst z2;rw [aC,aC]
    · rw [au z2,au z2,au z]
 rw [eq]
 exact q ρ _ dx _ (Bt.other Jc) (s.other Jc) (.cons ⟨rfl,.str c⟩ .nil) (s.new Jc) aC
end
end Ev
set_option maxRecDepth 100000
set_option maxHeartbeats 4000000
namespace Ev
open PySem PySem.Spec PySem.SeqAt PyProof.Rows L2
section
variable {Pg:List Fn} {cl:Cn} {E:XK} {d:Nat} {X:Cx} {σ:L2.St} {H:Hp} {pins:List (Addr × Obj)} {s:Shared}
structure DP (cl:Cn) (X:Cx) (c:Addr):Prop where
 on:cl.on=true
 code:X.env.code= .ref c
 hd:PySem.W.CodeHd X.base c cl.P
 bm:X.base.BuiltinsAt X.mg cl.P
 q:X.env.qual ++ "<lambda>" =cl.q
def Jd (cl:Cn) (H H1:Hp):Prop:=H1=H\/∃ ps c',H cl.P ≠ none/\H c'=none/\H1=upd (upd H cl.P (.tbl ps)) c' (.ext fun h=>h.CodeRec (.ref c') cl.q)
theorem vK {pos:Pos}:∀ {l r:List Value} {cv:Value},TriplesOk l->codeAmong pos (l ++ r)=some cv->codeAmong pos l=some cv\/codeAmong pos r=some cv:=by
 intro l r cv ht h
 fun_induction TriplesOk l with
 | case1=>exact .inr h
 | case2 a t b u c rest ih=>
   simp only [List.cons_append,codeAmong] at h ⊢
   split at h
   · next z=>rw [if_pos z];exact .inl h
   · next z=>rw [if_neg z];exact ih ht h
 | case3=>exact ht.elim
theorem Ad:∀ {l r:List Value},TriplesOk l->TriplesOk r->TriplesOk (l ++ r):=by
 intro l r ht h
 fun_induction TriplesOk l with
 | case1=>exact h
 | case2 a t b u c rest ih=>simp only [List.cons_append,TriplesOk];exact ih ht
 | case3=>exact ht.elim
theorem O7 {c:Addr} {params:Arguments} {body:Expr} {scope:Scope} {pos:Pos} (L:DP cl X c) (I:Inv X pins σ H s) (t:Tb cl H) (hdef:defaultsOf params X.env=([],[])) (hfr:∀ y ∈ scope.names,y.2= .free->X.env.kindOf y.1=some .cell\/X.env.kindOf y.1=some .free) {Ee:Value->Shared->Prop}:
 wpAny (model X.prog X.w) X.A (eval (.Lambda params body scope pos) X.env) (fun u s1=>∃ f c' pm ctv H1,u= .ref f/\Jd cl H H1/\Inv X pins σ H1 s1/\Tb cl H1/\H1 f=none/\s.heap.objs.size <= f/\s1.heap.get? f=some (PySem.W.kla_obj "<lambda>" cl.q params body scope (dI X.env.cells scope.names []) pm c' ctv)/\H1 c'=some (.ext fun h=>h.CodeRec (.ref c') cl.q)) Ee s:=by
 obtain ⟨ps,hP,htr,hcs⟩:=t L.on
 have hPo:s.heap.get? cl.P=some (PySem.W.tabObj ps):=I.hok _ _ hP
 have hcl:closureFor scope X.env=pure (dI X.env.cells scope.names []):=jT fun y hy e=>I.ok.has y.1 (hfr y hy e)
 have hg:s.heap.Ns mainGlobals X.mg:=I.mod.glob.keeps I.bk
 have C:=L.hd.keeps I.bk
 have hb:s.heap.BuiltinsAt X.mg cl.P:=let ⟨bm,o,a1,a2,a3,a4,a5,a6⟩:=L.bm;⟨bm,o,a1,a2,a3,a4,I.bk _ _ a5,a6⟩
 refine PySem.W.kla_eval hdef ?_
 rw [L.q]
 cases hf:codeAmong pos ps.toList with
 | some cv=>
   obtain ⟨c',rfl,hc'⟩:=hcs pos cv hf
   refine PySem.W.kla_makeFunctionHit hcl I.ok.glob hg L.code C hPo htr hf hb fun ctv h' tk hk hsz=>?_
   have hkk:∀ b o,s.heap.get? b=some o->(h'.push (PySem.W.kla_obj "<lambda>" cl.q params body scope (dI X.env.cells scope.names []) ((X.mg "__name__").getD .none) c' ctv)).get? b=some o:=fun b o e=>Heap.get?_push_of_some _ (hk b o e)
   refine ⟨h'.objs.size,c',_,ctv,H,rfl,.inl rfl,I.kept hkk,t,I.hok.fresh hsz,hsz,Heap.get?_push_size _ rfl,hc'⟩
 | none=>
   have hgP:mainGlobals ≠ cl.P:=fun z=>by
    obtain ⟨o,es,ep,e,hd,_⟩:=hg
    rw [z,hPo] at e;cases e;cases hd
   refine PySem.W.kla_makeFunction hcl I.ok.glob hg L.code C hPo htr hf hgP hb fun c' ctv h' tk hx hge hlt hrec htb=>?_
   have fc:H c'=none:=I.hok.fresh hge
   have neP:∀ {b:Addr},H b=none->b ≠ cl.P:=fun {b} e z=>by rw [z,hP] at e;cases e
   have Je:cl.P ≠ c':=Ne.symm (neP fc)
   generalize hfo:PySem.W.kla_obj "<lambda>" cl.q params body scope (dI X.env.cells scope.names []) ((X.mg "__name__").getD .none) c' ctv=fo
   have kk:∀ b o,b ≠ cl.P->s.heap.get? b=some o->(h'.push fo).get? b=some o:=fun b o hb e=>Heap.get?_push_of_some _ (hx b o hb e)
   have hP1:(h'.push fo).get? cl.P=some (PySem.W.tabObj (ps ++ #[rawInt pos.line,rawInt pos.col,.ref c'])):=Heap.get?_push_of_some _ htb
   have JW:(h'.push fo).CodeRec (.ref c') cl.q:=hrec.push _
   have h1P:upd (upd H cl.P (.tbl (ps ++ #[rawInt pos.line,rawInt pos.col,.ref c']))) c' (.ext fun h=>h.CodeRec (.ref c') cl.q) cl.P=some (.tbl (ps ++ #[rawInt pos.line,rawInt pos.col,.ref c'])):=by rw [au Je,aC]
   have h1o:∀ {b:Addr},b ≠ cl.P->b ≠ c'->upd (upd H cl.P (.tbl (ps ++ #[rawInt pos.line,rawInt pos.col,.ref c']))) c' (.ext fun h=>h.CodeRec (.ref c') cl.q) b=H b:=fun {b} z1 z2=>by rw [au z2,au z1]
   have old:∀ {b:Addr} {u:HO},H b=some u->b ≠ c':=fun {b u} e z=>by rw [z,fc] at e;cases e
   have ltc:∀ {b:Addr} {o:Obj},s.heap.get? b=some o->b ≠ c':=fun {b o} e z=>by
    have:=Heap.lt_size e
    rw [z] at this
    exact absurd this (Nat.not_lt.mpr hge)
   have hun:Un X.fs [] H (upd (upd H cl.P (.tbl (ps ++ #[rawInt pos.line,rawInt pos.col,.ref c']))) c' (.ext fun h=>h.CodeRec (.ref c') cl.q)) s.heap (h'.push fo):=by
    refine ⟨fun b o e n _ _=>kk b o (neP n) e,fun b o e n _ _=>⟨o.slots,kk b o (neP n) e⟩,fun b o e n _=>?_,fun b o e _=>?_,fun b xs e=>?_,fun b o u e=>?_,fun b qs e=>?_⟩
    · rw [h1o (neP n) (ltc e)];exact n
    · by_cases z:b=cl.P
      · subst z;exact ⟨_,hP1⟩
      · exact ⟨o,kk b o z e⟩
    · rw [h1o (fun z=>by rw [z,hP] at e;cases e) (old e)];exact e
    · rw [h1o (fun z=>by rw [z,hP] at e;cases e) (old e)];exact e
    · by_cases z:b=cl.P
      · subst z;rw [hP] at e;cases e
        exact ⟨_,h1P⟩
      · exact ⟨#[],by rw [h1o z (old e),e];simp⟩
   have hok:HOk X.prog X.w (upd (upd H cl.P (.tbl (ps ++ #[rawInt pos.line,rawInt pos.col,.ref c']))) c' (.ext fun h=>h.CodeRec (.ref c') cl.q)) (h'.push fo):=fun a o e=>by
    by_cases zc:a=c'
    · subst zc
      rw [aC] at e;cases e
      obtain ⟨c2,oc,vs,t2,e2,g2,r2⟩:=id JW
      cases e2
      refine ⟨JW,⟨oc,g2⟩,fun h1 h2 φ st=>?_⟩
      obtain ⟨c2,oc,vs,t2,e2,g2,r2⟩:=φ
      cases e2
      exact ⟨_,oc,vs,t2,rfl,st _ g2,r2⟩
    · by_cases zP:a=cl.P
      · subst zP
        rw [h1P] at e;cases e
        exact hP1
      · rw [h1o zP zc] at e
        refine (I.hok a o e).stay (fun b u hb q=>kk b u ?_ q) (fun b q=>?_) fun b xs q=>?_
        · rcases hb with rfl | hb
          · exact zP
          · intro z;rw [z,hP] at hb;cases hb
        · rw [h1o (fun z=>by rw [z,hP] at q;cases q) (old q)];exact q
        · rw [h1o (fun z=>by rw [z,hP] at q;cases q) (old q)];exact q
   have I1:=I.un (t':=tk) hun hok
   refine ⟨h'.objs.size,c',_,ctv,_,rfl,.inr ⟨_,c',by rw [hP];simp,fc,rfl⟩,I1,fun _=>⟨_,h1P,?_,fun pos' cv e=>?_⟩,?_,Nat.le_of_lt (Nat.lt_of_le_of_lt hge hlt),by rw [<- hfo];exact Heap.get?_push_size _ rfl,aC⟩
   · rw [Array.toList_append];exact Ad htr trivial
   · rw [Array.toList_append] at e
     rcases vK htr e with e | e
     · obtain ⟨c2,e1,e2⟩:=hcs pos' cv e
       exact ⟨c2,e1,by rw [h1o (fun z=>by rw [z,hP] at e2;cases e2) (old e2)];exact e2⟩
     · have e:(if ((pos.line:Int) == pos'.line && (pos.col:Int) == pos'.col)=true then some (Value.ref c') else codeAmong pos' [])=some cv:=e
       split at e
       · cases e;exact ⟨c',rfl,aC⟩
       · cases e
   · have:H h'.objs.size=none:=I.hok.fresh (Nat.le_of_lt (Nat.lt_of_le_of_lt hge hlt))
     rw [h1o (neP this) (Nat.ne_of_gt hlt)];exact this
end
end Ev
set_option maxRecDepth 100000
set_option maxHeartbeats 4000000
namespace Ev
open PySem PySem.Spec PySem.SeqAt PyProof.Rows L2
section
theorem Rn {CX:CXT} {P:Program} {w:World} {K:PySem.W.Frag} {mg:Str->Option Value} {base:Heap} {k:Nat} {x qual:Str} {st:Stmt} {f:Addr} {fd:FuncData} {N ps:List Str} (F:Fun K x qual st f fd) (Sc:aQ N ps (aa st))
 {A:Around} {outer:List Env} {s:Shared} {H:Hp} {args:Args} {us:List Value} {vs:List V} {Q:VK} {E:XK} (hr:bz (k + 1) A) (e0:pD P w K mg base A outer s H) (hb:BindsTo s fd args (ps.zip us)) (r:Vals vs us) (hl:vs.length=ps.length)
 (hbody:∀ cdv:Value,bz k (A.deeper (envOfC qual (aa st) s.heap.objs.size f cdv))->∃ t,PSs (i_ CX P w K mg base N qual (aa st) f cdv A outer s H E) (bO st) t/\t { nx:=fun _ H'=>Q .non H',rt:=Q } (L2.start N vs) H):
 codeAny (model P w) A (.call (.ref f) args) (CR CX outer P w H s Q E) s:=by
 obtain ⟨oc,od,kV,doc,pm,an,cdv,ct,osl,rfl,lk,hcd⟩:=F.ex
 have KX:K.In s.heap:=e0.mod.kin.keeps fun b o e=>(e0.bs b o e).1
 have lim:s.heap.NoLimit:=e0.mod.nolimit.keeps fun b o e=>(e0.bs b o e).1
 have hkind:∀ y ∈ ps.zip us,(aa st).names.lookup y.1=some .local\/((aa st).names.lookup y.1=some .cell/\((cellsFrom (s.heap.objs.size + 1) (aa st).names []).lookup y.1).isSome=true):=fun ⟨n,v⟩ hy=>by
  rcases Sc.par n (List.of_mem_zip hy).1 with q | q
  · exact .inl q
  · exact .inr ⟨q,PySem.W.cellsFrom_some _ _ _ (.inl q)⟩
 refine codeAny_call_function hr.depth (KX _ _ lk) rfl Sc.co Sc.gen rfl (PySem.W.codeRec_of KX hcd) (hb _ _ _ _ ?_)
 refine wpAny_newFunctionEnv_cells Sc.kind hkind fun env he s1 x=>?_
 subst he
 refine ⟨lim.keeps x.toInCall.keep,codeAny_func ?_⟩
 obtain ⟨t,ht,hq⟩:=hbody cdv (hr.deeper _)
 have I:Inv (i_ CX P w K mg base N qual (aa st) f cdv A outer s H E) [] (L2.start N vs) H s1:=vd Sc hr.hd e0 hl r x
 refine wpAny_mono (ht [] s1 (L2.start N vs) H _ I hq) (fun fl s' hs=>?_) fun e s' hs=>hs
 have fin:∀ {σ':L2.St} {H':Hp} {v:V} {u:Value},Inv (i_ CX P w K mg base N qual (aa st) f cdv A outer s H E) [] σ' H' s'->RelV v u->Q v H'->CE outer P w H s Q u s':=
  fun {σ' H' v u} J rv q=>⟨v,H',J.os,J.bare,J.base,J.hok,rv,q⟩
 cases fl with
 | ret u=>
   obtain ⟨v,σ',H',J,rv,q⟩:=hs
   exact fin J rv q
 | next=>
   obtain ⟨σ',H',J,q⟩:=hs
   exact fin (v:=V.non) (u:=Value.none) J rfl q
 | brk=>
   obtain ⟨_,_,_,q⟩:=hs
   exact False.elim q
 | cont=>
   obtain ⟨_,_,_,q⟩:=hs
   exact False.elim q
variable {Pg:List Fn} {cl:Cn} {E:XK} {d:Nat} {X:Cx} {σ:L2.St} {H:Hp} {pins:List (Addr × Obj)} {s:Shared}
def uJ (X:Cx) (N':List Str) (sc:Scope) (q:Str) (f c':Addr) (clos:List (Str × Addr)) (s:Shared) (H:Hp) (E:XK):Cx where
 prog:=X.prog
 w:=X.w
 K:=X.K
 mg:=X.mg
 base:=X.base
 A:=X.A.deeper (PySem.W.envX q sc s.heap.objs.size f (.ref c') clos)
 N:=N'
 s₀:=s
 H₀:=H
 env:=PySem.W.envX q sc s.heap.objs.size f (.ref c') clos
 outer:=X.stack
 stack:=PySem.W.envX q sc s.heap.objs.size f (.ref c') clos::X.stack
 ex:=[]
 calm:=true
 fn:=fun _=>false
 pn:=[]
 xe:=fun e s'=>wpAny (model X.prog X.w) (X.A.deeper (PySem.W.envX q sc s.heap.objs.size f (.ref c') clos)) (leaving (PySem.W.envX q sc s.heap.objs.size f (.ref c') clos) e) (fun _ s''=>CXE X.prog X.w X.stack H s E e s'') (fun e' s''=>CXE X.prog X.w X.stack H s E e' s'')  s'
def Cells (N':List Str) (clos:List (Str × Addr)) (σY:L2.St) (h:Heap):Prop:=∀ (i:Nat) (x:Str) (v:V),N'[i]? =some x->σY[i]? =some (some v)->∃ u c,RelV v u/\clos.lookup x=some c/\h.IsCell c (some u)
structure DQ (N':List Str) (sc:Scope):Prop where
 kind:sc.kind= .function
 co:sc.isCoroutine=false
 gen:sc.isGenerator=false
 free:∀ y ∈ sc.names,y.2 ≠ .cell
 isf:∀ x ∈ N',sc.names.lookup x=some .free
theorem Jf {N':List Str} {params:Arguments} {body:Expr} {sc:Scope} {q:Str} {f c':Addr} {clos:List (Str × Addr)} {pm ctv:Value} {σY:L2.St} {t:TE} {Q:VK} (S:DQ N' sc) (I:Inv X pins σ H s) (hc:X.calm=true) (hroom:X.A.depth < recursionLimit)
 (ho:s.heap.get? f=some (PySem.W.kla_obj "<lambda>" q params body sc clos pm c' ctv)) (hcd:s.heap.CodeRec (.ref c') q) (hbind:bindArgs (PySem.W.kla_fn "<lambda>" q params body sc clos pm (.ref c') ctv) ⟨[],[]⟩ =pure [])
 (hinj:∀ x y c,clos.lookup x=some c->clos.lookup y=some c->x=y) (hhas:∀ x,sc.names.lookup x=some .free->∃ c,clos.lookup x=some c) (hcell:∀ x c,clos.lookup x=some c->(∃ v,s.heap.IsCell c v)/\H c=none) (hcs:Cells N' clos σY s.heap) (hlen:σY.length=N'.length)
 (hp:PE (uJ X N' sc q f c' clos s H E) body t) (h:t σY H Q):codeAny (model X.prog X.w) X.A (.call (.ref f) ⟨[],[]⟩) (CR (CXE X.prog X.w) X.stack X.prog X.w H s Q E) s:=by
 refine PySem.W.kla_callFunE hroom ho rfl S.co S.gen rfl hcd ?_
 rw [hbind]
 refine wpAny_pure (wpAny_newFunctionEnv S.free (by intro y hy;simp at hy) (fun h₁ hns hsb=>⟨I.nolimit.fresh _ hsb,?_⟩) S.kind)
 show codeAny _ _ (.expr body (PySem.W.envX q sc s.heap.objs.size f (.ref c') clos)) _ _
 have hk₁:∀ b o,s.heap.get? b=some o->h₁.get? b=some o:=fun b o e=>hsb.extBut b o (Nat.ne_of_lt (Heap.lt_size e)) (Heap.get?_push_of_some _ e)
 have noA:∀ b:Addr,b ∉ (uJ X N' sc q f c' clos s H E).ex:=fun b z=>absurd (show b ∈ ([]:List Addr) from z) (by simp)
 have fresh:H s.heap.objs.size=none:=I.hok.fresh (Nat.le_refl _)
 have IY:Inv (uJ X N' sc q f c' clos s H E) [] σY H { s with heap:=h₁,toks:=s.toks + ([]:List (Str × Value)).length }:=by
  refine ⟨⟨I.ok.mod,S.kind,rfl,rfl,Nat.le_refl _,hinj,fun x hx=>?_,fun x c z=>absurd (show false=true from z) (by decide),fun _=>I.ok.hd hc,Around.frames_deeper I.ok.frames,.inr ⟨rfl,rfl⟩,fun b z=>absurd z (noA b),I.bs,Nat.le_trans I.ok.bsz I.sz,fun b _ _=>noA b,fun b z=>absurd z (noA b),I.stack,I.ji⟩,
   rfl,I.bare,Un.kept hk₁,⟨_,hns,fun i x v h1 h2 h3=>?_⟩,fun x c e=>?_,fresh,fun x c e=>(hcell x c e).2,fun p hp=>absurd (show p ∈ ([]:List (Addr × Obj)) from hp) (by simp),I.hok.kept hk₁,hlen⟩
  · have hx:sc.names.lookup x=some .cell\/sc.names.lookup x=some .free:=hx
    rcases hx with z | z
    · exact absurd rfl (S.free _ (PySem.mem_of_lookup z))
    · exact hhas x z
  · obtain ⟨u,c,ru,ec,hc'⟩:=hcs i x v h1 h2
    refine ⟨u,ru,.inr ⟨.inr (S.isf x (List.mem_of_getElem? h1)),c,ec,?_⟩⟩
    obtain ⟨o,ho',hd⟩:=hc'
    exact ⟨o,hk₁ _ _ ho',hd⟩
  · obtain ⟨⟨v,o,ho',hd⟩,_⟩:=hcell x c e
    exact ⟨v,o,hk₁ _ _ ho',hd⟩
 refine PySem.W.kla_codeExpr (wpAny_mono (hp [] _ σY H Q IY h) (fun v s' ⟨x,H',J,rv,q⟩=>?_) fun e s' z=>z)
 exact ⟨x,H',J.os,J.bare,J.base,J.hok,rv,q⟩
theorem Own.lam {N':List Str} {sc:Scope} {q:Str} {f c':Addr} {clos:List (Str × Addr)}:Own (uJ X N' sc q f c' clos s H E):=⟨rfl,rfl,rfl⟩
def Tw (i:Nat) (f c':Addr) (q:Str) (σY:L2.St) (t:TE):TE:=fun σ H Q=>σ[i]? =some (some (.ref f))/\H c'=some (.ext fun h=>h.CodeRec (.ref c') q)/\t σY H Q
theorem Jg {i:Nat} {x:Str} {p pos:Pos} {N':List Str} {params:Arguments} {body:Expr} {sc:Scope} {q:Str} {f c':Addr} {clos:List (Str × Addr)} {pm ctv:Value} {σY:L2.St} {t:TE} (S:DQ N' sc) (hc:X.calm=true) (hroom:X.A.depth < recursionLimit) (hx:Passes (CXE X.prog X.w) X E) (hex:X.ex= [])
 (ho:X.s₀.heap.get? f=some (PySem.W.kla_obj "<lambda>" q params body sc clos pm c' ctv)) (fn:X.H₀ f=none) (ff:f ∉ X.fs) (hbind:bindArgs (PySem.W.kla_fn "<lambda>" q params body sc clos pm (.ref c') ctv) ⟨[],[]⟩ =pure [])
 (hinj:∀ x y c,clos.lookup x=some c->clos.lookup y=some c->x=y) (hhas:∀ x,sc.names.lookup x=some .free->∃ c,clos.lookup x=some c) (hcell:∀ x c,clos.lookup x=some c->(∃ v,X.s₀.heap.IsCell c v)/\X.H₀ c=none/\c ∉ X.fs) (hcs:Cells N' clos σY X.s₀.heap) (hlen:σY.length=N'.length)
 (hp:∀ s H,PE (uJ X N' sc q f c' clos s H E) body t) (hN:X.N[i]? =some x) (hv:Vis X.env.scope x) (hd:(x == ("__debug__":Str))=false:=by decide) (hcd:(x == ("__classdict__":Str))=false:=by decide):
 PE X (.Call (.Name x p) [] [] pos) (Tw i f c' q σY t):=by
 intro pins s σ H Q I h
 obtain ⟨hσ,hC,ht⟩:=h
 have keep:∀ b o,X.s₀.heap.get? b=some o->X.H₀ b=none->b ∉ X.fs->s.heap.get? b=some o:=fun b o e n nf=>I.base.keep b o e n nf (by rw [hex];simp)
 have yf:∀ x c v,clos.lookup x=some c->X.s₀.heap.IsCell c v->s.heap.IsCell c v:=fun x c v e ⟨o,e1,e2⟩=>⟨o,keep c o e1 (hcell x c e).2.1 (hcell x c e).2.2,e2⟩
 refine wpAny_Call_Name_kw (thn (rW (X:=X) (i:=i) hN hv hd hcd pins s σ H (fun y H1=>y= .ref f/\H1=H) I ⟨.ref f,hσ,rfl,rfl⟩) fun u s1 ⟨y,H1,I1,ry,ey,eH⟩=>?_)
 subst ey eH
 obtain rfl:u=Value.ref f:=ry
 have keep:∀ b o,X.s₀.heap.get? b=some o->X.H₀ b=none->b ∉ X.fs->s1.heap.get? b=some o:=fun b o e n nf=>I1.base.keep b o e n nf (by rw [hex];simp)
 have yf:∀ x c v,clos.lookup x=some c->X.s₀.heap.IsCell c v->s1.heap.IsCell c v:=fun x c v e ⟨o,e1,e2⟩=>⟨o,keep c o e1 (hcell x c e).2.1 (hcell x c e).2.2,e2⟩
 have ho1:=keep f _ ho fn ff
 refine PySem.W.callWith_F0 ⟨_,_,_,_,ho1⟩ ?_
 refine wpAny_call (codeAny_mono (Jf S I1 hc hroom ho1 (I1.hok _ _ hC).1 hbind hinj hhas (fun x c e=>?_) (fun i x v h1 h2=>?_) hlen (hp s1 H1) ht) fun r s' hq=>?_)
 · obtain ⟨⟨v,hv'⟩,n,nf⟩:=hcell x c e
   refine ⟨⟨v,yf x c v e hv'⟩,?_⟩
   obtain ⟨o,e1,_⟩:=hv'
   exact I1.base.free c o e1 n (by rw [hex];simp)
 · obtain ⟨u,c,ru,ec,hcc⟩:=hcs i x v h1 h2
   exact ⟨u,c,ru,ec,yf x c _ ec hcc⟩
 · cases r with
   | error e=>exact hx pins σ H1 s1 e s' I1 hq
   | ok fl=>
     cases fl with
     | ret u=>exact I1.after hq
     | next=>exact False.elim hq
     | brk=>exact False.elim hq
     | cont=>exact False.elim hq
theorem Jd.sim {H1:Hp} {ρ:List Addr} {h:Hs} (l:Jd cl H H1) (on:cl.on=true) (t:Tb cl H1) (s:Sim cl ρ h H):Sim cl ρ h H1/\Bt cl ρ H ρ H1:=by
 rcases l with rfl | ⟨ps,c',hP,hc,rfl⟩
 · exact ⟨s,Bt.refl⟩
 · obtain ⟨qs,hQ,_⟩:=s.tb on
   have Je:cl.P ≠ c':=fun z=>by rw [z,hc] at hQ;cases hQ
   have eq:∀ {a:Addr} {o:O},OA cl ρ H a o->upd (upd H cl.P (.tbl ps)) c' (.ext fun h=>h.CodeRec (.ref c') cl.q) a=H a:=fun {a o} x=>by
    have n1:a ≠ c':=fun z=>by
     obtain ⟨u,hu⟩:=x.som
     rw [z,hc] at hu;cases hu
    have n2:a ≠ cl.P:=fun z=>by
     have:=x.pl
     rw [z,hQ] at this;exact this
    rw [au n1,au n2]
   refine ⟨⟨s.len,s.nd,fun n a e=>?_,t⟩,List.prefix_refl _,fun b u q nb=>?_⟩
   · obtain ⟨o,ho,x⟩:=s.obj n a e
     exact ⟨o,ho,x.keep (List.prefix_refl _) (eq x)⟩
   · have n1:b ≠ c':=aD q hc
     refine ⟨nb,fun z=>by rw [au n1,au (z on)];exact q,?_⟩
     by_cases z:b=cl.P
     · subst z;exact ⟨_,by rw [au Je,aC]⟩
     · exact ⟨u,by rw [au n1,au z];exact q⟩
end
end Ev
set_option maxRecDepth 100000
set_option maxHeartbeats 4000000
namespace Ev
open PySem PySem.Spec PySem.SeqAt PyProof.Rows L2
section
variable {Pg:List Fn} {cl:Cn} {E:XK} {d:Nat} {X:Cx} {σ:L2.St} {H:Hp} {pins:List (Addr × Obj)} {s:Shared}
abbrev Ro (X:Cx) (NT:List Str) (tn:Str) (st:Stmt) (ft:Addr) (cdv:Value) (s1:Shared) (H1:Hp) (E2:XK) (E':Value->Shared->Prop) (pn:List (Addr × Obj)):Cx:=
 lM (i_ (CXE X.prog X.w) X.prog X.w X.K X.mg X.base NT tn (aa st) ft cdv X.A X.stack s1 H1 E2) E' pn
theorem yg:(2:Nat) <= sizeLine:=by rw [kI];decide
theorem Gp (I:Inv X pins σ H s) (hfn:∀ x,X.fn x=true) {x:Str} {c:Addr} (e:X.env.cells.lookup x=some c):c ∉ frs X.stack:=fun z=>by
 rcases List.mem_cons.mp (I.pq c z) with z | z
 · exact I.cne x c e z
 · obtain ⟨_,o,ho,_⟩:=I.ok.gQ.mem z
   exact absurd (Heap.lt_size ho) (Nat.not_lt.mpr (I.ok.cab x c (hfn x) e))
theorem K8 {k nx:Nat} {c S ft:Addr} {fdT:FuncData} {st:Stmt} {NT N':List Str} {tn an en cx:Str} {idx:List Nat} {params:Arguments} {body:Expr} {sc:Scope} {a:Ev.X} {DR p pos:Pos} {t1 t2 w1 w2:Str}
 {q1 q2 q3 q4 q5 q6 q7 q8 q9 q10 q11 q12 q13:Pos} {j1 j2} {x1 x2}
 (L:DP cl X c) (hfn:∀ x,X.fn x=true) (hr:bz (k + 1) X.A) (Ft:Fun X.K tn tn st ft fdT) (ScT:aQ [an,en] [an] (aa st)) (bT:Binds X.K fdT [an] []) (hg:Gl X tn) (mgT:X.mg tn=some (.ref ft)) (kpT:PySem.W.keepIn X.K (.ref ft)=true)
 (hst:bO st= [.Try [.Return (some (.Tuple [.Constant (.str t1) j1 q1,.Call (.Name an q2) [] [] q3] x1 q4)) q5] [.ExceptHandler (some (.Name cx q6)) (some en) [.Return (some (.Tuple [.Constant (.str t2) j2 q7,.Attribute (.Name en q8) w1 q9] x2 q10)) q11] q12] [] [] q13])
 (h1:t1=nm qC) (h2:t2=nm noT) (h3:w1=nm fu) (hen:(aa st).names.lookup en=some .local) (han:Vis (aa st) an) (hgS:(aa st).names.lookup cx=some .globalImplicit) (mgS:X.mg cx=some (.ref S)) (cS:eG X.K S) (hcx:(cx == ("__debug__":Str))=false)
 (hd1:(an == ("__debug__":Str))=false) (hd2:(an == ("__classdict__":Str))=false) (hd3:(en == ("__debug__":Str))=false) (hd4:(en == ("__classdict__":Str))=false)
 (hX:∀ C,C < nx->eG X.K (cl C)/\uB X.K (cl C) S/\jJ X.K (cl C) w1)
 (B:jX X N' sc 0 idx) (hco:sc.isCoroutine=false) (hgen:sc.isGenerator=false) (hdef:defaultsOf params X.env=([],[])) (hbind:∀ q clos pm c' ctv,bindArgs (PySem.W.kla_fn "<lambda>" q params body sc clos pm (.ref c') ctv) ⟨[],[]⟩ =pure [])
 (hp:∀ cdv s1 H1 E2 E' pn f c' clos s H E3,PE (uJ (Ro X [an,en] tn st ft cdv s1 H1 E2 E' pn) N' sc cl.q f c' clos s H E3) body (tE Pg cl E3 d a))
 (hdb:(tn == ("__debug__":Str))=false:=by decide) (he:starEach [Expr.Lambda params body sc DR] X.env=(false,eval (.Lambda params body sc DR) X.env)::starEach [] X.env:=by rfl) (hpl:(backTo pos (starEach [] X.env)).any (·.1)=false:=by rfl):
 PE X (.Call (.Name tn p) [.Lambda params body sc DR] [] pos) (tE Pg cl E (d + 2) (.told nx idx a)):=by
 subst h1 h2 h3
 intro pins s σ H Q I h
 obtain ⟨ρ,τ,hh,n,sm,rs,pz⟩:=h.step
 have pz:Post cl ρ H E (R.rec (motive:=fun _=>R A) (fun r h=>r.toW fun w=>ofW (.alloc h (.tup [.str qC,w]))) (fun C fs h=>ifB (Nat.ble (C + 1) nx) (Opt (fget fs fu) fun w=>ofW (.alloc h (.tup [.str noT,w]))) .no) .no (evs Pg n d (.x a) (dM 0 idx τ) hh)) (VP Q):=pz
 have hfr:∀ y ∈ sc.names,y.2= .free->X.env.kindOf y.1=some .cell\/X.env.kindOf y.1=some .free:=B.fr
 refine wpAny_Call_Name_kw (j_ I hg mgT ?_ hdb)
 refine PySem.W.callWith_K (h₀:=X.base) I.ok.mod.kin kpT ?_ he hpl
 rw [he]
 show wpAny _ _ (spliced ((false,eval (.Lambda params body sc DR) X.env)::backTo pos (starEach [] X.env))) _ _ s
 refine Calls.spliced_cons (thn (O7 L I sm.tb hdef hfr) fun u s1 ⟨f,c',pm,ctv,H1,eu,lh,I1,t1,fn,fge,fo,hC⟩=>?_)
 subst eu
 refine Calls.spliced_nil ⟨I1.kIn,?_⟩
 obtain ⟨sm1,bt1⟩:=lh.sim L.on t1 sm
 have hcl:∀ y ∈ sc.names,y.2= .free->∃ c,X.env.cells.lookup y.1=some c:=fun y hy e=>I1.ok.has y.1 (hfr y hy e)
 have sub:∀ x c,(dI X.env.cells sc.names []).lookup x=some c->X.env.cells.lookup x=some c:=fun x c h=>by
  rcases k_ hcl h with z | z
  · exact z
  · simp at z
 have Tz:DQ N' sc:=⟨B.kind,hco,hgen,B.xG,fun x hx=>by
  obtain ⟨i,hi⟩:=List.getElem?_of_mem hx
  have hlt:i < idx.length:=by
   have:=(List.getElem?_eq_some_iff.mp hi).1
   have:=B.len
   omega
  obtain ⟨j,hj⟩:∃ j,idx[i]? =some j:=⟨idx[i],by simp [hlt]⟩
  refine (B.ix (j,x) (List.mem_of_getElem? (i:=i) ?_)).2
  rw [List.drop_zero,List.getElem?_zip_eq_some]
  exact ⟨hj,hi⟩⟩
 have ffs:f ∉ frs X.stack:=fun z=>by
  obtain ⟨_,o',ho',_⟩:=I.stack.mem z
  exact absurd (Heap.lt_size ho') (Nat.not_lt.mpr fge)
 have hcs:Cells N' (dI X.env.cells sc.names []) (sgb 0 idx σ) s1.heap:=fun i x v h1 h2=>by
  unfold sgb at h2
  rw [List.replicate_zero,List.nil_append,List.getElem?_map] at h2
  cases ej:idx[i]? with
  | none=>rw [ej] at h2;cases h2
  | some j=>
    rw [ej] at h2
    have h2':(σ[j]?).getD none=some v:=by simpa using h2
    have hz:(j,x) ∈ idx.zip (N'.drop 0):=by
     refine List.mem_of_getElem? (i:=i) ?_
     rw [List.drop_zero,List.getElem?_zip_eq_some]
     exact ⟨ej,h1⟩
    obtain ⟨q1,q2⟩:=B.ix _ hz
    have hs:σ[j]? =some (some v):=by
     cases e:σ[j]? with
     | none=>rw [e] at h2';cases h2'
     | some o=>rw [e] at h2';exact congrArg some h2'
    have hkx:=B.fr (x,.free) (bZ q2) rfl
    obtain ⟨mX,_,hl⟩:=I1.loc
    obtain ⟨u,ru,lk⟩:=hl j x v q1 hs (by
     rcases hkx with z | z
     · exact .inr (.inl z)
     · exact .inr (.inr z))
    rcases lk with ⟨z,_⟩ | ⟨_,c,hc,hcell⟩
    · exfalso
      rcases hkx with y | y
      · rw [z] at y;cases y
      · rw [z] at y;cases y
    · exact ⟨u,c,ru,kj hc (.inl (bZ q2)),hcell⟩
 have hlen:(sgb 0 idx σ).length=N'.length:=by
  unfold sgb
  rw [List.replicate_zero,List.nil_append,List.length_map,<- B.len,Nat.zero_add]
 refine wpAny_call (codeAny_mono (Rn (CX:=CXE X.prog X.w) (Q:=Q) (E:=E0) (us:=[.ref f]) (vs:=[.ref f]) Ft ScT hr I1.env0 (bT s1 [.ref f] I1.kIn rfl) (.cons rfl .nil) rfl fun cdv hr2=>?_) fun r s' hq=>?_)
 · rw [hst]
   have O2:Own (i_ (CXE X.prog X.w) X.prog X.w X.K X.mg X.base [an,en] tn (aa st) ft cdv X.A X.stack s1 H1 E0):=⟨rfl,rfl,rfl⟩
   refine ⟨_,bH (N8 (i:=1) O2 ScT.nd rfl hen hgS mgS cS (fun e oe=>bH (dh (xg (ao rY (ao (KN (i:=1) rfl (Or.inl hen) rfl hd3 hd4) aJ)))))
    (fun E' pn E2 hpass=>bH (dh (xg (ao rY (ao (Jg (i:=0) (E:=E2) (σY:=sgb 0 idx σ) (t:=tE Pg cl E2 d a) Tz rfl hr2.depth hpass rfl fo fn ffs (hbind _ _ _ _ _)
      (fun x y c h1 h2=>I1.ok.inj x y c (sub x c h1) (sub y c h2)) (fun x hx=>?_) (fun x c e=>⟨I1.cell x c (sub x c e),I1.dU x c (sub x c e),Gp I1 hfn (sub x c e)⟩) hcs hlen (fun s H=>hp _ _ _ _ _ _ _ _ _ _ _ _) rfl han hd1 hd2) aJ))))) hcx),?_⟩
   · obtain ⟨c,hc⟩:=hcl (x,.free) (bZ hx) rfl
     exact ⟨c,kj hc (.inl (bZ hx))⟩
   refine ⟨rfl,hC,ρ,dM 0 idx τ,hh,n,sm1,Gm rs 0 idx,?_⟩
   cases er:evs Pg n d (.x a) (dM 0 idx τ) hh with
   | no=>rw [er] at pz;exact pz.elim
   | ok r0 h3=>
     rw [er] at pz
     obtain ⟨w,rfl,p2⟩:=cM (show Post cl ρ H E (r0.toW fun w=>ofW (.alloc h3 (.tup [.str qC,w]))) (VP Q) from pz)
     intro ρ' H' b' s'
     refine ⟨w,rfl,fun v rv=>⟨yg,fun p hp=>?_⟩⟩
     exact Post.Dw s' (p2.later (bt1.trans b')) hp (.cons (.str qC) (.cons rv .nil))
   | ex C fs h3=>
     rw [er] at pz
     obtain ⟨cC,p2⟩:=sX (show Post cl ρ H E (ifB (Nat.ble (C + 1) nx) (Opt (fget fs fu) fun w=>ofW (.alloc h3 (.tup [.str noT,w]))) .no) (VP Q) from pz)
     obtain ⟨w,ew,p3⟩:=fK p2
     rw [ble_eq] at cC
     obtain ⟨k1,k2,k3⟩:=hX C (of_decide_eq_true cC)
     intro ρ' H' dx gs b' s' fr nd hx
     refine ⟨cl C,rfl,k1,k2,fun e oe e1 e2 ⟨vs,e3⟩ hn=>?_⟩
     obtain ⟨v,ev,rv⟩:=fr.get ew
     refine ⟨rfl,cl C,dx,gs,v,e1,e2,⟨vs,e3⟩,k1,k3,hx,ev,yg,fun p hp=>?_⟩
     exact Post.Dw s' (p3.later (bt1.trans b')) hp (.cons (.str noT) (.cons rv .nil))
 · cases r with
   | error e=>exact (qY hq).elim
   | ok fl=>
     cases fl with
     | ret u=>exact I1.after hq
     | next=>exact False.elim hq
     | brk=>exact False.elim hq
     | cont=>exact False.elim hq
end
end Ev
set_option maxRecDepth 100000
set_option maxHeartbeats 4000000
namespace Ev
open PySem PySem.Spec PySem.SeqAt PyProof.Rows L2
def tK (P:Addr) (H:Hp):Prop:=H P=some (.tbl #[])/\∀ b,b ≠ P->H b=none\/∃ o xs,H b=some (.frz o (.lst xs))
theorem Gq {P:Program} {w:World} {K:PySem.W.Frag} {mg mb:Str->Option Value} {CX:CXT} {k:Nat} {fa a T c:Addr} {fd:FuncData} {x:Str} {sp:Sp} {s₁:Shared} {vs:List Value} {ns:List Int}
 (KX:K.In s₁.heap) (hns:s₁.heap.Ns mainGlobals mg) (hb:s₁.heap.Ns builtinsNs mb) (hbb:∀ x:Str,x ≠ "__name__"->mb x=bootBuiltins x) (hlim:s₁.heap.NoLimit) (hg:s₁.gens= #[])
 (ha:s₁.heap.get? a=some { cls:=.type "list",data:=.seq vs.toArray }) (hi:IntsAre vs ns) (hl:ns.length <= sizeLine) (hr:bz k callerA)
 (hT:s₁.heap.get? T=some (PySem.W.tabObj #[])) (hKT:K.lookup T=none) (hcT:PySem.W.codeHdIn K c T=true) (hbm:s₁.heap.BuiltinsAt mg T)
 (F:∀ base:Heap,K.In base->base.Ns mainGlobals mg->base.BuiltinsAt mg T->bK P w K mg base CX k fa fd [x] sp) (hbind:∀ (s:Shared) (u:Value),BindsTo s fd ⟨[u],[]⟩ [(x,u)])
 (hsp:∀ H:Hp,tK T H->SqL K H a (ns.map V.int)->sp [.ref a] H (fun v _=>v= .bl true) fun _ _ _=>False)
 (hCX:∀ H e s',CX [] H s₁ (fun _ _ _=>False) e s'->False):
 codeAny (model P w) callerA (.call (.ref fa) ⟨[.ref a],[]⟩) (fun r s'=>r= .ok (.ret (.bool true))/\OldK s₁.heap s'.heap/\s'.os=s₁.os/\AllBare s'.gens) s₁:=by
 have rv:=jL hi
 have lenV:=hi.length
 have aT:a ≠ T:=fun z=>by rw [z,hT] at ha;cases ha
 have core:∀ H:Hp,tK T H->SqL K H a (ns.map V.int)->HOk P w H s₁.heap->(∀ b,H b ≠ none->b=a\/b=T)->(H a ≠ none->K.lookup a=none)->
  codeAny (model P w) callerA (.call (.ref fa) ⟨[.ref a],[]⟩) (fun r s'=>r= .ok (.ret (.bool true))/\OldK s₁.heap s'.heap/\s'.os=s₁.os/\AllBare s'.gens) s₁:=by
  intro H hO hS hok hA hK
  have uK:∀ {b:Addr} {o:Obj},s₁.heap.get? b=some o->H b=none->(mC s₁.heap H).get? b=some o:=fun e n=>Hy e n
  have noA:∀ {b:Addr} {o:Obj},s₁.heap.get? b=some o->(∀ vs n,o.data ≠ .seq vs n)->(∀ vs,o.data ≠ .fields vs)->H b=none:=fun {b o} e d1 d2=>by
   cases q:H b with
   | none=>rfl
   | some u=>
     rcases hA b (by rw [q];simp) with e' | e'
     · subst e';rw [ha] at e;cases e;exact absurd rfl (d1 _ _)
     · subst e';rw [hT] at e;cases e;exact absurd rfl (d2 _)
  have nsK:∀ {b:Addr} {m:Str->Option Value},s₁.heap.Ns b m->(mC s₁.heap H).Ns b m:=fun {b m} ⟨o,es,ep,e,d,r⟩=>⟨o,es,ep,uK e (noA e (fun _ _ z=>by rw [d] at z;cases z) fun _ z=>by rw [d] at z;cases z),d,r⟩
  have hKb:K.In (mC s₁.heap H):=fun b o e=>uK (KX b o e) (by
   cases q:H b with
   | none=>rfl
   | some u=>
     rcases hA b (by rw [q];simp) with e' | e'
     · subst e'
       rw [hK (by rw [q];simp)] at e;cases e
     · subst e'
       rw [hKT] at e;cases e)
  have TF:(mC s₁.heap H).BuiltinsAt mg T:=let ⟨bm,o,a1,a2,a3,a4,a5,a6,a7,a8⟩:=hbm
   ⟨bm,o,a1,a2,a3,a4,uK a5 (noA a5 (fun _ _ z=>by rw [a8] at z;cases z) fun _ z=>by rw [a8] at z;cases z),a6,a7,a8⟩
  have hM:Mod K mg (mC s₁.heap H):=⟨hKb,nsK hns,⟨mb,nsK hb,hbb⟩,let ⟨mc,h1,h2⟩:=hlim;⟨mc,nsK h1,h2⟩⟩
  have e0:pD P w K mg (mC s₁.heap H) callerA [] s₁ H:=⟨rfl,hM,fun b o e=>Ke e,Nat.le_of_eq (Ew _ _),trivial,fun b hb=>absurd (show b ∈ ([]:List Addr) from hb) (by simp),hok,.of_eq hg⟩
  refine codeAny_mono ((F _ hKb (nsK hns) TF).run callerA [] s₁ H ⟨[.ref a],[]⟩ [.ref a] [.ref a] _ _ hr e0 (hbind s₁ (.ref a)) (.cons rfl .nil) (hsp H hO hS)) fun r s' h=>?_
  cases r with
  | error e=>exact (hCX H e s' h).elim
  | ok fl=>
    cases fl with
    | next=>exact False.elim h
    | brk=>exact False.elim h
    | cont=>exact False.elim h
    | ret u=>
      obtain ⟨v,H',os,bare,un,hok',r',q⟩:=h
      have q':v= .bl true:=q
      subst q'
      obtain rfl:u=Value.bool true:=r'
      obtain ⟨ps,hP'⟩:=un.gP T #[] hO.1
      have hTs:s'.heap.get? T=some (PySem.W.tabObj (#[] ++ ps)):=hok' T _ hP'
      have keep:∀ b o,b ≠ T->s₁.heap.get? b=some o->s'.heap.get? b=some o:=fun b o hb e=>by
       cases q:H b with
       | none=>exact un.keep b o e q (by intro z;exact absurd (show b ∈ ([]:List Addr) from z) (by simp)) (by simp)
       | some u=>
         rcases hO.2 b hb with z | ⟨ob,xs,z⟩
         · rw [q] at z;cases z
         · have z2:=un.gO b ob _ z
           obtain ⟨e1,_⟩:=hok b _ z
           obtain ⟨e2,_⟩:=hok' b _ z2
           rw [e] at e1;cases e1
           exact e2
      have hd:=PySem.W.codeHd_of_K KX hcT
      refine ⟨rfl,⟨fun b o e=>?_,fun b o e=>?_⟩,os,bare⟩
      · by_cases hb:b=T
        · subst hb
          rw [hT] at e;cases e
          exact .inr (.inl ⟨(hd.tab hT).isCodeTable,rfl,#[],ps,rfl,hTs⟩)
        · exact .inl (keep b o hb e)
      · by_cases hb:b=T
        · subst hb;exact ⟨_,hTs⟩
        · exact ⟨o,keep b o hb e⟩
 cases hk:K.lookup a with
 | some o=>
   have e:=KX a o hk
   rw [ha] at e
   cases e
   refine core (fun b=>if b=T then some (.tbl #[]) else none) ⟨if_pos rfl,fun b hb=>.inl (if_neg hb)⟩ (.inr ⟨_,vs.toArray,_,hk,rfl,rfl,rfl,by rw [List.size_toArray,lenV];exact hl,by simpa using rv⟩) (fun b u z=>?_) (fun b z=>?_) fun z=>absurd (if_neg aT) z
   · by_cases hb:b=T
     · have z':=(if_pos hb).symm.trans z
       cases z'
       subst hb
       exact hT
     · have z':=(if_neg hb).symm.trans z
       cases z'
   · by_cases hb:b=T
     · exact .inr hb
     · exact absurd (if_neg hb) z
 | none=>
   refine core (fun b=>if b=T then some (.tbl #[]) else if b=a then some (.frz { cls:=.type "list",data:=.seq vs.toArray } (.lst (ns.map V.int))) else none) ⟨if_pos rfl,fun b hb=>?_⟩ (.inl (.inr ⟨{ cls:=.type "list",data:=.seq vs.toArray },by show (if a=T then _ else _)=_;rw [if_neg aT,if_pos rfl]⟩)) (fun b u z=>?_) (fun b z=>?_) fun _=>hk
   · by_cases hba:b=a
     · exact .inr ⟨_,_,by show (if b=T then _ else _)=_;rw [if_neg hb,if_pos hba]⟩
     · exact .inl (by show (if b=T then _ else _)=_;rw [if_neg hb,if_neg hba])
   · have z:(if b=T then some (HO.tbl #[]) else if b=a then some (.frz { cls:=.type "list",data:=.seq vs.toArray } (.lst (ns.map V.int))) else none)=some u:=z
     by_cases hb:b=T
     · rw [if_pos hb] at z;cases z
       subst hb;exact hT
     · rw [if_neg hb] at z
       by_cases hba:b=a
       · rw [if_pos hba] at z;cases z
         subst hba
         exact ⟨ha,by rw [List.length_map];exact hl,vs,_,rv,ha⟩
       · rw [if_neg hba] at z;cases z
   · by_cases hb:b=T
     · exact .inr hb
     · by_cases hba:b=a
       · exact .inl hba
       · exact absurd (by show (if b=T then _ else _)=_;rw [if_neg hb,if_neg hba]) z
theorem Rp {l:PySem.W.OpenLaw} {n k:Nat} {q:Program} {loose:List Str} {XP:(Str->Option Value)->Heap->Prop} {YP:World->Heap->Prop} {d:DefRec} {K:Params->PySem.W.Frag} {CX:World->CXT} {sp:World->Sp} {x:Str} {T c:Addr}
 (hn:l.most=some n) (hn2:n <= sizeLine) (hdf:d.params.defaults= []) (hr:bz k callerA)
 (hY:∀ (w:World) (h:Heap),YP w h->(K w.params).In h/\h.get? T=some (PySem.W.tabObj #[])) (hK:∀ P:Params,(K P).lookup T=none/\PySem.W.codeHdIn (K P) c T=true)
 (F:∀ (w:World) (mg:Str->Option Value) (fa:Addr) (h:Heap),(K w.params).In h->h.Ns mainGlobals mg->mg d.name=some (.ref fa)->
   ∃ fd:FuncData,(∀ (s:Shared) (u:Value),BindsTo s fd ⟨[u],[]⟩ [(x,u)])/\
     ∀ base:Heap,(K w.params).In base->base.Ns mainGlobals mg->base.BuiltinsAt mg T->bK l.prog w (K w.params) mg base (CX w) k fa fd [x] (sp w))
 (hsp:∀ (w:World) (H:Hp) (a:Addr) (ns:List Int),ns.length <= n->tK T H->SqL (K w.params) H a (ns.map V.int)->sp w [.ref a] H (fun v _=>v= .bl true) fun _ _ _=>False)
 (hCX:∀ (w:World) (H:Hp) (s:Shared) (e:Value) (s':Shared),CX w [] H s (fun _ _ _=>False) e s'->False):
 PySem.W.WalkO q loose XP YP l.row.toRowW d [] (fun f vs=>PySem.call f vs):=by
 refine Att.z_ hn hdf fun w s₀ s₁ mg mb fa o pm cd doc a vs ns G Y ho hd hcd hmg hobj hints hlen hg=>?_
 obtain ⟨KX,hT⟩:=hY w _ Y
 obtain ⟨fd,hb,hF⟩:=F w mg fa _ KX G.T.g hmg
 obtain ⟨bm,ob,b1,b2,b3,b4,b5,b6⟩:=G.T.bmain
 have hbm:s₁.heap.BuiltinsAt mg T:=by
  refine ⟨bm,ob,b1,b2,fun z=>?_,fun z=>?_,b3,b4,b5,b6⟩
  · obtain ⟨o,es,ep,e,hd,_⟩:=G.T.g
    rw [z,e] at b3;cases b3;rw [hd] at b6;cases b6
  · rw [z,hT] at b3;cases b3;cases b4
 exact Gq KX G.T.g G.T.b G.T.builtins G.T.nolimit hg hobj hints (Nat.le_trans hlen hn2) hr hT (hK _).1 (hK _).2 hbm hF hb (fun H hO hS=>hsp w H a ns hlen hO hS) fun H e s'=>hCX w H s₁ e s'
section
variable {Pg:List Fn} {cl:Cn} {E:XK} {d:Nat} {X:Cx} {σ:L2.St} {H:Hp}
theorem bI {K:PySem.W.Frag} {tg l:Expr} {e:Ev.X} (hK:X.K=K) (he:PE X l (tE Pg cl E d e)):PI X tg l (fun σ H R=>CJ K (tE Pg cl E d e) σ H R\/HN K (tE Pg cl E d e) σ H R):=by
 subst hK;exact PI.or (Av he) (M7 he)
theorem fU {P:Program} {w:World} {K:PySem.W.Frag} {mg:Str->Option Value} {base:Heap} {k i:Nat} {f:Addr} {fd:FuncData} {ps:List Str}:bK P w K mg base (CXE P w) k f fd ps (spF Pg cl 0 i):=by
 have no:∀ vs H Q E,¬ spF Pg cl 0 i vs H Q E:=fun vs H Q E ⟨ρ,ws,h,n,s,r,p⟩=>by
  obtain ⟨_,_,_,e,_⟩:=rE p
  cases e
 exact ⟨fun vs H Q E z=>(no vs H Q E z).elim,fun _ _ _ _ _ _ _ _ _ _ _ _ _ z=>(no _ _ _ _ z).elim⟩
theorem oA {N':List Str} {sc:Scope} {C:Addr} {s₀:Shared} {H₀:Hp} {fp:List Addr}:Passes (CXE X.prog X.w) (blk X N' sc C s₀ H₀ fp) E0:=fun _ _ _ _ _ _ _ h=>(qY h).elim
theorem Jh {σ0:L2.St} {C k:Nat} {cc:List Nat} {fa:Addr} {fd:FuncData} {ps:List Str} {x:Str} {p cpos pos:Pos} (O:Own X) (hxe:X.xe=qZ X E) (hc:X.calm=true) (M:XMk X.K (cl C) fa) (F:bK X.prog X.w X.K X.mg X.base CX0 k fa fd ps (spX (cl C) cc)) (hr:bz (k + 1) X.A) (hb:Binds X.K fd ps [])
 (hg:Gl X x) (hm:X.mg x=some (.ref (cl C))) (hdb:(x == ("__debug__":Str))=false:=by decide):PS X (.Raise (some (.Call (.Name x p) [] [] cpos)) none pos) (tS Pg cl E d σ0 (.raise C cc)):=PS.of (Ga O hxe hc M F hr hb hg hm hdb) fun _ _ _ q=>Gn q
end
end Ev
set_option maxRecDepth 100000
set_option maxHeartbeats 4000000
namespace Ev
open PySem PySem.Spec PySem.SeqAt PyProof.Rows L2
section
variable {Pg:List Fn} {cl:Cn} {E:XK} {d:Nat} {X:Cx} {σ:L2.St} {H:Hp}
def KTup (K:PySem.W.Frag) (a:Addr) (ns:List Int):Prop:=∀ H,SqT K H a (ns.map V.int)
inductive DW (K:PySem.W.Frag):List DictEntry->List (List Nat × List Int)->Prop
 | nil:DW K [] []
 | cons {hs c t a ns es tb}:KTup K a ns->DW K es tb->DW K (⟨hs,.str (nm c) t,.ref a⟩::es) ((c,ns)::tb)
structure Uz (K:PySem.W.Frag) (w:World) (da:Addr) (tb:List (List Nat × List Int)):Prop where
 ex:∃ (es:List DictEntry) (n:Nat),K.lookup da=some ⟨.type "dict",none,.dict es.toArray n,#[]⟩/\PySem.W.KeysLit w.params es/\DW K es tb
 ns:(da == sysModules)=false
end
end Ev
set_option maxRecDepth 100000
set_option maxHeartbeats 4000000
namespace Ev
open PySem PySem.Spec PySem.SeqAt PyProof.Rows L2
theorem K9:("word":Str)=nm fu:=by decide +kernel
def spS (K:PySem.W.Frag):Sp:=fun vs H Q _=>∃ e C y,vs= [.ref e,y]/\H e=some (XO e C none)/\eG K C/\jJ K C "word"/\∀ dx,H dx=none->dx ≠ e->Q .non (upd (upd H dx (.xd [("word",y)])) e (XO e C (some dx)))
section
variable {Pg:List Fn} {cl:Cn} {E:XK} {d:Nat} {X:Cx} {σ:L2.St} {H:Hp}
def qF (n:Nat):Sp:=fun vs H Q _=>∃ (x y:V) (dx dy:PyData),vs= [x,y]/\Rep H x dx/\Rep H y dy/\dy.depth < n/\∀ H',dX H H'->Q (.bl (PySem.Spec.same dx dy)) H'
theorem Sim.same {ρ:List Addr} {h:Hs} {H':Hp} (s:Sim cl ρ h H) (e:dX H H'):Sim cl ρ h H'/\Bt cl ρ H ρ H':=by
 refine ⟨⟨s.len,s.nd,fun n a q=>?_,fun on=>?_⟩,List.prefix_refl _,fun b u q nb=>⟨nb,fun _=>e b u q,u,e b u q⟩⟩
 · obtain ⟨o,ho,x⟩:=s.obj n a q
   obtain ⟨u,hu⟩:=x.som
   exact ⟨o,ho,x.keep (List.prefix_refl _) ((e a u hu).trans hu.symm)⟩
 · obtain ⟨ps,h1,h2,h3⟩:=s.tb on
   refine ⟨ps,e _ _ h1,h2,fun pos cv z=>?_⟩
   obtain ⟨c',e1,e2⟩:=h3 pos cv z
   exact ⟨c',e1,e _ _ e2⟩
theorem O8:OpN cl .same (fun vs H Q=>qF 13 vs H Q E0):=fun E ρ h H ws vs Q s r p=>by
 obtain ⟨w,v,w',v',rfl,rfl,r1,r2,p1⟩:=v9 r (show Post cl ρ H E (ofW (iD ws (JR h))) (VP Q) from p)
 obtain ⟨x,ex,p2⟩:=iQ p1
 obtain ⟨y,ey,p3⟩:=iQ p2
 obtain ⟨a1,a2,a3⟩:=nP s 12 r1 ex
 obtain ⟨b1,b2,b3⟩:=nP s 12 r2 ey
 refine ⟨v,v',pd x,pd y,rfl,a1,b1,by omega,fun H' e=>?_⟩
 obtain ⟨s',bt⟩:=s.same e
 exact Post.yes s' (p3.later bt) (Bs x y).symm
theorem K_ {k:Nat} {fa:Addr} {fd:FuncData} {ps:List Str} {st:Stmt} {x:Str} {e:Expr} {es:List Expr} {y:Ev.X} {ys:List Ev.X} {p pos:Pos} (D:Df X.K X.mg x st ps fa fd) (F:bK X.prog X.w X.K X.mg X.base CX0 k fa fd ps (qF 13)) (hr:bz k X.A) (hg:Gl X x) (ha:PA X (e::es) (tA Pg cl E d (y::ys))) (hdb:(x == ("__debug__":Str))=false:=by decide)
 (he:starEach (e::es) X.env=(false,eval e X.env)::starEach es X.env:=by rfl) (hpl:(backTo pos (starEach es X.env)).any (·.1)=false:=by rfl):
 PE X (.Call (.Name x p) (e::es) [] pos) (tE Pg cl E d (.pr .same (y::ys))):=PE.of (qy D F hr hg ha hdb he hpl) fun σ H Q q=>by
 obtain ⟨ρ,τ,h,n,s,rs,z⟩:=Dy O8 q
 exact ⟨ρ,τ,h,n,s,rs,z.mono fun a h ρ H _ _ ⟨ws,e,g⟩=>⟨ws,e,fun vs rv=>by show qF 13 (vs ++ []) H Q E0;rw [List.append_nil];exact g vs rv⟩⟩
end
end Ev
set_option maxRecDepth 100000
set_option maxHeartbeats 4000000
namespace Ev
open PySem L2
section
variable {Pg:List Fn} {cl:Cn} {E:XK} {d:Nat} {X:Cx} {σ σ0:L2.St} {H:Hp}
noncomputable def never:S:=.expr (.pr .neg [])
theorem O9 {a:S} {as:List S} {D:Ends} (x:tSs Pg cl E d σ0 (a::as) D σ H):M5 (tS Pg cl E d σ0 a) (tSs Pg cl E d σ0 as) D σ H:=by
 obtain ⟨ρ,τ,h,n,s,rs,ag,q⟩:=x.step
 refine evS.then s rs ag (show Post cl ρ H E ((evs Pg n d (.s a) τ h).bind fun r h=>r.toF fun f=>Fl.rec (fun τ=>evs Pg n d (.ss as) τ h) (fun w=>.ok (.fl (.rt w)) h) (fun τ=>.ok (.fl (.bk τ)) h) (fun τ=>.ok (.fl (.ct τ)) h) f) (SPo σ0 D) from q) fun a1 h1 ρ1 H1 b1 s1 p1=>?_
 obtain ⟨f,rfl,p2⟩:=sU p1
 refine ⟨f,rfl,?_⟩
 cases f with
 | nx τ1=>exact fun σ1 rs1 ag1=>⟨ρ1,τ1,h1,n,s1,rs1,ag1,p2⟩
 | rt w=>
   obtain ⟨f,ef,qf⟩:=Post.now s1 (show Post cl ρ1 H1 E (.ok (.fl (.rt w)) h1) (SPo σ0 D) from p2)
   cases ef;exact qf
 | bk τ1=>
   obtain ⟨f,ef,qf⟩:=Post.now s1 (show Post cl ρ1 H1 E (.ok (.fl (.bk τ1)) h1) (SPo σ0 D) from p2)
   cases ef;exact qf
 | ct τ1=>
   obtain ⟨f,ef,qf⟩:=Post.now s1 (show Post cl ρ1 H1 E (.ok (.fl (.ct τ1)) h1) (SPo σ0 D) from p2)
   cases ef;exact qf
theorem nil_of {D:Ends} (x:tSs Pg cl E d σ0 [] D σ H):D.nx σ H:=by
 obtain ⟨ρ,τ,h,n,s,rs,ag,q⟩:=x.step
 obtain ⟨f,ef,qf⟩:=Post.now s (show Post cl ρ H E (.ok (.fl (.nx τ)) h) (SPo σ0 D) from q)
 cases ef
 exact qf σ rs ag
def tSx (Pg:List Fn) (cl:Cn) (E:XK) (d:Nat) (σ0:L2.St) (as:List S) (u:TS):TS:=fun D σ H=>tSs Pg cl E d σ0 as { D with nx:=u D } σ H
theorem Ji {st:Stmt} {rest:List Stmt} {a:S} {as:List S} {u:TS} (h1:PS X st (tS Pg cl E d σ0 a)) (h2:PSs X rest (tSx Pg cl E d σ0 as u)):PSs X (st::rest) (tSx Pg cl E d σ0 (a::as) u):=
 PSs.of (bG h1 h2) fun D σ H x=>O9 (D:={ D with nx:=u D }) x
theorem La {rest:List Stmt} {u:TS} (h2:PSs X rest u):PSs X rest (tSx Pg cl E d σ0 [] u):=PSs.of h2 fun D σ H x=>nil_of (D:={ D with nx:=u D }) x
def tSt (Pg:List Fn) (cl:Cn) (E:XK) (d:Nat) (as:List S) (u:TS):TS:=fun D σ H=>tSx Pg cl E d σ as u D σ H
theorem O_ {b:List Stmt} {a:List S} {u:TS} (h:∀ σ0,PSs X b (tSx Pg cl E d σ0 a u)):PSs X b (tSt Pg cl E d a u):=fun pins s σ H D I q=>h σ pins s σ H D I q
theorem RS.of {ρ:List Addr}:∀ {τ:Sg} {σ:L2.St},τ.length=σ.length->(∀ i w,aN τ i=some w->∃ v,σ[i]? =some (some v)/\RW ρ w v)->RS ρ τ σ
 | [],[],_,_=>.nil
 | [],_::_,e,_=>by simp at e
 | _::_,[],e,_=>by simp at e
 | o::τ,p::σ,e,h=>by
   refine .cons ?_ (RS.of (by simpa using e) fun i w q=>by simpa using h (i + 1) w q)
   cases o with
   | none=>cases p <;> trivial
   | some w=>
     obtain ⟨v,e1,r⟩:=h 0 w rfl
     simp at e1;subst e1
     exact r
theorem RS.len {ρ:List Addr} {τ:Sg} {σ:L2.St} (h:RS ρ τ σ):τ.length=σ.length:=Paired.length h
theorem Sim.none (t:Tb cl H):Sim cl [] (.mk 0 .lf) H:=⟨rfl,by simp,fun n a h=>by simp at h,t⟩
theorem Sim.adopt {ρ:List Addr} {h:Hs} {p:Addr} {o:O} (s:Sim cl ρ h H) (e:p ∉ ρ) (x:OA cl (ρ ++ [p]) H p o):Sim cl (ρ ++ [p]) (h.push o) H where
 len:=by rw [List.length_append,Hs.pM,s.len];rfl
 nd:=List.nodup_append.mpr ⟨s.nd,by simp,fun a ha b hb z=>by
  simp only [List.mem_singleton] at hb
  exact e (by rw [<- hb,<- z];exact ha)⟩
 obj:=fun n a hn=>by
  rw [Hs.lg]
  by_cases hlt:n < ρ.length
  · rw [List.getElem?_append_left hlt] at hn
    obtain ⟨o',q,y⟩:=s.obj n a hn
    exact ⟨o',by rw [if_neg (by rw [<- s.len];omega)];exact q,y.keep (List.prefix_append _ _) rfl⟩
  · have hn':n=ρ.length:=by
     have:=(List.getElem?_eq_some_iff.mp hn).1
     rw [List.length_append] at this
     simp at this;omega
    subst hn'
    rw [List.getElem?_append_right (Nat.le_refl _),Nat.sub_self] at hn
    simp at hn;subst hn
    exact ⟨o,by rw [if_pos s.len],x⟩
 tb:=s.tb
theorem Lb {a:Addr} {u:HO} (t:Tb cl H) (e:H a=some u) (n:∀ ps,u ≠ .tbl ps):cl.on=true->a ≠ cl.P:=fun on z=>by
 obtain ⟨ps,q,_⟩:=t on
 rw [<- z,e] at q
 exact n ps (Option.some.inj q)
def goes (r:R A) (f:Sg->Hs->Bool):Bool:=match r with
 | .ok (.fl (.nx τ)) h=>f τ h
 | _=>false
theorem BK {r:R A} {f:Sg->Hs->Bool} (e:goes r f=true):∃ τ h,r= .ok (.fl (.nx τ)) h/\f τ h=true:=by
 unfold goes at e
 split at e
 · exact ⟨_,_,rfl,e⟩
 · cases e
theorem stage {as:List S} {u:TS} {D:Ends} {ρ:List Addr} {τ τ':Sg} {h h':Hs} {n:Nat} (s:Sim cl ρ h H) (rs:RS ρ τ σ) (run:evs Pg n d (.ss as) τ h= .ok (.fl (.nx τ')) h')
 (k:∀ ρ' H' σ',Bt cl ρ H ρ' H'->Sim cl ρ' h' H'->RS ρ' τ' σ'->Ag σ τ' σ'->u D σ' H'):tSt Pg cl E d as u D σ H:=
 ⟨ρ,τ,h,n,s,rs,fun _ _=>rfl,by rw [run];exact fun ρ' H' b s'=>⟨_,rfl,fun σ' rs' ag=>k ρ' H' σ' b s' rs' ag⟩⟩
theorem Bt.kept {ρ ρ':List Addr} {H':Hp} {a:Addr} {u:HO} (b:Bt cl ρ H ρ' H') (t:Tb cl H) (n:∀ ps,u ≠ .tbl ps) (h:a ∉ ρ) (e:H a=some u):H' a=some u:=(b.2 a u e h).2.1 (Lb t e n)
theorem yh {α:Type} {xs:List α} {i:Nat} {x:α} (h:xs[i]? =some x):xs.set i x=xs:=by
 apply List.ext_getElem?
 intro j
 rw [List.getElem?_set]
 by_cases e:i=j
 · subst e
   rw [if_pos rfl,h,if_pos (List.getElem?_eq_some_iff.mp h).1]
 · rw [if_neg e]
def tL (K:PySem.W.Frag) (T:Addr):Sp:=fun vs H Q _=>∃ (a:Addr) (ns:List Int),vs= [.ref a]/\tK T H/\SqL K H a (ns.map V.int)/\ns.length <= 63/\∀ H',Q (.bl true) H'
theorem Ld {T:Addr} (h:tK T H) (e:cl.P=T):Tb cl H:=fun _=>⟨#[],by rw [e];exact h.1,trivial,fun pos cv z=>by simp [codeAmong] at z⟩
theorem rw_ints (ρ:List Addr):∀ ns:List Int,RWs ρ (ns.map W.int) (ns.map V.int)
 | []=>.nil
 | n::ns=>.cons (.int n) (rw_ints ρ ns)
theorem Pa {ρ:List Addr} {τ:Sg} {σ:L2.St} {i n:Nat} {a:Addr} (rs:RS ρ τ σ) (e:aN τ i=some (.ref n)) (h:ρ[n]? =some a):σ[i]? =some (some (.ref a)):=by
 obtain ⟨v,e1,r⟩:=rs.get e
 have:=r.inj (.ref (ρ:=ρ) h)
 rw [e1,this]
theorem Pb {ρ:List Addr} {τ:Sg} {σ:L2.St} {i:Nat} {w:W} (ρ':List Addr) (rs:RS ρ τ σ) (e:aN τ i=some w) (h:∀ n,w ≠ .ref n):∃ v,σ[i]? =some (some v)/\RW ρ' w v:=by
 obtain ⟨v,e1,r⟩:=rs.get e
 refine ⟨v,e1,?_⟩
 cases r with
 | non=>exact .non
 | bl b=>exact .bl b
 | int i=>exact .int i
 | str c=>exact .str c
 | ref h'=>exact absurd rfl (h _)
theorem aG {x p} {es:List Expr} {a:Ev.X} {as:List Ev.X} (ha:PE X (.Name x p) (tE Pg cl E d a)) (hr:PA X es (tA Pg cl E d as)):PA X (.Name x p::es) (tA Pg cl E d (a::as)):=dR ha hr rfl
theorem aK {x k p} {es:List Expr} {a:Ev.X} {as:List Ev.X} (ha:PE X (.Constant x k p) (tE Pg cl E d a)) (hr:PA X es (tA Pg cl E d as)):PA X (.Constant x k p::es) (tA Pg cl E d (a::as)):=dR ha hr rfl
theorem rG {x k p} {es:List Expr} {a:Ev.X} {as:List Ev.X} (ha:PE X (.Tuple x k p) (tE Pg cl E d a)) (hr:PA X es (tA Pg cl E d as)):PA X (.Tuple x k p::es) (tA Pg cl E d (a::as)):=dR ha hr rfl
theorem uL {x p} {es:List Expr} {a:Ev.X} {as:List Ev.X} (ha:PE X (.List x p) (tE Pg cl E d a)) (hr:PA X es (tA Pg cl E d as)):PA X (.List x p::es) (tA Pg cl E d (a::as)):=dR ha hr rfl
theorem iR {x o y p} {es:List Expr} {a:Ev.X} {as:List Ev.X} (ha:PE X (.BinOp x o y p) (tE Pg cl E d a)) (hr:PA X es (tA Pg cl E d as)):PA X (.BinOp x o y p::es) (tA Pg cl E d (a::as)):=dR ha hr rfl
theorem Le {f x k p} {es:List Expr} {a:Ev.X} {as:List Ev.X} (ha:PE X (.Call f x k p) (tE Pg cl E d a)) (hr:PA X es (tA Pg cl E d as)):PA X (.Call f x k p::es) (tA Pg cl E d (a::as)):=dR ha hr rfl
theorem jc {x i p} {es:List Expr} {a:Ev.X} {as:List Ev.X} (ha:PE X (.Subscript x i p) (tE Pg cl E d a)) (hr:PA X es (tA Pg cl E d as)):PA X (.Subscript x i p::es) (tA Pg cl E d (a::as)):=dR ha hr rfl
theorem DX {o x p} {es:List Expr} {a:Ev.X} {as:List Ev.X} (ha:PE X (.UnaryOp o x p) (tE Pg cl E d a)) (hr:PA X es (tA Pg cl E d as)):PA X (.UnaryOp o x p::es) (tA Pg cl E d (a::as)):=dR ha hr rfl
end
end Ev
set_option maxRecDepth 100000
set_option maxHeartbeats 4000000
namespace Ev
open PySem L2
structure QE (X:Cx) (e:Expr) (t:TE):Prop where
 h:PE X e t
structure QA (X:Cx) (e:List Expr) (t:TA):Prop where
 h:PA X e t
structure QS (X:Cx) (e:Stmt) (t:TS):Prop where
 h:PS X e t
structure QSs (X:Cx) (e:List Stmt) (t:TS):Prop where
 h:PSs X e t
section
variable {Pg:List Fn} {cl:Cn} {E:XK} {d:Nat} {X:Cx} {σ0:L2.St}
theorem jn {st:Stmt} {rest:List Stmt} {a:S} {as:List S} {u:TS} (h1:QS X st (tS Pg cl E d σ0 a)) (h2:QSs X rest (tSx Pg cl E d σ0 as u)):QSs X (st::rest) (tSx Pg cl E d σ0 (a::as) u):=⟨Ji h1.h h2.h⟩
theorem uM {rest:List Stmt} {u:TS} (h2:QSs X rest u):QSs X rest (tSx Pg cl E d σ0 [] u):=⟨La h2.h⟩
theorem Lf:QSs X [] Cw:=⟨ig⟩
theorem yj {b:List Stmt} {a:List S} {u:TS} (h:∀ σ0,QSs X b (tSx Pg cl E d σ0 a u)):QSs X b (tSt Pg cl E d a u):=⟨O_ fun σ0=>(h σ0).h⟩
end
end Ev
set_option maxRecDepth 100000
set_option maxHeartbeats 4000000
namespace Ev
open PySem PyProof.Rows L2
def rH (a:Addr) (n:Nat) (h:Heap):Prop:=∃ (o:Obj) (es:Array (Int × Value)) (ep:Nat) (t:SetTable),h.get? a=some o/\o.ExactSet/\o.data= .set es ep t/\t.fits es.size=true/\es.size=n/\n < scanBound
theorem Gr {a:Addr} {n:Nat} (h1 h2:Heap) (x:rH a n h1) (k:∀ o,h1.get? a=some o->h2.get? a=some o):rH a n h2:=by
 obtain ⟨o,es,ep,t,e,r⟩:=x
 exact ⟨o,es,ep,t,k o e,r⟩
theorem lW:∀ {ns:List Int} {us:List Value},Vals (ns.map V.int) us->IntsAre us ns
 | [],[],_=>.nil
 | [],_::_,h=>by cases h
 | _::_,[],h=>by cases h
 | n::ns,u::us,h=>by
   cases h with
   | cons h1 h2=>
     obtain ⟨t,rfl⟩:=h1
     exact .cons n t (lW h2)
def unlike (ns:List Int):Nat:=(firstMet (fun i=>ns.getD i 0) ns.length).length
section
variable {X:Cx}
theorem Gs:cU X (.builtin "len") (fun xs H Q=>∃ a n,xs= [.ref a]/\H a=some (.ext (rH a n))/\Q (.int n) H):=by
 intro pins s σ H xs us Q I r h
 obtain ⟨a,n,rfl,he,q⟩:=h
 obtain ⟨u,rfl,rx⟩:=vals1 r
 cases rx
 obtain ⟨⟨o,es,ep,t,ho,hex,hd,hf,rfl,hb⟩,_⟩:=I.hok a _ he
 have h4:((es.size:Int) < 2 ^ 63):=by unfold scanBound at hb;omega
 exact call_len_set ho hex hd hf h4 ⟨.int es.size,H,I.tok _,⟨s.toks + 1,rfl⟩,q⟩
theorem Gu (hh:X.A.handled=none):cU X (.type "set") (fun xs H Q=>∃ p ns,xs= [.ref p]/\SqL X.K H p (ns.map V.int)/\ns.length <= 1000/\∀ l,H l=none->Q (.ref l) (upd H l (.ext (rH l (unlike ns))))):=by
 intro pins s σ H xs us Q I r h
 obtain ⟨p,ns,rfl,hq,hn,q⟩:=h
 obtain ⟨u,rfl,rx⟩:=vals1 r
 cases rx
 obtain ⟨its,r',pl,hz⟩:=I.list hq
 have hlen:=r'.length
 rw [List.length_map] at hlen
 refine call_set_list (items:=its.toArray) (ns:=ns) hh pl.isList (by simpa using lW r') (by simp;unfold scanBound;omega) fun h' tk hS kp=>?_
 obtain ⟨o,es,ep,t,e1,e2,e3,_,_,e4,e5,e6⟩:=hS
 have e7:es.size=unlike ns:=by rw [e6];unfold unlike;rw [List.size_toArray,<- hlen]
 exact ⟨.ref s.heap.objs.size,_,I.laid (t':=tk) (fun b o e=>kp b o (Heap.lt_size e) e) (Nat.le_refl _) (show bw X.prog X.w _ h' _ (.ext (rH s.heap.objs.size (unlike ns))) from ⟨⟨o,es,ep,t,e1,e2,e3,e5,e7,by rw [<- e7];exact e4⟩,⟨o,e1⟩,fun h1 h2=>Gr h1 h2⟩),rfl,q _ (I.hok.fresh (Nat.le_refl _))⟩
variable {Pg:List Fn} {cl:Cn} {E:XK} {d:Nat}
theorem oE {ρ:List Addr}:∀ {xs:List W} {vs:List V} {ns:List Int},RWs ρ xs vs->gG xs=some ns->vs=ns.map V.int
 | [],_,_,.nil,e=>by cases e;rfl
 | x::xs,_,ns,.cons r rs,e=>by
   have e:W.elim x none (fun _=>none) (fun i=>Option.rec none (fun r=>some (i::r)) (gG xs)) (fun _=>none) (fun _=>none)=some ns:=e
   cases r with
   | int i=>
     cases z:gG xs with
     | none=>rw [z] at e;cases e
     | some r=>rw [z] at e;cases e;rw [oE rs z];rfl
   | non=>cases e
   | bl b=>cases e
   | str c=>cases e
   | ref h=>cases e
theorem ym (x:Int):∀ acc:List Int,xR x acc=acc.any (· == x)
 | []=>rfl
 | y::acc=>by
   show ifB (ieq y x) true (xR x acc)=((y == x) || acc.any (· == x))
   rw [cT,ym x acc]
   by_cases z:y=x
   · subst z;simp [ifB]
   · have:(y == x)=false:=by simpa using z
     rw [decide_eq_false z,this];rfl
theorem JX:∀ (l acc:List Int),dd l acc=l.foldl step_dedup acc
 | [],_=>rfl
 | x::l,acc=>by
   show dd l (ifB (xR x acc) acc (app acc [x]))=l.foldl step_dedup (step_dedup acc x)
   rw [JX l,ym,jN]
   unfold step_dedup
   cases acc.any (· == x) <;> rfl
theorem Gv (ns:List Int):unlike ns=(dd ns []).length:=by
 unfold unlike firstMet
 rw [JX]
 have:(List.range ns.length).map (fun i=>ns.getD i 0)=ns:=by
  apply List.ext_getElem?
  intro i
  by_cases h:i < ns.length
  · simp [h]
  · simp [h]
 rw [this]
theorem Jj {K:PySem.W.Frag}:Op1 cl .pK (fun x H Q=>∃ p ns,x= .ref p/\SqL K H p (ns.map V.int)/\ns.length <= 1000/\∀ l,H l=none->Q (.int (unlike ns)) (upd H l (.ext (rH l (unlike ns))))):=fun E ρ h H w1 v1 Q s r1 p=>by
 have p:Post cl ρ H E (ofW (pLs h w1)) (VP Q):=p
 obtain ⟨n,o,a,rfl,rfl,e1,g1,x1,p⟩:=oAt s r1 p
 obtain ⟨xs,rfl,p⟩:=oL p
 obtain ⟨hl,p⟩:=oIf p
 obtain ⟨ns,hn,p⟩:=iQ p
 obtain ⟨us,ru,q⟩:=x1
 have hlen:=ru.length
 rw [oE ru hn] at q hlen
 rw [List.length_map] at hlen
 have hl':xs.length <= 1000:=by rw [len_eq] at hl;exact Nat.le_of_ble_eq_true hl
 refine ⟨a,ns,rfl,SqL.of q,by omega,fun l hl=>?_⟩
 have z:=Post.eV (s.other (u:=.ext (rH l (unlike ns))) hl) (p.later (Bt.other hl)) (.int _)
 rw [len_eq,<- Gv] at z
 exact z
theorem vp {a:Expr} {x:Ev.X} {p q pos1 pos:Pos} (hh:X.A.handled=none) (hg:Gl X "len") (hm:X.mg "len" =none) (hg2:Gl X "set") (hm2:X.mg "set" =none) (ha:PE X a (tE Pg cl E d x))
 (he:starEach [a] X.env=(false,eval a X.env)::starEach [] X.env:=by rfl):
 PE X (.Call (.Name "len" p) [.Call (.Name "set" q) [a] [] pos1] [] pos) (tE Pg cl E d (.pr .pK [x])):=by
 refine PE.of (aU Gs hg hm boot_len (ao (pF (Gu hh) hg2 hm2 rfl (ao ha aJ he) (by decide) (by decide) he rfl) aJ rfl) (by decide) (by decide) rfl rfl) fun σ H Q z=>?_
 obtain ⟨ρ,τ,h,n,s,rs,p⟩:=sY (Jj (K:=X.K)) z
 refine ⟨ρ,τ,h,n,s,rs,p.mono fun a h ρ H _ _ ⟨w,e,g⟩=>⟨w,e,fun v rv=>?_⟩⟩
 obtain ⟨p',ns,rfl,q1,q2,q3⟩:=g v rv
 exact ⟨p',ns,rfl,q1,q2,fun l hl=>⟨l,_,rfl,aC,q3 l hl⟩⟩
end
end Ev
set_option maxRecDepth 100000
set_option maxHeartbeats 4000000
namespace Ev
open PySem PyProof.Rows L2
def lX (r:Addr) (lo hi:Int) (h:Heap):Prop:=∃ t u v,IsRange h r lo hi 1 t u v
def lu (n:Nat) (lo:Int):List V:=(List.range n).map fun (k:Nat)=>V.int (lo + k)
theorem DY {n:Nat} (h:n <= 3000):n < sizeLine:=Nat.lt_of_le_of_lt h (by decide)
theorem BL:∀ {xs:List V} {us:List Value},xs.length=us.length->(∀ (i:Nat) (x:V) (u:Value),xs[i]? =some x->us[i]? =some u->RelV x u)->Vals xs us
 | [],[],_,_=>.nil
 | [],_::_,e,_=>by simp at e
 | _::_,[],e,_=>by simp at e
 | x::xs,u::us,e,h=>.cons (h 0 x u rfl rfl) (BL (by simpa using e) fun i x u a b=>h (i + 1) x u (by simpa using a) (by simpa using b))
theorem Gw (n:Nat) (lo:Int):lu (n + 1) lo= .int lo::lu n (lo + 1):=by
 unfold lu
 rw [List.range_succ_eq_map,List.map_cons,List.map_map]
 congr 1
 · simp
 · apply List.map_congr_left
   intro k _
   show V.int (lo + ((k + 1:Nat):Int))=V.int (lo + 1 + (k:Int))
   congr 1
   omega
theorem Gx (ρ:List Addr):∀ (n:Nat) (lo:Int),RWs ρ (xT n lo) (lu n lo)
 | 0,_=>.nil
 | n + 1,lo=>by rw [Gw];exact .cons (.int lo) (Gx ρ n (lo + 1))
section
variable {X:Cx}
theorem D_:cU X (.type "range") (fun xs H Q=>∃ i j,xs= [.int i,.int j]/\∀ l,H l=none->Q (.ref l) (upd H l (.ext (lX l i j)))):=by
 intro pins s σ H xs us Q I r h
 obtain ⟨i,j,rfl,q⟩:=h
 obtain ⟨u1,u2,rfl,⟨t,rfl⟩,⟨t',rfl⟩⟩:=vals2 r
 refine call_range_2 ?_
 exact ⟨.ref s.heap.objs.size,_,I.laid (t':=_) (fun b o e=>Heap.get?_push_of_some _ e) (Nat.le_refl _) (show bw X.prog X.w _ _ _ (.ext (lX s.heap.objs.size i j)) from ⟨⟨_,_,_,IsRange.new ..⟩,⟨_,IsRange.new ..⟩,fun h1 h2 ⟨t,u,v,e⟩ k=>⟨t,u,v,k _ e⟩⟩),rfl,q _ (I.hok.fresh (Nat.le_refl _))⟩
theorem Ea (hh:X.A.handled=none):cU X (.type "list") (fun xs H Q=>∃ p lo hi,xs= [.ref p]/\H p=some (.ext (lX p lo hi))/\-1000 < lo/\lo < 1000/\-1000 < hi/\hi < 1000/\∀ l,H l=none->Q (.ref l) (upd H l (.lst (lu (hi - lo).toNat lo)))):=by
 intro pins s σ H xs us Q I r h
 obtain ⟨p,lo,hi,rfl,he,h1,h2,h3,h4,q⟩:=h
 obtain ⟨u,rfl,rx⟩:=vals1 r
 cases rx
 obtain ⟨⟨t,u,v,hr⟩,_⟩:=I.hok p _ he
 refine call_list_range (n:=(hi - lo).toNat) hh hr (small_one (by omega) (by omega) (by omega) (by omega)) (by rw [rangeSize_one];split <;> omega) (by omega) fun h' tk acc c kp e it=>?_
 refine ⟨.ref s.heap.objs.size,_,I.laid (t':=tk) (fun b o e=>kp b o e) (Nat.le_refl _) (show bw X.prog X.w _ h' _ (.lst (lu (hi - lo).toNat lo)) from ?_),rfl,q _ (I.hok.fresh (Nat.le_refl _))⟩
 have hlen:(lu (hi - lo).toNat lo).length=acc.toList.length:=by have:=it.1;simp [lu];omega
 refine ⟨?_,acc.toList,c,BL hlen fun i x u a b=>?_,by simpa using e⟩
 · refine Nat.le_of_lt (DY ?_)
   simp [lu];omega
 · rw [Array.getElem?_toList] at b
   obtain ⟨t,rfl⟩:=it.2 i u b
   have hi:i < (hi - lo).toNat:=by
    have:=(Array.getElem?_eq_some_iff.mp b).1
    rw [it.1] at this;exact this
   simp [lu,hi] at a
   subst a
   exact ⟨t,by simp⟩
variable {Pg:List Fn} {cl:Cn} {E:XK} {d:Nat}
theorem Ph:Op2 cl .xU (fun x y H Q=>∃ i j,[x,y] = [V.int i,.int j]/\∀ l,H l=none->∃ p lo hi,[V.ref l] = [.ref p]/\upd H l (.ext (lX l i j)) p=some (.ext (lX p lo hi))/\-1000 < lo/\lo < 1000/\-1000 < hi/\hi < 1000/\∀ l',upd H l (.ext (lX l i j)) l'=none->Q (.ref l') (upd (upd H l (.ext (lX l i j))) l' (.lst (lu (hi - lo).toNat lo)))):=fun E ρ h H w1 w2 v1 v2 Q s r1 r2 p=>by
 obtain ⟨i,rfl,p⟩:=oI (show Post cl ρ H E (ofW (w1.onI fun i=>w2.onI fun j=>pLr h i j)) (VP Q) from p)
 obtain ⟨j,rfl,p⟩:=oI p
 obtain ⟨c1,p⟩:=oIf p
 obtain ⟨c2,p⟩:=oIf p
 obtain ⟨c3,p⟩:=oIf p
 obtain ⟨c4,p⟩:=oIf p
 rw [bA] at c1 c2 c3 c4
 have c1:=of_decide_eq_true c1
 have c2:=of_decide_eq_true c2
 have c3:=of_decide_eq_true c3
 have c4:=of_decide_eq_true c4
 cases r1;cases r2
 exact ⟨i,j,rfl,fun l hl=>⟨l,i,j,rfl,aC,c1,c2,c3,c4,fun l' hl'=>Post.newL (s.other (u:=.ext (lX l i j)) hl) (p.later (Bt.other hl)) hl' (Gx _ _ _)⟩⟩
theorem BP {a b:Expr} {x y:Ev.X} {p q pos1 pos:Pos} (hh:X.A.handled=none) (hg:Gl X "list") (hm:X.mg "list" =none) (hg2:Gl X "range") (hm2:X.mg "range" =none) (ha:PE X a (tE Pg cl E d x)) (hb:PE X b (tE Pg cl E d y))
 (he:starEach [a,b] X.env=(false,eval a X.env)::starEach [b] X.env:=by rfl) (he2:starEach [b] X.env=(false,eval b X.env)::starEach [] X.env:=by rfl) (hpl:(backTo pos1 (starEach [b] X.env)).any (·.1)=false:=by rfl):
 PE X (.Call (.Name "list" p) [.Call (.Name "range" q) [a,b] [] pos1] [] pos) (tE Pg cl E d (.pr .xU [x,y])):=
 PE.of (pF (Ea hh) hg hm rfl (ao (pF D_ hg2 hm2 boot_range (ao ha (ao hb aJ he2) he) (by decide) (by decide) he hpl) aJ rfl) (by decide) (by decide) rfl rfl) fun σ H Q z=>pP Ph z
end
end Ev
set_option maxRecDepth 100000
set_option maxHeartbeats 4000000
namespace Ev
open PySem PySem.Spec PySem.SeqAt PyProof.Rows L2
section
variable {Pg:List Fn} {cl:Cn} {E:XK} {d:Nat} {X:Cx} {σ σ0:L2.St} {H:Hp}
def yo (r:R A):Bool:=match r with
 | .ok (.fl (.rt (.bl b))) _=>b
 | _=>false
theorem Lg {r:R A} (e:yo r=true):∃ h,r= .ok (.fl (.rt (.bl true))) h:=by
 unfold yo at e
 split at e
 · subst e;exact ⟨_,rfl⟩
 · cases e
theorem Pj {as:List S} {u:TS} {D:Ends} {ρ:List Addr} {τ:Sg} {h h':Hs} {n:Nat} (s:Sim cl ρ h H) (rs:RS ρ τ σ) (run:evs Pg n d (.ss as) τ h= .ok (.fl (.rt (.bl true))) h') (k:∀ H',D.rt (.bl true) H'):tSt Pg cl E d as u D σ H:=
 ⟨ρ,τ,h,n,s,rs,fun _ _=>rfl,by rw [run];exact fun ρ' H' b s'=>⟨_,rfl,fun v rv=>by cases rv;exact k H'⟩⟩
noncomputable def frm (n:Nat) (kv:List (Nat × W)):Sg:=kv.foldr (fun p τ=>setAt τ (some p.2) p.1) (List.replicate n none)
theorem BR {n:Nat}:∀ {kv:List (Nat × W)},(frm n kv).length=n
 | []=>List.length_replicate
 | p::kv=>by
   show (setAt (frm n kv) (some p.2) p.1).length=n
   rw [jk,List.length_set];exact BR
theorem BV {n i:Nat} {w:W}:∀ {kv:List (Nat × W)},aN (frm n kv) i=some w->∃ p ∈ kv,p=(i,w)
 | [],e=>by
   exfalso
   rw [jl] at e
   rw [show frm n [] =List.replicate n none from rfl,List.getElem?_replicate] at e
   split at e <;> cases e
 | p::kv,e=>by
   have e':aN (setAt (frm n kv) (some p.2) p.1) i=some w:=e
   by_cases z:p.1=i
   · refine ⟨p,by simp,?_⟩
     rw [jk,jl,z,List.getElem?_set] at e'
     rw [if_pos rfl] at e'
     split at e'
     · have:p.2=w:=by simpa using e'
       rw [<- z,<- this]
     · cases e'
   · rw [jk,jl,List.getElem?_set_ne z,<- jl] at e'
     obtain ⟨q,hq,e2⟩:=BV e'
     exact ⟨q,List.mem_cons_of_mem _ hq,e2⟩
theorem yp {n:Nat} {kv:List (Nat × W)} {ρ:List Addr} (hn:σ.length=n) (hk:∀ i w,(i,w) ∈ kv->∃ v,σ[i]? =some (some v)/\RW ρ w v):RS ρ (frm n kv) σ:=RS.of (by rw [BR,hn]) fun i w e=>by
 obtain ⟨p,hp,rfl⟩:=BV e
 exact hk i w hp
theorem Pk {n i:Nat} {r:Addr} (hn:σ.length=n) (hr:σ[i]? =some (some (.ref r))):RS [r] (frm n [(i,.ref 0)]) σ:=yp hn fun j w e=>by
 have e:(j,w)=(i,.ref 0):=by simpa using e
 cases e
 exact ⟨_,hr,.ref rfl⟩
theorem Lh {r:Addr} {ns:List Int} (t:Tb cl H) (h:H r=some (.lst (ns.map V.int))):Sim cl [r] ((Hs.mk 0 .lf).push (.lst (ns.map W.int))) H:=(Sim.none t).adopt (o:=.lst (ns.map W.int)) (by simp) ⟨_,rw_ints _ ns,h⟩
end
end Ev
set_option maxRecDepth 100000
set_option maxHeartbeats 4000000
namespace Ev
open PySem PySem.Spec PySem.SeqAt PyProof.Rows L2
section
variable {P:Program} {w:World} {K:PySem.W.Frag} {mg:Str->Option Value} {base:Heap}
theorem Gy {i:Int} (h1: -(2 ^ 20) < i) (h2:i < 2 ^ 20):L2.Sml i:=by
 unfold L2.Sml
 exact Nat.lt_of_lt_of_le (show i.natAbs < 2 ^ 20 by omega) (Nat.pow_le_pow_right (by decide) (by decide))
def below (n:Nat):List Int:=(List.range n).map Int.ofNat
theorem Gz {r:Int} {n:Nat} (h:0 <= r/\r < (n:Int)):r ∈ below n:=List.mem_map.mpr ⟨r.toNat,List.mem_range.mpr (by omega),by show ((r.toNat:Nat):Int)=r;omega⟩
def rowsOf:List Nat->List (List Int)
 | []=>[[]]
 | n::ns=>(below n).flatMap fun r=>(rowsOf ns).map fun l=>r::l
theorem yq:∀ {ns:List Int} {ls:List Nat},L2.Drawn ns (ls.map Int.ofNat)->ns ∈ rowsOf ls
 | _,[],.nil=>by simp [rowsOf]
 | _,n::ls,.cons h t=>List.mem_flatMap.mpr ⟨_,Gz h,List.mem_map.mpr ⟨_,yq t,rfl⟩⟩
end
section
variable {Pg:List Fn} {cl:Cn} {E:XK} {d:Nat} {X:Cx} {σ σ0:L2.St} {H:Hp}
noncomputable def uN (row:List Int):Hs:=(Hs.mk 0 .lf).push (.lst (row.map W.int))
noncomputable def ends (n:Nat) (r:R A):Bool:=goes r fun τ _=>Nat.beq τ.length n && (aN τ 0).isNone
noncomputable def ok0 (n i:Nat) (kv:List (Nat × W)) (row:List Int) (τ:Sg) (h:Hs):Bool:=Nat.beq τ.length n && (aN τ 0).isNone && decide (aN τ i=some (.ref 0)) && kv.all (fun p=>decide (aN τ p.1=some p.2)) && decide (h.get 0=some (.lst (row.map W.int)))
noncomputable def again (Pg:List Fn) (m d i:Nat) (tl:List S) (row:List Int) (τ:Sg) (h:Hs):R A:=evs Pg m d (.ss tl) (setAt τ (some (.ref h.n)) i) (h.push (.lst (row.map W.int)))
end
end Ev
namespace Ev
open L2
end Ev
namespace Ev
open PySem L2
end Ev
namespace Ev
open PySem PySem.Spec PySem.SeqAt PyProof.Rows L2
section
variable {Pg:List Fn} {cl:Cn} {E:XK} {d:Nat} {X:Cx} {σ σ0:L2.St} {H:Hp}
noncomputable def post (i:Nat) (r:R A):Option (Nat × Option W × Option O):=R.rec (fun a h=>A.rec (fun _=>none) (fun _=>none) (fun _=>none) (fun f=>Fl.rec (fun τ=>some (len τ,aN τ i,h.get 0)) (fun _=>none) (fun _=>none) (fun _=>none) f) none a) (fun _ _ _=>none) none r
end
end Ev
set_option maxRecDepth 100000
set_option maxHeartbeats 4000000
namespace Ev
open PySem PySem.Spec PySem.SeqAt PyProof.Rows L2
section
variable {ρ:List Addr}
abbrev KR (ρ:List Addr):List (W × W)->List (Key × V)->Prop:=Paired fun p q=>KW p.1 q.1/\RW ρ p.2 q.2
end
section
variable {Pg:List Fn} {cl:Cn} {E:XK} {d:Nat} {X:Cx} {σ σ0:L2.St} {H:Hp}
end
end Ev
namespace L2
end L2
namespace Ev
open PySem PySem.Spec PySem.SeqAt PyProof.Rows L2
section
variable {Pg:List Fn} {cl:Cn} {E:XK} {d:Nat} {X:Cx} {σ0:L2.St}
end
end Ev
set_option maxRecDepth 100000
set_option maxHeartbeats 4000000
namespace Ev
open PySem PySem.Spec PySem.SeqAt PyProof.Rows L2
noncomputable section
def heapOf (os:List O):Hs:=os.foldl (fun h o=>h.push o) (.mk 0 .lf)
def wm (m:List Nat) (a c:W):Bool:=W.elim c (W.elim a true (fun _=>false) (fun _=>false) (fun _=>false) (fun _=>false)) (fun x=>W.elim a false (fun y=>Bool.rec (Bool.rec true false y) y x) (fun _=>false) (fun _=>false) (fun _=>false))
 (fun i=>W.elim a false (fun _=>false) (fun j=>ieq j i) (fun _=>false) (fun _=>false)) (fun x=>W.elim a false (fun _=>false) (fun _=>false) (fun y=>codes y x) (fun _=>false))
 (fun k=>W.elim a false (fun _=>false) (fun _=>false) (fun _=>false) (fun n=>Option.rec false (fun j=>Nat.beq j n) (nth m k)))
def wms (m:List Nat) (xs:List W):List W->Bool:=List.rec (fun ys=>List.rec true (fun _ _ _=>false) ys) (fun x _ ih ys=>List.rec false (fun y r _=>ifB (wm m x y) (ih r) false) ys) xs
def fms (m:List Nat) (xs:Fs):Fs->Bool:=List.rec (fun ys=>List.rec true (fun _ _ _=>false) ys) (fun x _ ih ys=>List.rec false (fun y r _=>ifB (codes x.1 y.1) (ifB (wm m x.2 y.2) (ih r) false) false) ys) xs
def dms (m:List Nat) (xs:List (W × W)):List (W × W)->Bool:=List.rec (fun ys=>List.rec true (fun _ _ _=>false) ys) (fun x _ ih ys=>List.rec false (fun y r _=>ifB (keq x.1 y.1) (ifB (wm m x.2 y.2) (ih r) false) false) ys) xs
def om (m:List Nat) (o c:O):Bool:=O.rec (fun ys=>O.rec (fun xs=>wms m xs ys) (fun _=>false) (fun _ _=>false) (fun _=>false) (fun _=>false) o) (fun ys=>O.rec (fun _=>false) (fun xs=>wms m xs ys) (fun _ _=>false) (fun _=>false) (fun _=>false) o)
 (fun C gs=>O.rec (fun _=>false) (fun _=>false) (fun C' fs=>ifB (Nat.beq C' C) (fms m fs gs) false) (fun _=>false) (fun _=>false) o) (fun ys=>O.rec (fun _=>false) (fun _=>false) (fun _ _=>false) (fun xs=>dms m xs ys) (fun _=>false) o) (fun _=>false) c
def oms (m:List Nat) (h:Hs) (os:List O):List Nat->Bool:=List.rec (fun ns=>List.rec true (fun _ _ _=>false) ns) (fun c _ ih ns=>List.rec false (fun n r _=>ifB (Nat.ble (n + 1) h.n) (ifB (Option.rec false (fun o=>om m o c) (h.get n)) (ih r) false) false) ns) os
def lQ (n:Nat) (ns:List Nat):Bool:=List.rec true (fun x _ r=>ifB (Nat.beq x n) false r) ns
def pU (ns:List Nat):Bool:=List.rec true (fun x t r=>ifB (lQ x t) r false) ns
def JZ (o:O):List W:=O.rec (fun xs=>xs) (fun xs=>xs) (fun _ fs=>List.rec [] (fun p _ r=>p.2::r) fs) (fun kvs=>List.rec [] (fun p _ r=>p.2::r) kvs) (fun _=>[]) o
def TJ (xs:List W):List W->List (W × W):=List.rec (fun _=>[]) (fun x _ ih ys=>List.rec [] (fun y r _=>(x,y)::ih r) ys) xs
def setM (m:List (Option Nat)) (n:Nat):Nat->List (Option Nat):=List.rec (fun _=>[]) (fun x r ih k=>Nat.rec (some n::r) (fun k _=>x::ih k) k) m
def grow (h:Hs) (os:List O) (f:Nat):List (W × W)->List (Option Nat)->List (Option Nat):=Nat.rec (fun _ m=>m) (fun _ ih todo m=>List.rec m (fun p rest _=>
 W.elim p.2 (ih rest m) (fun _=>ih rest m) (fun _=>ih rest m) (fun _=>ih rest m) fun k=>W.elim p.1 (ih rest m) (fun _=>ih rest m) (fun _=>ih rest m) (fun _=>ih rest m) fun n=>
  Option.rec m (fun x=>Option.rec (Option.rec m (fun c=>Option.rec m (fun o=>ih (app (TJ (JZ o) (JZ c)) rest) (setM m n k)) (h.get n)) (nth os k)) (fun _=>ih rest m) x) (nth m k)) todo) f
def Jk (m:List (Option Nat)):Option (List Nat):=List.rec (some []) (fun x _ r=>Option.rec none (fun n=>Option.rec none (fun l=>some (n::l)) r) x) m
def roots (τ:Sg) (kv:List (Nat × W)):List (W × W):=List.rec [] (fun p _ r=>Option.rec r (fun a=>(a,p.2)::r) (aN τ p.1)) kv
def kvm (m:List Nat) (τ:Sg) (kv:List (Nat × W)):Bool:=List.rec true (fun p _ r=>ifB (Option.rec false (fun a=>wm m a p.2) (aN τ p.1)) r false) kv
def pW (n i f:Nat) (kv:List (Nat × W)) (os:List O) (τ:Sg) (h:Hs):Bool:=ifB (Nat.beq (len τ) n) (ifB (Option.rec true (fun _=>false) (aN τ i)) (Option.rec false (fun m=>ifB (pU m) (ifB (kvm m τ kv) (oms m h os m) false) false) (Jk (grow h os f (roots τ kv) (os.map fun _=>none)))) false) false
end
section
variable {Pg:List Fn} {cl:Cn} {E:XK} {d:Nat} {X:Cx} {σ σ0:L2.St} {H:Hp} {ρ:List Addr} {h:Hs} {m:List Nat}
theorem gJ {b c:Bool} (e:ifB b c false=true):b=true/\c=true:=by cases b with | true=>exact ⟨rfl,e⟩ | false=>cases e
def rho (ρ:List Addr) (m:List Nat):List Addr:=m.map fun n=>ρ.getD n 0
theorem BW {k n:Nat} {a:Addr} (e:m[k]? =some n) (ea:ρ[n]? =some a):(rho ρ m)[k]? =some a:=by
 unfold rho
 rw [List.getElem?_map,e]
 simp [List.getD,ea]
theorem wu {a c:W} {v:V} (e:wm m a c=true) (r:RW ρ a v):RW (rho ρ m) c v:=by
 cases c with
 | non=>cases r <;> first | exact .non | cases e
 | bl x=>
   cases r with
   | bl y=>cases x <;> cases y <;> first | exact .bl _ | cases e
   | _=>cases e
 | int i=>
   cases r with
   | int j=>
     have e:ieq j i=true:=e
     rw [cT] at e
     rw [of_decide_eq_true e];exact .int _
   | _=>cases e
 | str x=>
   cases r with
   | str y=>
     have e:codes y x=true:=e
     rw [eU.mp e];exact .str _
   | _=>cases e
 | ref k=>
   cases r with
   | @ref n a q=>
     have e:Option.rec false (fun j=>Nat.beq j n) (nth m k)=true:=e
     rw [iH] at e
     cases z:m[k]? with
     | none=>rw [z] at e;cases e
     | some j=>
       rw [z] at e
       have e2:j=n:=Nat.eq_of_beq_eq_true e
       subst e2
       exact .ref (BW z q)
   | _=>cases e
theorem yr:∀ {xs ys:List W} {vs:List V},wms m xs ys=true->RWs ρ xs vs->RWs (rho ρ m) ys vs
 | [],[],_,_,.nil=>.nil
 | [],_::_,_,e,_=>nomatch e
 | _::_,[],_,e,_=>nomatch e
 | x::xs,y::ys,_,e,.cons r t=>by
   obtain ⟨e1,e2⟩:=gJ (show ifB (wm m x y) (wms m xs ys) false=true from e)
   exact .cons (wu e1 r) (yr e2 t)
theorem GC:∀ {xs ys:Fs} {gs:List (Str × V)},fms m xs ys=true->FR ρ xs gs->FR (rho ρ m) ys gs
 | [],[],_,_,.nil=>.nil
 | [],_::_,_,e,_=>nomatch e
 | _::_,[],_,e,_=>nomatch e
 | x::xs,y::ys,_,e,.cons r t=>by
   obtain ⟨e0,e'⟩:=gJ (show ifB (codes x.1 y.1) (ifB (wm m x.2 y.2) (fms m xs ys) false) false=true from e)
   obtain ⟨e1,e2⟩:=gJ e'
   exact .cons ⟨by rw [r.1,eU.mp e0],wu e1 r.2⟩ (GC e2 t)
theorem Pn {a b:W} {k:Key} (e:keq a b=true) (h:KW a k):KW b k:=by
 cases h with
 | int i=>
   cases b with
   | int j=>
     have e:ieq i j=true:=e
     rw [cT] at e
     rw [of_decide_eq_true e];exact .int _
   | _=>cases e
 | str c=>
   cases b with
   | str y=>
     have e:codes c y=true:=e
     rw [eU.mp e];exact .str _
   | _=>cases e
theorem GD:∀ {xs ys:List (W × W)} {gs:List (Key × V)},dms m xs ys=true->KR ρ xs gs->KR (rho ρ m) ys gs
 | [],[],_,_,.nil=>.nil
 | [],_::_,_,e,_=>nomatch e
 | _::_,[],_,e,_=>nomatch e
 | x::xs,y::ys,_,e,.cons r t=>by
   obtain ⟨e0,e'⟩:=gJ (show ifB (keq x.1 y.1) (ifB (wm m x.2 y.2) (dms m xs ys) false) false=true from e)
   obtain ⟨e1,e2⟩:=gJ e'
   exact .cons ⟨Pn e0 r.1,wu e1 r.2⟩ (GD e2 t)
theorem Rq {a:Addr} {o c:O} (e:om m o c=true) (x:OA cl ρ H a o):OA cl (rho ρ m) H a c:=by
 cases c with
 | tup ys=>
   cases o with
   | tup xs=>obtain ⟨vs,r,q⟩:=x;exact ⟨vs,yr e r,q⟩
   | _=>cases e
 | lst ys=>
   cases o with
   | lst xs=>obtain ⟨vs,r,q⟩:=x;exact ⟨vs,yr e r,q⟩
   | _=>cases e
 | ins C gs=>
   cases o with
   | ins C' fs=>
     obtain ⟨e1,e2⟩:=gJ (show ifB (Nat.beq C' C) (fms m fs gs) false=true from e)
     have e1:C'=C:=Nat.eq_of_beq_eq_true e1
     subst e1
     obtain ⟨dx,us,r,q⟩:=x
     exact ⟨dx,us,GC e2 r,q⟩
   | _=>cases e
 | dk ys=>
   cases o with
   | dk xs=>obtain ⟨gs,r,q⟩:=x;exact ⟨gs,GD e r,q⟩
   | _=>cases e
 | dt ys=>cases e
theorem yt {m0:List Nat}:∀ {os:List O} {ns:List Nat},oms m0 h os ns=true->os.length=ns.length/\∀ (k:Nat) (c:O) (n:Nat),os[k]? =some c->ns[k]? =some n->n < h.n/\∃ o,h.get n=some o/\om m0 o c=true
 | [],[],_=>⟨rfl,fun k c n e=>by simp at e⟩
 | [],_::_,e=>nomatch e
 | _::_,[],e=>nomatch e
 | c::os,n::ns,e=>by
   obtain ⟨e0,e⟩:=gJ (show ifB (Nat.ble (n + 1) h.n) (ifB (Option.rec false (fun o=>om m0 o c) (h.get n)) (oms m0 h os ns) false) false=true from e)
   obtain ⟨e1,e2⟩:=gJ e
   have e0:n + 1 <= h.n:=Nat.le_of_ble_eq_true e0
   obtain ⟨l,f⟩:=yt e2
   refine ⟨by simp [l],fun k c' n' ec en=>?_⟩
   cases k with
   | zero=>
     simp at ec en
     subst ec en
     cases z:h.get n with
     | none=>rw [z] at e1;cases e1
     | some o=>rw [z] at e1;exact ⟨e0,o,rfl,e1⟩
   | succ k=>exact f k c' n' (by simpa using ec) (by simpa using en)
theorem yu {n:Nat}:∀ {ns:List Nat},lQ n ns=true->n ∉ ns
 | [],_=>by simp
 | x::ns,e=>by
   have e:ifB (Nat.beq x n) false (lQ n ns)=true:=e
   cases z:Nat.beq x n with
   | true=>rw [z] at e;cases e
   | false=>
     rw [z] at e
     intro q
     rcases List.mem_cons.mp q with q | q
     · subst q;simp at z
     · exact yu e q
theorem yw:∀ {ns:List Nat},pU ns=true->ns.Nodup
 | [],_=>by simp
 | x::ns,e=>by
   obtain ⟨e1,e2⟩:=gJ (show ifB (lQ x ns) (pU ns) false=true from e)
   exact List.nodup_cons.mpr ⟨yu e1,yw e2⟩
theorem jz (os:List O) (o:O):heapOf (os ++ [o])=(heapOf os).push o:=by unfold heapOf;rw [List.foldl_append];rfl
theorem dY:∀ (os:List O),(heapOf os).n=os.length/\∀ k,(heapOf os).get k=os[k]?:=by
 intro os
 generalize e:os.length=n
 induction n generalizing os with
 | zero=>
   have:os= []:=List.length_eq_zero_iff.mp e
   subst this
   exact ⟨rfl,fun k=>by cases k <;> rfl⟩
 | succ n ih=>
   obtain ⟨xs,x,rfl⟩:∃ xs x,os=xs ++ [x]:=⟨os.dropLast,os.getLast (by intro z;rw [z] at e;cases e),(List.dropLast_concat_getLast _).symm⟩
   have l:xs.length=n:=by simpa using e
   obtain ⟨h1,h2⟩:=ih xs l
   rw [jz]
   refine ⟨by rw [Hs.pM,h1],fun k=>?_⟩
   rw [Hs.lg,h1]
   by_cases z:k=n
   · subst z
     rw [if_pos rfl,List.getElem?_append_right (by omega),l,Nat.sub_self];rfl
   · rw [if_neg z,h2]
     by_cases q:k < n
     · rw [List.getElem?_append_left (by omega)]
     · rw [List.getElem?_eq_none (by omega),List.getElem?_eq_none (by rw [List.length_append,l];simp;omega)]
theorem Li {os:List O} (s:Sim cl ρ h H) (nd:m.Nodup) (e:oms m h os m=true):Sim cl (rho ρ m) (heapOf os) H:=by
 obtain ⟨l,f⟩:=yt e
 obtain ⟨g1,g2⟩:=dY os
 have Jl:∀ k n,m[k]? =some n->∃ a,ρ[n]? =some a:=fun k n en=>by
  have hk:k < os.length:=by rw [l];exact (List.getElem?_eq_some_iff.mp en).1
  obtain ⟨hn,_⟩:=f k os[k] n (List.getElem?_eq_getElem hk) en
  rw [<- s.len] at hn
  exact ⟨ρ[n],List.getElem?_eq_getElem hn⟩
 refine ⟨by rw [g1,l];simp [rho],?_,fun k a ek=>?_,s.tb⟩
 · unfold rho
   refine List.pairwise_map.mpr (List.Pairwise.imp_of_mem (fun {x y} hx hy ne e=>ne ?_) nd)
   obtain ⟨k,ek⟩:=List.getElem?_of_mem hx
   obtain ⟨j,ej⟩:=List.getElem?_of_mem hy
   obtain ⟨a,ea⟩:=Jl k x ek
   obtain ⟨b,eb⟩:=Jl j y ej
   simp only [List.getD,ea,eb,Option.getD_some] at e
   subst e
   exact (List.getElem?_inj (List.getElem?_eq_some_iff.mp ea).1 s.nd).mp (ea.trans eb.symm)
 · have hk:k < m.length:=by
    have:=(List.getElem?_eq_some_iff.mp ek).1
    simpa [rho] using this
   obtain ⟨b,eb⟩:=Jl k m[k] (List.getElem?_eq_getElem hk)
   have e1:=BW (m:=m) (List.getElem?_eq_getElem hk) eb
   rw [ek] at e1
   cases e1
   have hk':k < os.length:=by omega
   obtain ⟨_,o,ho,eo⟩:=f k os[k] m[k] (List.getElem?_eq_getElem hk') (List.getElem?_eq_getElem hk)
   exact ⟨os[k],by rw [g2];exact List.getElem?_eq_getElem hk',Rq eo (s.at eb ho)⟩
theorem GF {τ:Sg}:∀ {kv:List (Nat × W)},kvm m τ kv=true->∀ i w,(i,w) ∈ kv->∃ a,aN τ i=some a/\wm m a w=true
 | [],_,i,w,q=>by simp at q
 | p::kv,e,i,w,q=>by
   obtain ⟨e1,e2⟩:=gJ (show ifB (Option.rec false (fun a=>wm m a p.2) (aN τ p.1)) (kvm m τ kv) false=true from e)
   rcases List.mem_cons.mp q with q | q
   · subst q
     cases z:aN τ i with
     | none=>rw [show aN τ (i,w).1=aN τ i from rfl,z] at e1;cases e1
     | some a=>rw [show aN τ (i,w).1=aN τ i from rfl,z] at e1;exact ⟨a,rfl,e1⟩
   · exact GF e2 i w q
structure CS (cl:Cn) (n i:Nat) (kv:List (Nat × W)) (os:List O) (r:Addr) (row:List V) (σ:L2.St) (H:Hp):Prop where
 len:σ.length=n
 at_:σ[i]? =some (some (.ref r))
 row:H r=some (.lst row)
 sim:∃ ρ,Sim cl ρ (heapOf os) H/\RS ρ (frm n kv) σ/\r ∉ ρ
theorem BX {n i f:Nat} {kv:List (Nat × W)} {os:List O} {τ:Sg} (e:pW n i f kv os τ h=true):τ.length=n/\aN τ i=none/\∃ m:List Nat,m.Nodup/\kvm m τ kv=true/\oms m h os m=true:=by
 obtain ⟨e1,e⟩:=gJ (show ifB (Nat.beq (Ev.len τ) n) (ifB (Option.rec true (fun _=>false) (aN τ i)) (Option.rec false (fun m=>ifB (pU m) (ifB (kvm m τ kv) (oms m h os m) false) false) (Jk (grow h os f (roots τ kv) (os.map fun _=>none)))) false) false=true from e)
 obtain ⟨e2,e⟩:=gJ e
 rw [len_eq] at e1
 refine ⟨Nat.eq_of_beq_eq_true e1,?_,?_⟩
 · cases z:aN τ i with
   | none=>rfl
   | some _=>rw [z] at e2;cases e2
 · cases z:Jk (grow h os f (roots τ kv) (os.map fun _=>none)) with
   | none=>rw [z] at e;cases e
   | some m=>
     rw [z] at e
     obtain ⟨e3,e⟩:=gJ (show ifB (pU m) (ifB (kvm m τ kv) (oms m h os m) false) false=true from e)
     obtain ⟨e4,e5⟩:=gJ e
     exact ⟨m,yw e3,e4,e5⟩
theorem Rr {n i f:Nat} {kv:List (Nat × W)} {os:List O} {τ:Sg} {r:Addr} {row:List V} {H':Hp} {ρ':List Addr} {σ':L2.St} (e:pW n i f kv os τ h=true) (s:Sim cl ρ' h H') (rs:RS ρ' τ σ') (ha:σ'[i]? =some (some (.ref r))) (hr:H' r=some (.lst row)) (nr:r ∉ ρ'):CS cl n i kv os r row σ' H':=by
 obtain ⟨e1,e2,m,nd,e3,e4⟩:=BX e
 have sc:=Li s nd e4
 refine ⟨by rw [<- rs.len];exact e1,ha,hr,rho ρ' m,sc,yp (by rw [<- rs.len];exact e1) fun j w hj=>?_,fun z=>?_⟩
 · obtain ⟨a,ea,em⟩:=GF e3 j w hj
   obtain ⟨v,ev,rv⟩:=rs.get ea
   exact ⟨v,ev,wu em rv⟩
 · unfold rho at z
   obtain ⟨x,hx,ex⟩:=List.mem_map.mp z
   obtain ⟨k,ek⟩:=List.getElem?_of_mem hx
   obtain ⟨l,fo⟩:=yt e4
   have hk:k < os.length:=by rw [l];exact (List.getElem?_eq_some_iff.mp ek).1
   obtain ⟨hx',_⟩:=fo k os[k] x (List.getElem?_eq_getElem hk) ek
   rw [<- s.len] at hx'
   have q:ρ'[x]? =some ρ'[x]:=List.getElem?_eq_getElem hx'
   simp only [List.getD,q,Option.getD_some] at ex
   exact nr (by rw [<- ex];exact List.mem_of_getElem? q)
theorem pX {n i m f:Nat} {kv kv':List (Nat × W)} {os os':List O} {tl:List S} {u:TS} {D:Ends} {r:Addr} {row:List V} (c:CS cl n i kv os r row σ H) (run:goes (evs Pg m d (.ss tl) (frm n kv) (heapOf os)) (pW n i f kv' os')=true)
 (k:∀ σ' H',CS cl n i kv' os' r row σ' H'->u D σ' H'):tSt Pg cl E d tl u D σ H:=by
 obtain ⟨ρ,s,rs,nr⟩:=c.sim
 obtain ⟨τ,h',e,e2⟩:=BK run
 obtain ⟨_,z,_⟩:=BX e2
 exact stage s rs e fun ρ' H' σ' b s' rs' ag=>k σ' H' (Rr e2 s' rs' ((ag i z).trans c.at_) (b.kept s.tb (fun _ z=>by cases z) nr c.row) (b.2 r _ c.row nr).1)
theorem pY {n i m:Nat} {kv:List (Nat × W)} {os:List O} {tl:List S} {u:TS} {D:Ends} {r:Addr} {row:List Int} (c:CS cl n i kv os r (row.map V.int) σ H)
 (run:yo (evs Pg m d (.ss tl) (frm n ((i,.ref os.length)::kv)) (heapOf (os ++ [.lst (row.map W.int)])))=true) (k:∀ H',D.rt (.bl true) H'):tSt Pg cl E d tl u D σ H:=by
 obtain ⟨ρ,s,rs,nr⟩:=c.sim
 obtain ⟨h',e⟩:=Lg run
 have s2:=s.adopt (o:=.lst (row.map W.int)) nr ⟨_,rw_ints _ row,c.row⟩
 rw [<- jz] at s2
 have hl:ρ.length=os.length:=by rw [s.len,(dY os).1]
 have z:=(rs.mono (List.prefix_append ρ [r])).set (w:=.ref os.length) (v:=.ref r) (.ref (by rw [<- hl,List.getElem?_append_right (Nat.le_refl _),Nat.sub_self];rfl)) i
 rw [yh c.at_] at z
 exact Pj s2 z e k
end
end Ev
set_option maxRecDepth 100000
set_option maxHeartbeats 4000000
namespace Ev
open PySem PySem.Spec PySem.SeqAt PyProof.Rows L2
section
variable {Pg:List Fn} {cl:Cn} {E:XK} {d:Nat} {X:Cx} {σ σ0:L2.St} {H:Hp} {ρ:List Addr} {h:Hs}
theorem lz {n i m0:Nat} {row:List Int} {kv:List (Nat × W)} {tl0:List S} {u:TS} {D:Ends} {r:Addr} (hn:σ.length=n) (hr:σ[i]? =some (some (.ref r))) (hH:H r=some (.lst (row.map V.int))) (t:Tb cl H)
 (flat:kv.all (fun p=>match p.2 with | .ref _=>false | _=>true)=true)
 (TQ:goes (evs Pg m0 d (.ss tl0) (frm n [(i,.ref 0)]) (uN row)) (ok0 n i kv row)=true)
 (k:∀ σ' H',CS cl n i kv [] r (row.map V.int) σ' H'->u D σ' H'):tSt Pg cl E d tl0 u D σ H:=by
 obtain ⟨τ1,g1,e1,f1⟩:=BK TQ
 unfold ok0 at f1
 simp only [Bool.and_eq_true,decide_eq_true_eq] at f1
 obtain ⟨⟨⟨⟨a1,a2⟩,a3⟩,a4⟩,a6⟩:=f1
 refine stage (Lh t hH) (Pk hn hr) e1 fun ρ1 H4 σ4 b1 s4 rs1 ag1=>?_
 have rr:ρ1[0]? =some r:=fP b1.1 rfl
 have c2:σ4[i]? =some (some (.ref r)):=Pa rs1 a3 rr
 have cl4:σ4.length=n:=by rw [<- rs1.len];exact Nat.eq_of_beq_eq_true a1
 have TV:H4 r=some (.lst (row.map V.int)):=by
  obtain ⟨vs,r',e⟩:=s4.at rr a6
  rw [e,r'.inj (rw_ints _ row)]
 refine k σ4 H4 ⟨cl4,c2,TV,[],Sim.none s4.tb,yp cl4 fun j w hj=>?_,by simp⟩
 have z1:=List.all_eq_true.mp a4 _ hj
 have z2:=List.all_eq_true.mp flat _ hj
 exact Pb _ rs1 (of_decide_eq_true z1) fun q z=>by rw [z] at z2;cases z2
end
end Ev
set_option maxRecDepth 100000
set_option maxHeartbeats 4000000
namespace Ev
open PySem PySem.Spec PySem.SeqAt PyProof.Rows L2
section
variable {Pg:List Fn} {cl:Cn} {E:XK} {d:Nat} {X:Cx} {H H' H'':Hp} {ρ:List Addr}
end
end Ev
set_option maxRecDepth 100000
set_option maxHeartbeats 4000000
namespace Ev
open PySem PySem.Spec PySem.SeqAt PyProof.Rows L2
section
variable {Pg:List Fn} {cl:Cn} {E:XK} {d:Nat} {X:Cx} {H H' H'':Hp} {ρ:List Addr}
theorem Paired.Jm {α β:Type} {R:α->β->Prop}:∀ {xs:List α} {ys:List β} {i:Nat} {a:α} {b:β},Paired R xs ys->xs[i]? =some a->ys[i]? =some b->R a b
 | _,_,_,_,_,.nil,e,_=>by simp at e
 | _,_,0,_,_,.cons r _,e,e'=>by simp at e e';subst e;subst e';exact r
 | _,_,i + 1,a,b,.cons _ t,e,e'=>Paired.Jm (i:=i) (a:=a) (b:=b) t (by simpa using e) (by simpa using e')
end
end Ev
set_option maxRecDepth 100000
set_option maxHeartbeats 4000000
namespace Ev
open PySem PySem.Spec PySem.SeqAt PyProof.Rows L2
end Ev
set_option maxRecDepth 100000
set_option maxHeartbeats 4000000
namespace Ev
open PySem PySem.Spec PySem.SeqAt PyProof.Rows L2
variable {Pg:List Fn} {cl:Cn} {E:XK} {d:Nat} {X:Cx}
end Ev
set_option maxRecDepth 100000
set_option maxHeartbeats 4000000
namespace Ev
open PySem L2
section
variable {Pg:List Fn} {cl:Cn} {E:XK} {d:Nat} {X:Cx} {σ0:L2.St}
theorem fsc {N P:List Str} {sc:Scope} (h4:N.Nodup) (h6:∀ x ∈ P,sc.names.lookup x=some .local\/sc.names.lookup x=some .cell) (h7:∀ y ∈ sc.names,y.2 ≠ .free) (h1:sc.kind= .function:=by rfl) (h2:sc.isCoroutine=false:=by rfl) (h3:sc.isGenerator=false:=by rfl) (h5:N.take P.length=P:=by rfl):aQ N P sc:=⟨h1,h2,h3,h4,h5,h6,h7⟩
theorem dv (i:Nat) {x:Str} {pos:Pos} (hN:X.N[i]? =some x:=by rfl) (hv:Vis X.env.scope x:=by first | exact Or.inl rfl | exact Or.inr (Or.inl rfl) | exact Or.inr (Or.inr rfl)) (hd:(x == ("__debug__":Str))=false:=by decide)
 (hcd:(x == ("__classdict__":Str))=false:=by decide):PE X (.Name x pos) (tE Pg cl E d (.var i)):=Oj hN hv hd hcd
theorem aY (i:Nat) {x:Str} {pos:Pos} (hN:X.N.Nodup) (hi:X.N[i]? =some x:=by rfl) (hx:Loc X.env.scope x:=by first | exact Or.inl rfl | exact Or.inr rfl) (hf:X.fn x=true\/X.env.scope.names.lookup x=some .local:=by first | exact .inl rfl | exact .inr rfl | assumption):PG X (.Name x pos) (tG cl (.nm i)):=K4 hN hi hx hf
theorem iu (i:Nat) {x:Str} {e:Expr} {y:Ev.X} {pos pos':Pos} (hN:X.N.Nodup) (he:PE X e (tE Pg cl E d y)) (hi:X.N[i]? =some x:=by rfl) (hx:Loc X.env.scope x:=by first | exact Or.inl rfl | exact Or.inr rfl) (hs:swapsWith e (some (.Name x pos')) pos.line X.env=pure false:=by rfl) (hf:X.fn x=true\/X.env.scope.names.lookup x=some .local:=by first | exact .inl rfl | exact .inr rfl | assumption):
 PS X (.Assign [.Name x pos'] e pos) (tS Pg cl E d σ0 (.asg (.nm i) y)):=O1 hN hi hx he hs hf
theorem jA {k k' f:Nat} {fa:Addr} {fd:FuncData} {ps:List Str} {x:Str} {st:Stmt} {e:Expr} {es:List Expr} {y:Ev.X} {ys:List Ev.X} {p pos:Pos} (F:bK X.prog X.w X.K X.mg X.base (CXE X.prog X.w) k fa fd ps (spF Pg cl d f)) (D:Df X.K X.mg x st ps fa fd) (hr:bz k' X.A)
 (hx:Passes (CXE X.prog X.w) X E) (ha:PA X (e::es) (tA Pg cl E d (y::ys))) (hk:k <= k':=by omega) (hg:Gl X x:=by rfl) (hdb:(x == ("__debug__":Str))=false:=by decide) (he:starEach (e::es) X.env=(false,eval e X.env)::starEach es X.env:=by rfl) (hpl:(backTo pos (starEach es X.env)).any (·.1)=false:=by rfl):
 PE X (.Call (.Name x p) (e::es) [] pos) (tE Pg cl E d (.call f (y::ys))):=kO F (hr.mono hk) hg D.mg D.fn.kp D.bd hx ha hdb he hpl
end
end Ev
namespace Ev
open PySem L2
def Qn (ps:List Str) (P:List Value->Prop):Prop:=match ps with
 | []=>P []
 | _::ps=>∀ v,Qn ps fun us=>P (v::us)
theorem GJ:∀ {ps:List Str} {P:List Value->Prop},Qn ps P->∀ us:List Value,us.length=ps.length->P us
 | [],_,h,[],_=>h
 | [],_,_,_::_,e=>by simp at e
 | _::_,_,_,[],e=>by simp at e
 | _::_,_,h,v::us,e=>GJ (h v) us (by simpa using e)
section
variable {K:PySem.W.Frag} {x q m:Str} {st:Stmt} {f C:Addr} {fd:FuncData} {ps:List Str} {h:Heap} {mg:Str->Option Value}
theorem fbn (F:Fun K x q st f fd) (b:∀ kV doc pm an cdv ct,Qn ps fun us=>bindArgs (PySem.W.fnOf x q (dO st) (bO st) (aa st) .none kV doc pm an cdv ct) ⟨us,[]⟩ =pure (ps.zip us):=by (repeat intro _);exact rfl):Binds K fd ps []:=
 F.binds fun kV doc pm an cdv ct us hl=>GJ (b kV doc pm an cdv ct) us hl
structure DK (K:PySem.W.Frag) (x:Str) (st:Stmt) (f:Addr) (fd:FuncData):Prop where
 F:Fun K x x st f fd
 a:PySem.W.nsIn K mainGlobals x=some (some (.ref f))
theorem DK.df (D:DK K x st f fd) (X:K.In h) (G:h.Ns mainGlobals mg) (b:∀ kV doc pm an cdv ct,Qn ps fun us=>bindArgs (PySem.W.fnOf x x (dO st) (bO st) (aa st) .none kV doc pm an cdv ct) ⟨us,[]⟩ =pure (ps.zip us):=by (repeat intro _);exact rfl):Df K mg x st ps f fd:=⟨D.F,fbn D.F b,PySem.W.mg_of X G D.a⟩
theorem d9 {oc:Value} {od an:Option Addr} {osl:Array (Option Value)} {kV doc pm cdv ct:Value} (a:PySem.W.nsIn K mainGlobals x=some (some (.ref f))) (l:K.lookup f=some ⟨oc,od,.func (PySem.W.fnOf x x (dO st) (bO st) (aa st) .none kV doc pm an cdv ct),osl⟩)
 (c:PySem.W.codeIn K cdv x=true) (k:PySem.W.keepIn K (.ref f)=true):∃ fd,DK K x st f fd:=⟨_,xu l c k,a⟩
structure MK (K:PySem.W.Frag) (C:Addr) (m q:Str) (st:Stmt) (f:Addr) (fd:FuncData):Prop where
 F:Fun K m q st f fd
 a:PySem.W.findIn K (.ref C) m=some (some (.ref f))
 n:PySem.W.isFn K (.ref f)=true
structure IK (K:PySem.W.Frag) (C:Addr) (m q:Str) (st:Stmt) (f:Addr) (fd:FuncData):Prop where
 F:Fun K m q st f fd
 a:PySem.W.findIn K (.ref C) m=some (some (.ref f))
 n:PySem.W.typeIn K (.ref f)=some (.type "function")
theorem J0 {oc:Value} {od an:Option Addr} {osl:Array (Option Value)} {kV doc pm cdv ct:Value} (a:PySem.W.findIn K (.ref C) m=some (some (.ref f))) (l:K.lookup f=some ⟨oc,od,.func (PySem.W.fnOf m q (dO st) (bO st) (aa st) .none kV doc pm an cdv ct),osl⟩)
 (c:PySem.W.codeIn K cdv q=true) (k:PySem.W.keepIn K (.ref f)=true) (n:PySem.W.typeIn K (.ref f)=some (.type "function")):∃ fd,IK K C m q st f fd:=⟨_,xu l c k,a,n⟩
section
variable {n q':Str} {N S:Addr} {bs sub:List Value} {sn:List Str} {ab:Bool} {col:Option Bool} {dd:Option Addr} {k0 k1 k2 k3 k5:Option Value}
theorem Rt (o:K.lookup C=some (excClassObj n q' C N bs bmV true sn sub ab col dd k0 k1 k2 k3 k5 "ValueError.__new__")) (a:PySem.W.findIn K (.ref C) "__setattr__" =some (some (.builtin "object.__setattr__"))) (g:PySem.W.findIn K (.ref C) "__getattribute__" =some (some (.builtin "BaseException.__getattribute__"))) (e:PySem.W.findIn K (.ref C) "__getattr__" =some none):eG K C:=
 ⟨⟨n,q',N,bs,[],sn,sub,ab,col,dd,k0,k1,k2,k3,k5,o⟩,a,g,e⟩
structure XK1 (K:PySem.W.Frag) (C S:Addr):Prop where
 X:eG K C
 k:PySem.W.keepIn K (.ref C)=true
 w:jJ K C "word"
 s:uB K C S
theorem Ru {cd:ClassData} (o:K.lookup C=some (excClassObj n q' C N bs (.ref S::bmV) true sn sub ab col dd k0 k1 k2 k3 k5 "ValueError.__new__")) (a:PySem.W.findIn K (.ref C) "__setattr__" =some (some (.builtin "object.__setattr__"))) (g:PySem.W.findIn K (.ref C) "__getattribute__" =some (some (.builtin "BaseException.__getattribute__"))) (e:PySem.W.findIn K (.ref C) "__getattr__" =some none)
 (k:PySem.W.keepIn K (.ref C)=true) (w:PySem.W.findIn K (.ref C) "word" =some none) (i:PySem.W.clsIn K C=some cd) (j:cd.mro.contains (.ref S)=true):XK1 K C S:=
 ⟨⟨⟨n,q',N,bs,[S],sn,sub,ab,col,dd,k0,k1,k2,k3,k5,o⟩,a,g,e⟩,k,w,cd,i,j⟩
end
end
end Ev
set_option maxRecDepth 100000
set_option maxHeartbeats 4000000
namespace Ev
open PySem PyProof.Rows L2
noncomputable section
def rJ (i:Int) (xs:List Int):Nat:=List.rec 0 (fun x _ r=>ifB (ieq x i) (r + 1) r) xs
def GK (h:Hs) (a b:W):R W:=h.at a fun _ o=>o.onL fun xs=>Opt (gG xs) fun ns=>b.onI fun i=>.ok (.int (.ofNat (rJ i ns))) h
def Pr.count:Pr:=⟨fun ws h=>iD ws (GK h)⟩
end
def GP:V->List V->Hp->VK->Prop:=fun x vs H Q=>∃ (l:Addr) (ns:List Int) (k:Int),x= .ref l/\vs= [.int k]/\H l=some (.lst (ns.map V.int))/\Q (.int (ns.count k:Nat)) H
section
variable {X:Cx}
theorem Jo:MtM X "list.count" GP:=by
 intro pins s σ H x vs v us Q I rx rv h
 obtain ⟨l,ns,k,rfl,rfl,hH,q⟩:=h
 cases rx
 obtain ⟨u,rfl,ru⟩:=rv.one
 obtain ⟨t,rfl⟩:=ru
 obtain ⟨its,r',pl,hz⟩:=I.list (SqL.of hH)
 exact count_list_ints pl.isList (lW r') ⟨.int (ns.count k:Nat),H,I.tok _,⟨s.toks,rfl⟩,q⟩
theorem uO (i:Int):∀ xs:List Int,rJ i xs=xs.count i
 | []=>rfl
 | x::xs=>by
   show ifB (ieq x i) (rJ i xs + 1) (rJ i xs)=(x::xs).count i
   rw [cT,List.count_cons,uO i xs]
   by_cases z:x=i
   · subst z;simp [ifB]
   · have:(x == i)=false:=by simpa using z
     rw [decide_eq_false z,this];rfl
variable {cl:Cn}
theorem Lj:OpM cl .count GP:=fun E ρ h H w v ws vs Q s r rs p=>by
 obtain ⟨w1,v1,w2,v2,e,e',r1,r2,p1⟩:=v9 (.cons r rs) (show Post cl ρ H E (ofW (iD (w::ws) (GK h))) (VP Q) from p)
 cases e;cases e'
 obtain ⟨n,o,a,rfl,rfl,e1,g1,x1,p2⟩:=oAt s r1 p1
 obtain ⟨xs,rfl,p3⟩:=oL p2
 obtain ⟨ns,hn,p4⟩:=iQ p3
 obtain ⟨i,rfl,p5⟩:=oI p4
 obtain ⟨us,ru,q⟩:=x1
 cases r2
 rw [oE ru hn] at q
 refine ⟨a,ns,i,rfl,rfl,q,?_⟩
 have z:=Post.eV s p5 (.int _)
 rw [uO] at z
 exact z
end
end Ev
namespace Ev
open PySem PyProof.Rows L2
section
variable {Pg:List Fn} {cl:Cn} {E:XK} {d:Nat} {X:Cx}
end
end Ev
set_option maxRecDepth 100000
set_option maxHeartbeats 4000000
namespace Ev
open PySem PySem.Spec PySem.SeqAt PyProof.Rows L2
section
variable {Pg:List Fn} {cl:Cn} {E:XK} {d:Nat} {X:Cx} {σ σ0:L2.St} {H H0:Hp} {ρ:List Addr} {h:Hs}
def Far (r:Addr) (H0 H:Hp) (ρ:List Addr):Prop:=∀ a u,a ≠ r->(∀ ps,u ≠ .tbl ps)->H0 a=some u->a ∉ ρ/\H a=some u
structure CT (cl:Cn) (n i:Nat) (kv:List (Nat × W)) (os:List O) (r:Addr) (row:List V) (σ0:L2.St) (H0:Hp) (σ:L2.St) (H:Hp):Prop where
 len:σ.length=n
 z:σ[0]? =σ0[0]?
 at_:σ[i]? =some (some (.ref r))
 row:H r=some (.lst row)
 sim:∃ ρ,Sim cl ρ (heapOf os) H/\RS ρ (frm n kv) σ/\r ∉ ρ/\Far r H0 H ρ
theorem CT.in {n i:Nat} {kv:List (Nat × W)} {os:List O} {r:Addr} {row:List Int} (c:CT cl n i kv os r (row.map V.int) σ0 H0 σ H):∃ ρ,Sim cl (ρ ++ [r]) (heapOf (os ++ [.lst (row.map W.int)])) H/\RS (ρ ++ [r]) (frm n ((i,.ref os.length)::kv)) σ/\(ρ ++ [r])[os.length]? =some r/\Far r H0 H (ρ ++ [r]):=by
 obtain ⟨ρ,s,rs,nr,fa⟩:=c.sim
 have s2:=s.adopt (o:=.lst (row.map W.int)) nr ⟨_,rw_ints _ row,c.row⟩
 rw [<- jz] at s2
 have hl:ρ.length=os.length:=by rw [s.len,(dY os).1]
 have g:(ρ ++ [r])[os.length]? =some r:=by rw [<- hl,List.getElem?_append_right (Nat.le_refl _),Nat.sub_self];rfl
 have z:=(rs.mono (List.prefix_append ρ [r])).set (w:=.ref os.length) (v:=.ref r) (.ref g) i
 rw [yh c.at_] at z
 refine ⟨ρ,s2,z,g,fun a u na nu eu=>?_⟩
 obtain ⟨n1,q⟩:=fa a u na nu eu
 exact ⟨fun y=>(List.mem_append.mp y).elim n1 fun y=>na (by simpa using y),q⟩
end
end Ev
set_option maxRecDepth 100000
set_option maxHeartbeats 4000000
namespace Ev
open PySem PySem.Spec PySem.SeqAt PyProof.Rows L2
section
variable {Pg:List Fn} {cl:Cn} {E:XK} {d:Nat} {X:Cx} {σ σ0:L2.St} {H H':Hp} {ρ ρ' ρ2:List Addr} {h h2:Hs}
def KVs (ρ:List Addr) (kv:List (Nat × W)) (σ:L2.St):Prop:=∀ j w,(j,w) ∈ kv->∃ v,σ[j]? =some (some v)/\RW ρ w v
structure C2 (cl:Cn) (n i:Nat) (kv:List (Nat × W)) (os:List O) (kw:List (Nat × W)) (ot:List O) (r:Addr) (row:List V) (σ:L2.St) (H:Hp):Prop where
 len:σ.length=n
 at_:σ[i]? =some (some (.ref r))
 row:H r=some (.lst row)
 sim:∃ ρ ρ2,Sim cl ρ (heapOf os) H/\KVs ρ kv σ/\r ∉ ρ/\Sim cl ρ2 (heapOf ot) H/\KVs ρ2 kw σ/\r ∉ ρ2/\∀ a ∈ ρ2,a ∉ ρ
end
end Ev
set_option maxRecDepth 100000
set_option maxHeartbeats 4000000
namespace Ev
open PySem PySem.Spec PySem.SeqAt PyProof.Rows L2
noncomputable section
end
section
variable {Pg:List Fn} {cl:Cn} {E:XK} {d:Nat} {X:Cx} {σ:L2.St} {H:Hp}
end
end Ev
set_option maxRecDepth 100000
set_option maxHeartbeats 4000000
namespace Ev
open PySem PySem.Spec PySem.SeqAt PyProof.Rows L2
noncomputable section
end
section
variable {Pg:List Fn} {cl:Cn} {E:XK} {d:Nat} {X:Cx} {σ:L2.St} {H:Hp} {ρ:List Addr}
abbrev TX (Pg:List Fn) (cl:Cn) (E:XK) (d:Nat) (cs:List (List Nat)) (es:List Ev.X):List (TE × TE):=List.zipWith (fun c e=>(tE Pg cl E d (.cst (.str c)),tE Pg cl E d e)) cs es
end
end Ev
namespace Ev
open PySem L2
noncomputable section
end
section
variable {Pg:List Fn} {cl:Cn} {E:XK} {d:Nat} {X:Cx}
end
end Ev
namespace Ev
open PySem L2
section
variable {Pg:List Fn} {cl:Cn} {E:XK} {d:Nat} {X:Cx}
structure QPs (X:Cx) (pos:Pos) (keys:List (Option Expr)) (values:List Expr) (Pg:List Fn) (cl:Cn) (E:XK) (d:Nat) (cs:List (List Nat)) (es:List Ev.X):Prop where
 h:PPs X pos keys values (TX Pg cl E d cs es)
end
end Ev
namespace Ev
open PySem L2
section
variable {Pg:List Fn} {cl:Cn} {E:XK} {d:Nat} {X:Cx}
end
end Ev
namespace Ev
open PySem L2
section
variable {cl:Cn}
end
end Ev
set_option maxRecDepth 100000
set_option maxHeartbeats 4000000
namespace Ev
open PySem PyProof.Rows L2
noncomputable section
def yx (i:Int) (xs:List Int):List Int:=List.rec [i] (fun x xs r=>ifB (ilt x i) (x::r) (i::x::xs)) xs
def qG (xs:List Int):List W:=List.rec [] (fun x _ r=>W.int x::r) xs
def gn (xs:List Int):List Int:=List.rec [] (fun x _ r=>yx x r) xs
def BZ (h:Hs) (a:W):R W:=h.at a fun _ o=>o.onL fun xs=>ifB (Nat.ble (len xs) 60) (Opt (gG xs) fun ns=>.alloc h (.lst (qG (gn ns)))) .no
def Pr.sorted:Pr:=⟨fun ws h=>gY ws (BZ h)⟩
end
section
variable {X:Cx}
theorem jL:∀ {ns:List Int} {us:List Value},IntsAre us ns->Vals (ns.map V.int) us
 | [],_,.nil=>.nil
 | _::_,_,.cons n t h=>.cons ⟨t,rfl⟩ (jL h)
theorem yz:cU X (.builtin "sorted") (fun xs H Q=>∃ p ns ms,xs= [.ref p]/\SqL X.K H p (ns.map V.int)/\ns.length < 64/\(∀ ns':List Int,ns'.Perm ns->ns'.Pairwise (· <= ·)->ns'=ms)/\∀ l,H l=none->Q (.ref l) (upd H l (.lst (ms.map V.int)))):=by
 intro pins s σ H xs us Q I r h
 obtain ⟨p,ns,ms,rfl,hq,hn,hu,q⟩:=h
 obtain ⟨u,rfl,rx⟩:=vals1 r
 cases rx
 obtain ⟨its,r',pl,hz⟩:=I.list hq
 have hlen:=r'.length
 rw [List.length_map] at hlen
 refine sorted_ints (vs:=its) (ns:=ns) pl.isList (lW r') (by omega) fun out ns' h1 h2 h3=>?_
 obtain ⟨e,he⟩:=sortedAll_at s.heap its out
 have hl:=h2.length_eq
 have z:=hu ns' h2 h3
 subst z
 exact ⟨.ref (s.heap.objs.size + 1),_,I.laid (t':=s.toks) (fun b o e=>sortedAll_old e) (Nat.le_succ _) (show bw X.prog X.w _ _ _ (.lst (ns'.map V.int)) from ⟨by rw [List.length_map,sizeLine_eq];omega,out.toList,e,jL h1,by simpa using he⟩),rfl,q _ (I.hok.fresh (Nat.le_succ _))⟩
theorem pZ (i:Int):∀ xs:List Int,(yx i xs).Perm (i::xs)
 | []=>.refl _
 | x::xs=>by
   show (ifB (ilt x i) (x::yx i xs) (i::x::xs)).Perm (i::x::xs)
   cases ilt x i with
   | false=>exact .refl _
   | true=>exact ((pZ i xs).cons x).trans (.swap i x xs)
theorem lY:∀ xs:List Int,(gn xs).Perm xs
 | []=>.refl _
 | x::xs=>(pZ x (gn xs)).trans ((lY xs).cons x)
theorem qO (i:Int):∀ xs:List Int,xs.Pairwise (· <= ·)->(yx i xs).Pairwise (· <= ·)
 | [],_=>List.pairwise_singleton _ _
 | x::xs,h=>by
   show (ifB (ilt x i) (x::yx i xs) (i::x::xs)).Pairwise (· <= ·)
   have h':=List.pairwise_cons.mp h
   rw [bA]
   by_cases z:x < i
   · rw [decide_eq_true z]
     refine List.pairwise_cons.mpr ⟨fun y hy=>?_,qO i xs h'.2⟩
     rcases List.mem_cons.mp ((pZ i xs).mem_iff.mp hy) with e | e
     · subst e;omega
     · exact h'.1 y e
   · rw [decide_eq_false z]
     refine List.pairwise_cons.mpr ⟨fun y hy=>?_,h⟩
     rcases List.mem_cons.mp hy with e | e
     · subst e;omega
     · have:=h'.1 y e;omega
theorem mF:∀ xs:List Int,(gn xs).Pairwise (· <= ·)
 | []=>.nil
 | x::xs=>qO x _ (mF xs)
theorem oF:∀ {xs ys:List Int},xs.Perm ys->xs.Pairwise (· <= ·)->ys.Pairwise (· <= ·)->xs=ys
 | [],ys,p,_,_=>by rw [p.symm.eq_nil]
 | x::xs,[],p,_,_=>by rw [p.eq_nil]
 | x::xs,y::ys,p,h,g=>by
   have h':=List.pairwise_cons.mp h
   have g':=List.pairwise_cons.mp g
   have e:x=y:=by
    have a:x <= y:=by
     rcases List.mem_cons.mp (p.mem_iff.mpr (List.mem_cons_self ..)) with e | e
     · omega
     · exact h'.1 y e
    have b:y <= x:=by
     rcases List.mem_cons.mp (p.mem_iff.mp (List.mem_cons_self ..)) with e | e
     · omega
     · exact g'.1 x e
    omega
   subst e
   rw [oF (List.perm_cons _ |>.mp p) h'.2 g'.2]
theorem yC {ρ:List Addr}:∀ xs:List Int,RWs ρ (qG xs) (xs.map V.int)
 | []=>.nil
 | x::xs=>.cons (.int x) (yC xs)
variable {cl:Cn}
theorem Jp {K:PySem.W.Frag}:OpN cl .sorted (fun xs H Q=>∃ p ns ms,xs= [.ref p]/\SqL K H p (ns.map V.int)/\ns.length < 64/\(∀ ns':List Int,ns'.Perm ns->ns'.Pairwise (· <= ·)->ns'=ms)/\∀ l,H l=none->Q (.ref l) (upd H l (.lst (ms.map V.int)))):=fun E ρ h H ws vs Q s r p=>by
 obtain ⟨w,v,rfl,rfl,r1,p⟩:=v8 r (show Post cl ρ H E (ofW (gY ws (BZ h))) (VP Q) from p)
 obtain ⟨n,o,a,rfl,rfl,e1,g1,x1,p⟩:=oAt s r1 p
 obtain ⟨xs,rfl,p⟩:=oL p
 obtain ⟨hl,p⟩:=oIf p
 obtain ⟨ns,hn,p⟩:=iQ p
 obtain ⟨us,ru,q⟩:=x1
 have hlen:=ru.length
 rw [oE ru hn] at q hlen
 rw [List.length_map] at hlen
 have hl':xs.length <= 60:=by rw [len_eq] at hl;exact Nat.le_of_ble_eq_true hl
 exact ⟨a,ns,gn ns,rfl,SqL.of q,by omega,fun ns' h1 h2=>oF (h1.trans (lY ns).symm) h2 (mF ns),fun l hl=>Post.newL s p hl (yC _)⟩
end
end Ev
set_option maxRecDepth 100000
set_option maxHeartbeats 4000000
namespace L2
open PySem PySem.Spec PySem.SeqAt PyProof.Rows
def yD (X:Cx) (N':List Str) (sc:Scope) (y:Str) (C:Addr) (s₀:Shared) (H₀:Hp) (fp:List Addr):Cx:=
 { X with N:=N',s₀:=s₀,H₀:=H₀,env:=compEnvC sc ((y,C + 1)::dI X.env.cells sc.names []) C X.env,outer:=X.stack,ex:=fp,fn:=fun x=>x == y,pn:=[],xe:=fun _ _=>False }
structure Uo (X:Cx) (N':List Str) (sc:Scope) (nt:Nat) (idx:List Nat) (y:Str):Prop where
 kind:sc.kind= .function
 cf:∀ n acc,cellsFrom n sc.names acc=(y,n)::acc
 pc:∀ h,pushCells h sc.names=h.push { cls:=.type "cell",data:=.cell none }
 nc:∀ z ∈ sc.names,z.2= .cell->z.1=y
 nf:∀ z ∈ sc.names,z.2= .free->z.1 ≠ y
 loc:∀ y ∈ sc.names,y.2= .local->sc.names.lookup y.1=some .local
 fr:∀ y ∈ sc.names,y.2= .free->X.env.kindOf y.1=some .cell\/X.env.kindOf y.1=some .free
 len:nt + idx.length=N'.length
 ix:∀ p ∈ idx.zip (N'.drop nt),X.N[p.1]? =some p.2/\sc.names.lookup p.2=some .free
section
variable {X:Cx} {N':List Str} {sc:Scope} {yc:Str} {nt:Nat} {idx:List Nat} {elt tg iter:Expr} {ifs:List Expr} {gs:List Comprehension} {pos:Pos} {wi:TI} {g:TG} {tif:TT} {tin:Addr->TN}
structure Ui (X:Cx) (N':List Str) (sc:Scope) (yc:Str) (elt tg iter:Expr) (ifs:List Expr) (gs:List Comprehension) (pos:Pos) (g:TG) (tif:TT) (tin:Addr->TN):Prop where
 ok:∀ (C:Addr) (s₀:Shared) (H₀:Hp) (fp:List Addr) (D it:Addr),∃ inner:Sem Unit,
  compTurn (.ListComp elt (⟨tg,iter,ifs,0⟩::gs) sc pos) 0 (.ref it) (.ref D) (yD X N' sc yc C s₀ H₀ fp).env=gW (.ListComp elt (⟨tg,iter,ifs,0⟩::gs) sc pos) 0 (.ref it) (.ref D) (yD X N' sc yc C s₀ H₀ fp).env tg ifs iter.pos inner/\
  PG (yD X N' sc yc C s₀ H₀ fp) tg g/\PTs (yD X N' sc yc C s₀ H₀ fp) ifs tif/\PN (yD X N' sc yc C s₀ H₀ fp) inner (tin D)
end
end L2
namespace L2
open PySem PySem.Spec PySem.SeqAt PyProof.Rows
end L2
namespace Ev
open PySem PyProof.Rows L2
section
variable {Pg:List Fn} {cl:Cn} {E:XK} {d:Nat} {X:Cx} {σ:L2.St} {H:Hp} {yc:Str}
variable {N':List Str} {sc:Scope} {nt:Nat} {idx:List Nat} {elt tg iter tg2 bC:Expr} {ifs dJ:List Expr} {gs:List Comprehension} {pos:Pos} {wi wi2:TI} {it it2:I} {t t2:Tg} {c c2:Option Ev.X} {e:Ev.X}
end
end Ev
set_option maxRecDepth 100000
set_option maxHeartbeats 4000000
namespace Ev
open PySem PyProof.Rows L2 PySem.W
def mG (n:Nat) {α:Type}:KasT α->Option α
 | .ret a=>some a
 | .ask i j k=>if i < n/\j < n then mG n (k (decide (i < j))) else none
theorem B_ {α:Type} {n:Nat} {cmp:Nat->Nat->(Bool->Shared->Prop)->Shared->Prop} {s:Shared} (h:∀ i j C,i < n->j < n->C (decide (i < j)) s->cmp i j C s):
 ∀ (t:KasT α) {a:α} {Q:α->Shared->Prop},mG n t=some a->Q a s->KasT.kasWp cmp t Q s
 | .ret b,a,Q,e,q=>by
   cases e;exact q
 | .ask i j k,a,Q,e,q=>by
   unfold mG at e
   by_cases c:i < n/\j < n
   · rw [if_pos c] at e
     exact h i j _ c.1 c.2 (B_ h (k (decide (i < j))) e q)
   · rw [if_neg c] at e;cases e
def ltP (p q:Int × Int):Bool:=if p.1=q.1 then decide (p.2 < q.2) else decide (p.1 < q.1)
theorem GQ {P:Program} {w:World} {A:Around} {E:Value->Shared->Prop} {s:Shared} {x y:Addr} {p q:Int × Int} {t1 t2 u1 u2:Tok} {Q:Bool->Shared->Prop} {ox oy:Obj} {n k:Nat} (hx:s.heap.get? x=some ox) (hx':ox.data= .seq #[.int p.1 t1,.int p.2 t2] n) (hy:s.heap.get? y=some oy) (hy':oy.data= .seq #[.int q.1 u1,.int q.2 u2] k)
 (h:Q (ltP p q) s):wpAny (model P w) A (keyLt' (tuples' true) (.ref x) (.ref y)) Q E s:=by
 refine kat_lt hx hx' hy hy' ?_
 refine kat_cons (wpAny_eqBool_int ?_)
 unfold ltP at h
 by_cases c:p.1=q.1
 · rw [if_pos c] at h
   rw [show (p.1 == q.1)=true by simpa using c]
   refine kat_yes (kat_cons (wpAny_eqBool_int ?_))
   by_cases d:p.2=q.2
   · rw [show (p.2 == q.2)=true by simpa using d]
     refine kat_yes (kat_nil ?_)
     rw [show decide (p.2 < q.2)=false by simp [d]] at h
     exact h
   · rw [show (p.2 == q.2)=false by simpa using d]
     exact kat_no (kat_one _ _ (PyProof.Rows.lt_int h))
 · rw [if_neg c] at h
   rw [show (p.1 == q.1)=false by simpa using c]
   exact kat_no (show wpAny (model P w) A (keyLt' oneType' _ _) Q _ s from kat_lt_int h)
theorem TY:mG 2 (kas_sort 2)=some #[0,1]:=by decide +kernel
theorem T3:mG 3 (kas_sort 3)=some #[0,1,2]:=by decide +kernel
theorem T4:mG 4 (kas_sort 4)=some #[0,1,2,3]:=by decide +kernel
theorem T5:mG 5 (kas_sort 5)=some #[0,1,2,3,4]:=by decide +kernel
def TupAt (h:Heap) (b:Addr) (p:Int × Int):Prop:=∃ o t1 t2 n,h.get? b=some o/\o.cls= .type "tuple"/\o.data= .seq #[.int p.1 t1,.int p.2 t2] n
abbrev PsR (H:Hp) (bs:List Addr) (ps:List (Int × Int)):Prop:=Paired (fun b (p:Int × Int)=>H b=some (.tup [.int p.1,.int p.2])) bs ps
theorem GR {P:Program} {w:World} {H:Hp} {h:Heap} {b:Addr} {p:Int × Int} (ok:HOk P w H h) (e:H b=some (.tup [.int p.1,.int p.2])):TupAt h b p:=by
 obtain ⟨_,its,r,o,h1,h2,n,h3⟩:=(show bw P w H h b (.tup [.int p.1,.int p.2]) from ok b _ e)
 obtain ⟨u,us,rfl,r1,r2⟩:∃ u us,its=u::us/\RelV (.int p.1) u/\Vals [.int p.2] us:=by
  cases r with
  | cons a b=>exact ⟨_,_,rfl,a,b⟩
 obtain ⟨u2,rfl,r3⟩:=vals1 r2
 obtain ⟨t1,rfl⟩:=r1
 obtain ⟨t2,rfl⟩:=r3
 exact ⟨o,t1,t2,n,h1,h2,h3⟩
theorem lZ:∀ {bs:List Addr} {us:List Value},Vals (bs.map V.ref) us->us=bs.map Value.ref
 | [],[],_=>rfl
 | [],_::_,h=>by cases h
 | _::_,[],h=>by cases h
 | n::ns,u::us,h=>by
   cases h with
   | cons h1 h2=>
     cases h1
     rw [lZ h2];rfl
theorem kat_tups {h:Heap}:∀ {bs:List Addr} {ps:List (Int × Int)},Paired (TupAt h) bs ps->∃ fs,KatTups h (bs.map Value.ref) fs/\fs.length=bs.length/\∀ v ∈ fs,∃ i t,v= .int i t
 | [],[],_=>⟨[],by simp [KatTups],rfl,fun _ h=>nomatch h⟩
 | b::bs,p::ps,h=>by
   cases h with
   | cons h1 h2=>
     obtain ⟨fs,g1,g2,g3⟩:=kat_tups h2
     obtain ⟨o,t1,t2,n,e1,e2,e3⟩:=h1
     refine ⟨.int p.1 t1::fs,?_,by simp [g2],fun v hv=>?_⟩
     · rw [List.map_cons,KatTups.eq_2]
       exact ⟨⟨b,o,_,n,rfl,e1,e2,e3,rfl⟩,g1⟩
     · rcases List.mem_cons.mp hv with e | e
       · exact ⟨_,_,e⟩
       · exact g3 v e
theorem Jq {vs:List Value} {n:Nat} {p:Array Nat} (hn:vs.length=n) (hp:p.toList=List.range n):p.toList.map (fun i=>vs.getD i .none)=vs:=by
 rw [hp]
 apply List.ext_getElem?
 intro i
 by_cases c:i < n
 · simp [c,hn]
 · simp [c,hn]
theorem Cd:∀ n,2 <= n->n <= 5->∃ p:Array Nat,mG n (kas_sort n)=some p/\p.toList=List.range n
 | 2,_,_=>⟨_,TY,by decide⟩
 | 3,_,_=>⟨_,T3,by decide⟩
 | 4,_,_=>⟨_,T4,by decide⟩
 | 5,_,_=>⟨_,T5,by decide⟩
 | 0,h,_=>absurd h (by decide)
 | 1,h,_=>absurd h (by decide)
 | n + 6,_,h=>absurd h (by omega)
theorem obj_some {P:Program} {w:World} {H:Hp} {h:Heap} {a:Addr} {u:HO} (x:bw P w H h a u):∃ o,h.get? a=some o:=by
 induction u with
 | lst xs=>obtain ⟨z,its,n,r,e⟩:=x;exact ⟨_,e⟩
 | tup xs=>obtain ⟨z,its,r,ob,e,c⟩:=x;exact ⟨_,e⟩
 | dK kvs=>obtain ⟨z,y,vs,r,ob,es,ep,e,c⟩:=x;exact ⟨_,e⟩
 | dT kvs=>obtain ⟨z,y,xs,r,ob,es,ep,e,c⟩:=x;exact ⟨_,e⟩
 | set S n=>obtain ⟨ob,es,ep,t,e,c⟩:=x;exact ⟨_,e⟩
 | ins C dx fs=>obtain ⟨d,z,ne,e,mA,_,r⟩:=x;exact ⟨_,e⟩
 | own y=>exact x
 | xd fs=>obtain ⟨mA,⟨od,es,ep,e,c⟩,r⟩:=x;exact ⟨_,e⟩
 | rng lo hi=>obtain ⟨t,u,v,e⟩:=x;exact ⟨_,e⟩
 | frz ob u ih=>obtain ⟨e,q⟩:=x;exact ⟨_,e⟩
 | tbl ps=>exact ⟨_,x⟩
 | met f y=>exact ⟨_,x⟩
 | ext φ=>exact x.2.1
section
variable {X:Cx}
theorem yE:cU X (.builtin "sorted") (fun xs H Q=>∃ p bs ps,xs= [.ref p]/\SqL X.K H p (bs.map V.ref)/\2 <= bs.length/\bs.length <= 5/\PsR H bs ps/\(∀ (i j:Nat) (b c:Int × Int),ps[i]? =some b->ps[j]? =some c->ltP b c=decide (i < j))/\∀ l,H l=none->Q (.ref l) (upd H l (.lst (bs.map V.ref)))):=by
 intro pins s σ H xs us Q I r h
 obtain ⟨p,bs,ps,rfl,hq,h2,h5,hp,hlt,q⟩:=h
 obtain ⟨u,rfl,rx⟩:=vals1 r
 cases rx
 obtain ⟨its,r',pl,hz⟩:=I.list hq
 have ie:=lZ r'
 subst ie
 obtain ⟨m,F⟩:=I.fr
 refine kat_sorted F wU pl.isList (by rw [List.length_map];exact h2) (by rw [List.length_map];omega) fun D e1 h' F' N' hD=>?_
 have kb:∀ b o,s.heap.get? b=some o->b ≠ X.env.locals->h'.get? b=some o:=fun b o e hb=>by
  cases z:X.base.get? b with
  | some u=>
    have:=I.bk b u z
    rw [e] at this;cases this
    exact F'.keep b _ z
  | none=>exact (N' (b,o) (List.mem_cons_of_mem _ (fM hb z e))).1
 have tp:Paired (TupAt h') bs ps:=Paired.nR hp fun b c e=>by
  obtain ⟨o,t1,t2,n,e1,e2,e3⟩:=GR I.hok e
  exact ⟨o,t1,t2,n,kb b o e1 (fun z=>by rw [z] at e;rw [I.free] at e;cases e),e2,e3⟩
 obtain ⟨fs,g1,g2,g3⟩:=kat_tups tp
 refine kat_kind (T:=.type "int") g1 (by omega) (fun v hv=>?_) (by decide) ?_
 · obtain ⟨i,t,rfl⟩:=g3 v hv
   exact fun A Q E s k q=>wpAny_pure q
 obtain ⟨pp,sp,hpp⟩:=Cd bs.length h2 h5
 rw [List.length_map]
 refine B_ (n:=bs.length) (fun i j C hi hj c=>?_) _ sp ?_
 · have gi:∀ i,i < bs.length->∃ b p,(bs.map Value.ref).getD i .none= .ref b/\ps[i]? =some p/\TupAt h' b p:=fun i hi=>by
    have hl:i < ps.length:=by rw [<- tp.length];exact hi
    exact ⟨bs[i],ps[i],by simp [hi],List.getElem?_eq_getElem hl,Paired.Jm tp (List.getElem?_eq_getElem hi) (List.getElem?_eq_getElem hl)⟩
   obtain ⟨b1,p1,v1,q1,o1,t1,t2,n1,a1,a2,a3⟩:=gi i hi
   obtain ⟨b2,p2,v2,q2,o2,u1,u2,n2,c1,c2,c3⟩:=gi j hj
   show wpAny (model X.prog X.w) _ (keyLt' (tuples' true) ((bs.map Value.ref).getD i .none) ((bs.map Value.ref).getD j .none)) C (fun _ _=>False) _
   rw [v1,v2]
   refine GQ (p:=p1) (q:=p2) (s:={ heap:=h',gens:=s.gens,drawn:=s.drawn,toks:=s.toks,os:=s.os }) a1 a3 c1 c3 ?_
   rw [hlt i j p1 p2 q1 q2];exact c
 · refine ⟨_,_,F',N',UpdF.head (fun p hp=>Nat.ne_of_lt (hD p hp)),fun h'' c F'' N''=>?_⟩
   rw [Jq (List.length_map ..) hpp] at N''
   have nD:=N'' (D,W.listOf (bs.map Value.ref).toArray c) List.mem_cons_self
   have kb2:∀ b o,b ≠ X.env.locals->s.heap.get? b=some o->h''.get? b=some o:=fun b o hb e=>by
    cases z:X.base.get? b with
    | some u=>
      have:=I.bk b u z
      rw [e] at this;cases this
      exact F''.keep b _ z
    | none=>exact (N'' (b,o) (List.mem_cons_of_mem _ (fM hb z e))).1
   have fD:s.heap.get? D=none:=by
    cases e:s.heap.get? D with
    | none=>rfl
    | some o=>exact absurd (hD (D,o) (fM nD.2.1 nD.2.2 e)) (Nat.lt_irrefl _)
   have hD0:H D=none:=by
    cases e:H D with
    | none=>rfl
    | some u=>exact absurd (obj_some (I.hok D u e)) (by rw [fD];intro ⟨_,z⟩;cases z)
   refine ⟨.ref D,upd H D (.lst (bs.map V.ref)),?_,rfl,q D hD0⟩
   have nl:∀ b u,H b=some u->b ≠ X.env.locals:=fun b u e z=>by rw [z,I.free] at e;cases e
   show Inv X pins σ _ { s with heap:=h'',gens:=s.gens,drawn:=s.drawn,toks:=s.toks }
   refine I.step (g':=s.gens) (d':=s.drawn) (t':=s.toks) (ch:=[]) (fun _ z=>nomatch z) (fun b o hb _ _ e _=>kb2 b o hb e) (fun b o hb _ _ e _=>⟨o.slots,kb2 b o hb e⟩) (fun b o _ e n=>?_) (fun b o _ e=>?_)
    (fun b xs e=>by rw [au (aD e hD0)];exact e) (fun b o u e=>by rw [au (aD e hD0)];exact e) (fun b ps e=>⟨#[],by rw [au (aD e hD0),e];simp⟩) (fun m' hm=>?_) (fun b u e=>?_) I.bare
   · rw [au (fun z=>by rw [z,fD] at e;cases e)];exact n
   · by_cases hb:b=X.env.locals
     · obtain ⟨o',es,ep,ho,_⟩:=F''.ns
       exact ⟨o',by rw [hb];exact ho⟩
     · exact ⟨o,kb2 b o hb e⟩
   · obtain ⟨o1,es1,ep1,ho1,hd1,_,f1⟩:=hm
     obtain ⟨o2,es2,ep2,ho2,hd2,_,f2⟩:=F.ns
     rw [ho1] at ho2;cases ho2
     rw [hd1] at hd2;cases hd2
     have:m'=m:=funext fun x=>(f1 x).symm.trans (f2 x)
     rw [this];exact F''.ns
   · by_cases hb:b=D
     · subst hb
       rw [aC] at e;cases e
       exact ⟨hz,bs.map Value.ref,c,r',nD.1⟩
     · rw [au hb] at e
       exact (I.hok b u e).stay (fun c v hc z=>kb2 c v (by
        rcases hc with y | y
        · rw [y];exact nl b u e
        · exact nl c _ y) z) (fun c z=>by rw [au (aD z hD0)];exact z) fun c xs z=>by rw [au (aD z hD0)];exact z
end
def l_:Option O->Option (Int × Int)
 | some (.tup [.int a,.int b])=>some (a,b)
 | _=>none
def T6:W->Option Nat
 | .ref k=>some k
 | _=>none
noncomputable def cu (h:Hs):List W->Option (List (Int × Int))
 | []=>some []
 | w::r=>(T6 w).bind fun k=>(l_ (h.get k)).bind fun p=>(cu h r).map fun ps=>p::ps
section
variable {cl:Cn}
theorem vq {ρ:List Addr} {h:Hs} {H:Hp} (s:Sim cl ρ h H):∀ {xs:List W} {vs:List V} {ps:List (Int × Int)},RWs ρ xs vs->cu h xs=some ps->∃ bs:List Addr,vs=bs.map V.ref/\PsR H bs ps
 | [],_,ps,.nil,e=>by cases e;exact ⟨[],rfl,.nil⟩
 | x::xs,_,ps,.cons r rs,e=>by
   unfold cu at e
   cases r with
   | int i=>cases e
   | non=>cases e
   | bl b=>cases e
   | str c=>cases e
   | @ref k c hk=>
     have e:((l_ (h.get k)).bind fun p=>(cu h xs).map fun ps=>p::ps)=some ps:=e
     cases e1:l_ (h.get k) with
     | none=>rw [e1] at e;cases e
     | some p=>
       rw [e1] at e
       have e:((cu h xs).map fun ps=>p::ps)=some ps:=e
       cases e2:cu h xs with
       | none=>rw [e2] at e;cases e
       | some qs=>
         rw [e2] at e
         cases e
         obtain ⟨bs,rfl,hp⟩:=vq s rs e2
         refine ⟨c::bs,rfl,.cons ?_ hp⟩
         obtain ⟨o,ho,x⟩:=s.obj k c hk
         rw [ho] at e1
         unfold l_ at e1
         split at e1
         · rename_i z
           cases z
           cases e1
           obtain ⟨us,ru,q⟩:=x
           cases ru with
           | cons a b=>cases a;cases b with
             | cons a b=>cases a;cases b;exact q
         · cases e1
end
end Ev
set_option maxRecDepth 100000
set_option maxHeartbeats 4000000
namespace Ev
open PySem PyProof.Rows L2 PySem.W
theorem Rv {P:Program} {w:World} {A:Around} {E:Value->Shared->Prop} {s:Shared} {a:Addr} {v:Value} {n:Nat} {R:PySem.Fin->Shared->Prop} (e:s.heap.get? a=some (seqObj "list" #[v] n))
 (h:R (.done (.ret .none)) { s with heap:=sortedHeap s.heap a [v] #[v] }):wpAny (model P w) A (Builtin.«list.sort» { pos:=[.ref a] }) R E s:=by
 rw [list_sort_plain]
 have e1:(s.heap.update a (Obj.mapSeq fun _=>#[])).get? a=some (seqObj "list" #[] (n + 1)):=Heap.get?_update_self _ e rfl
 have e3:(((s.heap.update a (Obj.mapSeq fun _=>#[])).push (seqObj "tuple" #[v] 0)).push (seqObj "list" #[] 0)).get? a=some (seqObj "list" #[] (n + 1)):=Heap.get?_push_of_some _ (Heap.get?_push_of_some _ e1)
 have ha:Array.map (fun x:Keyed=>x.snd) (arrOf (SortSt.mk' general' (#[v].zip #[v]) #[] 7 none))= #[v]:=by with_unfolding_all rfl
 refine wpAny_bind (wpAny_listItems e rfl ?_)
 refine wpAny_bind (listUpdate_at e rfl ?_ (by rw [sizeLine_eq];exact Nat.le_of_ble_eq_true rfl) (by rw [sizeLine_eq];decide))
 refine wpAny_bind (seqEpoch_at e1 rfl ?_)
 refine wpAny_bind (wpAny_newTuple ?_ (by rw [sizeLine_eq];exact Nat.le_of_ble_eq_true rfl))
 refine wpAny_bind (wpAny_newList ?_ (by rw [sizeLine_eq];decide))
 refine wpAny_holding ?_
 show wpAny _ _ (pure general' >>= _) _ _ _
 refine wpAny_bind (wpAny_pure ?_)
 refine wpAny_bind (wpAny_pure ?_)
 refine wpAny_bind (seqEpoch_at e3 rfl ?_)
 refine wpAny_bind (listUpdate_at e3 rfl ?_ (by rw [sizeLine_eq];decide) (by rw [ha,sizeLine_eq];exact Nat.le_of_ble_eq_true rfl))
 show wpAny _ _ (if ((n + 1) != (n + 1))=true then _ else _) _ _ _
 rw [bne_self_eq_false,ha]
 exact wpAny_pure h
theorem Lk {P:Program} {w:World} {A:Around} {E:Value->Shared->Prop} {s:Shared} {l:Addr} {v:Value} {Q:Value->Shared->Prop} (hl:s.heap.IsList l [v].toArray)
 (h:Q (.ref (s.heap.objs.size + 1)) { s with heap:=sortedAll s.heap [v] #[v] }):wpAny (model P w) A (call (.builtin "sorted") [.ref l]) Q E s:=by
 refine call_function_any kind_sorted plain_sorted entry_sorted (args_sorted1 _) ?_
 show wpAny _ _ (checkCount "sorted" 1 1 1 >>= fun _=>_) _ _ _
 refine wpAny_bind (wpAny_pure ?_)
 refine wpAny_bind (collect_list hl ?_ (by rw [sizeLine_eq];exact Nat.le_of_ble_eq_true rfl))
 refine wpAny_bind (wpAny_newList ?_ (by rw [sizeLine_eq];exact Nat.le_of_ble_eq_true rfl))
 have sz:((s.heap.push (seqObj "list" #[] 0)).update s.heap.objs.size (Obj.mapSeq fun x=>x ++ [v].toArray)).objs.size=s.heap.objs.size + 1:=by
  rw [Heap.size_update,Heap.size_push]
 have e:(((s.heap.push (seqObj "list" #[] 0)).update s.heap.objs.size (Obj.mapSeq fun x=>x ++ [v].toArray)).push (seqObj "list" #[v] 0)).get? (s.heap.objs.size + 1)=some (seqObj "list" #[v] 0):=by
  have z:=Heap.get?_push_size ((s.heap.push (seqObj "list" #[] 0)).update s.heap.objs.size (Obj.mapSeq fun x=>x ++ [v].toArray)) (o:=seqObj "list" #[v] 0) rfl
  rw [sz] at z;exact z
 refine wpAny_bind (wpAny_holding ?_)
 show wpAny _ _ (call (.builtin "list.sort") [.ref _]) _ _ _
 rw [sz]
 refine wpAny_call_entry slot_list_sort (Heap.IsList.typeIs ⟨_,e,rfl,0,rfl⟩) entry_list_sort (Rv e ⟨.none,rfl,?_⟩) (args_list_sort _)
 exact wpAny_pure h
section
variable {X:Cx}
theorem yF:cU X (.builtin "sorted") (fun xs H Q=>∃ p bs ps,xs= [.ref p]/\SqL X.K H p (bs.map V.ref)/\1 <= bs.length/\bs.length <= 5/\PsR H bs ps/\(∀ (i j:Nat) (b c:Int × Int),ps[i]? =some b->ps[j]? =some c->ltP b c=decide (i < j))/\∀ l,H l=none->Q (.ref l) (upd H l (.lst (bs.map V.ref)))):=by
 intro pins s σ H xs us Q I r h
 obtain ⟨p,bs,ps,rfl,hq,h1,h5,hp,hlt,q⟩:=h
 by_cases h2:2 <= bs.length
 · exact yE pins s σ H _ us Q I r ⟨p,bs,ps,rfl,hq,h2,h5,hp,hlt,q⟩
 · obtain ⟨b,rfl⟩:∃ b,bs= [b]:=by
    cases bs with
    | nil=>exact absurd h1 (by decide)
    | cons b r=>cases r with
      | nil=>exact ⟨b,rfl⟩
      | cons _ _=>exact absurd (show 2 <= _ from by simp) h2
   obtain ⟨u,rfl,rx⟩:=vals1 r
   cases rx
   obtain ⟨its,r',pl,hz⟩:=I.list hq
   have ie:=lZ r'
   subst ie
   refine Lk (v:=.ref b) pl.isList ?_
   obtain ⟨e,he⟩:=sortedAll_at s.heap [.ref b] #[.ref b]
   exact ⟨.ref (s.heap.objs.size + 1),_,I.laid (t':=s.toks) (fun b o e=>sortedAll_old e) (Nat.le_succ _) (show bw X.prog X.w _ _ _ (.lst ([b].map V.ref)) from ⟨hz,_,e,r',he⟩),rfl,q _ (I.hok.fresh (Nat.le_succ _))⟩
end
section
variable {cl:Cn}
end
end Ev
set_option maxRecDepth 100000
set_option maxHeartbeats 4000000
namespace Ev
noncomputable section
def okQ {α:Type} (r:R α) (Q:α->Hs->Prop):Prop:=R.rec Q (fun _ _ _=>False) False r
def aW (Q:W->Hs->Prop) (a:A) (h:Hs):Prop:=A.rec (fun w=>Q w h) (fun _=>False) (fun _=>False) (fun _=>False) False a
def aL (Q:List W->Hs->Prop) (a:A) (h:Hs):Prop:=A.rec (fun _=>False) (fun w=>Q w h) (fun _=>False) (fun _=>False) False a
def aV (Q:Iv->Hs->Prop) (a:A) (h:Hs):Prop:=A.rec (fun _=>False) (fun _=>False) (fun w=>Q w h) (fun _=>False) False a
def aF (Q:Fl->Hs->Prop) (a:A) (h:Hs):Prop:=A.rec (fun _=>False) (fun _=>False) (fun _=>False) (fun w=>Q w h) False a
def wX (e:X) (K:Ks) (n:Nat) (τ:Sg) (h:Hs) (Q:W->Hs->Prop):Prop:=okQ (e.f K n τ h) (aW Q)
def wA (es:List X) (K:Ks) (n:Nat) (τ:Sg) (h:Hs) (Q:List W->Hs->Prop):Prop:=okQ (goA es K n τ h) (aL Q)
def wI (e:I) (K:Ks) (n:Nat) (τ:Sg) (h:Hs) (Q:Iv->Hs->Prop):Prop:=okQ (e.f K n τ h) (aV Q)
def w1 (s:S) (K:Ks) (n:Nat) (τ:Sg) (h:Hs) (Q:Fl->Hs->Prop):Prop:=okQ (s.f K n τ h) (aF Q)
def wS (s:List S) (K:Ks) (n:Nat) (τ:Sg) (h:Hs) (Q:Fl->Hs->Prop):Prop:=okQ (gm s K n τ h) (aF Q)
def wP (p:Pr) (ws:List W) (h:Hs) (Q:W->Hs->Prop):Prop:=okQ (p.f ws h) Q
def wC (f:Nat) (ws:List W) (K:Ks) (n:Nat) (h:Hs) (Q:W->Hs->Prop):Prop:=okQ (jM f ws K n h) (aW Q)
def Eb (ss:List S) (K:Ks) (n:Nat) (h:Hs) (Q:Fl->Hs->Prop) (f:Fl):Prop:=Fl.rec (fun τ=>wS ss K n τ h Q) (fun w=>Q (.rt w) h) (fun τ=>Q (.bk τ) h) (fun τ=>Q (.ct τ) h) f
def Jr (Q:W->Hs->Prop) (f:Fl) (h:Hs):Prop:=Fl.rec (fun _=>Q .non h) (fun w=>Q w h) (fun _=>False) (fun _=>False) f
def bW (w:W) (t f:Prop):Prop:=W.rec False (fun b=>Bool.rec f t b) (fun _=>False) (fun _=>False) (fun _=>False) w
end
section
variable {K:Ks} {n:Nat} {τ:Sg} {h:Hs}
theorem jo {α:Type} {r:R α} {Q Q':α->Hs->Prop} (x:okQ r Q) (f:∀ a h,Q a h->Q' a h):okQ r Q':=by
 cases r with
 | ok a h=>exact f a h x
 | _=>exact x
theorem Ln {Q Q':W->Hs->Prop} (f:∀ w h,Q w h->Q' w h):∀ a h,aW Q a h->aW Q' a h:=fun a h x=>by
 cases a with
 | w w=>exact f w h x
 | _=>exact x
theorem jq {e:X} {Q Q':W->Hs->Prop} (x:wX e K n τ h Q) (f:∀ w h,Q w h->Q' w h):wX e K n τ h Q':=jo x (Ln f)
theorem Js {α β:Type} {r:R α} {f:α->Hs->R β} {Q:β->Hs->Prop}:okQ (r.bind f) Q ↔ okQ r fun a h=>okQ (f a h) Q:=by cases r <;> exact Iff.rfl
theorem jB {e:X} {Q:W->Hs->Prop} (x:wX e K n τ h Q):∃ w h',e.f K n τ h= .ok (.w w) h'/\Q w h':=by
 unfold wX at x
 generalize e.f K n τ h=r at x
 cases r with
 | ok a h'=>cases a with
   | w w=>exact ⟨w,h',rfl,x⟩
   | _=>exact x.elim
 | _=>exact x.elim
theorem Rw {s:List S} {Q:Fl->Hs->Prop} (x:wS s K n τ h Q):∃ w h',gm s K n τ h= .ok (.fl w) h'/\Q w h':=by
 unfold wS at x
 generalize gm s K n τ h=r at x
 cases r with
 | ok a h'=>cases a with
   | fl w=>exact ⟨w,h',rfl,x⟩
   | _=>exact x.elim
 | _=>exact x.elim
theorem Pq {i:Nat} {w:W} {Q:W->Hs->Prop} (e:aN τ i=some w):wX (.var i) K n τ h Q ↔ Q w h:=by
 show okQ (Option.rec (motive:=fun _=>R A) .no (fun w=>.ok (.w w) h) (aN τ i)) _ ↔ _
 rw [e];exact Iff.rfl
theorem Pu {w:W} {Q:W->Hs->Prop}:wX (.cst w) K n τ h Q ↔ Q w h:=Iff.rfl
theorem Px {Q:List W->Hs->Prop}:wA [] K n τ h Q ↔ Q [] h:=Iff.rfl
theorem uP {e:X} {es:List X} {Q:List W->Hs->Prop}:wA (e::es) K n τ h Q ↔ wX e K n τ h fun w h=>wA es K n τ h fun ws h=>Q (w::ws) h:=by
 show okQ (R.rec (motive:=fun _=>R A) (fun r h=>A.rec (motive:=fun _=>R A) (fun w=>R.rec (motive:=fun _=>R A) (fun r h=>A.rec (motive:=fun _=>R A) (fun _=>.no) (fun ws=>.ok (.ws (w::ws)) h) (fun _=>.no) (fun _=>.no) .no r) (fun C fs h=>.ex C fs h) .no (goA es K n τ h)) (fun _=>.no) (fun _=>.no) (fun _=>.no) .no r) (fun C fs h=>.ex C fs h) .no (e.f K n τ h)) _ ↔ okQ (e.f K n τ h) _
 generalize e.f K n τ h=r
 cases r with
 | ok a h1=>cases a with
   | w w=>
     show okQ (R.rec (motive:=fun _=>R A) (fun r h=>A.rec (motive:=fun _=>R A) (fun _=>.no) (fun ws=>.ok (.ws (w::ws)) h) (fun _=>.no) (fun _=>.no) .no r) (fun C fs h=>.ex C fs h) .no (goA es K n τ h1)) _ ↔ okQ (goA es K n τ h1) _
     generalize goA es K n τ h1=r
     cases r with
     | ok a h2=>cases a <;> exact Iff.rfl
     | _=>exact Iff.rfl
   | _=>exact Iff.rfl
 | _=>exact Iff.rfl
theorem Rx {p:Pr} {es:List X} {Q:W->Hs->Prop}:wX (.pr p es) K n τ h Q ↔ wA es K n τ h fun ws h=>wP p ws h Q:=by
 show okQ (R.rec (motive:=fun _=>R A) (fun r h=>A.rec (motive:=fun _=>R A) (fun _=>.no) (fun ws=>R.rec (motive:=fun _=>R A) (fun w h=>.ok (.w w) h) (fun C f h=>.ex C f h) .no (p.f ws h)) (fun _=>.no) (fun _=>.no) .no r) (fun C fs h=>.ex C fs h) .no (goA es K n τ h)) _ ↔ okQ (goA es K n τ h) _
 generalize goA es K n τ h=r
 cases r with
 | ok a h1=>cases a with
   | ws ws=>
     show okQ (R.rec (motive:=fun _=>R A) (fun w h=>.ok (.w w) h) (fun C f h=>.ex C f h) .no (p.f ws h1)) _ ↔ okQ (p.f ws h1) Q
     generalize p.f ws h1=r
     cases r <;> exact Iff.rfl
   | _=>exact Iff.rfl
 | _=>exact Iff.rfl
theorem Lp {f:Nat} {es:List X} {Q:W->Hs->Prop}:wX (.call f es) K n τ h Q ↔ wA es K n τ h fun ws h=>wC f ws K n h Q:=by
 show okQ ((goA es K n τ h).bind fun a h=>a.toL fun ws=>jM f ws K n h) _ ↔ okQ (goA es K n τ h) _
 generalize goA es K n τ h=r
 cases r with
 | ok a h1=>cases a <;> exact Iff.rfl
 | _=>exact Iff.rfl
theorem Py {a b:X} {Q:W->Hs->Prop}:wX (.and a b) K n τ h Q ↔ wX a K n τ h fun w h=>bW w (wX b K n τ h Q) (Q (.bl false) h):=by
 show okQ ((a.f K n τ h).bind fun r h=>r.toW fun w=>w.onB (.ok (.w (.bl false)) h) (b.f K n τ h)) _ ↔ okQ (a.f K n τ h) _
 generalize a.f K n τ h=r
 cases r with
 | ok x h1=>cases x with
   | w w=>cases w with
     | bl k=>cases k <;> exact Iff.rfl
     | _=>exact Iff.rfl
   | _=>exact Iff.rfl
 | _=>exact Iff.rfl
theorem Ry {a b:X} {Q:W->Hs->Prop}:wX (.or a b) K n τ h Q ↔ wX a K n τ h fun w h=>bW w (Q (.bl true) h) (wX b K n τ h Q):=by
 show okQ ((a.f K n τ h).bind fun r h=>r.toW fun w=>w.onB (b.f K n τ h) (.ok (.w (.bl true)) h)) _ ↔ okQ (a.f K n τ h) _
 generalize a.f K n τ h=r
 cases r with
 | ok x h1=>cases x with
   | w w=>cases w with
     | bl k=>cases k <;> exact Iff.rfl
     | _=>exact Iff.rfl
   | _=>exact Iff.rfl
 | _=>exact Iff.rfl
theorem Pz {Q:Fl->Hs->Prop}:wS [] K n τ h Q ↔ Q (.nx τ) h:=Iff.rfl
theorem Ce {s:S} {ss:List S} {Q:Fl->Hs->Prop}:wS (s::ss) K n τ h Q ↔ w1 s K n τ h fun f h=>Eb ss K n h Q f:=by
 show okQ ((s.f K n τ h).bind fun r h=>r.toF fun f=>Fl.rec (motive:=fun _=>R A) (fun τ=>gm ss K n τ h) (fun w=>.ok (.fl (.rt w)) h) (fun τ=>.ok (.fl (.bk τ)) h) (fun τ=>.ok (.fl (.ct τ)) h) f) _ ↔ okQ (s.f K n τ h) _
 generalize s.f K n τ h=r
 cases r with
 | ok x h1=>cases x with
   | fl f=>cases f <;> exact Iff.rfl
   | _=>exact Iff.rfl
 | _=>exact Iff.rfl
theorem PB {i:Nat} {e:X} {Q:Fl->Hs->Prop}:w1 (.asg (.nm i) e) K n τ h Q ↔ wX e K n τ h fun w h=>Q (.nx (setAt τ (some w) i)) h:=by
 show okQ ((e.f K n τ h).bind fun r h=>r.toW fun w=>R.ok (A.fl (.nx (setAt τ (some w) i))) h) (aF Q) ↔ okQ (e.f K n τ h) _
 generalize e.f K n τ h=r
 cases r with
 | ok x h1=>cases x <;> exact Iff.rfl
 | _=>exact Iff.rfl
theorem PJ {e:X} {Q:Fl->Hs->Prop}:w1 (.ret e) K n τ h Q ↔ wX e K n τ h fun w h=>Q (.rt w) h:=by
 show okQ ((e.f K n τ h).bind fun r h=>r.toW fun w=>R.ok (A.fl (.rt w)) h) (aF Q) ↔ okQ (e.f K n τ h) _
 generalize e.f K n τ h=r
 cases r with
 | ok x h1=>cases x <;> exact Iff.rfl
 | _=>exact Iff.rfl
theorem Lq {e:X} {Q:Fl->Hs->Prop}:w1 (.expr e) K n τ h Q ↔ wX e K n τ h fun w h=>Q (.nx τ) h:=by
 show okQ ((e.f K n τ h).bind fun r h=>r.toW fun w=>R.ok (A.fl (.nx τ)) h) (aF Q) ↔ okQ (e.f K n τ h) _
 generalize e.f K n τ h=r
 cases r with
 | ok x h1=>cases x <;> exact Iff.rfl
 | _=>exact Iff.rfl
theorem PK {c:X} {a b:List S} {Q:Fl->Hs->Prop}:w1 (.ife c a b) K n τ h Q ↔ wX c K n τ h fun w h=>bW w (wS a K n τ h Q) (wS b K n τ h Q):=by
 show okQ ((c.f K n τ h).bind fun r h=>r.toW fun w=>w.onB (gm b K n τ h) (gm a K n τ h)) _ ↔ okQ (c.f K n τ h) _
 generalize c.f K n τ h=r
 cases r with
 | ok x h1=>cases x with
   | w w=>cases w with
     | bl k=>cases k <;> exact Iff.rfl
     | _=>exact Iff.rfl
   | _=>exact Iff.rfl
 | _=>exact Iff.rfl
theorem jP {Pg:List Fn} {d f np k:Nat} {b:List S} {ws:List W} {Q:W->Hs->Prop} (e:nth Pg f=some (.mk np k b)) (l:Nat.beq (len ws) np=true):wC f ws (bN Pg (d + 1)) (n + 1) h Q ↔ wS b (bN Pg d) n (frame k ws) h (Jr Q):=by
 show okQ (Opt (nth Pg f) (JS (bN Pg d) n h ws)) _ ↔ _
 rw [e]
 show okQ (ifB (Nat.beq (len ws) np) ((gm b (bN Pg d) n (frame k ws) h).bind fun r h=>r.toF fun f=>sS h f) .no) _ ↔ okQ (gm b (bN Pg d) n (frame k ws) h) _
 rw [l]
 generalize gm b (bN Pg d) n (frame k ws) h=r
 cases r with
 | ok x h1=>cases x with
   | fl f=>cases f <;> exact Iff.rfl
   | _=>exact Iff.rfl
 | _=>exact Iff.rfl
end
end Ev
set_option maxRecDepth 100000
set_option maxHeartbeats 4000000
namespace Ev
def Ext (h h':Hs):Prop:=h.n <= h'.n/\∀ k,k < h.n->h'.get k=h.get k
theorem Ext.refl {h:Hs}:Ext h h:=⟨Nat.le_refl _,fun _ _=>rfl⟩
theorem Ext.trans {a b c:Hs} (x:Ext a b) (y:Ext b c):Ext a c:=⟨Nat.le_trans x.1 y.1,fun k l=>(y.2 k (Nat.lt_of_lt_of_le l x.1)).trans (x.2 k l)⟩
theorem Ext.push {h:Hs} {o:O}:Ext h (h.push o):=⟨by rw [Hs.pM];omega,fun k l=>by rw [Hs.lg,if_neg (by omega)]⟩
theorem Ext.set {h h':Hs} {k:Nat} {o:O} (x:Ext h h') (l:h.n <= k):Ext h (h'.set k o):=⟨by rw [Hs.gH];exact x.1,fun j g=>by rw [Hs.get_set,if_neg (by omega)];exact x.2 j g⟩
theorem Ext.get {h h':Hs} {k:Nat} {o:O} (x:Ext h h') (l:k < h.n) (e:h.get k=some o):h'.get k=some o:=(x.2 k l).trans e
theorem aB {h:Hs} {o:O}:(h.push o).get h.n=some o:=by rw [Hs.lg,if_pos rfl]
theorem aP {h:Hs} {o:O}:h.n < (h.push o).n:=by rw [Hs.pM];omega
mutual
def Rd (h:Hs) (A:Nat->Prop):D->W->Prop
 | .non,w=>w= .non
 | .bl b,w=>w= .bl b
 | .int i,w=>w= .int i
 | .str c,w=>w= .str c
 | .lst ds,w=>∃ p ws,w= .ref p/\p < h.n/\A p/\h.get p=some (.lst ws)/\Rds h A ds ws
 | .tup ds,w=>∃ p ws,w= .ref p/\p < h.n/\A p/\h.get p=some (.tup ws)/\Rds h A ds ws
def Rds (h:Hs) (A:Nat->Prop):List D->List W->Prop
 | [],ws=>ws= []
 | d::ds,ws=>∃ w r,ws=w::r/\Rd h A d w/\Rds h A ds r
end
mutual
theorem Rd.to {h h':Hs} {A A':Nat->Prop} (n:h.n <= h'.n) (x:∀ k,k < h.n->A k->h'.get k=h.get k/\A' k):∀ (d:D) (w:W),Rd h A d w->Rd h' A' d w
 | .non,_,z | .bl _,_,z | .int _,_,z | .str _,_,z=>by simpa [Rd] using z
 | .lst ds,w,z=>by
   simp only [Rd] at z ⊢
   obtain ⟨p,ws,e,l,a,g,r⟩:=z
   exact ⟨p,ws,e,Nat.lt_of_lt_of_le l n,(x p l a).2,(x p l a).1.trans g,Rds.to n x ds ws r⟩
 | .tup ds,w,z=>by
   simp only [Rd] at z ⊢
   obtain ⟨p,ws,e,l,a,g,r⟩:=z
   exact ⟨p,ws,e,Nat.lt_of_lt_of_le l n,(x p l a).2,(x p l a).1.trans g,Rds.to n x ds ws r⟩
theorem Rds.to {h h':Hs} {A A':Nat->Prop} (n:h.n <= h'.n) (x:∀ k,k < h.n->A k->h'.get k=h.get k/\A' k):∀ (ds:List D) (ws:List W),Rds h A ds ws->Rds h' A' ds ws
 | [],_,z=>by simpa [Rds] using z
 | d::ds,ws,z=>by
   simp only [Rds] at z ⊢
   obtain ⟨w,r,e,a,b⟩:=z
   exact ⟨w,r,e,Rd.to n x d w a,Rds.to n x ds r b⟩
end
theorem Rds.ext {h h':Hs} {A:Nat->Prop} {d:List D} {w:List W} (z:Rds h A d w) (x:Ext h h'):Rds h' A d w:=Rds.to x.1 (fun k l a=>⟨x.2 k l,a⟩) d w z
theorem Rd.imp {h:Hs} {A A':Nat->Prop} {d:D} {w:W} (z:Rd h A d w) (x:∀ k,k < h.n->A k->A' k):Rd h A' d w:=Rd.to (Nat.le_refl _) (fun k l a=>⟨rfl,x k l a⟩) d w z
theorem Rds.imp {h:Hs} {A A':Nat->Prop} {d:List D} {w:List W} (z:Rds h A d w) (x:∀ k,k < h.n->A k->A' k):Rds h A' d w:=Rds.to (Nat.le_refl _) (fun k l a=>⟨rfl,x k l a⟩) d w z
theorem Rds.length {h:Hs} {A:Nat->Prop}:∀ {ds:List D} {ws:List W},Rds h A ds ws->ws.length=ds.length
 | [],_,z=>by simp only [Rds] at z;subst z;rfl
 | d::ds,ws,z=>by
   simp only [Rds] at z
   obtain ⟨w,r,rfl,a,b⟩:=z
   simp [Rds.length b]
theorem Rds.get {h:Hs} {A:Nat->Prop}:∀ {ds:List D} {ws:List W} {i:Nat} {d:D},Rds h A ds ws->ds[i]? =some d->∃ w,ws[i]? =some w/\Rd h A d w
 | [],_,i,d,z,e=>by simp at e
 | d::ds,ws,i,d',z,e=>by
   simp only [Rds] at z
   obtain ⟨w,r,rfl,a,b⟩:=z
   cases i with
   | zero=>simp at e;subst e;exact ⟨w,rfl,a⟩
   | succ i=>simpa using Rds.get b (by simpa using e)
theorem Rds.snoc {h:Hs} {A:Nat->Prop}:∀ {ds:List D} {ws:List W} {d:D} {w:W},Rds h A ds ws->Rd h A d w->Rds h A (ds ++ [d]) (ws ++ [w])
 | [],_,d,w,z,e=>by simp only [Rds] at z;subst z;simp only [List.nil_append,Rds];exact ⟨w,[],rfl,e,rfl⟩
 | d::ds,ws,d',w',z,e=>by
   simp only [Rds] at z
   obtain ⟨w,r,rfl,a,b⟩:=z
   simp only [List.cons_append,Rds]
   exact ⟨w,r ++ [w'],rfl,a,b.snoc e⟩
theorem Rds.ints {h:Hs} {A:Nat->Prop}:∀ {ns:List Int} {ws:List W},Rds h A (ns.map D.int) ws ↔ ws=ns.map W.int
 | [],ws=>by simp only [List.map_nil,Rds]
 | n::ns,ws=>by
   simp only [List.map_cons,Rds,Rd]
   constructor
   · rintro ⟨w,r,rfl,rfl,b⟩;rw [Rds.ints.mp b]
   · rintro rfl;exact ⟨_,_,rfl,rfl,Rds.ints.mpr rfl⟩
abbrev Dis (ns:List Int):D:=.lst (ns.map D.int)
theorem Cg {h:Hs} {A:Nat->Prop} {ns:List Int} {w:W}:Rd h A (Dis ns) w ↔ ∃ p,w= .ref p/\p < h.n/\A p/\h.get p=some (.lst (ns.map W.int)):=by
 simp only [Dis,Rd,Rds.ints]
 constructor
 · rintro ⟨p,ws,e,l,a,g,rfl⟩;exact ⟨p,e,l,a,g⟩
 · rintro ⟨p,e,l,a,g⟩;exact ⟨p,_,e,l,a,g,rfl⟩
mutual
def eX:D->Nat
 | .lst ds | .tup ds=>iw ds + 1
 | _=>1
def iw:List D->Nat
 | []=>0
 | d::ds=>max (eX d) (iw ds)
end
noncomputable section
mutual
def okD:D->Bool
 | .str c=>okC c
 | .lst ds | .tup ds=>jr ds
 | _=>true
def jr:List D->Bool
 | []=>true
 | d::ds=>okD d && jr ds
end
end
mutual
theorem GX {h:Hs} {A:Nat->Prop}:∀ (d:D) (w:W) (k:Nat),Rd h A d w->eX d <= k->okD d=true->toD h k w=some d
 | .non,w,0,z,l,_ | .bl _,w,0,z,l,_ | .int _,w,0,z,l,_ | .str _,w,0,z,l,_=>by simp [eX] at l
 | .lst _,w,0,z,l,_ | .tup _,w,0,z,l,_=>by simp [eX] at l
 | .non,w,k + 1,z,_,_=>by simp only [Rd] at z;subst z;rfl
 | .bl _,w,k + 1,z,_,_=>by simp only [Rd] at z;subst z;rfl
 | .int _,w,k + 1,z,_,_=>by simp only [Rd] at z;subst z;rfl
 | .str c,w,k + 1,z,_,o=>by
   simp only [Rd] at z;subst z
   have o:okC c=true:=by simpa [okD] using o
   show ifB (okC c) (some (D.str c)) none=_
   rw [o];rfl
 | .lst ds,w,k + 1,z,l,o=>by
   simp only [Rd] at z
   obtain ⟨p,ws,rfl,_,_,g,r⟩:=z
   have e:=uQ ds ws k r (by simpa [eX] using l) (by simpa [okD] using o)
   show Option.rec (motive:=fun _=>Option D) none (fun o=>O.rec (motive:=fun _=>Option D) (fun xs=>Option.rec (motive:=fun _=>Option D) none (fun ds=>some (D.tup ds)) (gh (toD h k) xs)) (fun xs=>Option.rec (motive:=fun _=>Option D) none (fun ds=>some (D.lst ds)) (gh (toD h k) xs)) (fun _ _=>none) (fun _=>none) (fun _=>none) o) (h.get p)=_
   rw [g]
   show Option.rec (motive:=fun _=>Option D) none (fun ds=>some (D.lst ds)) (gh (toD h k) ws)=_
   rw [e]
 | .tup ds,w,k + 1,z,l,o=>by
   simp only [Rd] at z
   obtain ⟨p,ws,rfl,_,_,g,r⟩:=z
   have e:=uQ ds ws k r (by simpa [eX] using l) (by simpa [okD] using o)
   show Option.rec (motive:=fun _=>Option D) none (fun o=>O.rec (motive:=fun _=>Option D) (fun xs=>Option.rec (motive:=fun _=>Option D) none (fun ds=>some (D.tup ds)) (gh (toD h k) xs)) (fun xs=>Option.rec (motive:=fun _=>Option D) none (fun ds=>some (D.lst ds)) (gh (toD h k) xs)) (fun _ _=>none) (fun _=>none) (fun _=>none) o) (h.get p)=_
   rw [g]
   show Option.rec (motive:=fun _=>Option D) none (fun ds=>some (D.tup ds)) (gh (toD h k) ws)=_
   rw [e]
theorem uQ {h:Hs} {A:Nat->Prop}:∀ (ds:List D) (ws:List W) (k:Nat),Rds h A ds ws->iw ds <= k->jr ds=true->gh (toD h k) ws=some ds
 | [],ws,k,z,_,_=>by simp only [Rds] at z;subst z;rfl
 | d::ds,ws,k,z,l,o=>by
   simp only [Rds] at z
   obtain ⟨w,r,rfl,a,b⟩:=z
   simp only [iw,jr,Bool.and_eq_true] at l o
   have e1:=GX d w k a (by omega) o.1
   have e2:=uQ ds r k b (by omega) o.2
   show Option.rec (motive:=fun _=>Option (List D)) none (fun d=>Option.rec (motive:=fun _=>Option (List D)) none (fun ds=>some (d::ds)) (gh (toD h k) r)) (toD h k w)=_
   rw [e1]
   show Option.rec (motive:=fun _=>Option (List D)) none (fun ds=>some (d::ds)) (gh (toD h k) r)=_
   rw [e2]
end
mutual
theorem vz:∀ d:D,cg d d=true
 | .non=>by simp [cg]
 | .bl b=>by simp [cg]
 | .int i=>by simp [cg,cT]
 | .str c=>by simp [cg,eU.mpr]
 | .lst ds=>by simp [cg,p_ ds]
 | .tup ds=>by simp [cg,p_ ds]
theorem p_:∀ ds:List D,eN ds ds=true
 | []=>by simp [eN]
 | d::ds=>by simp [eN,vz d,p_ ds]
end
mutual
theorem tM:∀ d:D,dF d d=true
 | .non=>by simp [dF]
 | .bl b=>by simp [dF]
 | .int i=>by simp [dF,cT]
 | .str c=>by simp [dF,eU.mpr]
 | .lst ds=>by simp [dF,mH ds]
 | .tup ds=>by simp [dF,mH ds]
theorem mH:∀ ds:List D,iG ds ds=true
 | []=>by simp [iG]
 | d::ds=>by simp [iG,tM d,mH ds]
end
end Ev
set_option maxRecDepth 100000
set_option maxHeartbeats 4000000
namespace Ev
section
variable {K:Ks} {n:Nat} {τ:Sg} {h:Hs}
def Its (v:Iv) (ws:List W) (h:Hs):Prop:=(∃ p,v= .lst p/\h.get p=some (.lst ws))\/(∃ p,v= .tup p/\h.get p=some (.tup ws))\/(∃ lo:Int,v= .rng lo ws.length/\∀ i,i < ws.length->ws[i]? =some (.int (lo + Int.ofNat i)))
theorem Its.next {v:Iv} {ws:List W} {β:Type} {i:Nat} {fin:R β} {go:W->Hs->R β} (x:Its v ws h):v.next i h fin go=Option.rec fin (fun w=>go w h) (ws[i]?):=by
 rcases x with ⟨p,rfl,g⟩ | ⟨p,rfl,g⟩ | ⟨lo,rfl,g⟩
 · show Opt (h.get p) (fun o=>o.onS fun xs=>Option.rec fin (fun w=>go w h) (nth xs i))=_
   rw [g,<- iH];rfl
 · show Opt (h.get p) (fun o=>o.onT fun xs=>Option.rec fin (fun w=>go w h) (nth xs i))=_
   rw [g,<- iH];rfl
 · show Bool.rec (motive:=fun _=>R β) fin (go (.int (lo + .ofNat i)) h) (Nat.ble (i + 1) ws.length)=_
   by_cases l:i < ws.length
   · rw [g i l,ble_eq,decide_eq_true (show i + 1 <= ws.length from l)]
   · rw [List.getElem?_eq_none (by omega),ble_eq,decide_eq_false (show ¬ i + 1 <= ws.length from by omega)]
def lpQ (I:Sg->Hs->Prop) (Q:Fl->Hs->Prop) (f:Fl) (h:Hs):Prop:=Fl.rec (fun τ=>I τ h) (fun w=>Q (.rt w) h) (fun τ=>Q (.nx τ) h) (fun τ=>I τ h) f
theorem Ec {v:Iv} {t:Tg} {b:List S} {ws:List W} {Q:Fl->Hs->Prop} (I:Nat->Sg->Hs->Prop) (its:∀ i τ h,I i τ h->Its v ws h)
 (turn:∀ i w τ h m,ws[i]? =some w->n <= m + ws.length->I i τ h->∃ τ1,aM h 9 t w τ=some τ1/\wS b K m τ1 h (lpQ (I (i + 1)) Q)) (fin:∀ τ h,I ws.length τ h->Q (.nx τ) h):
 ∀ (k i m:Nat) (τ:Sg) (h:Hs),i + k=ws.length->k < m->n + i <= m + ws.length + i->n <= m + i->I i τ h->okQ (pL v t b K m i τ h) (aF Q)
 | k,i,0,τ,h,e,l,_,_,x=>absurd l (by omega)
 | k,i,m + 1,τ,h,e,l,l1,l2,x=>by
   have u:pL v t b K (m + 1) i τ h=v.next i h (.ok (.fl (.nx τ)) h) fun w h=>Opt (aM h 9 t w τ) fun τ=>(gm b K m τ h).bind fun r h=>r.toF fun f=>qz h f fun τ=>pL v t b K m (i + 1) τ h:=rfl
   rw [u,(its i τ h x).next]
   cases k with
   | zero=>
     rw [List.getElem?_eq_none (by omega)]
     rw [Nat.add_zero] at e;subst e
     exact fin τ h x
   | succ k=>
     have li:i < ws.length:=by omega
     rw [List.getElem?_eq_getElem li]
     obtain ⟨τ1,e1,y⟩:=turn i ws[i] τ h m (List.getElem?_eq_getElem li) (by omega) x
     show okQ (Opt (aM h 9 t ws[i] τ) fun τ=>(gm b K m τ h).bind fun r h=>r.toF fun f=>qz h f fun τ=>pL v t b K m (i + 1) τ h) (aF Q)
     rw [e1]
     show okQ ((gm b K m τ1 h).bind fun r h=>r.toF fun f=>qz h f fun τ=>pL v t b K m (i + 1) τ h) (aF Q)
     obtain ⟨f,h',z,q⟩:=Rw y
     rw [z]
     cases f with
     | nx τ2=>exact Ec I its turn fin k (i + 1) m τ2 h' (by omega) (by omega) (by omega) (by omega) q
     | ct τ2=>exact Ec I its turn fin k (i + 1) m τ2 h' (by omega) (by omega) (by omega) (by omega) q
     | rt w=>exact q
     | bk τ2=>exact q
theorem qe {i:I} {t:Tg} {b:List S} {Q:Fl->Hs->Prop} (x:wI i K n τ h fun v h1=>∃ (ws:List W) (J:Nat->Sg->Hs->Prop),(∀ i τ h,J i τ h->Its v ws h)/\ws.length < n/\J 0 τ h1/\
 (∀ i w τ h m,ws[i]? =some w->n <= m + ws.length->J i τ h->∃ τ1,aM h 9 t w τ=some τ1/\wS b K m τ1 h (lpQ (J (i + 1)) Q))/\∀ τ h,J ws.length τ h->Q (.nx τ) h):w1 (.for_ i t b) K n τ h Q:=by
 show okQ ((i.f K n τ h).bind fun r h=>r.toV fun v=>pL v t b K n 0 τ h) (aF Q)
 unfold wI at x
 generalize i.f K n τ h=r at x
 cases r with
 | ok a h1=>cases a with
   | iv v=>
     obtain ⟨ws,J,its,l,s,turn,fin⟩:=x
     exact Ec J its turn fin ws.length 0 n τ h1 (by omega) l (by omega) (by omega) s
   | _=>exact x.elim
 | _=>exact x.elim
theorem Lr {D:Nat} {w:W} {acc:List W} {k:Hs->R A} (g:h.get D=some (.lst acc)) (l:acc.length <= 16777215):emit h D w k=k (h.set D (.lst (acc ++ [w]))):=by
 show R.bind (Opt (h.get D) fun o=>o.onL fun xs=>size xs (.ok W.non (h.set D (.lst (app xs [w]))))) (fun _ h=>k h)=_
 rw [g]
 show R.bind (ifB (Nat.ble (len acc) 16777215) (.ok W.non (h.set D (.lst (app acc [w])))) .no) (fun _ h=>k h)=_
 rw [len_eq,ble_eq,decide_eq_true l,jN];rfl
def J6 (c:Option X) (e:X) (K:Ks) (m:Nat) (τ:Sg) (h:Hs) (no:Hs->Prop) (yes:W->Hs->Prop):Prop:=Option.rec (wX e K m τ h yes) (fun c=>wX c K m τ h fun w h=>bW w (wX e K m τ h yes) (no h)) c
theorem wz {v:Iv} {t:Tg} {c:Option X} {e:X} {D:Nat} {ws:List W} {Q:A->Hs->Prop} (b:Nat) (J:Nat->List W->Hs->Prop) (its:∀ i acc h,J i acc h->Its v ws h/\h.get D=some (.lst acc)/\acc.length <= b + i) (lw:b + ws.length <= 16777215)
 (turn:∀ i w acc h m,ws[i]? =some w->n <= m + ws.length->J i acc h->∃ τ1,aM h 9 t w τ=some τ1/\J6 c e K m τ1 h (fun h=>J (i + 1) acc h) (fun w h=>h.get D=some (.lst acc)/\J (i + 1) (acc ++ [w]) (h.set D (.lst (acc ++ [w]))))) (fin:∀ acc h,J ws.length acc h->Q .u h):
 ∀ (k i m:Nat) (acc:List W) (h:Hs),i + k=ws.length->k < m->n <= m + i->J i acc h->okQ (bY v t c none e D K m i τ h) Q
 | k,i,0,acc,h,_,l,_,_=>absurd l (by omega)
 | k,i,m + 1,acc,h,ek,l,l2,x=>by
   have u:bY v t c none e D K (m + 1) i τ h=v.next i h (.ok .u h) fun w h=>Opt (aM h 9 t w τ) fun τ1=>test K m τ1 h c (fun h=>bY v t c none e D K m (i + 1) τ h) (fun h=>inner K m τ1 h e D none fun h=>bY v t c none e D K m (i + 1) τ h):=rfl
   obtain ⟨it,gD,la⟩:=its i acc h x
   rw [u,it.next]
   cases k with
   | zero=>
     rw [List.getElem?_eq_none (by omega)]
     rw [Nat.add_zero] at ek;subst ek
     exact fin acc h x
   | succ k=>
     have li:i < ws.length:=by omega
     rw [List.getElem?_eq_getElem li]
     obtain ⟨τ1,e1,y⟩:=turn i ws[i] acc h m (List.getElem?_eq_getElem li) (by omega) x
     show okQ (Opt (aM h 9 t ws[i] τ) fun τ1=>test K m τ1 h c (fun h=>bY v t c none e D K m (i + 1) τ h) (fun h=>inner K m τ1 h e D none fun h=>bY v t c none e D K m (i + 1) τ h)) Q
     rw [e1]
     have yes:∀ h2,wX e K m τ1 h2 (fun w h=>h.get D=some (.lst acc)/\J (i + 1) (acc ++ [w]) (h.set D (.lst (acc ++ [w]))))->okQ (inner K m τ1 h2 e D none fun h=>bY v t c none e D K m (i + 1) τ h) Q:=fun h2 z=>by
      obtain ⟨w,h3,ez,g3,j3⟩:=jB z
      show okQ ((e.f K m τ1 h2).bind fun r h=>r.toW fun w=>emit h D w fun h=>bY v t c none e D K m (i + 1) τ h) Q
      rw [ez]
      show okQ (emit h3 D w fun h=>bY v t c none e D K m (i + 1) τ h) Q
      rw [Lr g3 (by omega)]
      exact wz b J its lw turn fin k (i + 1) m (acc ++ [w]) _ (by omega) (by omega) (by omega) j3
     cases c with
     | none=>exact yes h y
     | some c=>
       obtain ⟨w,h2,ez,q⟩:=jB (show wX c K m τ1 h _ from y)
       show okQ ((c.f K m τ1 h).bind fun r h=>r.toW fun w=>w.onB (bY v t (some c) none e D K m (i + 1) τ h) (inner K m τ1 h e D none fun h=>bY v t (some c) none e D K m (i + 1) τ h)) Q
       rw [ez]
       cases w with
       | bl bb=>cases bb with
         | false=>exact wz b J its lw turn fin k (i + 1) m acc h2 (by omega) (by omega) (by omega) q
         | true=>exact yes h2 q
       | _=>exact q.elim
theorem Ci {nt:Nat} {idx:List Nat} {it:I} {t:Tg} {c:Option X} {e:X} {Q:W->Hs->Prop} (x:wI it K n τ h fun v h1=>∃ (ws:List W) (J:Nat->List W->Hs->Prop),(∀ i acc h,J i acc h->Its v ws h/\h.get h1.n=some (.lst acc)/\acc.length <= i)/\ws.length <= 16777215/\ws.length < n/\J 0 [] (h1.push (.lst []))/\
 (∀ i w acc h m,ws[i]? =some w->n <= m + ws.length->J i acc h->∃ τ1,aM h 9 t w (dM nt idx τ)=some τ1/\J6 c e K m τ1 h (fun h=>J (i + 1) acc h) (fun w h=>h.get h1.n=some (.lst acc)/\J (i + 1) (acc ++ [w]) (h.set h1.n (.lst (acc ++ [w])))))/\∀ acc h,J ws.length acc h->Q (.ref h1.n) h):wX (.comp nt idx it t c none e) K n τ h Q:=by
 show okQ ((it.f K n τ h).bind fun r h=>r.toV fun v=>(bY v t c none e h.n K n 0 (dM nt idx τ) (h.push (.lst []))).nox.bind fun _ h'=>.ok (.w (.ref h.n)) h') (aW Q)
 unfold wI at x
 generalize it.f K n τ h=r at x
 cases r with
 | ok a h1=>cases a with
   | iv v=>
     obtain ⟨ws,J,its,lw,l,s,turn,fin⟩:=x
     have z:=wz (Q:=fun a h=>a= .u/\Q (.ref h1.n) h) 0 J (fun i acc h j=>by rw [Nat.zero_add];exact its i acc h j) (by rw [Nat.zero_add];exact lw) turn (fun acc h j=>⟨rfl,fin acc h j⟩) ws.length 0 n [] (h1.push (.lst [])) (by omega) l (by omega) s
     show okQ ((bY v t c none e h1.n K n 0 (dM nt idx τ) (h1.push (.lst []))).nox.bind fun _ h'=>.ok (.w (.ref h1.n)) h') (aW Q)
     generalize bY v t c none e h1.n K n 0 (dM nt idx τ) (h1.push (.lst []))=r at z
     cases r with
     | ok a h'=>exact z.2
     | _=>exact z.elim
   | _=>exact x.elim
 | _=>exact x.elim
theorem comp_map {nt:Nat} {idx:List Nat} {it:I} {t:Tg} {e:X} {Q:W->Hs->Prop} (x:wI it K n τ h fun v h1=>Ext h h1/\∃ (ws:List W) (ds:List D) (B:Nat->Prop),(∀ h2,Ext h1 h2->Its v ws h2)/\(∀ p,B p->p < h1.n)/\ws.length=ds.length/\ws.length <= 16777215/\ws.length < n/\
 (∀ (i:Nat) w d h2 m,ws[i]? =some w->ds[i]? =some d->n <= m + ws.length->Ext h1 h2->h1.n < h2.n->∃ τ1,aM h2 9 t w (dM nt idx τ)=some τ1/\wX e K m τ1 h2 (fun w h3=>Ext h2 h3/\Rd h3 (fun p=>B p\/h2.n <= p) d w))/\
 ∀ h3,Ext h1 h3->Rd h3 (fun p=>B p\/h1.n <= p) (.lst ds) (.ref h1.n)->Q (.ref h1.n) h3):wX (.comp nt idx it t none none e) K n τ h Q:=by
 refine Ci ?_
 refine jo x fun a h1 z=>?_
 cases a with
 | iv v=>
   obtain ⟨x1,ws,ds,B,its,hB,le,l1,l2,turn,fin⟩:=z
   refine ⟨ws,fun i acc h2=>Ext h1 h2/\h1.n < h2.n/\h2.get h1.n=some (.lst acc)/\acc.length=i/\Rds h2 (fun p=>p ≠ h1.n/\(B p\/h1.n <= p)) (ds.take i) acc,fun i acc h2 j=>⟨its h2 j.1,j.2.2.1,by omega⟩,l1,l2,⟨.push,aP,aB,rfl,by simp [Rds]⟩,?_,?_⟩
   · rintro i w acc h2 m ei lm ⟨j1,j2,j3,j4,j5⟩
     have li:i < ws.length:=(List.getElem?_eq_some_iff.mp ei).1
     have ed:ds[i]? =some (ds[i]'(by omega)):=List.getElem?_eq_getElem (by omega)
     obtain ⟨τ1,eb,y⟩:=turn i w _ h2 m ei ed lm j1 j2
     refine ⟨τ1,eb,?_⟩
     refine jq y fun w' h3 ⟨y1,y2⟩=>?_
     have g3:h3.get h1.n=some (.lst acc):=y1.get j2 j3
     refine ⟨g3,(j1.trans y1).set (Nat.le_refl _),by rw [Hs.gH];exact Nat.lt_of_lt_of_le j2 y1.1,by rw [Hs.get_set,if_pos rfl],by simp [j4],?_⟩
     rw [List.take_add_one,ed]
     have z1:Rds h3 (fun p=>p ≠ h1.n/\(B p\/h1.n <= p)) (ds.take i ++ (some (ds[i]'(by omega))).toList) (acc ++ [w']):=(j5.ext y1).snoc (y2.imp fun p _ q=>by
      rcases q with q | q
      · have:=hB p q;exact ⟨by omega,.inl q⟩
      · exact ⟨by omega,.inr (by omega)⟩)
     exact Rds.to (by rw [Hs.gH];exact Nat.le_refl _) (fun k _ a=>⟨by rw [Hs.get_set,if_neg a.1],a⟩) _ _ z1
   · rintro acc h2 ⟨j1,j2,j3,j4,j5⟩
     refine fin h2 j1 ?_
     rw [le,List.take_length] at j5
     simp only [Rd]
     exact ⟨_,acc,rfl,j2,.inr (Nat.le_refl _),j3,j5.imp fun p _ q=>q.2⟩
 | _=>exact z.elim
theorem mJ {nt:Nat} {idx:List Nat} {it:I} {t:Tg} {c e:X} {Q:W->Hs->Prop} (x:wI it K n τ h fun v h1=>Ext h h1/\∃ (ws:List W) (P:W->Bool),(∀ h2,Ext h1 h2->Its v ws h2)/\ws.length <= 16777215/\ws.length < n/\
 (∀ (i:Nat) w h2 m,ws[i]? =some w->n <= m + ws.length->Ext h1 h2->h1.n < h2.n->∃ τ1,aM h2 9 t w (dM nt idx τ)=some τ1/\wX c K m τ1 h2 (fun u h3=>u= .bl (P w)/\Ext h2 h3/\(P w=true->wX e K m τ1 h3 fun w' h4=>w'=w/\Ext h3 h4)))/\
 ∀ h3,Ext h1 h3->h1.n < h3.n->h3.get h1.n=some (.lst (ws.filter P))->Q (.ref h1.n) h3):wX (.comp nt idx it t (some c) none e) K n τ h Q:=by
 refine Ci ?_
 refine jo x fun a h1 z=>?_
 cases a with
 | iv v=>
   obtain ⟨x1,ws,P,its,l1,l2,turn,fin⟩:=z
   refine ⟨ws,fun i acc h2=>Ext h1 h2/\h1.n < h2.n/\h2.get h1.n=some (.lst acc)/\acc=(ws.take i).filter P,fun i acc h2 j=>⟨its h2 j.1,j.2.2.1,by rw [j.2.2.2];exact Nat.le_trans (List.length_filter_le _ _) (by rw [List.length_take];omega)⟩,l1,l2,⟨.push,aP,aB,by simp⟩,?_,?_⟩
   · rintro i w acc h2 m ei lm ⟨j1,j2,j3,j4⟩
     obtain ⟨τ1,eb,y⟩:=turn i w h2 m ei lm j1 j2
     refine ⟨τ1,eb,?_⟩
     refine jq y fun u h3 ⟨y0,y1,y2⟩=>?_
     subst y0
     have tk:(ws.take (i + 1)).filter P=(ws.take i).filter P ++ if P w then [w] else []:=by
      rw [List.take_add_one,ei,List.filter_append]
      simp only [Option.toList,List.filter_cons,List.filter_nil]
     cases hp:P w with
     | false=>exact ⟨j1.trans y1,Nat.lt_of_lt_of_le j2 y1.1,y1.get j2 j3,by rw [tk,hp,j4];simp⟩
     | true=>
       refine jq (y2 hp) fun w' h4 ⟨e4,x4⟩=>?_
       subst e4
       have x24:=y1.trans x4
       refine ⟨x24.get j2 j3,(j1.trans x24).set (Nat.le_refl _),by rw [Hs.gH];exact Nat.lt_of_lt_of_le j2 x24.1,by rw [Hs.get_set,if_pos rfl],by rw [tk,hp,j4];simp⟩
   · rintro acc h2 ⟨j1,j2,j3,j4⟩
     exact fin h2 j1 j2 (by rw [j3,j4,List.take_length])
 | _=>exact z.elim
end
end Ev
set_option maxRecDepth 100000
set_option maxHeartbeats 4000000
namespace Ev
open PySem PySem.Spec PySem.SeqAt PyProof.Rows L2
noncomputable section
end
section
variable {X:Cx}
variable {Pg:List Fn} {cl:Cn} {E:XK} {d:Nat} {σ:L2.St} {H:Hp}
end
end Ev
set_option maxRecDepth 100000
set_option maxHeartbeats 4000000
namespace Ev
section
variable {K:Ks} {n:Nat} {τ:Sg} {h:Hs} {Q:W->Hs->Prop} {i j:Int} {p q:Nat} {xs ys:List W} {ns:List Int} {A B:Nat->Prop} {d d':D} {w w':W}
theorem p_add (z:Q (.int (i + j)) h):wP .add [.int i,.int j] h Q:=by show Q (.int (xO i j)) h;rw [Bk];exact z
theorem Rz (z:Q (.int (i - j)) h):wP .sub [.int i,.int j] h Q:=by show Q (.int (Ds i j)) h;rw [Bl];exact z
theorem RB (z:Q (.int (-i)) h):wP .neg [.int i] h Q:=z
theorem bx {β:Type} {b:Bool} {t f:β} (e:b=true):ifB b t f=t:=by subst e;rfl
theorem RC (a:0 < j) (z:Q (.int (i % j)) h):wP .mod [.int i,.int j] h Q:=by
 show okQ (ifB (ilt 0 j) (.ok (.int (fmod i j)) h) .no) Q
 rw [bx (by rw [bA];exact decide_eq_true a),fmod_eq];exact z
theorem T7 (z:Q (.bl (decide (i < j))) h):wP .lt [.int i,.int j] h Q:=by show Q (.bl (ilt i j)) h;rw [bA];exact z
theorem T8 (z:Q (.bl (decide (j < i))) h):wP .gt [.int i,.int j] h Q:=by show Q (.bl (ilt j i)) h;rw [bA];exact z
theorem RG (z:Q (.bl (decide (i=j))) h):wP .eq [.int i,.int j] h Q:=by
 show Q (.bl (cg (.int i) (.int j))) h
 rw [show cg (.int i) (.int j)=decide (i=j) by simp [cg,cT]];exact z
theorem RJ (z:Q (.bl (!decide (i=j))) h):wP .ne [.int i,.int j] h Q:=by
 show Q (.bl (!cg (.int i) (.int j))) h
 rw [show cg (.int i) (.int j)=decide (i=j) by simp [cg,cT]];exact z
theorem wB {f:D->R W} (a:Rd h A d w) (l:eX d <= 12:=by decide) (o:okD d=true:=by rfl):wD h w f=f d:=by
 show Opt (toD h 12 w) f=_
 rw [GX d w 12 a l o];rfl
theorem wF (a:Rd h A d w) (b:Rd h B d' w') (l:eX d <= 12) (l':eX d' <= 12) (o:okD d=true) (o':okD d'=true) (z:Q (.bl (!cg d d')) h):wP .ne [w,w'] h Q:=by
 show okQ (wD h w fun x=>wD h w' fun y=>.yes (not (cg x y)) h) Q
 rw [wB a l o,wB b l' o'];exact z
theorem PL (a:Rd h A d w) (b:Rd h B d' w') (l:eX d <= 12) (l':eX d' <= 12) (o:okD d=true) (o':okD d'=true) (z:Q (.bl (dF d d')) h):wP .same [w,w'] h Q:=by
 show okQ (wD h w fun x=>wD h w' fun y=>.yes (dF x y) h) Q
 rw [wB a l o,wB b l' o'];exact z
theorem dG {β:Type} {f:Nat->O->R β} {o:O} (e:h.get p=some o):h.at (.ref p) f=f p o:=by
 show Opt (h.get p) (f p)=_
 rw [e];rfl
theorem wG (e:h.get p=some (.lst xs)) (z:Q (.int xs.length) h):wP .len [.ref p] h Q:=by
 show okQ (h.at (.ref p) fun _ o=>o.items fun xs=>.ok (.int (.ofNat (len xs))) h) Q
 rw [dG e,show len=List.length from funext fun _=>len_eq _] at *;exact z
theorem Jt (e:h.get p=some (.lst xs)) (e2:xs[q]? =some w) (z:Q w h):wP .ix [.ref p,.int (Int.ofNat q)] h Q:=by
 show okQ (h.at (.ref p) fun _ o=>o.items fun xs=>Opt (nth xs q) fun w=>.ok w h) Q
 rw [dG e]
 show okQ (Opt (nth xs q) fun w=>.ok w h) Q
 rw [iH,e2];exact z
theorem Ed (e:h.get p=some (.lst xs)) (l:0 <= i) (e2:xs[i.toNat]? =some w) (z:Q w h):wP .ix [.ref p,.int i] h Q:=by
 rw [show i=Int.ofNat i.toNat by show i=((i.toNat:Nat):Int);omega];exact Jt e e2 z
theorem RK (l:xs.length <= 16777215) (z:Q (.ref h.n) (h.push (.lst xs))):wP .lst xs h Q:=by
 show okQ (ifB (Nat.ble (len xs) 16777215) (.alloc h (.lst xs)) .no) Q
 rw [len_eq,ble_eq,bx (decide_eq_true l)];exact z
theorem RL (l:xs.length <= 16777215) (z:Q (.ref h.n) (h.push (.tup xs))):wP .tup xs h Q:=by
 show okQ (ifB (Nat.ble (len xs) 16777215) (.alloc h (.tup xs)) .no) Q
 rw [len_eq,ble_eq,bx (decide_eq_true l)];exact z
theorem wH (e:h.get p=some (.lst xs)) (e2:h.get q=some (.lst ys)) (l:xs.length + ys.length <= 16777215) (z:Q (.ref h.n) (h.push (.lst (xs ++ ys)))):wP .add [.ref p,.ref q] h Q:=by
 show okQ (h.at (.ref p) fun _ x=>h.at (.ref q) fun _ y=>O.casesOn x (fun _=>.no) (fun xs=>y.onL fun ys=>size (app xs ys) (.alloc h (.lst (app xs ys)))) (fun _ _=>.no) (fun _=>.no) (fun _=>.no)) Q
 rw [dG e,dG e2]
 show okQ (ifB (Nat.ble (len (app xs ys)) 16777215) (.alloc h (.lst (app xs ys))) .no) Q
 rw [len_eq,jN,ble_eq,bx (decide_eq_true (by rw [List.length_append];exact l))];exact z
theorem mj:∀ ns:List Int,gG (ns.map W.int)=some ns
 | []=>rfl
 | n::ns=>by
   show Option.rec (motive:=fun _=>Option (List Int)) none (fun r=>some (n::r)) (gG (ns.map W.int))=_
   rw [mj ns]
theorem PX {b:Bool} (z:Q (.bl (!b)) h):wP .pJ [.bl b] h Q:=by cases b <;> exact z
theorem Ju {b:Bool} (z:Q (.bl b) h):wP .truth [.bl b] h Q:=z
theorem rK {a e:X} (x:wX a K n τ h fun w h1=>∃ p xs,w= .ref p/\h1.get p=some (.lst xs)/\wX e K n τ h1 fun u h2=>∃ ys,h2.get p=some (.lst ys)/\ys.length <= 16777215/\Q .non (h2.set p (.lst (ys ++ [u])))):wX (.lm .append a [e]) K n τ h Q:=by
 show okQ ((a.f K n τ h).bind fun r h=>r.toW fun w=>h.at w fun _ o=>o.onL fun _=>(goA [e] K n τ h).bind fun r h=>r.toL fun ws=>ofW (eO .append (w::ws) h)) (aW Q)
 obtain ⟨w,h1,ea,p,xs,rfl,g,y⟩:=jB x
 rw [ea]
 show okQ (h1.at (.ref p) fun _ o=>o.onL fun _=>(goA [e] K n τ h1).bind fun r h=>r.toL fun ws=>ofW (eO .append (.ref p::ws) h)) (aW Q)
 rw [dG g]
 show okQ ((goA [e] K n τ h1).bind fun r h=>r.toL fun ws=>ofW (eO .append (.ref p::ws) h)) (aW Q)
 obtain ⟨u,h2,eb,ys,g2,l2,q⟩:=jB y
 have:goA [e] K n τ h1= .ok (.ws [u]) h2:=by
  show R.rec (motive:=fun _=>R Ev.A) (fun r h=>A.rec (motive:=fun _=>R Ev.A) (fun w=>R.rec (motive:=fun _=>R Ev.A) (fun r h=>A.rec (motive:=fun _=>R Ev.A) (fun _=>.no) (fun ws=>.ok (.ws (w::ws)) h) (fun _=>.no) (fun _=>.no) .no r) (fun C fs h=>.ex C fs h) .no (goA [] K n τ h)) (fun _=>.no) (fun _=>.no) (fun _=>.no) .no r) (fun C fs h=>.ex C fs h) .no (e.f K n τ h1)=_
  rw [eb];rfl
 rw [this]
 show okQ (ofW (h2.at (.ref p) fun n o=>o.onL fun xs=>ifB (Nat.ble (len xs) 16777215) (.ok W.non (h2.set n (.lst (app xs [u])))) .no)) (aW Q)
 rw [dG g2]
 show okQ (ofW (ifB (Nat.ble (len ys) 16777215) (.ok W.non (h2.set p (.lst (app ys [u])))) .no)) (aW Q)
 rw [len_eq,ble_eq,bx (decide_eq_true l2),jN];exact q
theorem fB {e:X} {Q:Iv->Hs->Prop} (x:wX e K n τ h fun w h1=>∃ p ws,w= .ref p/\((h1.get p=some (.lst ws)/\Q (.lst p) h1)\/(h1.get p=some (.tup ws)/\Q (.tup p) h1))):wI (.seq e) K n τ h Q:=by
 show okQ ((e.f K n τ h).bind fun r h=>r.toW fun w=>h.at w fun n o=>O.casesOn o (fun _=>.ok (.iv (.tup n)) h) (fun _=>.ok (.iv (.lst n)) h) (fun _ _=>.no) (fun _=>.no) (fun _=>.no)) (aV Q)
 obtain ⟨w,h1,ea,p,ws,rfl,g⟩:=jB x
 rw [ea]
 show okQ (h1.at (.ref p) fun n o=>O.casesOn o (fun _=>.ok (.iv (.tup n)) h1) (fun _=>.ok (.iv (.lst n)) h1) (fun _ _=>.no) (fun _=>.no) (fun _=>.no)) (aV Q)
 rcases g with ⟨g,q⟩ | ⟨g,q⟩ <;> rw [dG g] <;> exact q
theorem qg {k:R Ev.A} (a:j < 1000000000) (b: -1000000000 < j):within j k=k:=by
 show ifB (ilt j 1000000000) (ifB (ilt (-1000000000) j) k .no) .no=_
 rw [bA,bA,bx (decide_eq_true a),bx (decide_eq_true b)]
theorem GZ {e:X} {Q:Iv->Hs->Prop} (x:wX e K n τ h fun w h1=>∃ j:Int,w= .int j/\j < 1000000000/\-1000000000 < j/\Q (.rng 0 j.toNat) h1):wI (.uD [e]) K n τ h Q:=by
 show okQ ((goA [e] K n τ h).bind fun r h=>r.toL fun ws=>Du ws fun w=>w.onI fun j=>within j (.ok (.iv (.rng 0 j.toNat)) h)) (aV Q)
 obtain ⟨w,h1,ea,j,rfl,l1,l2,q⟩:=jB x
 have:goA [e] K n τ h= .ok (.ws [.int j]) h1:=by
  show R.rec (motive:=fun _=>R Ev.A) (fun r h=>A.rec (motive:=fun _=>R Ev.A) (fun w=>R.rec (motive:=fun _=>R Ev.A) (fun r h=>A.rec (motive:=fun _=>R Ev.A) (fun _=>.no) (fun ws=>.ok (.ws (w::ws)) h) (fun _=>.no) (fun _=>.no) .no r) (fun C fs h=>.ex C fs h) .no (goA [] K n τ h)) (fun _=>.no) (fun _=>.no) (fun _=>.no) .no r) (fun C fs h=>.ex C fs h) .no (e.f K n τ h)=_
  rw [ea];rfl
 rw [this]
 show okQ (within j (.ok (.iv (.rng 0 j.toNat)) h1)) (aV Q)
 rw [qg l1 l2];exact q
def mK (lo:Int) (m:Nat):List W:=(List.range m).map fun k=>.int (lo + Int.ofNat k)
theorem fC {lo:Int} {m:Nat}:(mK lo m).length=m:=by simp [mK]
theorem yG {lo:Int} {m k:Nat} (l:k < m):(mK lo m)[k]? =some (.int (lo + Int.ofNat k)):=by simp [mK,l]
theorem uR {lo:Int} {m:Nat} {h:Hs}:Its (.rng lo m) (mK lo m) h:=.inr (.inr ⟨lo,by rw [fC],fun i l=>yG (by rw [fC] at l;exact l)⟩)
theorem iV {h1 h2:Hs} (e:h1.get p=some (.lst xs)) (l:p < h1.n) (x:Ext h1 h2):Its (.lst p) xs h2:=.inl ⟨p,rfl,x.get l e⟩
end
end Ev
set_option maxRecDepth 100000
set_option maxHeartbeats 4000000
namespace Ev
section
variable {K:Ks} {n:Nat} {τ:Sg} {h:Hs} {ss:List S}
theorem RM {i:Nat} {w:W} {Q:W->Hs->Prop} (e:aN τ i=some w) (q:Q w h):wX (.var i) K n τ h Q:=(Pq e).mpr q
theorem P0 {A:Nat->Prop} {i:Int}:Rd h A (.int i) (.int i):=by simp only [Rd]
theorem Ls {Q:Fl->Hs->Prop} (x:wS ss K n τ h Q):Eb ss K n h Q (.nx τ):=x
theorem Lw {w:W} {Q:Fl->Hs->Prop} (x:Q (.rt w) h):Eb ss K n h Q (.rt w):=x
theorem P_ {w:W} {Q:W->Hs->Prop} (x:Q w h):Jr Q (.rt w) h:=x
theorem Qa {Q:W->Hs->Prop} (x:Q .non h):Jr Q (.nx τ) h:=x
theorem RN {J:Sg->Hs->Prop} {Q:Fl->Hs->Prop} (x:J τ h):lpQ J Q (.nx τ) h:=x
theorem T9 {t f:Prop} (x:t):bW (.bl true) t f:=x
theorem T_ {t f:Prop} (x:f):bW (.bl false) t f:=x
theorem RP {t f:Prop} (x:f):bW (.bl (!true)) t f:=x
theorem RQ {t f:Prop} (x:t):bW (.bl (!false)) t f:=x
theorem wJ {b:Bool} {t f:Prop} (e:b=false) (y:f):bW (.bl b) t f:=by subst e;exact y
theorem G3 {b:Bool} {t f:Prop} (e:b=true) (y:t):bW (.bl b) t f:=by subst e;exact y
theorem Lx {l:List Int} {k:Nat} (z:k < l.length):(l.map W.int)[k]? =some (.int (l.getD k 0)):=by
 rw [List.getElem?_map,List.getElem?_eq_getElem z];simp [List.getD,List.getElem?_eq_getElem z]
theorem yH:∀ ns:List Int,iw (ns.map D.int) <= 1
 | []=>by simp [iw]
 | n::ns=>by simp only [List.map_cons,iw,eX];have:=yH ns;omega
theorem Cj:∀ ns:List Int,jr (ns.map D.int)=true
 | []=>by simp [jr]
 | n::ns=>by simp [jr,okD,Cj ns]
theorem tQ (ns:List Int):eX (Dis ns) <= 12:=by simp only [Dis,eX];have:=yH ns;omega
theorem wK (ns:List Int):okD (Dis ns)=true:=by simp only [Dis,okD];exact Cj ns
theorem wL {A:Nat->Prop} {ns:List Int} {p:Nat} (l:p < h.n) (a:A p) (g:h.get p=some (.lst (ns.map W.int))):Rd h A (Dis ns) (.ref p):=Cg.mpr ⟨p,rfl,l,a,g⟩
end
end Ev
set_option maxRecDepth 100000
set_option maxHeartbeats 4000000
namespace Ev
section
variable {K:Ks} {n:Nat} {τ:Sg} {h:Hs} {Q:W->Hs->Prop} {i j:Int} {p q:Nat} {xs ys:List W} {A B:Nat->Prop}
theorem qi:∀ bs:List Bool,bools (bs.map W.bl)=some bs
 | []=>rfl
 | b::bs=>by
   show Option.rec (motive:=fun _=>Option (List Bool)) none (fun r=>some (b::r)) (bools (bs.map W.bl))=_
   rw [qi bs]
theorem Ef {bs:List Bool} (e:h.get p=some (.lst (bs.map W.bl))) (z:Q (.bl (bs.all id)) h):wP .all [.ref p] h Q:=by
 show okQ (h.at (.ref p) fun _ o=>o.onL fun xs=>Opt (bools xs) fun bs=>.yes (allB bs) h) Q
 rw [dG e]
 show okQ (Opt (bools (bs.map W.bl)) fun bs=>.yes (allB bs) h) Q
 rw [qi]
 show Q (.bl (allB bs)) h
 rw [Bq];exact z
theorem RT {bs:List Bool} (e:h.get p=some (.lst (bs.map W.bl))) (z:Q (.bl (bs.any id)) h):wP .any [.ref p] h Q:=by
 show okQ (h.at (.ref p) fun _ o=>o.onL fun xs=>Opt (bools xs) fun bs=>.yes (anyB bs) h) Q
 rw [dG e]
 show okQ (Opt (bools (bs.map W.bl)) fun bs=>.yes (anyB bs) h) Q
 rw [qi]
 show Q (.bl (anyB bs)) h
 rw [Br];exact z
theorem Rds.bls:∀ {ns:List Bool} {ws:List W},Rds h A (ns.map D.bl) ws ↔ ws=ns.map W.bl
 | [],ws=>by simp only [List.map_nil,Rds]
 | n::ns,ws=>by
   simp only [List.map_cons,Rds,Rd]
   constructor
   · rintro ⟨w,r,rfl,rfl,b⟩;rw [Rds.bls.mp b]
   · rintro rfl;exact ⟨_,_,rfl,rfl,Rds.bls.mpr rfl⟩
theorem tR {ns:List Bool} {w:W}:Rd h A (.lst (ns.map D.bl)) w ↔ ∃ p,w= .ref p/\p < h.n/\A p/\h.get p=some (.lst (ns.map W.bl)):=by
 simp only [Rd,Rds.bls]
 constructor
 · rintro ⟨p,ws,e,l,a,g,rfl⟩;exact ⟨p,e,l,a,g⟩
 · rintro ⟨p,e,l,a,g⟩;exact ⟨p,_,e,l,a,g,rfl⟩
abbrev Dp (a b:Int):D:=.tup [.int a,.int b]
theorem Eg {a b:Int} {w:W}:Rd h A (Dp a b) w ↔ ∃ p,w= .ref p/\p < h.n/\A p/\h.get p=some (.tup [.int a,.int b]):=by
 have e:[D.int a,D.int b] = [a,b].map D.int:=rfl
 simp only [Dp,Rd,e,Rds.ints]
 constructor
 · rintro ⟨p,ws,e,l,a,g,rfl⟩;exact ⟨p,e,l,a,g⟩
 · rintro ⟨p,e,l,a,g⟩;exact ⟨p,_,e,l,a,g,rfl⟩
theorem gw {ds:List D} {w:W}:Rd h A (.lst ds) w ↔ ∃ p ws,w= .ref p/\p < h.n/\A p/\h.get p=some (.lst ws)/\Rds h A ds ws:=by simp only [Rd]
theorem yI {α:Type} (f g:α->Int):∀ l:List α,iw (l.map fun x=>Dp (f x) (g x)) <= 2
 | []=>by simp [iw]
 | n::ns=>by simp only [List.map_cons,iw,eX];have:=yI f g ns;omega
theorem Eh {α:Type} (f g:α->Int):∀ l:List α,jr (l.map fun x=>Dp (f x) (g x))=true
 | []=>by simp [jr]
 | n::ns=>by simp [jr,okD,Eh f g ns]
theorem G4 {α:Type} (f g:α->Int) (l:List α):eX (.lst (l.map fun x=>Dp (f x) (g x))) <= 12:=by simp only [eX];have:=yI f g l;omega
theorem J7 {α:Type} (f g:α->Int) (l:List α):okD (.lst (l.map fun x=>Dp (f x) (g x)))=true:=by simp only [okD];exact Eh f g l
end
end Ev
set_option maxRecDepth 100000
set_option maxHeartbeats 4000000
namespace Ev
open PySem PySem.Spec PySem.SeqAt PyProof.Rows L2
noncomputable section
def erase (xs:List W):Nat->List W:=List.rec (fun _=>[]) (fun x r ih k=>Nat.rec r (fun k _=>x::ih k) k) xs
end
section
variable {Pg:List Fn} {cl:Cn} {E:XK} {d:Nat} {X:Cx} {σ σ0:L2.St} {H:Hp}
end
end Ev
set_option maxRecDepth 100000
set_option maxHeartbeats 4000000
namespace Ev
open PySem PyProof.Rows L2 PySem.W
def runK (c:Nat->Nat->Bool) (n:Nat) {α:Type}:KasT α->Option α
 | .ret a=>some a
 | .ask i j k=>if i < n/\j < n then runK c n (k (c i j)) else none
theorem yJ {α:Type} {n:Nat} {c:Nat->Nat->Bool} {cmp:Nat->Nat->(Bool->Shared->Prop)->Shared->Prop} {s:Shared} (h:∀ i j C,i < n->j < n->C (c i j) s->cmp i j C s):
 ∀ (t:KasT α) {a:α} {Q:α->Shared->Prop},runK c n t=some a->Q a s->KasT.kasWp cmp t Q s
 | .ret b,a,Q,e,q=>by
   cases e;exact q
 | .ask i j k,a,Q,e,q=>by
   unfold runK at e
   by_cases z:i < n/\j < n
   · rw [if_pos z] at e
     exact h i j _ z.1 z.2 (yJ h (k (c i j)) e q)
   · rw [if_neg z] at e;cases e
def iT (ps:List (Int × Int)) (i j:Nat):Bool:=ltP (ps.getD i (0,0)) (ps.getD j (0,0))
def tU (vs:List V) (pp:Array Nat):List V:=pp.toList.map fun i=>vs.getD i .non
theorem getD_some {α:Type} {xs:List α} {i:Nat} {x d:α} (h:xs[i]? =some x):xs.getD i d=x:=by simp [List.getD,h]
theorem vA (bs:List Addr):∀ pp:List Nat,Vals (pp.map fun i=>(bs.map V.ref).getD i .non) (pp.map fun i=>(bs.map Value.ref).getD i Value.none)
 | []=>.nil
 | i::pp=>.cons (by
   show RelV ((bs.map V.ref).getD i V.non) ((bs.map Value.ref).getD i Value.none)
   by_cases h:i < bs.length
   · rw [getD_some (x:=V.ref bs[i]) (by rw [List.getElem?_map,List.getElem?_eq_getElem h];rfl),getD_some (x:=Value.ref bs[i]) (by rw [List.getElem?_map,List.getElem?_eq_getElem h];rfl)];rfl
   · simp only [List.getD]
     rw [List.getElem?_eq_none (by simp;omega),List.getElem?_eq_none (by simp;omega)];rfl) (vA bs pp)
section
variable {X:Cx}
theorem vL:cU X (.builtin "sorted") (fun xs H Q=>∃ p bs ps,∃ pp:Array Nat,xs= [.ref p]/\SqL X.K H p (bs.map V.ref)/\2 <= bs.length/\bs.length <= 8/\PsR H bs ps/\runK (iT ps) bs.length (kas_sort bs.length)=some pp/\pp.size <= 100/\∀ l,H l=none->Q (.ref l) (upd H l (.lst (tU (bs.map V.ref) pp)))):=by
 intro pins s σ H xs us Q I r h
 obtain ⟨p,bs,ps,pp,rfl,hq,h2,h5,hp,sp,hsz,q⟩:=h
 obtain ⟨u,rfl,rx⟩:=vals1 r
 cases rx
 obtain ⟨its,r',pl,hz⟩:=I.list hq
 have ie:=lZ r'
 subst ie
 obtain ⟨m,F⟩:=I.fr
 refine kat_sorted F wU pl.isList (by rw [List.length_map];exact h2) (by rw [List.length_map];omega) fun D e1 h' F' N' hD=>?_
 have kb:∀ b o,s.heap.get? b=some o->b ≠ X.env.locals->h'.get? b=some o:=fun b o e hb=>by
  cases z:X.base.get? b with
  | some u=>
    have:=I.bk b u z
    rw [e] at this;cases this
    exact F'.keep b _ z
  | none=>exact (N' (b,o) (List.mem_cons_of_mem _ (fM hb z e))).1
 have tp:Paired (TupAt h') bs ps:=Paired.nR hp fun b c e=>by
  obtain ⟨o,t1,t2,n,e1,e2,e3⟩:=GR I.hok e
  exact ⟨o,t1,t2,n,kb b o e1 (fun z=>by rw [z] at e;rw [I.free] at e;cases e),e2,e3⟩
 obtain ⟨fs,g1,g2,g3⟩:=kat_tups tp
 refine kat_kind (T:=.type "int") g1 (by omega) (fun v hv=>?_) (by decide) ?_
 · obtain ⟨i,t,rfl⟩:=g3 v hv
   exact fun A Q E s k q=>wpAny_pure q
 rw [List.length_map]
 refine yJ (n:=bs.length) (c:=iT ps) (fun i j C hi hj c=>?_) _ sp ?_
 · have gi:∀ i,i < bs.length->∃ b p,(bs.map Value.ref).getD i .none= .ref b/\ps[i]? =some p/\TupAt h' b p:=fun i hi=>by
    have hl:i < ps.length:=by rw [<- tp.length];exact hi
    exact ⟨bs[i],ps[i],by simp [hi],List.getElem?_eq_getElem hl,Paired.Jm tp (List.getElem?_eq_getElem hi) (List.getElem?_eq_getElem hl)⟩
   obtain ⟨b1,p1,v1,q1,o1,t1,t2,n1,a1,a2,a3⟩:=gi i hi
   obtain ⟨b2,p2,v2,q2,o2,u1,u2,n2,c1,c2,c3⟩:=gi j hj
   show wpAny (model X.prog X.w) _ (keyLt' (tuples' true) ((bs.map Value.ref).getD i .none) ((bs.map Value.ref).getD j .none)) C (fun _ _=>False) _
   rw [v1,v2]
   refine GQ (p:=p1) (q:=p2) (s:={ heap:=h',gens:=s.gens,drawn:=s.drawn,toks:=s.toks,os:=s.os }) a1 a3 c1 c3 ?_
   have ec:iT ps i j=ltP p1 p2:=by unfold iT;rw [getD_some q1,getD_some q2]
   rw [<- ec];exact c
 · refine ⟨_,_,F',N',UpdF.head (fun p hp=>Nat.ne_of_lt (hD p hp)),fun h'' c F'' N''=>?_⟩
   have nD:=N'' (D,W.listOf (pp.toList.map fun i=>(bs.map Value.ref).getD i Value.none).toArray c) List.mem_cons_self
   have kb2:∀ b o,b ≠ X.env.locals->s.heap.get? b=some o->h''.get? b=some o:=fun b o hb e=>by
    cases z:X.base.get? b with
    | some u=>
      have:=I.bk b u z
      rw [e] at this;cases this
      exact F''.keep b _ z
    | none=>exact (N'' (b,o) (List.mem_cons_of_mem _ (fM hb z e))).1
   have fD:s.heap.get? D=none:=by
    cases e:s.heap.get? D with
    | none=>rfl
    | some o=>exact absurd (hD (D,o) (fM nD.2.1 nD.2.2 e)) (Nat.lt_irrefl _)
   have hD0:H D=none:=by
    cases e:H D with
    | none=>rfl
    | some u=>exact absurd (obj_some (I.hok D u e)) (by rw [fD];intro ⟨_,z⟩;cases z)
   refine ⟨.ref D,upd H D (.lst (tU (bs.map V.ref) pp)),?_,rfl,q D hD0⟩
   have nl:∀ b u,H b=some u->b ≠ X.env.locals:=fun b u e z=>by rw [z,I.free] at e;cases e
   show Inv X pins σ _ { s with heap:=h'',gens:=s.gens,drawn:=s.drawn,toks:=s.toks }
   refine I.step (g':=s.gens) (d':=s.drawn) (t':=s.toks) (ch:=[]) (fun _ z=>nomatch z) (fun b o hb _ _ e _=>kb2 b o hb e) (fun b o hb _ _ e _=>⟨o.slots,kb2 b o hb e⟩) (fun b o _ e n=>?_) (fun b o _ e=>?_)
    (fun b xs e=>by rw [au (aD e hD0)];exact e) (fun b o u e=>by rw [au (aD e hD0)];exact e) (fun b ps e=>⟨#[],by rw [au (aD e hD0),e];simp⟩) (fun m' hm=>?_) (fun b u e=>?_) I.bare
   · rw [au (fun z=>by rw [z,fD] at e;cases e)];exact n
   · by_cases hb:b=X.env.locals
     · obtain ⟨o',es,ep,ho,_⟩:=F''.ns
       exact ⟨o',by rw [hb];exact ho⟩
     · exact ⟨o,kb2 b o hb e⟩
   · obtain ⟨o1,es1,ep1,ho1,hd1,_,f1⟩:=hm
     obtain ⟨o2,es2,ep2,ho2,hd2,_,f2⟩:=F.ns
     rw [ho1] at ho2;cases ho2
     rw [hd1] at hd2;cases hd2
     have:m'=m:=funext fun x=>(f1 x).symm.trans (f2 x)
     rw [this];exact F''.ns
   · by_cases hb:b=D
     · subst hb
       rw [aC] at e;cases e
       exact ⟨by unfold tU;rw [List.length_map,Array.length_toList,sizeLine_eq];omega,_,c,vA bs pp.toList,nD.1⟩
     · rw [au hb] at e
       exact (I.hok b u e).stay (fun c v hc z=>kb2 c v (by
        rcases hc with y | y
        · rw [y];exact nl b u e
        · exact nl c _ y) z) (fun c z=>by rw [au (aD z hD0)];exact z) fun c xs z=>by rw [au (aD z hD0)];exact z
theorem yK:cU X (.builtin "sorted") (fun xs H Q=>∃ p bs ps,∃ pp:Array Nat,xs= [.ref p]/\SqL X.K H p (bs.map V.ref)/\1 <= bs.length/\bs.length <= 8/\PsR H bs ps/\(if bs.length=1 then some #[0] else runK (iT ps) bs.length (kas_sort bs.length))=some pp/\pp.size <= 100/\∀ l,H l=none->Q (.ref l) (upd H l (.lst (tU (bs.map V.ref) pp)))):=by
 intro pins s σ H xs us Q I r h
 obtain ⟨p,bs,ps,pp,rfl,hq,h1,h5,hp,hk,hz,q⟩:=h
 by_cases h2:2 <= bs.length
 · rw [if_neg (by omega)] at hk
   exact vL pins s σ H _ us Q I r ⟨p,bs,ps,pp,rfl,hq,h2,h5,hp,hk,hz,q⟩
 · obtain ⟨b,rfl⟩:∃ b,bs= [b]:=by
    cases bs with
    | nil=>exact absurd h1 (by decide)
    | cons b r=>cases r with
      | nil=>exact ⟨b,rfl⟩
      | cons _ _=>exact absurd (show 2 <= _ from by simp) h2
   cases hk
   obtain ⟨c,rfl⟩:∃ c,ps= [c]:=by
    cases hp with
    | cons a t=>cases t;exact ⟨_,rfl⟩
   exact yF pins s σ H _ us Q I r ⟨p,[b],[c],rfl,hq,by simp,by simp,hp,fun i j x y hx hy=>by
    have li:i < 1:=(List.getElem?_eq_some_iff.mp hx).1
    have lj:j < 1:=(List.getElem?_eq_some_iff.mp hy).1
    have ei:i=0:=by omega
    have ej:j=0:=by omega
    subst ei ej
    cases hx;cases hy
    unfold ltP
    rw [if_pos rfl]
    simp,q⟩
end
noncomputable def oG (ps:List (Int × Int)):Option (Array Nat):=if ps.length=1 then some #[0] else runK (iT ps) ps.length (kas_sort ps.length)
noncomputable def yL (h:Hs) (a:W):R W:=h.at a fun _ o=>o.onL fun xs=>Opt (cu h xs) fun ps=>ifB (Nat.ble 1 (len xs)) (ifB (Nat.ble (len xs) 8) (Opt (oG ps) fun pp=>ifB (Nat.ble pp.size 100) (.alloc h (.lst (pp.toList.map fun i=>xs.getD i .non))) .no) .no) .no
noncomputable def Pr.uT:Pr:=⟨fun ws h=>gY ws (yL h)⟩
section
variable {cl:Cn}
theorem yM {ρ:List Addr} {xs:List W} {vs:List V} (r:RWs ρ xs vs):∀ pp:List Nat,RWs ρ (pp.map fun i=>xs.getD i .non) (pp.map fun i=>vs.getD i .non)
 | []=>.nil
 | i::pp=>.cons (by
   cases e:xs[i]? with
   | none=>
     have:vs[i]? =none:=List.getElem?_eq_none (by rw [<- r.length];exact List.getElem?_eq_none_iff.mp e)
     simp only [List.getD,e,this];exact .non
   | some w=>
     obtain ⟨v,ev,rw'⟩:=r.get e
     simp only [List.getD,e,ev];exact rw') (yM r pp)
theorem G5 {K:PySem.W.Frag}:OpN cl .uT (fun xs H Q=>∃ p bs ps,∃ pp:Array Nat,xs= [.ref p]/\SqL K H p (bs.map V.ref)/\1 <= bs.length/\bs.length <= 8/\PsR H bs ps/\(if bs.length=1 then some #[0] else runK (iT ps) bs.length (kas_sort bs.length))=some pp/\pp.size <= 100/\∀ l,H l=none->Q (.ref l) (upd H l (.lst (tU (bs.map V.ref) pp)))):=fun E ρ h H ws vs Q s r p=>by
 obtain ⟨w,v,rfl,rfl,r1,p⟩:=v8 r (show Post cl ρ H E (ofW (gY ws (yL h))) (VP Q) from p)
 obtain ⟨n,o,a,rfl,rfl,e1,g1,x1,p⟩:=oAt s r1 p
 obtain ⟨xs,rfl,p⟩:=oL p
 obtain ⟨ps,hps,p⟩:=iQ p
 obtain ⟨h2,p⟩:=oIf p
 obtain ⟨h5,p⟩:=oIf p
 obtain ⟨pp,hpp,p⟩:=iQ p
 obtain ⟨hz,p⟩:=oIf p
 obtain ⟨us,ru,q⟩:=x1
 obtain ⟨bs,rfl,hp⟩:=vq s ru hps
 have hlen:=ru.length
 rw [List.length_map] at hlen
 rw [len_eq] at h2 h5
 have h2:=Nat.le_of_ble_eq_true h2
 have h5:=Nat.le_of_ble_eq_true h5
 have hl:ps.length=bs.length:=hp.length.symm
 unfold oG at hpp
 rw [hl] at hpp
 exact ⟨a,bs,ps,pp,rfl,SqL.of q,by omega,by omega,hp,hpp,Nat.le_of_ble_eq_true hz,fun l hl=>Post.newL s p hl (yM ru _)⟩
end
end Ev
set_option maxRecDepth 100000
set_option maxHeartbeats 4000000
namespace Ev
section
variable {K:Ks} {n:Nat} {τ:Sg} {h:Hs} {Q:W->Hs->Prop} {i j:Int} {p q:Nat} {xs ys:List W} {ns:List Int} {A B:Nat->Prop}
def Jv (v:Iv) (it:List (Hs->W × Hs)) (h:Hs):Prop:=∀ (i:Nat) (fin:R Ev.A) (go:W->Hs->R Ev.A),v.next i h fin go=Option.rec fin (fun f=>go (f h).1 (f h).2) (it[i]?)
theorem Its.two {v:Iv} {ws:List W} (x:Its v ws h):Jv v (ws.map fun w h=>(w,h)) h:=fun i fin go=>by
 rw [x.next,List.getElem?_map]
 cases ws[i]? <;> rfl
theorem G6 {v:Iv} {t:Tg} {g:I} {t2:Tg} {e:X} {D:Nat} {it:List (Hs->W × Hs)} {Q:Ev.A->Hs->Prop} (J:Nat->Hs->Prop) (its:∀ i h,J i h->Jv v it h)
 (turn:∀ i f h m,it[i]? =some f->n <= m + it.length->J i h->∃ τ1,aM (f h).2 9 t (f h).1 τ=some τ1/\wI g K m τ1 (f h).2 fun v2 h2=>okQ (bY v2 t2 none none e D K m 0 τ1 h2) fun _ h3=>J (i + 1) h3) (fin:∀ h,J it.length h->Q .u h):
 ∀ (k i m:Nat) (h:Hs),i + k=it.length->k < m->n <= m + i->J i h->okQ (bY v t none (some (.mk g t2 none)) e D K m i τ h) Q
 | k,i,0,h,_,l,_,_=>absurd l (by omega)
 | k,i,m + 1,h,ek,l,l2,x=>by
   have u:bY v t none (some (.mk g t2 none)) e D K (m + 1) i τ h=v.next i h (.ok .u h) fun w h=>Opt (aM h 9 t w τ) fun τ1=>(g.f K m τ1 h).bind fun r h=>r.toV fun v2=>(bY v2 t2 none none e D K m 0 τ1 h).bind fun _ h=>bY v t none (some (.mk g t2 none)) e D K m (i + 1) τ h:=rfl
   rw [u,its i h x]
   cases k with
   | zero=>
     rw [List.getElem?_eq_none (by omega)]
     rw [Nat.add_zero] at ek;subst ek
     exact fin h x
   | succ k=>
     have li:i < it.length:=by omega
     rw [List.getElem?_eq_getElem li]
     obtain ⟨τ1,e1,y⟩:=turn i it[i] h m (List.getElem?_eq_getElem li) (by omega) x
     show okQ (Opt (aM (it[i] h).2 9 t (it[i] h).1 τ) fun τ1=>(g.f K m τ1 (it[i] h).2).bind fun r h=>r.toV fun v2=>(bY v2 t2 none none e D K m 0 τ1 h).bind fun _ h=>bY v t none (some (.mk g t2 none)) e D K m (i + 1) τ h) Q
     rw [e1]
     show okQ ((g.f K m τ1 (it[i] h).2).bind fun r h=>r.toV fun v2=>(bY v2 t2 none none e D K m 0 τ1 h).bind fun _ h=>bY v t none (some (.mk g t2 none)) e D K m (i + 1) τ h) Q
     unfold wI at y
     generalize g.f K m τ1 (it[i] h).2=r at y
     cases r with
     | ok a h2=>cases a with
       | iv v2=>
         show okQ ((bY v2 t2 none none e D K m 0 τ1 h2).bind fun _ h=>bY v t none (some (.mk g t2 none)) e D K m (i + 1) τ h) Q
         refine Js.mpr (jo (show okQ (bY v2 t2 none none e D K m 0 τ1 h2) (fun _ h3=>J (i + 1) h3) from y) fun _ h3 j3=>?_)
         exact G6 J its turn fin k (i + 1) m h3 (by omega) (by omega) (by omega) j3
       | _=>exact y.elim
     | _=>exact y.elim
def iU (D:Nat) (h h':Hs):Prop:=h.n <= h'.n/\∀ k,k < h.n->k ≠ D->h'.get k=h.get k
theorem iU.get {D k:Nat} {o:O} {h h':Hs} (x:iU D h h') (l:k < h.n) (ne:k ≠ D) (e:h.get k=some o):h'.get k=some o:=(x.2 k l ne).trans e
theorem iU.refl {D:Nat}:iU D h h:=⟨Nat.le_refl _,fun _ _ _=>rfl⟩
theorem iU.trans {D:Nat} {a b c:Hs} (x:iU D a b) (y:iU D b c):iU D a c:=⟨Nat.le_trans x.1 y.1,fun k l ne=>(y.2 k (Nat.lt_of_lt_of_le l x.1) ne).trans (x.2 k l ne)⟩
theorem Ext.D {D:Nat} {a b:Hs} (x:Ext a b):iU D a b:=⟨x.1,fun k l _=>x.2 k l⟩
theorem iU.set {D:Nat} {a b:Hs} {o:O} (x:iU D a b):iU D a (b.set D o):=⟨by rw [Hs.gH];exact x.1,fun k l ne=>by rw [Hs.get_set,if_neg ne];exact x.2 k l ne⟩
theorem Ei {nt:Nat} {idx:List Nat} {io:I} {t:Tg} {g:I} {t2:Tg} {e:X} {Q:W->Hs->Prop} (x:wI io K n τ h fun v h1=>Ext h h1/\∃ (it:List (Hs->W × Hs)) (fs:List (List Int)),(∀ h2,Ext h1 h2->Jv v it h2)/\it.length=fs.length/\it.length < n/\(∀ f ∈ fs,f.length <= 1000)/\it.length <= 1000/\
 (∀ (i:Nat) f ds h2 m,it[i]? =some f->fs[i]? =some ds->n <= m + it.length->Ext h1 h2->h1.n < h2.n->Ext h2 (f h2).2/\∃ τ1,aM (f h2).2 9 t (f h2).1 (dM nt idx τ)=some τ1/\wI g K m τ1 (f h2).2 fun v2 h3=>Ext h2 h3/\∃ ws:List W,(∀ h4,iU h1.n h3 h4->Its v2 ws h4)/\ws.length=ds.length/\ws.length < m/\
   ∀ (i2:Nat) w z h4 m2,ws[i2]? =some w->ds[i2]? =some z->m <= m2 + ws.length->iU h1.n h3 h4->∃ τ2,aM h4 9 t2 w τ1=some τ2/\wX e K m2 τ2 h4 fun w' h5=>w'= .int z/\Ext h4 h5)/\
 ∀ h3,Ext h1 h3->h1.n < h3.n->h3.get h1.n=some (.lst (fs.flatten.map W.int))->Q (.ref h1.n) h3):wX (.comp nt idx io t none (some (.mk g t2 none)) e) K n τ h Q:=by
 show okQ ((io.f K n τ h).bind fun r h=>r.toV fun v=>(bY v t none (some (.mk g t2 none)) e h.n K n 0 (dM nt idx τ) (h.push (.lst []))).nox.bind fun _ h'=>.ok (.w (.ref h.n)) h') (aW Q)
 unfold wI at x
 generalize io.f K n τ h=r at x
 cases r with
 | ok a h1=>cases a with
   | iv v=>
     obtain ⟨x1,it,fs,its,le,l2,lf,l3,turn,fin⟩:=x
     have big:∀ k,k <= fs.length->((fs.take k).flatten).length <= k * 1000:=fun k=>by
      induction k with
      | zero=>intro _;simp
      | succ k ih=>
        intro hk
        have lk:k < fs.length:=by omega
        have:=ih (by omega)
        have:=lf fs[k] (List.getElem_mem lk)
        rw [List.take_add_one,List.getElem?_eq_getElem lk,List.flatten_append,List.length_append,show (some fs[k]).toList.flatten=fs[k] by simp];omega
     have z:=G6 (K:=K) (τ:=dM nt idx τ) (n:=n) (v:=v) (t:=t) (g:=g) (t2:=t2) (e:=e) (D:=h1.n) (it:=it) (Q:=fun a h=>a= .u/\Q (.ref h1.n) h) (fun i h2=>Ext h1 h2/\h1.n < h2.n/\h2.get h1.n=some (.lst (((fs.take i).flatten).map W.int))) (fun i h2 j=>its h2 j.1)
      (fun i f h2 m ei lm ⟨j1,j2,j3⟩=>by
        have li:i < it.length:=(List.getElem?_eq_some_iff.mp ei).1
        have lfi:i < fs.length:=by omega
        obtain ⟨y0,τ1,eb,y⟩:=turn i f fs[i] h2 m ei (List.getElem?_eq_getElem lfi) lm j1 j2
        refine ⟨τ1,eb,jo y fun a h3 yy=>?_⟩
        cases a with
        | iv v2=>
          obtain ⟨y1,ws,its2,ew,lw,inn⟩:=yy
          have bi:=big i (by omega)
          have bf:=lf fs[i] (List.getElem_mem lfi)
          have l13:h1.n < h3.n:=Nat.lt_of_lt_of_le j2 y1.1
          refine wz (n:=m) (ws:=ws) ((fs.take i).flatten.length) (fun k acc h4=>Ext h1 h4/\iU h1.n h3 h4/\h4.get h1.n=some (.lst acc)/\acc=(((fs.take i).flatten) ++ fs[i].take k).map W.int) ?_ (by omega) ?_ ?_ ws.length 0 m (((fs.take i).flatten).map W.int) h3 (by omega) lw (by omega) ⟨j1.trans y1,.refl,y1.get j2 j3,by simp⟩
          · rintro k acc h4 ⟨q1,q2,q3,q4⟩
            refine ⟨its2 h4 q2,q3,?_⟩
            rw [q4,List.length_map,List.length_append,List.length_take];omega
          · rintro k w acc h4 m2 ek lm2 ⟨q1,q2,q3,q4⟩
            have lk:k < ws.length:=(List.getElem?_eq_some_iff.mp ek).1
            have lk':k < fs[i].length:=by omega
            obtain ⟨τ2,eb2,y2⟩:=inn k w fs[i][k] h4 m2 ek (List.getElem?_eq_getElem lk') lm2 q2
            refine ⟨τ2,eb2,jq y2 fun w' h5 ⟨e5,x5⟩=>?_⟩
            subst e5
            have l4:h1.n < h4.n:=Nat.lt_of_lt_of_le l13 q2.1
            refine ⟨x5.get l4 q3,(q1.trans x5).set (Nat.le_refl _),(q2.trans x5.D).set,by rw [Hs.get_set,if_pos rfl],?_⟩
            rw [q4,List.take_add_one,List.getElem?_eq_getElem lk',<- List.append_assoc,List.map_append (l₂:=(some fs[i][k]).toList)];rfl
          · rintro acc h4 ⟨q1,q2,q3,q4⟩
            refine ⟨q1,Nat.lt_of_lt_of_le l13 q2.1,?_⟩
            rw [q3,q4,ew,List.take_length,List.take_add_one,List.getElem?_eq_getElem lfi,List.flatten_append,show (some fs[i]).toList.flatten=fs[i] by simp]
        | _=>exact yy.elim)
      (fun h2 j=>⟨rfl,fin h2 j.1 j.2.1 (by have:=j.2.2;rw [le,List.take_length] at this;exact this)⟩) it.length 0 n (h1.push (.lst [])) (by omega) l2 (by omega) ⟨.push,aP,aB⟩
     show okQ ((bY v t none (some (.mk g t2 none)) e h1.n K n 0 (dM nt idx τ) (h1.push (.lst []))).nox.bind fun _ h'=>.ok (.w (.ref h1.n)) h') (aW Q)
     generalize bY v t none (some (.mk g t2 none)) e h1.n K n 0 (dM nt idx τ) (h1.push (.lst []))=r at z
     cases r with
     | ok a h'=>exact z.2
     | _=>exact z.elim
   | _=>exact x.elim
 | _=>exact x.elim
theorem yN (e:h.get p=some (.lst (ns.map W.int))) (l:ns.length <= 1000) (z:Q (.int (len (dd ns []):Nat)) h):wP .pK [.ref p] h Q:=by
 show okQ (h.at (.ref p) fun _ o=>o.onL fun xs=>ifB (Nat.ble (len xs) 1000) (Opt (gG xs) fun ns=>.ok (.int (.ofNat (len (dd ns [])))) h) .no) Q
 rw [dG e]
 show okQ (ifB (Nat.ble (len (ns.map W.int)) 1000) (Opt (gG (ns.map W.int)) fun ns=>.ok (.int (.ofNat (len (dd ns [])))) h) .no) Q
 rw [len_eq,List.length_map,ble_eq,bx (decide_eq_true l),mj];exact z
theorem RV {a b:Int} (ha:0 < a/\a < 1000) (hb:0 < b/\b < 1000) (z:Q (.int (a ^ b.toNat)) h):wP .pow [.int a,.int b] h Q:=by
 show okQ (ifB (ilt a 1000) (ifB (ilt 0 a) (ifB (ilt 0 b) (ifB (ilt b 1000) (.ok (.int (a ^ b.toNat)) h) .no) .no) .no) .no) Q
 rw [bA,bA,bA,bA,bx (decide_eq_true ha.2),bx (decide_eq_true ha.1),bx (decide_eq_true hb.1),bx (decide_eq_true hb.2)];exact z
end
end Ev
set_option maxRecDepth 100000
set_option maxHeartbeats 4000000
namespace Ev
section
variable {K:Ks} {n:Nat} {τ:Sg} {h:Hs} {Q:W->Hs->Prop}
theorem Ly {e:X} {u:W} {h2:Hs} (eb:e.f K n τ h= .ok (.w u) h2):goA [e] K n τ h= .ok (.ws [u]) h2:=by
 show R.rec (motive:=fun _=>R A) (fun r h=>A.rec (motive:=fun _=>R A) (fun w=>R.rec (motive:=fun _=>R A) (fun r h=>A.rec (motive:=fun _=>R A) (fun _=>.no) (fun ws=>.ok (.ws (w::ws)) h) (fun _=>.no) (fun _=>.no) .no r) (fun C fs h=>.ex C fs h) .no (goA [] K n τ h)) (fun _=>.no) (fun _=>.no) (fun _=>.no) .no r) (fun C fs h=>.ex C fs h) .no (e.f K n τ h)=_
 rw [eb];rfl
theorem Qc {nx:Nat} {idx:List Nat} {e:X} {c1 c2:Nat->Nat->List W->Hs->R A} {C:Nat} {fs:Fs} {h1:Hs} {w:W} (z:e.f K n (dM 0 idx τ) h= .ex C fs h1) (l:C < nx) (g:fget fs fu=some w) (q:Q (.ref h1.n) (h1.push (.tup [.str noT,w]))):wX (.told nx idx e) (c1::c2::K) n τ h Q:=by
 show okQ (R.rec (motive:=fun _=>R A) (fun r h=>r.toW fun w=>ofW (.alloc h (.tup [.str qC,w]))) (fun C fs h=>ifB (Nat.ble (C + 1) nx) (Opt (fget fs fu) fun w=>ofW (.alloc h (.tup [.str noT,w]))) .no) .no (e.f K n (dM 0 idx τ) h)) (aW Q)
 rw [z]
 show okQ (ifB (Nat.ble (C + 1) nx) (Opt (fget fs fu) fun w=>ofW (.alloc h1 (.tup [.str noT,w]))) .no) (aW Q)
 rw [bx (Nat.ble_eq_true_of_le l),g];exact q
theorem RX {es:List X} {Q:List W->Hs->Prop} (x:wA es K n τ h Q):∃ w h',goA es K n τ h= .ok (.ws w) h'/\Q w h':=by
 unfold wA at x
 generalize goA es K n τ h=r at x
 cases r with
 | ok a h'=>cases a with
   | ws w=>exact ⟨w,h',rfl,x⟩
   | _=>exact x.elim
 | _=>exact x.elim
theorem Qd {a b:X} {Q:Iv->Hs->Prop} (x:wX a K n τ h fun v h1=>wX b K n τ h1 fun w h2=>∃ i j:Int,v= .int i/\w= .int j/\-1000000000 < i/\i < 1000000000/\-1000000000 < j/\j < 1000000000/\Q (.rng i (j - i).toNat) h2):wI (.Dv [a,b]) K n τ h Q:=by
 have y:wA [a,b] K n τ h fun ws h2=>∃ i j:Int,ws= [.int i,.int j]/\-1000000000 < i/\i < 1000000000/\-1000000000 < j/\j < 1000000000/\Q (.rng i (j - i).toNat) h2:=by
  refine uP.mpr (jq x fun v h1 y=>uP.mpr (jq y fun w h2 ⟨i,j,e1,e2,z⟩=>?_))
  subst e1 e2
  exact ⟨i,j,rfl,z⟩
 obtain ⟨ws,h2,e,i,j,rfl,l1,l2,l3,l4,z⟩:=RX y
 show okQ ((goA [a,b] K n τ h).bind fun r h=>r.toL fun ws=>uC ws fun v w=>v.onI fun i=>w.onI fun j=>within i (within j (.ok (.iv (.rng i (j - i).toNat)) h))) (aV Q)
 rw [e]
 show okQ (within i (within j (.ok (.iv (.rng i (j - i).toNat)) h2))) (aV Q)
 rw [qg l2 l1,qg l4 l3];exact z
theorem Lz {f:Nat} {es:List X} {ws:List W} {h1 h2:Hs} {C:Nat} {fs:Fs} (e:goA es K n τ h= .ok (.ws ws) h1) (z:jM f ws K n h1= .ex C fs h2):(X.call f es).f K n τ h= .ex C fs h2:=by
 show (goA es K n τ h).bind (fun a h=>a.toL fun ws=>jM f ws K n h)=_
 rw [e];exact z
end
end Ev
set_option maxRecDepth 100000
set_option maxHeartbeats 4000000
namespace Ev
section
variable {K:Ks} {n:Nat} {τ:Sg} {h:Hs} {Q:W->Hs->Prop} {i j:Int} {p q:Nat} {xs ys:List W} {ns:List Int} {A B:Nat->Prop}
theorem yO:∀ xs:List Int,qG xs=xs.map W.int
 | []=>rfl
 | x::xs=>congrArg (W.int x::·) (yO xs)
theorem Jw (e:h.get p=some (.lst (ns.map W.int))) (l:ns.length <= 60) (z:Q (.ref h.n) (h.push (.lst ((gn ns).map W.int)))):wP .sorted [.ref p] h Q:=by
 show okQ (h.at (.ref p) fun _ o=>o.onL fun xs=>ifB (Nat.ble (len xs) 60) (Opt (gG xs) fun ns=>.alloc h (.lst (qG (gn ns)))) .no) Q
 rw [dG e]
 show okQ (ifB (Nat.ble (len (ns.map W.int)) 60) (Opt (gG (ns.map W.int)) fun ns=>.alloc h (.lst (qG (gn ns)))) .no) Q
 rw [len_eq,List.length_map,ble_eq,bx (decide_eq_true l),mj]
 show Q (.ref h.n) (h.push (.lst (qG (gn ns))))
 rw [yO];exact z
def cA (lo:Int) (m:Nat):List Int:=(List.range m).map fun k=>lo + Int.ofNat k
theorem Ck:∀ (m:Nat) (lo:Int),xT m lo=(cA lo m).map W.int
 | 0,lo=>rfl
 | m + 1,lo=>by
   show W.int lo::xT m (lo + 1)=_
   rw [Ck m (lo + 1)]
   unfold cA
   rw [List.range_succ_eq_map,List.map_cons,List.map_cons,List.map_map,List.map_map,List.map_map]
   congr 1
   · show W.int lo=W.int (lo + ((0:Nat):Int));congr 1;omega
   · apply List.map_congr_left
     intro k _
     show W.int (lo + 1 + (k:Int))=W.int (lo + ((k + 1:Nat):Int))
     congr 1;omega
theorem G7 (a: -1000 < i/\i < 1000) (b: -1000 < j/\j < 1000) (z:Q (.ref h.n) (h.push (.lst ((cA i (j - i).toNat).map W.int)))):wP .xU [.int i,.int j] h Q:=by
 show okQ (ifB (ilt (-1000) i) (ifB (ilt i 1000) (ifB (ilt (-1000) j) (ifB (ilt j 1000) (.alloc h (.lst (xT (j - i).toNat i))) .no) .no) .no) .no) Q
 rw [bA,bA,bA,bA,bx (decide_eq_true a.1),bx (decide_eq_true a.2),bx (decide_eq_true b.1),bx (decide_eq_true b.2),Ck];exact z
theorem LK {a e:X} (x:wX a K n τ h fun w h1=>∃ p xs,w= .ref p/\h1.get p=some (.lst xs)/\wX e K n τ h1 fun u h2=>∃ (ms:List Int) (k:Int),u= .int k/\h2.get p=some (.lst (ms.map W.int))/\Q (.int (ms.count k:Nat)) h2):wX (.lm .count a [e]) K n τ h Q:=by
 show okQ ((a.f K n τ h).bind fun r h=>r.toW fun w=>h.at w fun _ o=>o.onL fun _=>(goA [e] K n τ h).bind fun r h=>r.toL fun ws=>ofW (eO .count (w::ws) h)) (aW Q)
 obtain ⟨w,h1,ea,p,xs,rfl,g,y⟩:=jB x
 rw [ea]
 show okQ (h1.at (.ref p) fun _ o=>o.onL fun _=>(goA [e] K n τ h1).bind fun r h=>r.toL fun ws=>ofW (eO .count (.ref p::ws) h)) (aW Q)
 rw [dG g]
 show okQ ((goA [e] K n τ h1).bind fun r h=>r.toL fun ws=>ofW (eO .count (.ref p::ws) h)) (aW Q)
 obtain ⟨u,h2,eb,ms,k,rfl,g2,q⟩:=jB y
 rw [Ly eb]
 show okQ (ofW (h2.at (.ref p) fun _ o=>o.onL fun xs=>Opt (gG xs) fun ns=>.ok (.int (.ofNat (rJ k ns))) h2)) (aW Q)
 rw [dG g2]
 show okQ (ofW (Opt (gG (ms.map W.int)) fun ns=>.ok (.int (.ofNat (rJ k ns))) h2)) (aW Q)
 rw [mj]
 show Q (.int (.ofNat (rJ k ms))) h2
 rw [uO];exact q
theorem RZ {a b c d:Int} (e:h.get p=some (.tup [.int a,.int b])) (e2:h.get q=some (.tup [.int c,.int d])) (z:Q (.bl (ltP (a,b) (c,d))) h):wP .lt [.ref p,.ref q] h Q:=by
 show okQ (h.at (.ref p) fun _ x=>h.at (.ref q) fun _ y=>x.onT fun xs=>y.onT fun ys=>ifB (lO xs) (ifB (lO ys) (Opt (xQ xs ys) fun c=>.yes c h) .no) .no) Q
 rw [dG e,dG e2]
 show okQ (Opt (ifB (ieq a c) (ifB (ieq b d) (some false) (some (ilt b d))) (some (ilt a c))) fun c=>.yes c h) Q
 rw [cT,cT,bA,bA]
 unfold ltP at z
 by_cases c1:a=c
 · rw [if_pos c1] at z
   rw [decide_eq_true c1]
   by_cases c2:b=d
   · rw [decide_eq_true c2]
     rw [decide_eq_false (show ¬ (a,b).2 < (c,d).2 by simp [c2])] at z
     exact z
   · rw [decide_eq_false c2];exact z
 · rw [if_neg c1] at z
   rw [decide_eq_false c1];exact z
theorem vB:∀ a b:List Int,eN (a.map D.int) (b.map D.int)=decide (a=b)
 | [],[]=>by simp [eN]
 | [],_::_=>by simp [eN]
 | _::_,[]=>by simp [eN]
 | x::a,y::b=>by
   simp only [List.map_cons,eN,cg,cT,vB a b]
   by_cases c:x=y
   · subst c;by_cases d:a=b <;> simp [d]
   · simp [c]
theorem vC (a b:List Int):cg (Dis a) (Dis b)=decide (a=b):=by simp only [Dis,cg];exact vB a b
theorem Cm:∀ a b:List (Int × Int),eN (a.map fun p=>Dp p.1 p.2) (b.map fun p=>Dp p.1 p.2)=decide (a=b)
 | [],[]=>by simp [eN]
 | [],_::_=>by simp [eN]
 | _::_,[]=>by simp [eN]
 | (x,y)::a,(z,w)::b=>by
   simp only [List.map_cons,eN,cg,cT,Cm a b]
   by_cases c:x=z
   · subst c
     by_cases c2:y=w
     · subst c2;by_cases d:a=b <;> simp [d]
     · simp [c2]
   · simp [c]
theorem mL:∀ {ps:List (Int × Int)} {ws:List W},Rds h A (ps.map fun p=>Dp p.1 p.2) ws->cu h ws=some ps
 | [],ws,r=>by simp only [List.map_nil,Rds] at r;subst r;rfl
 | (a,b)::ps,ws,r=>by
   simp only [List.map_cons,Rds] at r
   obtain ⟨w,r',rfl,x,y⟩:=r
   obtain ⟨k,rfl,lk,_,gk⟩:=Eg.mp x
   show ((l_ (h.get k)).bind fun p=>(cu h r').map fun ps=>p::ps)=_
   rw [gk,mL y];rfl
theorem Rds.mem {ds:List D}:∀ {ws:List W} {w:W},Rds h A ds ws->w ∈ ws->∃ d ∈ ds,Rd h A d w:=by
 induction ds with
 | nil=>intro ws w r m;simp only [Rds] at r;subst r;cases m
 | cons d ds ih=>
   intro ws w r m
   simp only [Rds] at r
   obtain ⟨w',r',rfl,a,b⟩:=r
   rcases List.mem_cons.mp m with rfl | m
   · exact ⟨d,List.mem_cons_self ..,a⟩
   · obtain ⟨d',m',z⟩:=ih b m
     exact ⟨d',List.mem_cons_of_mem _ m',z⟩
theorem Rds.pick {ps:List (Int × Int)} {ws:List W} (r:Rds h A (ps.map fun p=>Dp p.1 p.2) ws):∀ pp:List Nat,(∀ k ∈ pp,k < ps.length)->Rds h A ((pp.map fun k=>ps.getD k (0,0)).map fun p=>Dp p.1 p.2) (pp.map fun k=>ws.getD k .non)
 | [],_=>by simp [Rds]
 | k::pp,l=>by
   have lk:=l k (List.mem_cons_self ..)
   obtain ⟨w,ew,rw'⟩:=r.get (i:=k) (d:=Dp (ps.getD k (0,0)).1 (ps.getD k (0,0)).2) (by rw [List.getElem?_map,List.getElem?_eq_getElem lk];simp [List.getD,List.getElem?_eq_getElem lk])
   simp only [List.map_cons,Rds]
   exact ⟨_,_,rfl,by rw [getD_some ew];exact rw',r.pick pp fun k' m=>l k' (List.mem_cons_of_mem _ m)⟩
theorem G8 {ps:List (Int × Int)} {pp:Array Nat} (e:h.get p=some (.lst xs)) (r:Rds h A (ps.map fun p=>Dp p.1 p.2) xs) (l1:1 <= ps.length) (l8:ps.length <= 8) (s:oG ps=some pp) (sz:pp.size <= 100) (z:Q (.ref h.n) (h.push (.lst (pp.toList.map fun k=>xs.getD k .non)))):wP .uT [.ref p] h Q:=by
 show okQ (h.at (.ref p) fun _ o=>o.onL fun xs=>Opt (cu h xs) fun ps=>ifB (Nat.ble 1 (len xs)) (ifB (Nat.ble (len xs) 8) (Opt (oG ps) fun pp=>ifB (Nat.ble pp.size 100) (.alloc h (.lst (pp.toList.map fun i=>xs.getD i .non))) .no) .no) .no) Q
 have lx:xs.length=ps.length:=by rw [r.length,List.length_map]
 rw [dG e]
 show okQ (Opt (cu h xs) fun ps=>ifB (Nat.ble 1 (len xs)) (ifB (Nat.ble (len xs) 8) (Opt (oG ps) fun pp=>ifB (Nat.ble pp.size 100) (.alloc h (.lst (pp.toList.map fun i=>xs.getD i .non))) .no) .no) .no) Q
 rw [mL r]
 show okQ (ifB (Nat.ble 1 (len xs)) (ifB (Nat.ble (len xs) 8) (Opt (oG ps) fun pp=>ifB (Nat.ble pp.size 100) (.alloc h (.lst (pp.toList.map fun i=>xs.getD i .non))) .no) .no) .no) Q
 rw [len_eq,lx,bx (Nat.ble_eq_true_of_le l1),bx (Nat.ble_eq_true_of_le l8),s]
 show okQ (ifB (Nat.ble pp.size 100) (.alloc h (.lst (pp.toList.map fun i=>xs.getD i .non))) .no) Q
 rw [bx (Nat.ble_eq_true_of_le sz)];exact z
end
end Ev
set_option maxRecDepth 100000
set_option maxHeartbeats 4000000
namespace Ev
open PySem PySem.W
theorem Ej {p q:Int->Bool}:∀ l:List Int,(∀ x ∈ l,p x=true->q x=true)->(∃ x ∈ l,q x=true/\p x=false)->l.countP p < l.countP q
 | [],_,h=>by obtain ⟨x,hx,_⟩:=h;cases hx
 | x::l,h1,h2=>by
   have mono:l.countP p <= l.countP q:=List.countP_mono_left fun y hy=>h1 y (List.mem_cons_of_mem _ hy)
   rw [List.countP_cons,List.countP_cons]
   obtain ⟨y,hy,q1,p1⟩:=h2
   rcases List.mem_cons.mp hy with rfl | hy
   · rw [q1,p1];simp;omega
   · have ih:=Ej l (fun z hz=>h1 z (List.mem_cons_of_mem _ hz)) ⟨y,hy,q1,p1⟩
     have hx:=h1 x (List.mem_cons_self ..)
     by_cases c:p x=true
     · rw [if_pos c,if_pos (hx c)];omega
     · rw [if_neg c];split <;> omega
def rkA (fs:List Int) (a:Int):Nat:=fs.countP fun y=>decide (y < a)
theorem wM {fs:List Int} {a b:Int} (ha:a ∈ fs) (l:a < b):rkA fs a < rkA fs b:=Ej fs (fun x _ h=>by have:=of_decide_eq_true h;exact decide_eq_true (by omega)) ⟨a,ha,decide_eq_true l,decide_eq_false (by omega)⟩
theorem Qe {fs:List Int} {a b:Int} (ha:a ∈ fs) (hb:b ∈ fs):decide (rkA fs a < rkA fs b)=decide (a < b):=by
 by_cases c:a < b
 · rw [decide_eq_true c,decide_eq_true (wM ha c)]
 · rw [decide_eq_false c]
   refine decide_eq_false fun z=>?_
   by_cases e:a=b
   · subst e;omega
   · have:=wM hb (show b < a by omega);omega
theorem R0 {fs:List Int} {a:Int} (ha:a ∈ fs):rkA fs a < fs.length:=by
 have:=Ej (p:=fun y=>decide (y < a)) (q:=fun _=>true) fs (fun _ _ _=>rfl) ⟨a,ha,rfl,decide_eq_false (by omega)⟩
 have e:fs.countP (fun _=>true)=fs.length:=by simp
 rw [e] at this;exact this
theorem oH {α:Type} {c c':Nat->Nat->Bool} {n:Nat} (h:∀ i j,i < n->j < n->c i j=c' i j):∀ t:KasT α,runK c n t=runK c' n t
 | .ret a=>rfl
 | .ask i j k=>by
   unfold runK
   by_cases z:i < n/\j < n
   · rw [if_pos z,if_pos z,h i j z.1 z.2];exact oH h _
   · rw [if_neg z,if_neg z]
theorem G9 {α:Type} {n:Nat}:∀ t:KasT α,mG n t=runK (fun i j=>decide (i < j)) n t
 | .ret a=>rfl
 | .ask i j k=>by
   unfold mG runK
   by_cases z:i < n/\j < n
   · rw [if_pos z,if_pos z];exact G9 _
   · rw [if_neg z,if_neg z]
def oJ (n:Nat):Nat->List (List Nat)
 | 0=>[[]]
 | k + 1=>(List.range n).flatMap fun a=>(oJ n k).map (a::·)
theorem yP {n:Nat}:∀ l:List Nat,(∀ x ∈ l,x < n)->l ∈ oJ n l.length
 | [],_=>by simp [oJ]
 | x::l,h=>by
   simp only [List.length_cons,oJ,List.mem_flatMap,List.mem_map,List.mem_range]
   exact ⟨x,h x (List.mem_cons_self ..),l,yP l (fun y hy=>h y (List.mem_cons_of_mem _ hy)),rfl⟩
def rM (n:Nat) (ρ:List Nat):Bool:=match runK (fun i j=>decide (ρ.getD i 0 < ρ.getD j 0)) n (kas_sort n) with
 | some pp=>decide (pp.toList.length=n) && (pp.toList.all (fun k=>decide (k < n)) && (!decide (pp.toList=List.range n) || decide (ρ=List.range n)))
 | none=>false
theorem tb2:((oJ 2 2).all fun ρ=> !decide ρ.Nodup || rM 2 ρ)=true:=by decide +kernel
theorem tb3:((oJ 3 3).all fun ρ=> !decide ρ.Nodup || rM 3 ρ)=true:=by decide +kernel
theorem tb4:((oJ 4 4).all fun ρ=> !decide ρ.Nodup || rM 4 ρ)=true:=by decide +kernel
theorem tb5:((oJ 5 5).all fun ρ=> !decide ρ.Nodup || rM 5 ρ)=true:=by decide +kernel
theorem Qf {n:Nat} (a:2 <= n) (b:n <= 5):((oJ n n).all fun ρ=> !decide ρ.Nodup || rM n ρ)=true:=by
 match n,a,b with
 | 2,_,_=>exact tb2
 | 3,_,_=>exact tb3
 | 4,_,_=>exact tb4
 | 5,_,_=>exact tb5
 | n + 6,_,h=>omega
def lA (ps:List (Int × Int)):Bool:=(List.range (ps.length - 1)).all fun k=>ltP (ps.getD k (0,0)) (ps.getD (k + 1) (0,0))
section
variable {ps:List (Int × Int)}
theorem yQ {i:Nat} (l:i < ps.length):(ps.map (·.1))[i]'(by simpa using l)=(ps.getD i (0,0)).1:=by
 simp [List.getD,List.getElem?_eq_getElem l]
theorem Cp (nd:(ps.map (·.1)).Nodup) {i j:Nat} (li:i < ps.length) (lj:j < ps.length) (e:(ps.getD i (0,0)).1=(ps.getD j (0,0)).1):i=j:=by
 rw [<- yQ li,<- yQ lj] at e
 exact (List.getElem_inj nd).mp e
theorem uU (nd:(ps.map (·.1)).Nodup) {i j:Nat} (li:i < ps.length) (lj:j < ps.length):iT ps i j=decide ((ps.getD i (0,0)).1 < (ps.getD j (0,0)).1):=by
 unfold iT ltP
 by_cases e:(ps.getD i (0,0)).1=(ps.getD j (0,0)).1
 · have:=Cp nd li lj e
   subst this
   rw [if_pos rfl,decide_eq_false (by omega),decide_eq_false (by omega)]
 · rw [if_neg e]
theorem G_ (nd:(ps.map (·.1)).Nodup) {i j:Nat} (li:i < ps.length) (lj:j < ps.length):iT ps i j=decide ((((ps.map (·.1)).map (rkA (ps.map (·.1)))).getD i 0) < (((ps.map (·.1)).map (rkA (ps.map (·.1)))).getD j 0)):=by
 have g:∀ k,k < ps.length->((ps.map (·.1)).map (rkA (ps.map (·.1)))).getD k 0=rkA (ps.map (·.1)) (ps.getD k (0,0)).1:=fun k l=>by
  simp [List.getD,List.getElem?_eq_getElem l]
 have m:∀ k,k < ps.length->(ps.getD k (0,0)).1 ∈ ps.map (·.1):=fun k l=>by rw [<- yQ l];exact List.getElem_mem _
 rw [g i li,g j lj,Qe (m i li) (m j lj),uU nd li lj]
theorem Jx (nd:(ps.map (·.1)).Nodup):((ps.map (·.1)).map (rkA (ps.map (·.1)))).Nodup:=by
 refine List.pairwise_map.mpr (List.Pairwise.imp_of_mem (fun {a b} ha hb ne e=>ne ?_) nd)
 by_cases c:a=b
 · exact c
 · exfalso
   by_cases l:a < b
   · have:=wM ha l;omega
   · have:=wM hb (show b < a by omega);omega
theorem Qg (l1:1 <= ps.length) (l5:ps.length <= 5) (nd:(ps.map (·.1)).Nodup):∃ pp:Array Nat,oG ps=some pp/\pp.size <= 100/\(∀ k ∈ pp.toList,k < ps.length)/\decide (ps=pp.toList.map fun k=>ps.getD k (0,0))=lA ps:=by
 by_cases h1:ps.length=1
 · refine ⟨#[0],by unfold oG;rw [if_pos h1],by decide,fun k hk=>?_,?_⟩
   · have:k=0:=by simpa using hk
     omega
   · obtain ⟨p,rfl⟩:∃ p,ps= [p]:=by
      match ps,h1 with
      | [p],_=>exact ⟨p,rfl⟩
     simp [lA]
 have l2:2 <= ps.length:=by omega
 have tb:=List.all_eq_true.mp (Qf l2 l5) ((ps.map (·.1)).map (rkA (ps.map (·.1)))) (by
  have:=yP (n:=ps.length) ((ps.map (·.1)).map (rkA (ps.map (·.1)))) fun x hx=>by
   obtain ⟨a,ha,rfl⟩:=List.mem_map.mp hx
   have:=R0 ha
   rw [List.length_map] at this;exact this
  rw [List.length_map,List.length_map] at this;exact this)
 rw [decide_eq_true (Jx nd)] at tb
 have tb:rM ps.length ((ps.map (·.1)).map (rkA (ps.map (·.1))))=true:=by simpa using tb
 unfold rM at tb
 rw [<- oH (c:=iT ps) (fun i j li lj=>G_ nd li lj)] at tb
 cases e:runK (iT ps) ps.length (kas_sort ps.length) with
 | none=>rw [e] at tb;cases tb
 | some pp=>
   rw [e] at tb
   simp only [Bool.and_eq_true,decide_eq_true_eq,List.all_eq_true,Bool.or_eq_true,Bool.not_eq_true',decide_eq_false_iff_not] at tb
   obtain ⟨t1,t2,t3⟩:=tb
   refine ⟨pp,by unfold oG;rw [if_neg h1,e],by rw [<- Array.length_toList];omega,t2,?_⟩
   have key:pp.toList=List.range ps.length ↔ ps=pp.toList.map fun k=>ps.getD k (0,0):=by
    constructor
    · intro z
      rw [z]
      apply List.ext_getElem?
      intro i
      by_cases c:i < ps.length
      · rw [List.getElem?_map,List.getElem?_range c];simp [List.getD,List.getElem?_eq_getElem c]
      · rw [List.getElem?_eq_none (by omega),List.getElem?_eq_none (by simp;omega)]
    · intro z
      apply List.ext_getElem (by simp [t1])
      intro i h1 h2
      have li:i < ps.length:=by omega
      have ez:(ps.getD i (0,0))=ps.getD (pp.toList[i]) (0,0):=by
       have q:ps[i]? =(pp.toList.map fun k=>ps.getD k (0,0))[i]?:=by rw [<- z]
       rw [List.getElem?_map,List.getElem?_eq_getElem h1] at q
       show (ps[i]?).getD (0,0)=_
       rw [q];rfl
      have:=Cp nd (t2 _ (List.getElem_mem h1)) li (by rw [<- ez])
      simpa using this
   by_cases ad:lA ps=true
   · rw [ad]
     refine decide_eq_true (key.mp ?_)
     have step:∀ k,k + 1 < ps.length->(ps.getD k (0,0)).1 < (ps.getD (k + 1) (0,0)).1:=fun k l=>by
      have z:=List.all_eq_true.mp ad k (List.mem_range.mpr (by omega))
      have q:iT ps k (k + 1)=true:=z
      rw [uU nd (by omega) l] at q
      exact of_decide_eq_true q
     have up:∀ d i,i + d + 1 < ps.length->(ps.getD i (0,0)).1 < (ps.getD (i + d + 1) (0,0)).1:=fun d=>by
      induction d with
      | zero=>intro i l;exact step i l
      | succ d ih=>
        intro i l
        have a:=ih i (by omega)
        have b:=step (i + d + 1) (by omega)
        have:i + (d + 1) + 1=i + d + 1 + 1:=by omega
        rw [this];omega
     have lt:∀ i j,i < ps.length->j < ps.length->iT ps i j=decide (i < j):=fun i j li lj=>by
      rw [uU nd li lj]
      by_cases c:i < j
      · rw [decide_eq_true c]
        have:=up (j - i - 1) i (by omega)
        rw [show i + (j - i - 1) + 1=j by omega] at this
        exact decide_eq_true this
      · rw [decide_eq_false c]
        refine decide_eq_false fun z=>?_
        by_cases c2:i=j
        · subst c2;omega
        · have:=up (i - j - 1) j (by omega)
          rw [show j + (i - j - 1) + 1=i by omega] at this
          omega
     rw [oH lt,<- G9] at e
     obtain ⟨qq,e2,e3⟩:=Cd ps.length l2 l5
     rw [e2] at e;cases e
     exact e3
   · have ad':lA ps=false:=by simpa using ad
     rw [ad']
     refine decide_eq_false fun z=>ad ?_
     have z:=key.mpr z
     rcases t3 with t3 | t3
     · exact absurd z t3
     · unfold lA
       rw [List.all_eq_true]
       intro k hk
       have lk:=List.mem_range.mp hk
       show iT ps k (k + 1)=true
       rw [G_ nd (by omega) (by omega),t3]
       refine decide_eq_true ?_
       simp only [List.getD]
       rw [List.getElem?_range (by omega),List.getElem?_range (by omega)]
       simp
end
theorem o4:∀ (r l:List Int),r.Nodup->(∀ v ∈ r,l.count v=1)->l.length=r.length->l.Perm r
 | [],l,_,_,h=>by rw [List.length_eq_zero_iff.mp h]
 | v::r,l,nd,h,hl=>by
   have hv:v ∈ l:=List.count_pos_iff.mp (by rw [h v (List.mem_cons_self ..)];decide)
   have nd':=List.nodup_cons.mp nd
   refine (List.perm_cons_erase hv).trans (.cons v (o4 r (l.erase v) nd'.2 (fun w hw=>?_) ?_))
   · rw [List.count_erase_of_ne (by rintro rfl;exact nd'.1 hw)]
     exact h w (List.mem_cons_of_mem _ hw)
   · rw [List.length_erase_of_mem hv,hl];simp
end Ev
set_option maxRecDepth 100000
set_option maxHeartbeats 4000000
namespace Ev
section
variable {K:Ks} {n:Nat} {τ:Sg} {h:Hs} {Q:W->Hs->Prop} {p q:Nat} {xs ys:List W} {A B:Nat->Prop}
theorem yR {a lo:X} (x:wX a K n τ h fun w h1=>wX lo K n τ h1 fun l h3=>∃ (p:Nat) (xs:List W) (i:Nat),w= .ref p/\l= .int (Int.ofNat i)/\i <= xs.length/\h3.get p=some (.lst xs)/\Q (.ref h3.n) (h3.push (.lst (xs.drop i)))):wX (.slice a (some lo) none) K n τ h Q:=by
 obtain ⟨w,h1,e1,x⟩:=jB x
 obtain ⟨l,h3,e2,p,xs,i,rfl,rfl,li,g,q⟩:=jB x
 have si:sIx (len xs) 0 (some (Int.ofNat i))=i:=by
  show ifB (Nat.ble i (len xs)) i (len xs)=i
  rw [len_eq,ble_eq,bx (decide_eq_true li)]
 show okQ ((a.f K n τ h).bind fun r h=>r.toW fun w=>rm K n (some lo) τ h fun l h=>rm K n none τ h fun u h=>h.at w fun _ o=>
  O.rec (fun xs=>ifB (ifB (Nat.beq (sIx (len xs) 0 l) 0) (Nat.beq (sIx (len xs) (len xs) u) (len xs)) false) .no (ofW (.alloc h (.tup (tak (drp xs (sIx (len xs) 0 l)) (sIx (len xs) (len xs) u - sIx (len xs) 0 l)))))) (fun xs=>ofW (.alloc h (.lst (tak (drp xs (sIx (len xs) 0 l)) (sIx (len xs) (len xs) u - sIx (len xs) 0 l))))) (fun _ _=>.no) (fun _=>.no) (fun _=>.no) o) (aW Q)
 rw [e1]
 show okQ ((lo.f K n τ h1).bind fun r h=>r.toW fun w=>w.onI fun l=>h.at (.ref p) fun _ o=>
  O.rec (fun xs=>ifB (ifB (Nat.beq (sIx (len xs) 0 (some l)) 0) (Nat.beq (sIx (len xs) (len xs) none) (len xs)) false) .no (ofW (.alloc h (.tup (tak (drp xs (sIx (len xs) 0 (some l))) (sIx (len xs) (len xs) none - sIx (len xs) 0 (some l))))))) (fun xs=>ofW (.alloc h (.lst (tak (drp xs (sIx (len xs) 0 (some l))) (sIx (len xs) (len xs) none - sIx (len xs) 0 (some l)))))) (fun _ _=>.no) (fun _=>.no) (fun _=>.no) o) (aW Q)
 rw [e2]
 show okQ (h3.at (.ref p) fun _ o=>O.rec (fun xs=>ifB (ifB (Nat.beq (sIx (len xs) 0 (some (Int.ofNat i))) 0) (Nat.beq (sIx (len xs) (len xs) none) (len xs)) false) .no (ofW (.alloc h3 (.tup (tak (drp xs (sIx (len xs) 0 (some (Int.ofNat i)))) (sIx (len xs) (len xs) none - sIx (len xs) 0 (some (Int.ofNat i)))))))) (fun xs=>ofW (.alloc h3 (.lst (tak (drp xs (sIx (len xs) 0 (some (Int.ofNat i)))) (sIx (len xs) (len xs) none - sIx (len xs) 0 (some (Int.ofNat i))))))) (fun _ _=>.no) (fun _=>.no) (fun _=>.no) o) (aW Q)
 rw [dG g]
 show Q (.ref h3.n) (h3.push (.lst (tak (drp xs (sIx (len xs) 0 (some (Int.ofNat i)))) (len xs - sIx (len xs) 0 (some (Int.ofNat i))))))
 rw [si,xW,xV,len_eq,List.take_of_length_le (by rw [List.length_drop];omega)];exact q
theorem yS (e:h.get p=some (.lst xs)) (z:Q (.bl (!xs.isEmpty)) h):wP .truth [.ref p] h Q:=by
 show okQ (h.at (.ref p) fun _ o=>o.items fun xs=>.yes (xP xs) h) Q
 rw [dG e]
 show Q (.bl (xP xs)) h
 cases xs <;> exact z
theorem Rds.Qh {α:Type} {f:α->D} {P:W->Bool} {P':α->Bool}:∀ {l:List α} {ws:List W},(∀ a w,Rd h A (f a) w->P w=P' a)->Rds h A (l.map f) ws->Rds h A ((l.filter P').map f) (ws.filter P)
 | [],ws,_,r=>by simp only [List.map_nil,Rds] at r;subst r;simp [Rds]
 | a::l,ws,hp,r=>by
   simp only [List.map_cons,Rds] at r
   obtain ⟨w,r',rfl,x,y⟩:=r
   have e:=hp a w x
   have ih:=Rds.Qh hp y
   by_cases c:P' a=true
   · rw [List.filter_cons_of_pos c,List.filter_cons_of_pos (by rw [e];exact c)]
     simp only [List.map_cons,Rds]
     exact ⟨_,_,rfl,x,ih⟩
   · rw [List.filter_cons_of_neg c,List.filter_cons_of_neg (by rw [e];exact c)];exact ih
theorem Rds.at {ds:List D} {ws:List W} {i:Nat} {w:W} (r:Rds h A ds ws) (e:ws[i]? =some w):∃ d,ds[i]? =some d/\Rd h A d w:=by
 have l:i < ds.length:=by have:=(List.getElem?_eq_some_iff.mp e).1;rw [r.length] at this;exact this
 obtain ⟨w',e',x⟩:=r.get (List.getElem?_eq_getElem l)
 rw [e] at e';cases e'
 exact ⟨_,List.getElem?_eq_getElem l,x⟩
end
end Ev
set_option maxRecDepth 100000
set_option maxHeartbeats 4000000
namespace My
open PySem L2 PyProof.Rows
def top (i:Nat):Stmt:=PySem.Challenge.pw_byestand_k04_all_starters.main.body.getD i (.Pass ⟨0,0,0,0⟩)
section
open Ev
abbrev mO:Stmt:=top 6
theorem yU:aQ ["m"] ["m"] (aa mO):=fsc (by decide +kernel) (by decide +kernel) (by decide +kernel)
abbrev lB:Stmt:=top 7
theorem vM:aQ ["numbers"] ["numbers"] (aa lB):=fsc (by decide +kernel) (by decide +kernel) (by decide +kernel)
abbrev lC:Stmt:=top 8
theorem vD:aQ ["m","pairs","ways"] ["m","pairs"] (aa lC):=fsc (by decide +kernel) (by decide +kernel) (by decide +kernel)
abbrev g_:Stmt:=top 9
theorem o5:aQ ["m","pairs","numbers"] ["m","pairs"] (aa g_):=fsc (by decide +kernel) (by decide +kernel) (by decide +kernel)
abbrev j6:Stmt:=top 10
theorem iJ:aQ ["numbers","found","partner","others","rest"] ["numbers"] (aa j6):=fsc (by decide +kernel) (by decide +kernel) (by decide +kernel)
abbrev j7:Stmt:=top 11
theorem Ae:aQ ["m"] ["m"] (aa j7):=fsc (by decide +kernel) (by decide +kernel) (by decide +kernel)
abbrev lD:Stmt:=top 13
theorem o6:aQ ["_law_seed","_law_k","_law_square"] ["_law_seed","_law_k"] (aa lD):=fsc (by decide +kernel) (by decide +kernel) (by decide +kernel)
abbrev mQ:Stmt:=top 14
theorem dD:aQ ["_law_cell_here","_law_limits","_law_rest","_law_seed","_law_found","_law_limit"] ["_law_cell_here","_law_limits"] (aa mQ):=fsc (by decide +kernel) (by decide +kernel) (by decide +kernel)
abbrev mR:Stmt:=top 15
theorem yV:aQ ["_law_script","_law_k"] ["_law_script","_law_k"] (aa mR):=fsc (by decide +kernel) (by decide +kernel) (by decide +kernel)
abbrev oK:Stmt:=top 16
theorem Af:aQ ["_law_found"] ["_law_found"] (aa oK):=fsc (by decide +kernel) (by decide +kernel) (by decide +kernel)
abbrev jC:Stmt:=top 17
theorem yW:aQ ["_law_found","_law_due"] ["_law_found","_law_due"] (aa jC):=fsc (by decide +kernel) (by decide +kernel) (by decide +kernel)
abbrev mU:Stmt:=top 18
theorem yX:aQ ["_law_asked","e"] ["_law_asked"] (aa mU):=fsc (by decide +kernel) (by decide +kernel) (by decide +kernel)
abbrev jt:Stmt:=top 19
theorem tV:aQ ["_law_number"] ["_law_number"] (aa jt):=fsc (by decide +kernel) (by decide +kernel) (by decide +kernel)
abbrev mV:Stmt:=top 20
theorem yZ:aQ ["_law_m","_law_x","_law_y"] ["_law_m","_law_x","_law_y"] (aa mV):=fsc (by decide +kernel) (by decide +kernel) (by decide +kernel)
abbrev bD:Stmt:=top 21
theorem b8:aQ ["_law_m","_law_pairs","_law_numbers","_law_x","_law_y","_law_both"] ["_law_m","_law_pairs"] (aa bD):=fsc (by decide +kernel) (by decide +kernel) (by decide +kernel)
abbrev cB:Stmt:=top 22
theorem a_:aQ ["_law_m","_law_rows","_law_turn","_law_fresh","_law_row","_law_used","_law_left","_law_other","_law_steps"] ["_law_m"] (aa cB):=fsc (by decide +kernel) (by decide +kernel) (by decide +kernel)
abbrev cO:Stmt:=top 23
theorem jQ:aQ ["_law_script","_law_row","_law_m","_law_due","_law_turn","_law_found","_law_one","_law_odd"] ["_law_script"] (aa cO):=fsc (by decide +kernel) (by decide +kernel) (by decide +kernel)
abbrev dZ:Stmt:=inClass (top 1) 0
theorem lH:aQ ["self","word"] ["self","word"] (aa dZ):=fsc (by decide +kernel) (by decide +kernel) (by decide +kernel)
abbrev gC:Stmt:=inClass (top 2) 0
theorem oM:aQ ["self"] ["self"] (aa gC):=fsc (by decide +kernel) (by decide +kernel) (by decide +kernel)
noncomputable def qP:List S:=[(.ife (.or (.pr .lt [(.var 0),(.cst (.int 3))]) (.or (.pr .gt [(.var 0),(.cst (.int 11))]) (.pr .eq [(.pr .mod [(.var 0),(.cst (.int 2))]),(.cst (.int 0))]))) [(.raise 0 [98,97,100,32,114,105,110,103])] [])]
noncomputable def qj:List S:=[(.ret (.pr .eq [(.pr .pK [(.var 0)]),(.pr .len [(.var 0)])]))]
noncomputable def y_:List S:=[(.asg (.nm 2) (.pr .add [(.comp 2 [0] (.seq (.var 1)) (.tup [(.nm 0),(.nm 1)]) none none (.pr .mod [(.pr .sub [(.var 0),(.var 1)]),(.var 2)])),(.comp 2 [0] (.seq (.var 1)) (.tup [(.nm 0),(.nm 1)]) none none (.pr .mod [(.pr .sub [(.var 1),(.var 0)]),(.var 2)]))])),
 (.ret (.call 1 [(.var 2)]))]
noncomputable def ql:List S:=[(.expr (.call 0 [(.var 0)])),
 (.asg (.nm 2) (.comp 2 [] (.seq (.var 1)) (.nm 0) none (some (.mk (.seq (.var 0)) (.nm 1) none)) (.var 1))),
 (.ife (.pr .ne [(.pr .sorted [(.var 2)]),(.pr .xU [(.cst (.int 1)),(.var 0)])]) [(.ret (.cst (.bl false)))] []),
 (.ife (.or (.pr .truth [(.pr .any [(.comp 2 [] (.seq (.var 1)) (.tup [(.nm 0),(.nm 1)]) none none (.pr .gt [(.var 0),(.var 1)]))])]) (.pr .ne [(.var 1),(.pr .uT [(.var 1)])])) [(.ret (.cst (.bl false)))] []),
 (.ret (.call 2 [(.var 0),(.var 1)]))]
noncomputable def oN:List S:=[(.ife (.pr .pJ [(.pr .truth [(.var 0)])]) [(.ret (.pr .lst [(.pr .lst [])]))] []),
 (.asg (.nm 1) (.pr .lst [])),
 (.for_ (.seq (.slice (.var 0) (some (.cst (.int 1))) none)) (.nm 2) [(.asg (.nm 3) (.comp 1 [2] (.seq (.slice (.var 0) (some (.cst (.int 1))) none)) (.nm 0) (some (.pr .ne [(.var 0),(.var 1)])) none (.var 0))),
 (.for_ (.seq (.call 4 [(.var 3)])) (.nm 4) [(.expr (.lm .append (.var 1) [(.pr .add [(.pr .lst [(.pr .tup [(.pr .ix [(.var 0),(.cst (.int 0))]),(.var 2)])]),(.var 4)])]))])]),
 (.ret (.var 1))]
noncomputable def tW:List S:=[(.expr (.call 0 [(.var 0)])),
 (.ret (.comp 1 [0] (.seq (.call 4 [(.pr .xU [(.cst (.int 1)),(.var 0)])])) (.nm 0) (some (.pr .truth [(.call 2 [(.var 1),(.var 0)])])) none (.var 0)))]
noncomputable def uV:List S:=[(.ret (.pr .ix [(.pr .lst [(.cst (.int 3)),(.cst (.int 5)),(.cst (.int 7)),(.cst (.int 9)),(.cst (.int 11))]),(.pr .mod [(.var 0),(.cst (.int 5))])]))]
noncomputable def Ah:List S:=[(.ret (.pr .min [(.pr .mod [(.pr .sub [(.var 2),(.var 1)]),(.var 0)]),(.pr .mod [(.pr .sub [(.var 1),(.var 2)]),(.var 0)])]))]
noncomputable def jU:List S:=[(.asg (.nm 2) (.pr .lst [])),
 (.for_ (.seq (.var 1)) (.tup [(.nm 3),(.nm 4)]) [(.asg (.nm 2) (.pr .add [(.var 2),(.pr .lst [(.var 3),(.var 4)])]))]),
 (.ife (.or (.pr .ne [(.comp 1 [2] (.Dv [(.cst (.int 1)),(.var 0)]) (.nm 0) (some (.pr .ne [(.lm .count (.var 1) [(.var 0)]),(.cst (.int 1))])) none (.var 0)),(.pr .lst [])]) (.pr .ne [(.pr .len [(.var 2)]),(.pr .sub [(.var 0),(.cst (.int 1))])])) [(.ret (.cst (.bl false)))] []),
 (.ife (.pr .pJ [(.pr .truth [(.pr .all [(.comp 2 [] (.seq (.var 1)) (.tup [(.nm 0),(.nm 1)]) none none (.pr .lt [(.var 0),(.var 1)]))])])]) [(.ret (.cst (.bl false)))] []),
 (.ife (.pr .pJ [(.pr .truth [(.pr .all [(.comp 1 [1] (.uD [(.pr .sub [(.pr .len [(.var 1)]),(.cst (.int 1))])]) (.nm 0) none none (.pr .lt [(.pr .ix [(.var 1),(.var 0)]),(.pr .ix [(.var 1),(.pr .add [(.var 0),(.cst (.int 1))])])]))])])]) [(.ret (.cst (.bl false)))] []),
 (.asg (.nm 5) (.pr .add [(.comp 2 [0] (.seq (.var 1)) (.tup [(.nm 0),(.nm 1)]) none none (.pr .mod [(.pr .sub [(.var 0),(.var 1)]),(.var 2)])),(.comp 2 [0] (.seq (.var 1)) (.tup [(.nm 0),(.nm 1)]) none none (.pr .mod [(.pr .sub [(.var 1),(.var 0)]),(.var 2)]))])),
 (.ret (.pr .eq [(.pr .pK [(.var 5)]),(.pr .len [(.var 5)])]))]
noncomputable def tX:List S:=[(.asg (.nm 1) (.pr .lst [(.pr .lst [])])),
 (.for_ (.uD [(.pr .fdiv [(.pr .sub [(.var 0),(.cst (.int 1))]),(.cst (.int 2))])]) (.nm 2) [(.asg (.nm 3) (.pr .lst [])),
 (.for_ (.seq (.var 1)) (.nm 4) [(.asg (.nm 5) (.pr .add [(.comp 2 [] (.seq (.var 4)) (.tup [(.nm 0),(.nm 1)]) none none (.var 0)),(.comp 2 [] (.seq (.var 4)) (.tup [(.nm 0),(.nm 1)]) none none (.var 1))])),
 (.asg (.nm 6) (.comp 1 [5] (.Dv [(.cst (.int 1)),(.var 0)]) (.nm 0) (some (.pr .lQ [(.var 0),(.var 1)])) none (.var 0))),
 (.for_ (.seq (.slice (.var 6) (some (.cst (.int 1))) none)) (.nm 7) [(.asg (.nm 8) (.comp 2 [0] (.seq (.var 4)) (.tup [(.nm 0),(.nm 1)]) none none (.call 7 [(.var 2),(.var 0),(.var 1)]))),
 (.ife (.pr .lQ [(.call 7 [(.var 0),(.pr .ix [(.var 6),(.cst (.int 0))]),(.var 7)]),(.var 8)]) [(.expr (.lm .append (.var 3) [(.pr .add [(.var 4),(.pr .lst [(.pr .tup [(.pr .ix [(.var 6),(.cst (.int 0))]),(.var 7)])])])]))] [])])]),
 (.asg (.nm 1) (.var 3))]),
 (.ret (.var 1))]
noncomputable def Pg:List Fn:=[.mk 1 1 qP,.mk 1 1 qj,.mk 2 3 y_,.mk 2 3 ql,.mk 1 5 oN,.mk 1 1 tW,.mk 1 1 uV,.mk 3 3 Ah,.mk 2 6 jU,.mk 1 9 tX]
set_option genInjectivity false in
set_option genSizeOf false in
structure Adr where
 fV:Addr
 jD:FuncData
 eY:Addr
 jd:FuncData
 ju:Addr
 oO:FuncData
 eZ:Addr
 je:FuncData
 iy:Addr
 j8:FuncData
 iz:Addr
 j9:FuncData
 h_:Addr
 lE:FuncData
 iK:Addr
 mW:FuncData
 iM:Addr
 mY:FuncData
 jf:Addr
 oR:FuncData
 cX:Addr
 fW:FuncData
 jE:Addr
 qQ:FuncData
 c7:Addr
 iB:FuncData
 fX:Addr
 jF:FuncData
 cD:Addr
 d_:FuncData
 cP:Addr
 gK:FuncData
 mq:Addr
 R1:FuncData
 aO:Addr
 cJ:FuncData
 bQ:Addr
 dH:FuncData
 aZ:Addr
 iW:Addr
 gM:Tok
 jg:Tok
 tbl:Addr
 code:Addr
def cn (a:Adr):Cn where
 c:=fun k=>match k with | 0=>a.iW | _=>0
 P:=a.tbl
 q:="law" ++ ".<locals>." ++ "<lambda>"
 on:=true
structure Txt (w:World) (K:PySem.W.Frag) (mg:Str->Option Value) (a:Adr):Prop where
 d7:Df K mg "need_ring" mO ["m"] a.fV a.jD
 e_:Df K mg "all_unlike" lB ["numbers"] a.eY a.jd
 fG:Df K mg "differ" lC ["m","pairs"] a.ju a.oO
 cN:Df K mg "is_starter" g_ ["m","pairs"] a.eZ a.je
 fH:Df K mg "pairings" j6 ["numbers"] a.iy a.j8
 cW:Df K mg "starters" j7 ["m"] a.iz a.j9
 fj:Df K mg "_law_mixed" lD ["_law_seed","_law_k"] a.h_ a.lE
 fZ:Df K mg "_law_draw" mQ ["_law_cell_here","_law_limits"] a.iK a.mW
 f9:Df K mg "_law_cell" mR ["_law_script","_law_k"] a.iM a.mY
 iC:Df K mg "_law_num" oK ["_law_found"] a.jf a.oR
 d8:Df K mg "_law_same" jC ["_law_found","_law_due"] a.cX a.fW
 cY:Df K mg "_law_told" mU ["_law_asked"] a.jE a.qQ
 dg:Df K mg "_law_ring_of" jt ["_law_number"] a.c7 a.iB
 cL:Df K mg "_law_step" mV ["_law_m","_law_x","_law_y"] a.fX a.jF
 bF:Df K mg "_law_starter_so" bD ["_law_m","_law_pairs"] a.cD a.d_
 cQ:Df K mg "_law_starters" cB ["_law_m"] a.cP a.gK
 Ut:Df K mg "law" cO ["_law_script"] a.mq a.R1
 mZ:Fun K "__init__" "StandError.__init__" dZ a.aO a.cJ
 m5:Binds K a.cJ ["self","word"] []
 o8:Fun K "__init__" "BadRing.__init__" gC a.bQ a.dH
 o9:Binds K a.dH ["self"] []
 oU:XMk K ((cn a).c 0) a.bQ
 Ek:uB K ((cn a).c 0) a.aZ
 tY:jJ K ((cn a).c 0) "word"
 El:mg "BadRing" =some (.ref ((cn a).c 0))
 vN:eG K a.aZ
 vO:CI K a.aZ a.aO
 o7:mg "StandError" =some (.ref a.aZ)
 tZ:mg "GREATEST_RING" =some (Value.int (11) a.gM)
 za:mg "LEAST_RING" =some (Value.int (3) a.jg)
 lG:mg "ValueError" =none
 Em:mg "abs" =none
 qH:mg "all" =none
 En:mg "any" =none
 qm:mg "bool" =none
 wN:mg "int" =none
 bu:mg "isinstance" =none
 fJ:mg "len" =none
 nQ:mg "list" =none
 Eo:mg "min" =none
 gb:mg "range" =none
 wO:mg "set" =none
 oV:mg "sorted" =none
 wQ:mg "str" =none
 qI:mg "tuple" =none
theorem qJ {i j:Int} (h1: -(2 ^ 64) < i) (h2:i < 2 ^ 64):Di i j:=.inl (.inl ⟨h1,h2⟩)
theorem zb {i j:Int} (h1: -(2 ^ 64) < j) (h2:j < 2 ^ 64):Di i j:=.inl (.inr ⟨h1,h2⟩)
section
variable {P:Program} {w:World} {K:PySem.W.Frag} {mg:Str->Option Value} {base:Heap}
theorem hXs {a:Adr} (T:Txt w K mg a):∀ C,C < 1->eG K ((cn a).c C)/\uB K ((cn a).c C) a.aZ/\jJ K ((cn a).c C) "word"
 | 0,_=>⟨T.oU.cls,T.Ek,T.tY⟩
 | n + 1,h=>absurd h (by omega)
theorem vP {a:Adr} (T:Txt w K mg a):bK P w K mg base CX0 1 a.aO a.cJ ["self","word"] (spS K):=by
 refine T.mZ.ok lH (fun vs H Q E h=>?_) (fun cdv A outer s H vs Q E hr h=>?_)
 · obtain ⟨_,_,_,rfl,_⟩:=h
   rfl
 obtain ⟨e,C,y,rfl,he,c,na,q⟩:=h
 refine ⟨_,(bG (ni (Ip rfl T.lG (ao (pv 0) (ao (pv 1) aJ)))) (bH (KJ (pv 0) (pv 1)))),?_⟩
 exact ⟨_,rfl,_,rfl,e,C,none,y,rfl,he,c,y,rfl,.ref e,rfl,e,C,rfl,he,c,na,q⟩
theorem Ep {a:Adr} (T:Txt w K mg a):bK P w K mg base CX0 2 a.bQ a.dH ["self"] (spX ((cn a).c 0) [98,97,100,32,114,105,110,103]):=by
 have F:=vP (P:=P) (base:=base) T
 refine T.o8.ok oM (fun vs H Q E h=>?_) (fun cdv A outer s H vs Q E hr h=>?_)
 · obtain ⟨_,rfl,_⟩:=h
   rfl
 obtain ⟨e,rfl,he,q⟩:=h
 refine ⟨_,(bH (ni (Ir T.vO F (hr.mono (by omega)) rfl T.o7 T.m5 Dg (ao (pv 0) (ao rY aJ))))),?_⟩
 refine ⟨_,rfl,e,((cn a).c 0),_,rfl,he,T.oU.cls,T.tY,fun dx h1 h2=>?_⟩
 have:=q dx h1 h2
 rw [<- K9] at this
 exact this
end
end
section
variable {P:Program} {w:World} {K:PySem.W.Frag} {mg:Str->Option Value} {base:Heap}
def LQ:Sp:=fun vs H Q _=>∃ a k:Int,vs= [.int a,.int k]/\0 <= a/\a < 2147483647/\∀ z:Int,0 <= z->z < 2147483647->Q (.int z) H
theorem vQ {a:Adr} (T:Txt w K mg a):bK P w K mg base CX0 1 a.h_ a.lE ["_law_seed","_law_k"] LQ:=by
 refine T.fj.fn.ok o6 (fun vs H Q E h=>?_) (fun cdv A outer s H vs Q E hr h=>?_)
 · obtain ⟨a,k,rfl,_⟩:=h
   rfl
 obtain ⟨x,k,rfl,h0,h1,q⟩:=h
 refine ⟨_,(bG (jH (i:=2) o6.nd rfl (Or.inl rfl) (cF dm (cF kh (pv 0) (pv 0)) bU))
  (bH (dh (cF dm (cF eF (cF eF (cF kh (pv 2) (cF eF (cF dm (pv 0) bU) bU)) (cF kh (pv 1) bU)) bU) bU)))),?_⟩
 have m31:(0:Int) < 2147483647:=by decide
 refine ⟨_,rfl,_,rfl,_,_,rfl,rfl,qJ (by omega) (by omega),_,_,rfl,rfl,m31,?_⟩
 have s0:=Int.emod_nonneg (x * x) (show (2147483647:Int) ≠ 0 by decide)
 have s1:=Int.emod_lt_of_pos (x * x) m31
 refine ⟨_,rfl,_,rfl,_,_,rfl,rfl,(by show (0:Int) < 65521;decide),_,_,rfl,rfl,_,_,rfl,rfl,qJ (by omega) (by omega),_,rfl,_,_,rfl,rfl,zb (by decide) (by decide),_,_,rfl,rfl,_,_,rfl,rfl,_,_,rfl,rfl,m31,?_⟩
 exact q _ (Int.emod_nonneg _ (by decide)) (Int.emod_lt_of_pos _ m31)
def Qi:Sp:=fun vs H Q _=>∃ (c:Int) (l:Addr) (ls:List Int),vs= [.int c,.ref l]/\H l=some (.lst (ls.map V.int))/\ls.length <= 63/\(∀ z ∈ ls,0 < z/\Sml z)/\
 ∀ (r:Addr) (ns:List Int) (H':Hp),H r=none->dX H H'->Drawn ns ls->H' r=some (.lst (ns.map V.int))->Q (.ref r) H'
theorem zf {a:Adr} (T:Txt w K mg a):bK P w K mg base CX0 2 a.iK a.mW ["_law_cell_here","_law_limits"] Qi:=by
 have zg:=vQ (P:=P) (w:=w) (base:=base) T
 refine T.fZ.fn.ok dD (fun vs H Q E h=>?_) (fun cdv A outer s H vs Q E hr h=>?_)
 · obtain ⟨_,_,_,rfl,_⟩:=h
   rfl
 obtain ⟨c,l,ls,rfl,hl,h63,hz,q⟩:=h
 refine ⟨_,(bG (jH (i:=2) dD.nd rfl (Or.inl rfl) (HB (nA QV (pv 0) (cF Fd bU bU) (bJ _)) (pv 0) bU))
  (bG (jH (i:=3) dD.nd rfl (Or.inl rfl) (cF dm (cF eF (cF kh (aU H9 rfl T.Em boot_abs (ao (pv 0) aJ)) bU) bU) bU))
  (bG (jH (i:=4) dD.nd rfl (Or.inl rfl) (xj aJ))
  (bG (Fb PassesOwn.never rfl (Av (pv 1)) (uq (i:=5) dD.nd rfl (Or.inl rfl))
    (bH (jV (nA CK (pv 2) bU (bJ _)) (bG (ni (De PySem.F.plainAttrs_list PySem.F.slot_list_append PySem.F.type_list_append gU (pv 4) (ao (cF dm (pv 2) (pv 5)) aJ)))
      (bH (jH (i:=2) dD.nd rfl (Or.inl rfl) (cF qX (pv 2) (pv 5))))) (bG (jH (i:=3) dD.nd rfl (Or.inl rfl) (qy T.fj zg (hr.mono (by omega)) rfl (ao (pv 3) (ao (aU cj rfl T.fJ boot_len (ao (pv 4) aJ)) aJ))))
      (bH (ni (De PySem.F.plainAttrs_list PySem.F.slot_list_append PySem.F.type_list_append gU (pv 4) (ao (cF dm (cF qX (pv 3) bU) (pv 5)) aJ))))))))
  (bH (dh (pv 4))))))),?_⟩
 have m31:(0:Int) < 2147483647:=by decide
 have s31:Sml 61:=by unfold Sml;exact Nat.lt_of_lt_of_le (show (61:Int).natAbs < 2 ^ 10 by decide) (Nat.pow_le_pow_right (by decide) (by decide))
 refine ⟨_,rfl,_,_,rfl,rfl,(by show HW 10 18;exact ⟨by decide,by decide,by decide⟩),_,_,rfl,rfl,_,rfl,?_⟩
 refine Dh (fun cc=>?gA) (fun cc=>?gB)
 case' gA=>
  have c0:(0:Int) <= c:=by
   have z:(10:Int) ^ (18:Int).toNat <= c:=of_decide_eq_true cc
   have z2:(0:Int) <= (10:Int) ^ (18:Int).toNat:=by decide
   omega
  refine ⟨_,rfl,?_⟩
 case' gB=>have c0:(0:Int) <= 0:=by decide
 all_goals
  refine ⟨_,rfl,_,rfl,_,_,rfl,rfl,zb (by decide) (by decide),_,_,rfl,rfl,_,_,rfl,rfl,m31,?_⟩
  refine ⟨(by show 0 <= sizeLine;decide),fun r hr'=>?_⟩
  have g0:dX H (upd H r (.lst [])):=nW hr' _
  refine ⟨_,rfl,l,rfl,⟨_,SqL.of (g0 _ _ hl)⟩,HQ (K:=K) (a:=l) (xs:=ls.map V.int) (fun i σ H2=>∃ (rest seed:Int) (ns:List Int) (v:Option V),σ= [some (.int c),some (.ref l),some (.int rest),some (.int seed),some (.ref r),v]/\
   0 <= rest/\0 <= seed/\seed < 2147483647/\dX H H2/\H2 r=some (.lst (ns.map V.int))/\Drawn ns (ls.take i))
   ⟨_,_,[],none,rfl,c0,Int.emod_nonneg _ (by decide),Int.emod_lt_of_pos _ m31,g0,aC,by simpa using Paired.nil⟩ (fun i σ H2 _ ⟨_,_,_,_,_,_,_,_,s2,_⟩=>SqL.of (s2 _ _ hl)) ?_ ?_⟩
  · rintro i y σ H2 hi ⟨rest,seed,ns,v,rfl,r0,s0,s1,s2,hr2,hD⟩
    obtain ⟨z,hzi,rfl⟩:∃ z,ls[i]? =some z/\y=V.int z:=by
     rw [List.getElem?_map] at hi
     cases e:ls[i]? with
     | none=>rw [e] at hi;cases hi
     | some z=>rw [e] at hi;exact ⟨z,rfl,(Option.some.inj hi).symm⟩
    obtain ⟨z0,zS⟩:=hz z (List.mem_of_getElem? hzi)
    have hil:i < ls.length:=(List.getElem?_eq_some_iff.mp hzi).1
    have hlen:ns.length=i:=by have:=hD.length;rw [List.length_take] at this;omega
    have hlt:(ns.map V.int).length < sizeLine:=by rw [List.length_map];exact Fy (by omega)
    have nlr:r ≠ l:=fun e=>by rw [e] at hr';rw [hl] at hr';cases hr'
    have etk:ls.take (i + 1)=ls.take i ++ [z]:=by rw [List.take_add_one,hzi];rfl
    have next:∀ v:Int,0 <= v->v < z->Drawn (ns ++ [v]) (ls.take (i + 1)):=fun v h0 h1=>by rw [etk];exact hD.snoc ⟨h0,h1⟩
    have J8:∀ o,dX H (upd H2 r o):=fun o b u e=>by rw [au (aD e hr')];exact s2 _ _ e
    have em:∀ v:Int,ns.map V.int ++ [V.int v] =(ns ++ [v]).map V.int:=fun v=>by rw [List.map_append];rfl
    refine ⟨_,rfl,_,_,rfl,rfl,_,rfl,?_⟩
    refine Dh (fun cr=>?_) (fun cr=>?_)
    · have cr':0 < rest:=of_decide_eq_true cr
      refine ⟨_,rfl,.inl ⟨rfl,_,SqL.of hr2⟩,_,rfl,_,rfl,_,_,rfl,rfl,z0,r,_,_,rfl,rfl,hr2,hlt,?_⟩
      refine ⟨_,rfl,_,rfl,_,_,rfl,rfl,⟨by omega,zS⟩,?_⟩
      refine ⟨_,seed,ns ++ [rest % z],_,rfl,Int.fdiv_nonneg r0 (by omega),s0,s1,J8 _,by rw [aC,em],next _ (Int.emod_nonneg _ (by omega)) (Int.emod_lt_of_pos _ z0)⟩
    · refine ⟨_,rfl,_,rfl,r,_,rfl,.inl (SqL.of hr2),_,_,rfl,s0,s1,fun sd sd0 sd1=>?_⟩
      refine ⟨_,rfl,.inl ⟨rfl,_,SqL.of hr2⟩,_,rfl,_,_,rfl,rfl,⟨by decide,s31⟩,_,rfl,_,_,rfl,rfl,z0,r,_,_,rfl,rfl,hr2,hlt,?_⟩
      refine ⟨rest,sd,ns ++ [(sd.fdiv 61) % z],_,rfl,r0,sd0,sd1,J8 _,by rw [aC,em],next _ (Int.emod_nonneg _ (by omega)) (Int.emod_lt_of_pos _ z0)⟩
  · rintro σ H2 ⟨rest,seed,ns,v,rfl,r0,s0,s1,s2,hr2,hD⟩
    rw [List.length_map,List.take_length] at hD
    exact ⟨_,rfl,q r ns H2 hr' s2 hD hr2⟩
def Qj (K:PySem.W.Frag):Sp:=fun vs H Q _=>∃ (a:Addr) (ns:List Int) (k:Int),vs= [.ref a,.int k]/\SqL K H a (ns.map V.int)/\ns.length <= 63/\0 <= k/\∀ z:Int,Q (.int z) H
theorem int_at {ns:List Int} {k:Int} (h0:0 <= k) (h1:k < (ns.length:Int)):∃ z:Int,atI (ns.map V.int) k=some (.int z):=by
 have hk:k.toNat < ns.length:=by omega
 have ek:k=((k.toNat:Nat):Int):=by omega
 have q:atI (ns.map V.int) ((k.toNat:Nat):Int)=some (.int ns[k.toNat]):=nG (by rw [List.getElem?_map,List.getElem?_eq_getElem hk] <;> rfl)
 rw [<- ek] at q
 exact ⟨_,q⟩
theorem zj {a:Adr} (T:Txt w K mg a):bK P w K mg base CX0 1 a.iM a.mY ["_law_script","_law_k"] (Qj K):=by
 refine T.f9.fn.ok yV (fun vs H Q E h=>?_) (fun cdv A outer s H vs Q E hr h=>?_)
 · obtain ⟨_,_,_,rfl,_⟩:=h
   rfl
 obtain ⟨l,ns,k,rfl,hS,h63,k0,q⟩:=h
 refine ⟨_,(bG (jV (nA vX (pv 1) (aU cj rfl T.fJ boot_len (ao (pv 0) aJ)) (bJ _)) (bH (dh (sE uz (pv 0) (pv 1) (fun _ _=>rfl)))) ig)
  (bG (jV (nA rZ (aU cj rfl T.fJ boot_len (ao (pv 0) aJ)) bU (bJ _)) (bH (dh (cF kh bU (pv 1)))) ig)
  (bH (dh (cF eF (sE uz (pv 0) (cF dm (pv 1) (aU cj rfl T.fJ boot_len (ao (pv 0) aJ))) (fun _ _=>rfl)) (cF kh bU (pv 1))))))),?_⟩
 have hl:(ns.map V.int).length=ns.length:=List.length_map _
 refine ⟨_,rfl,_,rfl,l,_,rfl,.inl hS,_,_,rfl,rfl,_,rfl,?_⟩
 refine Dh (fun c=>?_) (fun c=>?_)
 · have c':k < (((ns.map V.int).length:Nat):Int):=of_decide_eq_true c
   rw [hl] at c'
   obtain ⟨z,hz⟩:=int_at k0 c'
   exact ⟨_,rfl,_,rfl,l,_,_,_,rfl,rfl,hS,hz,q z⟩
 · refine ⟨_,rfl,l,_,rfl,.inl hS,rfl,_,rfl,?_⟩
   refine Dh (fun c2=>?_) (fun c2=>?_)
   · exact ⟨_,rfl,_,_,rfl,rfl,qJ (by decide) (by decide),q _⟩
   · have c3:¬ V.int (((ns.map V.int).length:Nat):Int)=V.int 0:=fun z=>c2 (decide_eq_true z)
     have c4:0 < ns.length:=by
      rw [hl] at c3
      rcases Nat.eq_zero_or_pos ns.length with z | z
      · rw [z] at c3;exact absurd rfl c3
      · exact z
     have p0:(0:Int) < (((ns.map V.int).length:Nat):Int):=by rw [hl];omega
     obtain ⟨z,hz⟩:=int_at (ns:=ns) (k:=k % (((ns.map V.int).length:Nat):Int)) (Int.emod_nonneg _ (by omega)) (by have:=Int.emod_lt_of_pos k p0;rw [hl] at this ⊢;exact this)
     exact ⟨_,rfl,_,rfl,_,rfl,l,_,rfl,.inl hS,_,_,rfl,rfl,p0,l,_,_,_,rfl,rfl,hS,hz,_,rfl,_,_,rfl,rfl,qJ (by decide) (by decide),_,_,rfl,rfl,q _⟩
theorem m6:∀ {xs ys:List PyData},xs.length ≠ ys.length->PySem.Spec.sameAll xs ys=false
 | [],[],h=>absurd rfl h
 | [],_::_,_=>by simp [PySem.Spec.sameAll]
 | _::_,[],_=>by simp [PySem.Spec.sameAll]
 | x::xs,y::ys,h=>by
   simp only [PySem.Spec.sameAll]
   rw [m6 (xs:=xs) (ys:=ys) (by simpa using h),Bool.and_false]
theorem m7:∀ {xs ys:List PyData},xs.length=ys.length->PySem.Spec.sameAll xs ys=(List.zipWith PySem.Spec.same xs ys).all id
 | [],[],_=>by simp [PySem.Spec.sameAll]
 | [],_::_,h=>by simp at h
 | _::_,[],h=>by simp at h
 | x::xs,y::ys,h=>by
   simp only [PySem.Spec.sameAll,List.zipWith_cons_cons,List.all_cons,id]
   rw [m7 (xs:=xs) (ys:=ys) (by simpa using h)]
def Qk:Sp:=fun vs H Q _=>∃ (x:V) (d:PyData),vs= [x]/\Rep H x d/\Q (.bl (match d with | .int _=>true | _=>false)) H
theorem Ai {a:Adr} (T:Txt w K mg a):bK P w K mg base CX0 1 a.jf a.oR ["_law_found"] Qk:=by
 refine T.iC.fn.ok Af (fun vs H Q E h=>?_) (fun cdv A outer s H vs Q E hr h=>?_)
 · obtain ⟨_,_,rfl,_⟩:=h
   rfl
 obtain ⟨x,d,rfl,rx,q⟩:=h
 refine ⟨_,(bH (dh (m_ (aU dz rfl T.bu boot_isinstance (ao (pv 0) (ao (eE (v:=.ty "int") rfl T.wN boot_int rfl) aJ))) (m9 (M4 (aU dz rfl T.bu boot_isinstance (ao (pv 0) (ao (eE (v:=.ty "bool") rfl T.qm boot_bool rfl) aJ)))))))),?_⟩
 have ty:=rx.ty (K:=K)
 cases rx with
 | int i=>
   refine ⟨_,rfl,_,"int",_,true,rfl,ty,rfl,true,rfl,?_⟩
   refine b_ ?_
   exact ⟨_,rfl,_,"bool",_,false,rfl,ty,rfl,false,rfl,q⟩
 | bl b=>
   refine ⟨_,rfl,_,"int",_,true,rfl,ty,rfl,true,rfl,?_⟩
   refine b_ ?_
   exact ⟨_,rfl,_,"bool",_,true,rfl,ty,rfl,true,rfl,q⟩
 | non=>exact ⟨_,rfl,_,"int",_,false,rfl,ty,rfl,false,rfl,aX q⟩
 | str z=>exact ⟨_,rfl,_,"int",_,false,rfl,ty,rfl,false,rfl,aX q⟩
 | lst e t=>exact ⟨_,rfl,_,"int",_,false,rfl,ty,rfl,false,rfl,aX q⟩
 | tup e t=>exact ⟨_,rfl,_,"int",_,false,rfl,ty,rfl,false,rfl,aX q⟩
def qp (n:Nat):Sp:=fun vs H Q _=>∃ (x y:V) (dx dy:PyData),vs= [x,y]/\Rep H x dx/\Rep H y dy/\dy.depth < n/\∀ H',dX H H'->Q (.bl (PySem.Spec.same dx dy)) H'
theorem same_none {f:Addr} {fd:FuncData}:bK P w K mg base CX0 2 f fd ["_law_found","_law_due"] (qp 0):=by
 have no:∀ vs H Q E,¬ qp 0 vs H Q E:=fun vs H Q E h=>by
  obtain ⟨_,_,_,_,_,_,_,h,_⟩:=h
  exact absurd h (Nat.not_lt_zero _)
 exact ⟨fun vs H Q E h=>absurd h (no vs H Q E),fun A outer s H args us vs Q E _ _ _ _ h=>absurd h (no vs H Q E)⟩
theorem Hf {a:Adr} (T:Txt w K mg a) {n:Nat} (Aj:bK P w K mg base CX0 (n + 2) a.cX a.fW ["_law_found","_law_due"] (qp n)):
 bK P w K mg base CX0 (n + 3) a.cX a.fW ["_law_found","_law_due"] (qp (n + 1)):=by
 have Er:=Ai (P:=P) (w:=w) (base:=base) T
 refine T.d8.fn.ok yW (fun vs H Q E h=>?_) (fun cdv A outer s H vs Q E hr h=>?_)
 · obtain ⟨_,_,_,_,rfl,_⟩:=h
   rfl
 obtain ⟨x,y,dx,dy,rfl,rx,ry,Ql,q⟩:=h
 refine ⟨_,(bG (jV (M3 (Ey (pv 1))) (bH (dh (MT (Ey (pv 0))))) ig)
  (bG (jV (kW (aU dz rfl T.bu boot_isinstance (ao (pv 1) (ao (eE (v:=.ty "bool") rfl T.qm boot_bool rfl) aJ)))) (bH (dh (m_ (aU dz rfl T.bu boot_isinstance (ao (pv 0) (ao (eE (v:=.ty "bool") rfl T.qm boot_bool rfl) aJ))) (m9 (nj rZ (pv 0) (pv 1) (bJ _)))))) ig)
  (bG (jV (kW (aU dz rfl T.bu boot_isinstance (ao (pv 1) (ao (eE (v:=.ty "int") rfl T.wN boot_int rfl) aJ)))) (bH (dh (m_ (qy T.iC Er (hr.mono (by omega)) rfl (ao (pv 0) aJ)) (m9 (nj rZ (pv 0) (pv 1) (bJ _)))))) ig)
  (bG (jV (kW (aU dz rfl T.bu boot_isinstance (ao (pv 1) (ao (eE (v:=.ty "str") rfl T.wQ boot_str rfl) aJ)))) (bH (dh (m_ (aU dz rfl T.bu boot_isinstance (ao (pv 0) (ao (eE (v:=.ty "str") rfl T.wQ boot_str rfl) aJ))) (m9 (nj rZ (pv 0) (pv 1) (bJ _)))))) ig)
  (bG (jV (PW.pt (pw_or (PW.pt (pw_and (kW (aU dz rfl T.bu boot_isinstance (ao (pv 1) (ao (eE (v:=.ty "tuple") rfl T.qI boot_tuple rfl) aJ)))) (pw_and1 (wY (kW (aU dz rfl T.bu boot_isinstance (ao (pv 0) (ao (eE (v:=.ty "tuple") rfl T.qI boot_tuple rfl) aJ)))))))) (pw_or1 (PW.pt (pw_and (kW (aU dz rfl T.bu boot_isinstance (ao (pv 1) (ao (eE (v:=.ty "list") rfl T.nQ boot_list rfl) aJ)))) (pw_and1 (wY (kW (aU dz rfl T.bu boot_isinstance (ao (pv 0) (ao (eE (v:=.ty "list") rfl T.nQ boot_list rfl) aJ))))))))))) (bH (dh JF)) ig)
  (bH (dh (m_ (nj rZ (aU pI rfl T.fJ boot_len (ao (pv 0) aJ)) (aU pI rfl T.fJ boot_len (ao (pv 1) aJ)) (bJ _)) (m9 (aU (lK rfl) rfl T.qH boot_all (ao (Bf (cG (N':=["_law_k","_law_found","_law_due"]) (nt:=1) (idx:=[0,1]) (N:=["_law_found","_law_due"]) (osc:=aa jC) rfl rfl (by decide +kernel)) rfl (lJ rfl T.gb (ao (aU pI rfl T.fJ boot_len (ao (pv 1) aJ)) aJ)) (Dj (fun _ _ _ _=>uq (i:=0) (show List.Nodup (["_law_k","_law_found","_law_due"]:List Str) by decide +kernel) rfl (Or.inl rfl)) (fun _ _ _ _=>Bc) (fun _ _ _ _=>(qy T.d8 Aj (hr.mono (by omega)) rfl (ao (sE (Bh (K:=K) rfl) (pv 1) (pv 0) (fun _ _=>rfl)) (ao (sE (Bh (K:=K) rfl) (pv 2) (pv 0) (fun _ _=>rfl)) aJ)))))) aJ))))))))))),?_⟩
 have tx:=rx.ty (K:=K)
 have ty:=ry.ty (K:=K)
 have q0:=q H (dX.refl H)
 refine ⟨_,rfl,_,rfl,?_⟩
 cases ry with
 | non=>
   refine b_ ?_
   refine ⟨_,rfl,?_⟩
   cases rx <;> exact q0
 | bl b=>
   refine aX ?_
   refine ⟨_,rfl,_,"bool",_,true,rfl,ty,rfl,true,rfl,b_ ?_⟩
   cases rx with
   | bl c=>
     refine ⟨_,rfl,_,"bool",_,true,rfl,tx,rfl,true,rfl,b_ ?_⟩
     refine ⟨_,rfl,_,rfl,rfl,?_⟩
     have e:decide (V.bl c=V.bl b)=(c == b):=Fe
     rw [e]
     simpa [PySem.Spec.same] using q0
   | non=>exact ⟨_,rfl,_,"bool",_,false,rfl,tx,rfl,false,rfl,aX q0⟩
   | int i=>exact ⟨_,rfl,_,"bool",_,false,rfl,tx,rfl,false,rfl,aX q0⟩
   | str z=>exact ⟨_,rfl,_,"bool",_,false,rfl,tx,rfl,false,rfl,aX q0⟩
   | lst e t=>exact ⟨_,rfl,_,"bool",_,false,rfl,tx,rfl,false,rfl,aX q0⟩
   | tup e t=>exact ⟨_,rfl,_,"bool",_,false,rfl,tx,rfl,false,rfl,aX q0⟩
 | int i=>
   refine aX ?_
   refine ⟨_,rfl,_,"bool",_,false,rfl,ty,rfl,false,rfl,aX ?_⟩
   refine ⟨_,rfl,_,"int",_,true,rfl,ty,rfl,true,rfl,b_ ?_⟩
   cases rx with
   | int j=>
     refine ⟨_,rfl,_,_,rfl,.int j,true,rfl,b_ ?_⟩
     refine ⟨_,rfl,_,rfl,rfl,?_⟩
     have e:decide (V.int j=V.int i)=(j == i):=Aw
     rw [e]
     simpa [PySem.Spec.same] using q0
   | non=>exact ⟨_,rfl,_,_,rfl,.non,false,rfl,aX q0⟩
   | bl c=>exact ⟨_,rfl,_,_,rfl,.bl c,false,rfl,aX q0⟩
   | str z=>exact ⟨_,rfl,_,_,rfl,.str z,false,rfl,aX q0⟩
   | lst e t=>exact ⟨_,rfl,_,_,rfl,.lst e t,false,rfl,aX q0⟩
   | tup e t=>exact ⟨_,rfl,_,_,rfl,.tup e t,false,rfl,aX q0⟩
 | str z=>
   refine aX ?_
   refine ⟨_,rfl,_,"bool",_,false,rfl,ty,rfl,false,rfl,aX ?_⟩
   refine ⟨_,rfl,_,"int",_,false,rfl,ty,rfl,false,rfl,aX ?_⟩
   refine ⟨_,rfl,_,"str",_,true,rfl,ty,rfl,true,rfl,b_ ?_⟩
   cases rx with
   | str z'=>
     refine ⟨_,rfl,_,"str",_,true,rfl,tx,rfl,true,rfl,b_ ?_⟩
     refine ⟨_,rfl,_,rfl,rfl,?_⟩
     have e:decide (V.str z'=V.str z)=(z' == z):=Ax
     rw [e]
     simpa [PySem.Spec.same] using q0
   | non=>exact ⟨_,rfl,_,"str",_,false,rfl,tx,rfl,false,rfl,aX q0⟩
   | bl c=>exact ⟨_,rfl,_,"str",_,false,rfl,tx,rfl,false,rfl,aX q0⟩
   | int i=>exact ⟨_,rfl,_,"str",_,false,rfl,tx,rfl,false,rfl,aX q0⟩
   | lst e t=>exact ⟨_,rfl,_,"str",_,false,rfl,tx,rfl,false,rfl,aX q0⟩
   | tup e t=>exact ⟨_,rfl,_,"str",_,false,rfl,tx,rfl,false,rfl,aX q0⟩
 | @lst ay ys dys ey ryA=>
   refine aX ?_
   refine ⟨_,rfl,_,"bool",_,false,rfl,ty,rfl,false,rfl,aX ?_⟩
   refine ⟨_,rfl,_,"int",_,false,rfl,ty,rfl,false,rfl,aX ?_⟩
   refine ⟨_,rfl,_,"str",_,false,rfl,ty,rfl,false,rfl,aX ?_⟩
   refine ⟨_,rfl,_,"tuple",_,false,rfl,ty,rfl,false,rfl,aX ?_⟩
   refine aX ?_
   refine ⟨_,rfl,_,"list",_,true,rfl,ty,rfl,true,rfl,b_ ?_⟩
   cases rx with
   | @lst ax xs dxs ex rxA=>
     refine ⟨_,rfl,_,"list",_,true,rfl,tx,rfl,true,rfl,aX ?_⟩
     have lx:=rxA.length
     have ly:=ryA.length
     refine ⟨_,rfl,ax,_,rfl,.inl (SqL.of ex),fun zx=>⟨_,rfl,ay,_,rfl,.inl (SqL.of ey),fun zy=>⟨rfl,_,rfl,?_⟩⟩⟩
     have ez:sizeLine=16777216:=sizeLine_eq
     by_cases hl:xs.length=ys.length
     · have el:V.int (xs.length:Int)=V.int (ys.length:Int):=by rw [hl]
       rw [if_pos (decide_eq_true el)]
       have hld:dxs.length=dys.length:=by omega
       refine ⟨_,rfl,ay,_,rfl,.inl (SqL.of ey),fun _=>⟨_,rfl,by omega,by omega,fun D hD=>?_⟩⟩
       have s0:∀ o,dX H (upd H D o):=fun o=>nW hD o
       refine xN (fun i H2=>dX H H2/\H2 D=some (.lst (((List.zipWith PySem.Spec.same dxs dys).take i).map V.bl))) ⟨s0 _,aC⟩ ?_ ?_
       · rintro i H2 hi ⟨s2,hD2⟩
         have hi':i < ys.length:=by simpa using hi
         have hix:i < xs.length:=by omega
         obtain ⟨d1,e1,r1⟩:=rxA.xx (i:=i) (List.getElem?_eq_getElem hix)
         obtain ⟨d2,e2,r2⟩:=ryA.xx (i:=i) (List.getElem?_eq_getElem hi')
         have ax1:atI xs ((0:Int) + (i:Int))=some xs[i]:=by rw [Int.zero_add];exact nG (List.getElem?_eq_getElem hix)
         have ay1:atI ys ((0:Int) + (i:Int))=some ys[i]:=by rw [Int.zero_add];exact nG (List.getElem?_eq_getElem hi')
         have hdi:d2.depth < n:=by
          have z1:=PyData.depth_le_depthAll dys d2 (List.mem_of_getElem? e2)
          have z2:PyData.depthAll dys + 1 < n + 1:=by simpa only [PyData.depth] using Ql
          omega
         refine ⟨⟨rfl,rfl,trivial⟩,?_⟩
         refine ⟨_,rfl,_,rfl,.inl ⟨ax,_,_,_,rfl,rfl,SqL.of (s2 _ _ ex),ax1,_,rfl,_,rfl,.inl ⟨ay,_,_,_,rfl,rfl,SqL.of (s2 _ _ ey),ay1,xs[i],ys[i],d1,d2,rfl,r1.mono s2,r2.mono s2,hdi,fun H3 s3=>?_⟩⟩⟩
         refine ⟨_,s3 _ _ hD2,?_,fun b o e=>?_,?_⟩
         · rw [List.length_map,List.length_take];omega
         · rw [au (aD e hD)];exact s3 _ _ (s2 _ _ e)
         · rw [aC]
           have ez:(List.zipWith PySem.Spec.same dxs dys)[i]? =some (PySem.Spec.same d1 d2):=by rw [List.getElem?_zipWith,e1,e2]
           rw [List.take_add_one,ez,List.map_append]
           rfl
       · rintro H2 ⟨s2,hD2⟩
         have et:(List.zipWith PySem.Spec.same dxs dys).take ((ys.length:Int).toNat)=List.zipWith PySem.Spec.same dxs dys:=List.take_of_length_le (by rw [List.length_zipWith];omega)
         rw [et] at hD2
         refine ⟨D,_,rfl,hD2,?_⟩
         have es:=m7 hld
         show Q (.bl ((List.zipWith PySem.Spec.same dxs dys).all id)) H2
         rw [<- es]
         have qq:=q H2 s2
         simpa only [PySem.Spec.same] using qq
     · have el:¬ V.int (xs.length:Int)=V.int (ys.length:Int):=fun z=>hl (by injection z;omega)
       rw [decide_eq_false el]
       refine aX ?_
       have es:=m6 (xs:=dxs) (ys:=dys) (by omega)
       have qq:=q0
       simp only [PySem.Spec.same] at qq
       rw [es] at qq
       exact qq
   | non=>exact ⟨_,rfl,_,"list",_,false,rfl,tx,rfl,false,rfl,b_ q0⟩
   | bl c=>exact ⟨_,rfl,_,"list",_,false,rfl,tx,rfl,false,rfl,b_ q0⟩
   | int i=>exact ⟨_,rfl,_,"list",_,false,rfl,tx,rfl,false,rfl,b_ q0⟩
   | str z=>exact ⟨_,rfl,_,"list",_,false,rfl,tx,rfl,false,rfl,b_ q0⟩
   | tup e t=>exact ⟨_,rfl,_,"list",_,false,rfl,tx,rfl,false,rfl,b_ q0⟩
 | @tup ay ys dys ey ryA=>
   refine aX ?_
   refine ⟨_,rfl,_,"bool",_,false,rfl,ty,rfl,false,rfl,aX ?_⟩
   refine ⟨_,rfl,_,"int",_,false,rfl,ty,rfl,false,rfl,aX ?_⟩
   refine ⟨_,rfl,_,"str",_,false,rfl,ty,rfl,false,rfl,aX ?_⟩
   refine ⟨_,rfl,_,"tuple",_,true,rfl,ty,rfl,true,rfl,b_ ?_⟩
   cases rx with
   | @tup ax xs dxs ex rxA=>
     refine ⟨_,rfl,_,"tuple",_,true,rfl,tx,rfl,true,rfl,aX ?_⟩
     refine ⟨_,rfl,_,"list",_,false,rfl,ty,rfl,false,rfl,aX ?_⟩
     have lx:=rxA.length
     have ly:=ryA.length
     refine ⟨_,rfl,ax,_,rfl,.inr (SqT.of ex),fun zx=>⟨_,rfl,ay,_,rfl,.inr (SqT.of ey),fun zy=>⟨rfl,_,rfl,?_⟩⟩⟩
     have ez:sizeLine=16777216:=sizeLine_eq
     by_cases hl:xs.length=ys.length
     · have el:V.int (xs.length:Int)=V.int (ys.length:Int):=by rw [hl]
       rw [if_pos (decide_eq_true el)]
       have hld:dxs.length=dys.length:=by omega
       refine ⟨_,rfl,ay,_,rfl,.inr (SqT.of ey),fun _=>⟨_,rfl,by omega,by omega,fun D hD=>?_⟩⟩
       have s0:∀ o,dX H (upd H D o):=fun o=>nW hD o
       refine xN (fun i H2=>dX H H2/\H2 D=some (.lst (((List.zipWith PySem.Spec.same dxs dys).take i).map V.bl))) ⟨s0 _,aC⟩ ?_ ?_
       · rintro i H2 hi ⟨s2,hD2⟩
         have hi':i < ys.length:=by simpa using hi
         have hix:i < xs.length:=by omega
         obtain ⟨d1,e1,r1⟩:=rxA.xx (i:=i) (List.getElem?_eq_getElem hix)
         obtain ⟨d2,e2,r2⟩:=ryA.xx (i:=i) (List.getElem?_eq_getElem hi')
         have ax1:atI xs ((0:Int) + (i:Int))=some xs[i]:=by rw [Int.zero_add];exact nG (List.getElem?_eq_getElem hix)
         have ay1:atI ys ((0:Int) + (i:Int))=some ys[i]:=by rw [Int.zero_add];exact nG (List.getElem?_eq_getElem hi')
         have hdi:d2.depth < n:=by
          have z1:=PyData.depth_le_depthAll dys d2 (List.mem_of_getElem? e2)
          have z2:PyData.depthAll dys + 1 < n + 1:=by simpa only [PyData.depth] using Ql
          omega
         refine ⟨⟨rfl,rfl,trivial⟩,?_⟩
         refine ⟨_,rfl,_,rfl,.inr (.inl ⟨ax,_,_,_,rfl,rfl,SqT.of (s2 _ _ ex),ax1,_,rfl,_,rfl,.inr (.inl ⟨ay,_,_,_,rfl,rfl,SqT.of (s2 _ _ ey),ay1,xs[i],ys[i],d1,d2,rfl,r1.mono s2,r2.mono s2,hdi,fun H3 s3=>?_⟩)⟩)⟩
         refine ⟨_,s3 _ _ hD2,?_,fun b o e=>?_,?_⟩
         · rw [List.length_map,List.length_take];omega
         · rw [au (aD e hD)];exact s3 _ _ (s2 _ _ e)
         · rw [aC]
           have ez:(List.zipWith PySem.Spec.same dxs dys)[i]? =some (PySem.Spec.same d1 d2):=by rw [List.getElem?_zipWith,e1,e2]
           rw [List.take_add_one,ez,List.map_append]
           rfl
       · rintro H2 ⟨s2,hD2⟩
         have et:(List.zipWith PySem.Spec.same dxs dys).take ((ys.length:Int).toNat)=List.zipWith PySem.Spec.same dxs dys:=List.take_of_length_le (by rw [List.length_zipWith];omega)
         rw [et] at hD2
         refine ⟨D,_,rfl,hD2,?_⟩
         have es:=m7 hld
         show Q (.bl ((List.zipWith PySem.Spec.same dxs dys).all id)) H2
         rw [<- es]
         have qq:=q H2 s2
         simpa only [PySem.Spec.same] using qq
     · have el:¬ V.int (xs.length:Int)=V.int (ys.length:Int):=fun z=>hl (by injection z;omega)
       rw [decide_eq_false el]
       refine aX ?_
       have es:=m6 (xs:=dxs) (ys:=dys) (by omega)
       have qq:=q0
       simp only [PySem.Spec.same] at qq
       rw [es] at qq
       exact qq
   | non=>exact ⟨_,rfl,_,"tuple",_,false,rfl,tx,rfl,false,rfl,b_ (b_ q0)⟩
   | bl c=>exact ⟨_,rfl,_,"tuple",_,false,rfl,tx,rfl,false,rfl,b_ (b_ q0)⟩
   | int i=>exact ⟨_,rfl,_,"tuple",_,false,rfl,tx,rfl,false,rfl,b_ (b_ q0)⟩
   | str z=>exact ⟨_,rfl,_,"tuple",_,false,rfl,tx,rfl,false,rfl,b_ (b_ q0)⟩
   | lst e t=>exact ⟨_,rfl,_,"tuple",_,false,rfl,tx,rfl,false,rfl,b_ (b_ q0)⟩
theorem qt {a:Adr} (T:Txt w K mg a):∀ n:Nat,bK P w K mg base CX0 (n + 2) a.cX a.fW ["_law_found","_law_due"] (qp n)
 | 0=>same_none
 | n + 1=>Hf T (qt T n)
end
section
open Ev
variable {P:Program} {w:World} {K:PySem.W.Frag} {mg:Str->Option Value} {base:Heap}
abbrev Fq (P:Program) (w:World) (K:PySem.W.Frag) (mg:Str->Option Value) (base:Heap) (a:Adr) (n d:Nat) (f:Addr) (fd:FuncData) (ps:List Str) (i:Nat):Prop:=bK P w K mg base (CXE P w) n f fd ps (spF Pg (cn a) d i)
variable {a:Adr} {d:Nat}
structure All (P:Program) (w:World) (K:PySem.W.Frag) (mg:Str->Option Value) (base:Heap) (a:Adr) (d:Nat):Prop where
 qR:Fq P w K mg base a (4 * d + 8) d a.fV a.jD ["m"] 0
 zm:Fq P w K mg base a (4 * d + 8) d a.eY a.jd ["numbers"] 1
 zp:Fq P w K mg base a (4 * d + 8) d a.ju a.oO ["m","pairs"] 2
 zq:Fq P w K mg base a (4 * d + 8) d a.eZ a.je ["m","pairs"] 3
 t6:Fq P w K mg base a (4 * d + 8) d a.iy a.j8 ["numbers"] 4
 t7:Fq P w K mg base a (4 * d + 8) d a.iz a.j9 ["m"] 5
 uW:Fq P w K mg base a (4 * d + 8) d a.c7 a.iB ["_law_number"] 6
 qT:Fq P w K mg base a (4 * d + 8) d a.fX a.jF ["_law_m","_law_x","_law_y"] 7
 qL:Fq P w K mg base a (4 * d + 8) d a.cD a.d_ ["_law_m","_law_pairs"] 8
 t8:Fq P w K mg base a (4 * d + 8) d a.cP a.gK ["_law_m"] 9
theorem all_zero {a:Adr}:All P w K mg base a 0:=⟨fU,fU,fU,fU,fU,fU,fU,fU,fU,fU⟩
theorem zu (T:Txt w K mg a) (A0:All P w K mg base a d):Fq P w K mg base a (4 * (d + 1) + 8) (d + 1) a.fV a.jD ["m"] 0:=by
 refine (jy (k:=4 * d + 11) T.d7.fn yU rfl fun σ0 cdv A outer s H E hr hp=>?_).mono (by omega)
 exact (ak (jx (PW.pt (wg (fL (IW (K:=K)) (L2.OpR.or vX (xq hr.w6)) (dv 0) (pN (Ar (v:=.int 3) rfl T.za ⟨_,rfl⟩) (.int 3)) (bJ _)) (wg (fL Oq CK (dv 0) (pN (Ar (v:=.int 11) rfl T.tZ ⟨_,rfl⟩) (.int 11)) (bJ _)) (pw_or1 (fL I9 (xF hr.units) (bM lU dm (dv 0) aH) aH (bJ _)))))) (ak (Jh ⟨rfl,rfl,rfl⟩ rfl rfl T.oU (Ep T) (hr.mono (by omega)) T.o9 rfl T.El)
  aA) aA)
  aA)
theorem vR (T:Txt w K mg a) (A0:All P w K mg base a d):Fq P w K mg base a (4 * (d + 1) + 8) (d + 1) a.eY a.jd ["numbers"] 1:=by
 refine (jy (k:=4 * d + 11) T.e_.fn vM rfl fun σ0 cdv A outer s H E hr hp=>?_).mono (by omega)
 exact (ak (cH (pQ I9 (xF hr.units) (vp hr.hd rfl T.fJ rfl T.wO (dv 0)) (dB (v_ (K:=K)) cj rfl T.fJ boot_len (aG (dv 0) az)) (bJ _)))
  aA)
theorem Hg (T:Txt w K mg a) (A0:All P w K mg base a d):Fq P w K mg base a (4 * (d + 1) + 8) (d + 1) a.ju a.oO ["m","pairs"] 2:=by
 refine (jy (k:=4 * d + 11) T.fG.fn vD rfl fun σ0 cdv A outer s H E hr hp=>?_).mono (by omega)
 exact (ak (iu 2 vD.nd (bM lV (L2.OpR.or eF jK) (cR (cG (N':=["x","y","m"]) (nt:=2) (idx:=[0]) (N:=["m","pairs","ways"]) (osc:=aa lC) rfl rfl (by decide +kernel)) rfl b7 (bI rfl (dv 1)) (fun C0 s0 H0 fp0=>(iI rfl (bh (aY 0 (show List.Nodup (["x","y","m"]:List Str) by decide +kernel)) (bh (aY 1 (show List.Nodup (["x","y","m"]:List Str) by decide +kernel)) fQ)))) (fun C0 s0 H0 fp0=>cZ) (fun C0 s0 H0 fp0=>(bM lU dm (bM jZ iY (dv 0) (dv 1)) (dv 2))) (by decide)) (cR (cG (N':=["x","y","m"]) (nt:=2) (idx:=[0]) (N:=["m","pairs","ways"]) (osc:=aa lC) rfl rfl (by decide +kernel)) rfl b7 (bI rfl (dv 1)) (fun C0 s0 H0 fp0=>(iI rfl (bh (aY 0 (show List.Nodup (["x","y","m"]:List Str) by decide +kernel)) (bh (aY 1 (show List.Nodup (["x","y","m"]:List Str) by decide +kernel)) fQ)))) (fun C0 s0 H0 fp0=>cZ) (fun C0 s0 H0 fp0=>(bM lU dm (bM jZ iY (dv 1) (dv 0)) (dv 2))) (by decide))))
  (ak (cH (jA A0.zm T.e_ hr hp (aG (dv 2) az)))
  aA))
theorem vU (T:Txt w K mg a) (A0:All P w K mg base a d):Fq P w K mg base a (4 * (d + 1) + 8) (d + 1) a.eZ a.je ["m","pairs"] 3:=by
 refine (jy (k:=4 * d + 11) T.cN.fn o5 rfl fun σ0 cdv A outer s H E hr hp=>?_).mono (by omega)
 exact (ak (kJ (jA A0.qR T.d7 hr hp (aG (dv 0) az)))
  (ak (Ja (i:=2) o5.nd rfl (Or.inl rfl) (cG (N':=["pair","number"]) (nt:=2) (idx:=[]) (N:=["m","pairs","numbers"]) (osc:=aa g_) rfl rfl (by decide +kernel)) rfl b7 (bI rfl (dv 1)) (fun C0 s0 H0 fp0=>(aY 0 (show List.Nodup (["pair","number"]:List Str) by decide +kernel))) (fun C0 s0 H0 fp0=>cZ) b7 (fun C0 s0 H0 fp0=>(bI rfl (dv 0))) (fun C0 s0 H0 fp0=>(aY 1 (show List.Nodup (["pair","number"]:List Str) by decide +kernel))) (fun C0 s0 H0 fp0=>cZ) (fun C0 s0 H0 fp0=>(dv 1)) (by decide) (by decide))
  (ak (jx (fL rz (kZ hr.units) (dB (Jp (K:=K)) yz rfl T.oV boot_sorted (aG (dv 2) az)) (BP hr.hd rfl T.nQ rfl T.gb aH (dv 0)) (bJ _)) (ak (cH n8)
  aA) aA)
  (ak (jx (PW.pt (wg (jm (dB Ri (FN rfl) rfl T.En boot_any (dR (cR (cG (N':=["x","y"]) (nt:=2) (idx:=[]) (N:=["m","pairs","numbers"]) (osc:=aa g_) rfl rfl (by decide +kernel)) rfl b7 (bI rfl (dv 1)) (fun C0 s0 H0 fp0=>(iI rfl (bh (aY 0 (show List.Nodup (["x","y"]:List Str) by decide +kernel)) (bh (aY 1 (show List.Nodup (["x","y"]:List Str) by decide +kernel)) fQ)))) (fun C0 s0 H0 fp0=>cZ) (fun C0 s0 H0 fp0=>(pQ Oq CK (dv 0) (dv 1) (bJ _))) (by decide)) az)) (fun _=>rfl)) (pw_or1 (fL rz (kZ hr.units) (dv 1) (dB (G5 (K:=K)) yK rfl T.oV boot_sorted (aG (dv 1) az)) (bJ _))))) (ak (cH n8)
  aA) aA)
  (ak (cH (jA A0.zp T.fG hr hp (aG (dv 0) (aG (dv 1) az))))
  aA)))))
theorem Ak (T:Txt w K mg a) (A0:All P w K mg base a d):Fq P w K mg base a (4 * (d + 1) + 8) (d + 1) a.iy a.j8 ["numbers"] 4:=by
 refine (jy (k:=4 * d + 11) T.fH.fn iJ rfl fun σ0 cdv A outer s H E hr hp=>?_).mono (by omega)
 exact (ak (jx (sZ (jm (dv 0) (fun _=>rfl))) (ak (cH (dW (uL (dW az) az)))
  aA) aA)
  (ak (iu 1 iJ.nd (dW az))
  (ak (jO PassesOwn.leaving rfl b7 (bI rfl (rB (dv 0) (uG aH) uF)) (aY 2 iJ.nd)
  (ak (rD (i:=3) iJ.nd rfl (Or.inl rfl) (cG (N':=["number","partner"]) (nt:=1) (idx:=[2]) (N:=["numbers","found","partner","others","rest"]) (osc:=aa j6) rfl rfl (by decide +kernel)) rfl b7 (bI rfl (rB (dv 0) (uG aH) uF)) (fun C0 s0 H0 fp0=>(aY 0 (show List.Nodup (["number","partner"]:List Str) by decide +kernel))) (fun C0 s0 H0 fp0=>(qD (fL rz (kZ hr.units) (dv 0) (dv 1) (bJ _)))) (fun C0 s0 H0 fp0=>(dv 0)) (by decide))
  (ak (jO PassesOwn.leaving rfl b7 (bI rfl (jA A0.t6 T.fH hr hp (aG (dv 3) az))) (aY 4 iJ.nd)
  (ak (kJ (tH n_ PySem.F.slot_list_append PySem.F.type_list_append gU (dv 1) (iR (bM lV (L2.OpR.or eF jK) (dW (rG (tD (jc (j0 (dv 0) aH) (aG (dv 2) az))) az)) (dv 4)) az)))
  aA))
  aA)))
  (ak (cH (dv 1))
  aA))))
theorem Al (T:Txt w K mg a) (A0:All P w K mg base a d):Fq P w K mg base a (4 * (d + 1) + 8) (d + 1) a.iz a.j9 ["m"] 5:=by
 refine (jy (k:=4 * d + 11) T.cW.fn Ae rfl fun σ0 cdv A outer s H E hr hp=>?_).mono (by omega)
 exact (ak (kJ (jA A0.qR T.d7 hr hp (aG (dv 0) az)))
  (ak (cH (cR (cG (N':=["pairs","m"]) (nt:=1) (idx:=[0]) (N:=["m"]) (osc:=aa j7) rfl rfl (by decide +kernel)) rfl b7 (bI rfl (jA A0.t6 T.fH hr hp (Le (BP hr.hd rfl T.nQ rfl T.gb aH (dv 0)) az))) (fun C0 s0 H0 fp0=>(aY 0 (show List.Nodup (["pairs","m"]:List Str) by decide +kernel))) (fun C0 s0 H0 fp0=>(qD (jm (kO (A0.zp) (hr.mono (by omega)) rfl T.fG.mg T.fG.fn.kp T.fG.bd oA (aG (dv 1) (aG (dv 0) az))) (fun _=>rfl)))) (fun C0 s0 H0 fp0=>(dv 0)) (by decide)))
  aA))
theorem t_ (T:Txt w K mg a) (A0:All P w K mg base a d):Fq P w K mg base a (4 * (d + 1) + 8) (d + 1) a.c7 a.iB ["_law_number"] 6:=by
 refine (jy (k:=4 * d + 11) T.dg.fn tV rfl fun σ0 cdv A outer s H E hr hp=>?_).mono (by omega)
 exact (ak (cH (j0 (dW (aK aH (aK aH (aK aH (aK aH (aK aH az)))))) (bM lU dm (dv 0) aH)))
  aA)
theorem zA (T:Txt w K mg a) (A0:All P w K mg base a d):Fq P w K mg base a (4 * (d + 1) + 8) (d + 1) a.fX a.jF ["_law_m","_law_x","_law_y"] 7:=by
 refine (jy (k:=4 * d + 11) T.cL.fn yZ rfl fun σ0 cdv A outer s H E hr hp=>?_).mono (by omega)
 exact (ak (cH (dB Rj (Ff rfl) rfl T.Eo boot_min (iR (bM lU dm (bM jZ iY (dv 2) (dv 1)) (dv 0)) (iR (bM lU dm (bM jZ iY (dv 1) (dv 2)) (dv 0)) az))))
  aA)
theorem qu (T:Txt w K mg a) (A0:All P w K mg base a d):Fq P w K mg base a (4 * (d + 1) + 8) (d + 1) a.cD a.d_ ["_law_m","_law_pairs"] 8:=by
 refine (jy (k:=4 * d + 11) T.bF.fn b8 rfl fun σ0 cdv A outer s H E hr hp=>?_).mono (by omega)
 exact (ak (iu 2 b8.nd (dW az))
  (ak (jO PassesOwn.leaving rfl b7 (bI rfl (dv 1)) (iI rfl (bh (aY 3 b8.nd) (bh (aY 4 b8.nd) fQ)))
  (ak (iu 2 b8.nd (bM lV (L2.OpR.or eF jK) (dv 2) (dW (aG (dv 3) (aG (dv 4) az)))))
  aA))
  (ak (jx (PW.pt (wg (fL rz (kZ hr.units) (cR (cG (N':=["_law_number","_law_numbers"]) (nt:=1) (idx:=[2]) (N:=["_law_m","_law_pairs","_law_numbers","_law_x","_law_y","_law_both"]) (osc:=aa bD) rfl rfl (by decide +kernel)) rfl Bx (uZ rfl T.gb (aK aH (aG (dv 0) az))) (fun C0 s0 H0 fp0=>(aY 0 (show List.Nodup (["_law_number","_law_numbers"]:List Str) by decide +kernel))) (fun C0 s0 H0 fp0=>(qD (fL rz (kZ hr.units) (tH Lj PySem.F.slot_list_count PySem.F.type_list_count Jo (dv 1) (aG (dv 0) az)) aH (bJ _)))) (fun C0 s0 H0 fp0=>(dv 0)) (by decide)) (dW az) (bJ _)) (pw_or1 (fL rz (kZ hr.units) (dB (v_ (K:=K)) cj rfl T.fJ boot_len (aG (dv 2) az)) (bM jZ iY (dv 0) aH) (bJ _))))) (ak (cH n8)
  aA) aA)
  (ak (jx (sZ (jm (dB Dz (lK rfl) rfl T.qH boot_all (dR (cR (cG (N':=["_law_x","_law_y"]) (nt:=2) (idx:=[]) (N:=["_law_m","_law_pairs","_law_numbers","_law_x","_law_y","_law_both"]) (osc:=aa bD) rfl rfl (by decide +kernel)) rfl b7 (bI rfl (dv 1)) (fun C0 s0 H0 fp0=>(iI rfl (bh (aY 0 (show List.Nodup (["_law_x","_law_y"]:List Str) by decide +kernel)) (bh (aY 1 (show List.Nodup (["_law_x","_law_y"]:List Str) by decide +kernel)) fQ)))) (fun C0 s0 H0 fp0=>cZ) (fun C0 s0 H0 fp0=>(pQ (IW (K:=K)) (L2.OpR.or vX (xq hr.w6)) (dv 0) (dv 1) (bJ _))) (by decide)) az)) (fun _=>rfl))) (ak (cH n8)
  aA) aA)
  (ak (jx (sZ (jm (dB Dz (lK rfl) rfl T.qH boot_all (dR (cR (cG (N':=["_law_k","_law_pairs"]) (nt:=1) (idx:=[1]) (N:=["_law_m","_law_pairs","_law_numbers","_law_x","_law_y","_law_both"]) (osc:=aa bD) rfl rfl (by decide +kernel)) rfl uH (lJ rfl T.gb (iR (bM jZ iY (dB (v_ (K:=K)) cj rfl T.fJ boot_len (aG (dv 1) az)) aH) az)) (fun C0 s0 H0 fp0=>(aY 0 (show List.Nodup (["_law_k","_law_pairs"]:List Str) by decide +kernel))) (fun C0 s0 H0 fp0=>cZ) (fun C0 s0 H0 fp0=>(pQ (IW (K:=K)) (L2.OpR.or vX (xq hr.w6)) (j0 (dv 1) (dv 0)) (j0 (dv 1) (bM lV (L2.OpR.or eF jK) (dv 0) aH)) (bJ _))) (by decide)) az)) (fun _=>rfl))) (ak (cH n8)
  aA) aA)
  (ak (iu 5 b8.nd (bM lV (L2.OpR.or eF jK) (cR (cG (N':=["_law_x","_law_y","_law_m"]) (nt:=2) (idx:=[0]) (N:=["_law_m","_law_pairs","_law_numbers","_law_x","_law_y","_law_both"]) (osc:=aa bD) rfl rfl (by decide +kernel)) rfl b7 (bI rfl (dv 1)) (fun C0 s0 H0 fp0=>(iI rfl (bh (aY 0 (show List.Nodup (["_law_x","_law_y","_law_m"]:List Str) by decide +kernel)) (bh (aY 1 (show List.Nodup (["_law_x","_law_y","_law_m"]:List Str) by decide +kernel)) fQ)))) (fun C0 s0 H0 fp0=>cZ) (fun C0 s0 H0 fp0=>(bM lU dm (bM jZ iY (dv 0) (dv 1)) (dv 2))) (by decide)) (cR (cG (N':=["_law_x","_law_y","_law_m"]) (nt:=2) (idx:=[0]) (N:=["_law_m","_law_pairs","_law_numbers","_law_x","_law_y","_law_both"]) (osc:=aa bD) rfl rfl (by decide +kernel)) rfl b7 (bI rfl (dv 1)) (fun C0 s0 H0 fp0=>(iI rfl (bh (aY 0 (show List.Nodup (["_law_x","_law_y","_law_m"]:List Str) by decide +kernel)) (bh (aY 1 (show List.Nodup (["_law_x","_law_y","_law_m"]:List Str) by decide +kernel)) fQ)))) (fun C0 s0 H0 fp0=>cZ) (fun C0 s0 H0 fp0=>(bM lU dm (bM jZ iY (dv 1) (dv 0)) (dv 2))) (by decide))))
  (ak (cH (pQ I9 (xF hr.units) (vp hr.hd rfl T.fJ rfl T.wO (dv 5)) (dB (v_ (K:=K)) cj rfl T.fJ boot_len (aG (dv 5) az)) (bJ _)))
  aA)))))))
theorem rN (T:Txt w K mg a) (A0:All P w K mg base a d):Fq P w K mg base a (4 * (d + 1) + 8) (d + 1) a.cP a.gK ["_law_m"] 9:=by
 refine (jy (k:=4 * d + 11) T.cQ.fn a_ rfl fun σ0 cdv A outer s H E hr hp=>?_).mono (by omega)
 exact (ak (iu 1 a_.nd (dW (uL (dW az) az)))
  (ak (jO PassesOwn.leaving rfl uH (lJ rfl T.gb (iR (bM Om qX (bM jZ iY (dv 0) aH) aH) az)) (aY 2 a_.nd)
  (ak (iu 3 a_.nd (dW az))
  (ak (jO PassesOwn.leaving rfl b7 (bI rfl (dv 1)) (aY 4 a_.nd)
  (ak (iu 5 a_.nd (bM lV (L2.OpR.or eF jK) (cR (cG (N':=["_law_x","_law_y"]) (nt:=2) (idx:=[]) (N:=["_law_m","_law_rows","_law_turn","_law_fresh","_law_row","_law_used","_law_left","_law_other","_law_steps"]) (osc:=aa cB) rfl rfl (by decide +kernel)) rfl b7 (bI rfl (dv 4)) (fun C0 s0 H0 fp0=>(iI rfl (bh (aY 0 (show List.Nodup (["_law_x","_law_y"]:List Str) by decide +kernel)) (bh (aY 1 (show List.Nodup (["_law_x","_law_y"]:List Str) by decide +kernel)) fQ)))) (fun C0 s0 H0 fp0=>cZ) (fun C0 s0 H0 fp0=>(dv 0)) (by decide)) (cR (cG (N':=["_law_x","_law_y"]) (nt:=2) (idx:=[]) (N:=["_law_m","_law_rows","_law_turn","_law_fresh","_law_row","_law_used","_law_left","_law_other","_law_steps"]) (osc:=aa cB) rfl rfl (by decide +kernel)) rfl b7 (bI rfl (dv 4)) (fun C0 s0 H0 fp0=>(iI rfl (bh (aY 0 (show List.Nodup (["_law_x","_law_y"]:List Str) by decide +kernel)) (bh (aY 1 (show List.Nodup (["_law_x","_law_y"]:List Str) by decide +kernel)) fQ)))) (fun C0 s0 H0 fp0=>cZ) (fun C0 s0 H0 fp0=>(dv 1)) (by decide))))
  (ak (rD (i:=6) a_.nd rfl (Or.inl rfl) (cG (N':=["_law_number","_law_used"]) (nt:=1) (idx:=[5]) (N:=["_law_m","_law_rows","_law_turn","_law_fresh","_law_row","_law_used","_law_left","_law_other","_law_steps"]) (osc:=aa cB) rfl rfl (by decide +kernel)) rfl Bx (uZ rfl T.gb (aK aH (aG (dv 0) az))) (fun C0 s0 H0 fp0=>(aY 0 (show List.Nodup (["_law_number","_law_used"]:List Str) by decide +kernel))) (fun C0 s0 H0 fp0=>(qD (fL (Bp (K:=K)) pG (dv 0) (dv 1) rfl))) (fun C0 s0 H0 fp0=>(dv 0)) (by decide))
  (ak (jO PassesOwn.leaving rfl b7 (bI rfl (rB (dv 6) (uG aH) uF)) (aY 7 a_.nd)
  (ak (rD (i:=8) a_.nd rfl (Or.inl rfl) (cG (N':=["_law_x","_law_y","_law_m"]) (nt:=2) (idx:=[0]) (N:=["_law_m","_law_rows","_law_turn","_law_fresh","_law_row","_law_used","_law_left","_law_other","_law_steps"]) (osc:=aa cB) rfl rfl (by decide +kernel)) rfl b7 (bI rfl (dv 4)) (fun C0 s0 H0 fp0=>(iI rfl (bh (aY 0 (show List.Nodup (["_law_x","_law_y","_law_m"]:List Str) by decide +kernel)) (bh (aY 1 (show List.Nodup (["_law_x","_law_y","_law_m"]:List Str) by decide +kernel)) fQ)))) (fun C0 s0 H0 fp0=>cZ) (fun C0 s0 H0 fp0=>(kO (A0.qT) (hr.mono (by omega)) rfl T.cL.mg T.cL.fn.kp T.cL.bd oA (aG (dv 2) (aG (dv 0) (aG (dv 1) az))))) (by decide))
  (ak (jx (fL (Bp (K:=K)) pG (jA A0.qT T.cL hr hp (aG (dv 0) (jc (j0 (dv 6) aH) (aG (dv 7) az)))) (dv 8) rfl) (ak (kJ (tH n_ PySem.F.slot_list_append PySem.F.type_list_append gU (dv 3) (iR (bM lV (L2.OpR.or eF jK) (dv 4) (dW (rG (tD (jc (j0 (dv 6) aH) (aG (dv 7) az))) az))) az)))
  aA) aA)
  aA)))
  aA))))
  (ak (iu 1 a_.nd (dv 3))
  aA))))
  (ak (cH (dv 1))
  aA)))
theorem Jy {a:Adr} {d:Nat} (T:Txt w K mg a) (A0:All P w K mg base a d):All P w K mg base a (d + 1):=⟨zu T A0,vR T A0,Hg T A0,vU T A0,Ak T A0,Al T A0,t_ T A0,zA T A0,qu T A0,rN T A0⟩
theorem zB {a:Adr} (T:Txt w K mg a):∀ d,All P w K mg base a d
 | 0=>all_zero
 | d + 1=>Jy T (zB T d)
end
end My
set_option maxRecDepth 1000000
set_option maxHeartbeats 4000000
namespace My
open PySem L2 PyProof.Rows
open Ev
noncomputable def tl0:List S:=[(.asg (.nm 2) (.call 6 [(.pr .ix [(.var 1),(.cst (.int 0))])]))]
noncomputable def tl1:List S:=[(.asg (.nm 3) (.call 9 [(.var 2)]))]
noncomputable def tl2:List S:=[(.for_ (.uD [(.cst (.int 2))]) (.nm 4) [(.asg (.nm 5) (.call 5 [(.var 2)])),
 (.ife (.pr .pJ [(.pr .truth [(.pr .same [(.var 5),(.var 3)])])]) [(.ret (.cst (.bl false)))] []),
 (.for_ (.seq (.var 5)) (.nm 6) [(.expr (.lm .append (.var 6) [(.pr .tup [(.cst (.int 0)),(.cst (.int 0))])]))]),
 (.expr (.lm .append (.var 5) [(.pr .lst [])]))]),
 (.asg (.nm 7) (.pr .ix [(.pr .lst [(.cst (.int 0)),(.cst (.int 1)),(.cst (.int 2)),(.cst (.int 4)),(.cst (.int 10)),(.cst (.int 12)),(.cst (.int 13)),(.pr .neg [(.cst (.int 3))]),(.pr .add [(.pr .pow [(.cst (.int 10)),(.cst (.int 40))]),(.cst (.int 1))])]),(.pr .ix [(.var 1),(.cst (.int 1))])])),
 (.ife (.pr .ne [(.told 1 [7] (.call 5 [(.var 0)])),(.pr .tup [(.cst (.str [110,111])),(.cst (.str [98,97,100,32,114,105,110,103]))])]) [(.ret (.cst (.bl false)))] []),
 (.ret (.pr .all [(.comp 1 [2] (.seq (.var 3)) (.nm 0) none none (.and (.call 8 [(.var 1),(.var 0)]) (.call 3 [(.var 1),(.var 0)])))]))]
abbrev QE (kv:List (Nat × W)) (os:List O) (row:List Int):Prop:=yo (evs Pg 20000 14 (.ss tl2) (frm 8 ((1,.ref os.length)::kv)) (heapOf (os ++ [.lst (row.map W.int)])))=true
abbrev _root_.Ev.O.t2 (a b:Int):O:=.tup [.int a,.int b]
def zE:List (Nat × W):=[(2,.int 3)]
def Qm:List O:=[]
theorem L_:((rowsOf [9]).all fun l=>goes (evs Pg 60 14 (.ss tl0) (frm 8 [(1,.ref 0)]) (uN (Int.ofNat 0::l))) (ok0 8 1 zE (Int.ofNat 0::l)))=true:=by decide +kernel
def zF:List (Nat × W):=[(2,.int 3),(3,.ref 0)]
def zG:List O:=[.lst [.ref 1],.lst [.ref 2],.t2 1 2]
theorem Ma:goes (evs Pg 20000 14 (.ss tl1) (frm 8 zE) (heapOf Qm)) (pW 8 1 20000 zF zG)=true:=by decide +kernel
def zH:List (Nat × W):=[(2,.int 5)]
def Qo:List O:=[]
theorem Mf:((rowsOf [9]).all fun l=>goes (evs Pg 60 14 (.ss tl0) (frm 8 [(1,.ref 0)]) (uN (Int.ofNat 1::l))) (ok0 8 1 zH (Int.ofNat 1::l)))=true:=by decide +kernel
def zJ:List (Nat × W):=[(2,.int 5),(3,.ref 0)]
def zK:List O:=[.lst [.ref 1],.lst [.ref 2,.ref 3],.t2 1 4,.t2 2 3]
theorem Mg:goes (evs Pg 20000 14 (.ss tl1) (frm 8 zH) (heapOf Qo)) (pW 8 1 20000 zJ zK)=true:=by decide +kernel
def zL:List (Nat × W):=[(2,.int 7)]
def Qp:List O:=[]
theorem Mh:((rowsOf [9]).all fun l=>goes (evs Pg 60 14 (.ss tl0) (frm 8 [(1,.ref 0)]) (uN (Int.ofNat 2::l))) (ok0 8 1 zL (Int.ofNat 2::l)))=true:=by decide +kernel
def zM:List (Nat × W):=[(2,.int 7),(3,.ref 0)]
def zN:List O:=[.lst [.ref 1,.ref 5,.ref 9],.lst [.ref 2,.ref 3,.ref 4],.t2 1 3,.t2 2 6,.t2 4 5,.lst [.ref 6,.ref 7,.ref 8],.t2 1 5,.t2 2 3,.t2 4 6,.lst [.ref 10,.ref 11,.ref 12],.t2 1 6,.t2 2 5,.t2 3 4]
theorem Mi:goes (evs Pg 20000 14 (.ss tl1) (frm 8 zL) (heapOf Qp)) (pW 8 1 20000 zM zN)=true:=by decide +kernel
def zO:List (Nat × W):=[(2,.int 9)]
def Qq:List O:=[]
theorem Mj:((rowsOf [9]).all fun l=>goes (evs Pg 60 14 (.ss tl0) (frm 8 [(1,.ref 0)]) (uN (Int.ofNat 3::l))) (ok0 8 1 zO (Int.ofNat 3::l)))=true:=by decide +kernel
def zQ:List (Nat × W):=[(2,.int 9),(3,.ref 0)]
def zR:List O:=[.lst [.ref 1,.ref 6,.ref 10,.ref 15,.ref 20,.ref 25,.ref 29,.ref 34,.ref 39],.lst [.ref 2,.ref 3,.ref 4,.ref 5],.t2 1 2,.t2 3 6,.t2 4 8,.t2 5 7,.lst [.ref 2,.ref 7,.ref 8,.ref 9],.t2 3 7,.t2 4 6,.t2 5 8,.lst [.ref 11,.ref 12,.ref 13,.ref 14],.t2 1 3,.t2 2 5,.t2 4 8,.t2 6 7,.lst [.ref 16,.ref 17,.ref 18,.ref 19],.t2 1 4,.t2 2 6,.t2 3 5,.t2 7 8,.lst [.ref 21,.ref 22,.ref 23,.ref 24],.t2 1 5,.t2 2 3,.t2 4 7,.t2 6 8,.lst [.ref 21,.ref 26,.ref 27,.ref 28],.t2 2 4,.t2 3 6,.t2 7 8,.lst [.ref 30,.ref 31,.ref 32,.ref 33],.t2 1 6,.t2 2 8,.t2 3 4,.t2 5 7,.lst [.ref 35,.ref 36,.ref 37,.ref 38],.t2 1 7,.t2 2 4,.t2 3 8,.t2 5 6,.lst [.ref 40,.ref 41,.ref 42,.ref 43],.t2 1 8,.t2 2 7,.t2 3 6,.t2 4 5]
theorem Ml:goes (evs Pg 20000 14 (.ss tl1) (frm 8 zO) (heapOf Qq)) (pW 8 1 20000 zQ zR)=true:=by decide +kernel
def zT:List (Nat × W):=[(2,.int 11)]
def Qs:List O:=[]
theorem Mm:((rowsOf [9]).all fun l=>goes (evs Pg 60 14 (.ss tl0) (frm 8 [(1,.ref 0)]) (uN (Int.ofNat 4::l))) (ok0 8 1 zT (Int.ofNat 4::l)))=true:=by decide +kernel
def zU:List (Nat × W):=[(2,.int 11),(3,.ref 0)]
def zV:List O:=[.lst [.ref 1,.ref 7,.ref 12,.ref 18,.ref 23,.ref 28,.ref 34,.ref 39,.ref 44,.ref 50,.ref 55,.ref 60,.ref 66,.ref 71,.ref 77,.ref 82,.ref 87,.ref 93,.ref 98,.ref 103,.ref 109,.ref 114,.ref 119,.ref 125,.ref 130],.lst [.ref 2,.ref 3,.ref 4,.ref 5,.ref 6],.t2 1 2,.t2 3 6,.t2 4 8,.t2 5 10,.t2 7 9,.lst [.ref 2,.ref 8,.ref 9,.ref 10,.ref 11],.t2 3 8,.t2 4 6,.t2 5 9,.t2 7 10,.lst [.ref 13,.ref 14,.ref 15,.ref 16,.ref 17],.t2 1 3,.t2 2 5,.t2 4 9,.t2 6 10,.t2 7 8,.lst [.ref 13,.ref 19,.ref 20,.ref 21,.ref 22],.t2 2 6,.t2 4 7,.t2 5 10,.t2 8 9,.lst [.ref 13,.ref 24,.ref 25,.ref 26,.ref 27],.t2 2 9,.t2 4 10,.t2 5 8,.t2 6 7,.lst [.ref 29,.ref 30,.ref 31,.ref 32,.ref 33],.t2 1 4,.t2 2 6,.t2 3 8,.t2 5 7,.t2 9 10,.lst [.ref 29,.ref 35,.ref 36,.ref 37,.ref 38],.t2 2 7,.t2 3 5,.t2 6 10,.t2 8 9,.lst [.ref 29,.ref 40,.ref 41,.ref 42,.ref 43],.t2 2 8,.t2 3 10,.t2 5 6,.t2 7 9,.lst [.ref 45,.ref 46,.ref 47,.ref 48,.ref 49],.t2 1 5,.t2 2 3,.t2 4 9,.t2 6 8,.t2 7 10,.lst [.ref 45,.ref 51,.ref 52,.ref 53,.ref 54],.t2 2 7,.t2 3 4,.t2 6 9,.t2 8 10,.lst [.ref 45,.ref 56,.ref 57,.ref 58,.ref 59],.t2 2 10,.t2 3 9,.t2 4 6,.t2 7 8,.lst [.ref 61,.ref 62,.ref 63,.ref 64,.ref 65],.t2 1 6,.t2 2 3,.t2 4 7,.t2 5 9,.t2 8 10,.lst [.ref 61,.ref 67,.ref 68,.ref 69,.ref 70],.t2 2 4,.t2 3 7,.t2 5 8,.t2 9 10,.lst [.ref 72,.ref 73,.ref 74,.ref 75,.ref 76],.t2 1 7,.t2 2 5,.t2 3 10,.t2 4 6,.t2 8 9,.lst [.ref 72,.ref 78,.ref 79,.ref 80,.ref 81],.t2 2 9,.t2 3 6,.t2 4 5,.t2 8 10,.lst [.ref 72,.ref 83,.ref 84,.ref 85,.ref 86],.t2 2 10,.t2 3 4,.t2 5 9,.t2 6 8,.lst [.ref 88,.ref 89,.ref 90,.ref 91,.ref 92],.t2 1 8,.t2 2 3,.t2 4 10,.t2 5 7,.t2 6 9,.lst [.ref 88,.ref 94,.ref 95,.ref 96,.ref 97],.t2 2 4,.t2 3 9,.t2 5 6,.t2 7 10,.lst [.ref 88,.ref 99,.ref 100,.ref 101,.ref 102],.t2 2 10,.t2 3 5,.t2 4 9,.t2 6 7,.lst [.ref 104,.ref 105,.ref 106,.ref 107,.ref 108],.t2 1 9,.t2 2 6,.t2 3 5,.t2 4 10,.t2 7 8,.lst [.ref 104,.ref 110,.ref 111,.ref 112,.ref 113],.t2 2 7,.t2 3 10,.t2 4 5,.t2 6 8,.lst [.ref 104,.ref 115,.ref 116,.ref 117,.ref 118],.t2 2 8,.t2 3 4,.t2 5 7,.t2 6 10,.lst [.ref 120,.ref 121,.ref 122,.ref 123,.ref 124],.t2 1 10,.t2 2 5,.t2 3 9,.t2 4 8,.t2 6 7,.lst [.ref 120,.ref 126,.ref 127,.ref 128,.ref 129],.t2 2 8,.t2 3 7,.t2 4 5,.t2 6 9,.lst [.ref 120,.ref 131,.ref 132,.ref 133,.ref 134],.t2 2 9,.t2 3 8,.t2 4 7,.t2 5 6]
theorem Mp:goes (evs Pg 20000 14 (.ss tl1) (frm 8 zT) (heapOf Qs)) (pW 8 1 20000 zU zV)=true:=by decide +kernel
end My
set_option maxRecDepth 100000
set_option maxHeartbeats 4000000
namespace My
open PySem L2 PyProof.Rows
open Ev
local macro_rules | `(tactic| walk_at "sy")=>`(tactic| first
 | with_reducible refine Ce.mpr ?_
 | with_reducible refine PB.mpr ?_
 | with_reducible refine PJ.mpr ?_
 | with_reducible refine Lq.mpr ?_
 | with_reducible refine PK.mpr ?_
 | with_reducible refine Up.mpr ?_
 | with_reducible refine Rx.mpr ?_
 | with_reducible refine Lp.mpr ?_
 | with_reducible refine uP.mpr ?_
 | with_reducible refine Px.mpr ?_
 | with_reducible refine Pu.mpr ?_
 | ((with_reducible refine RM (w:=?w) ?e ?_);(case e=>exact rfl))
 | with_reducible refine Uq.mpr ?_
 | with_reducible refine Py.mpr ?_
 | with_reducible refine Ry.mpr ?_
 | with_reducible refine Ls ?_
 | with_reducible refine Lw ?_
 | with_reducible refine P_ ?_
 | with_reducible refine Qa ?_
 | with_reducible refine Pz.mpr ?_
 | with_reducible refine RN ?_
 | with_reducible refine T9 ?_
 | with_reducible refine T_ ?_
 | with_reducible refine RP ?_
 | with_reducible refine RQ ?_
 | with_reducible refine p_add ?_
 | with_reducible refine Rz ?_
 | with_reducible refine RB ?_
 | with_reducible refine Uu ?_
 | with_reducible refine Uj ?_
 | with_reducible refine Uk ?_
 | with_reducible refine T7 ?_
 | with_reducible refine T8 ?_
 | with_reducible refine UG ?_
 | with_reducible refine UJ ?_
 | with_reducible refine RG ?_
 | with_reducible refine RJ ?_
 | with_reducible refine Uv ?_
 | with_reducible refine Ur ?_
 | with_reducible refine Uw ?_
 | with_reducible refine Ux ?_
 | with_reducible refine PX ?_
 | with_reducible refine Ju ?_
 | ((with_reducible refine RC ?e ?_);(case e=>first | decide | omega))
 | ((with_reducible refine RK ?e ?_);(case e=>exact Nat.le_of_ble_eq_true rfl))
 | ((with_reducible refine RL ?e ?_);(case e=>exact Nat.le_of_ble_eq_true rfl))
 | ((with_reducible refine Uy ?e ?f ?_);(case e=>first | decide | omega);(case f=>first | decide | omega)))
section
variable {d n:Nat} {h:Hs} {Q:W->Hs->Prop}
theorem Ua {a b:Nat}:decide ((a:Int)=(b:Int))=decide (a=b):=by
 by_cases c:a=b
 · subst c;simp
 · simp [c,show ¬ (a:Int)=b by omega]
def Ring (m:Int):Prop:=m=3\/m=5\/m=7\/m=9\/m=11
theorem Ring.bd {m:Int} (r:Ring m):3 <= m/\m <= 11/\m % 2=1:=by rcases r with rfl | rfl | rfl | rfl | rfl <;> decide
theorem Hh {m:Int} (r:Ring m) (q:Q .non h):wC 0 [.int m] (bN Pg (d + 1)) (n + 1) h Q:=by
 have b:=r.bd
 refine (jP rfl rfl).mpr ?_
 unfold qP
 repeat walk_at "sy"
 refine wJ (decide_eq_false (by omega)) ?_
 repeat walk_at "sy"
 refine wJ (decide_eq_false (by omega)) ?_
 repeat walk_at "sy"
 refine wJ (decide_eq_false (by omega)) ?_
 repeat walk_at "sy"
 exact q
noncomputable def dist (ns:List Int):Bool:=decide (((len (dd ns []):Nat):Int)=(ns.length:Int))
theorem Jz {ns:List Int} {p:Nat} (e:h.get p=some (.lst (ns.map W.int))) (l:ns.length <= 1000) (q:Q (.bl (dist ns)) h):wC 1 [.ref p] (bN Pg (d + 1)) (n + 1) h Q:=by
 refine (jP rfl rfl).mpr ?_
 unfold qj
 repeat walk_at "sy"
 refine yN e l ?_
 repeat walk_at "sy"
 refine wG e ?_
 rw [List.length_map]
 repeat walk_at "sy"
 exact q
abbrev Dps (ps:List (Int × Int)):D:=.lst (ps.map fun p=>Dp p.1 p.2)
theorem oW {A:Nat->Prop} {ps:List (Int × Int)} {ws:List W} {i:Nat} {w:W} (r:Rds h A (ps.map fun p=>Dp p.1 p.2) ws) (e:ws[i]? =some w):∃ (l:i < ps.length) (q:Nat),w= .ref q/\q < h.n/\A q/\h.get q=some (.tup [.int (ps[i]'l).1,.int (ps[i]'l).2]):=by
 have l:i < ps.length:=by have:=(List.getElem?_eq_some_iff.mp e).1;rw [r.length,List.length_map] at this;exact this
 obtain ⟨w',e',rw'⟩:=r.get (i:=i) (d:=Dp ps[i].1 ps[i].2) (by rw [List.getElem?_map,List.getElem?_eq_getElem l];rfl)
 rw [e] at e';cases e'
 obtain ⟨q,rfl,lq,aq,gq⟩:=Eg.mp rw'
 exact ⟨l,q,rfl,lq,aq,gq⟩
theorem uc:∀ {ws:List W} {ps:List (Int × Int)},(∀ k o,h.get k=some o->k < h.n)->cu h ws=some ps->Rds h (fun _=>True) (ps.map fun p=>Dp p.1 p.2) ws
 | [],ps,v,e=>by cases e;simp [Rds]
 | w::ws,ps,v,e=>by
   unfold cu at e
   cases w with
   | ref k=>
     have e:((l_ (h.get k)).bind fun p=>(cu h ws).map fun ps=>p::ps)=some ps:=e
     cases e1:l_ (h.get k) with
     | none=>rw [e1] at e;cases e
     | some p=>
       rw [e1] at e
       have e:((cu h ws).map fun ps=>p::ps)=some ps:=e
       cases e2:cu h ws with
       | none=>rw [e2] at e;cases e
       | some qs=>
         rw [e2] at e
         cases e
         simp only [List.map_cons,Rds]
         refine ⟨_,_,rfl,?_,uc v e2⟩
         unfold l_ at e1
         split at e1
         · rename_i z
           cases e1
           exact Eg.mpr ⟨k,rfl,v _ _ z,trivial,z⟩
         · cases e1
   | _=>cases e
theorem Es (os:List O):∀ k o,(heapOf os).get k=some o->k < (heapOf os).n:=fun k o e=>by
 rw [(dY os).2] at e
 rw [(dY os).1]
 exact (List.getElem?_eq_some_iff.mp e).1
end
section
variable {d n:Nat} {h:Hs} {Q:W->Hs->Prop}
theorem wR {q i j:Nat} {u v:W} {τ:Sg} (g:h.get q=some (.tup [u,v])):aM h 9 (.tup [.nm i,.nm j]) (.ref q) τ=some (setAt (setAt τ (some u) i) (some v) j):=by
 show Option.rec (motive:=fun _=>Option Sg) none (fun o=>O.rec (motive:=fun _=>Option Sg) (fun xs=>bindL (aM _ 8) [.nm i,.nm j] xs _) (fun _=>none) (fun _ _=>none) (fun _=>none) (fun _=>none) o) (h.get q)=_
 rw [g];rfl
theorem Cq (lo:Int) (k:Nat):mK lo k=(cA lo k).map W.int:=by unfold mK cA;rw [List.map_map];rfl
def nums (ps:List (Int × Int)):List Int:=(ps.map fun p=>[p.1,p.2]).flatten
def ways (m:Int) (ps:List (Int × Int)):List Int:=ps.map (fun p=>(p.1 - p.2) % m) ++ ps.map (fun p=>(p.2 - p.1) % m)
theorem ud {m:Int} {K:Ks} {N:Nat} {nt:Nat} {idx:List Nat} {τ:Sg} {it:I} {e:X} {p:Nat} {ps:List (Int × Int)} {ws:List W} (f:Int × Int->Int) (x:wI it K N τ h fun v h1=>v= .lst p/\h1=h) (lp:p < h.n) (ep:h.get p=some (.lst ws)) (rs:Rds h (fun _=>True) (ps.map fun p=>Dp p.1 p.2) ws) (l1:ps.length <= 100) (lN:ps.length < N)
 (el:∀ a h2 M,wX e K M (setAt (setAt (dM nt idx τ) (some (.int a.1)) 0) (some (.int a.2)) 1) h2 fun w h3=>w= .int (f a)/\h3=h2) (q:∀ h3,Ext h h3->h.n < h3.n->h3.get h.n=some (.lst ((ps.map f).map W.int))->Q (.ref h.n) h3):wX (.comp nt idx it (.tup [.nm 0,.nm 1]) none none e) K N τ h Q:=by
 have lw:ws.length=ps.length:=by rw [rs.length,List.length_map]
 refine comp_map (jo x fun a h1 z=>?_)
 cases a with
 | iv v=>
   obtain ⟨rfl,rfl⟩:=(show v= .lst p/\h1=h from z)
   refine ⟨.refl,ws,(ps.map f).map D.int,fun _=>False,fun h2 x2=>iV ep lp x2,fun _ z=>z.elim,by simp [lw],by omega,by omega,?_,?_⟩
   · intro i w d' h2 m' ei ed lm x2 l2
     obtain ⟨li,r,rfl,lr,_,gr⟩:=oW rs ei
     rw [List.getElem?_map,List.getElem?_map,List.getElem?_eq_getElem li] at ed
     cases ed
     refine ⟨_,wR (x2.get lr gr),?_⟩
     refine jq (el ps[i] h2 m') fun w h3 ⟨e1,e2⟩=>?_
     subst e1 e2
     exact ⟨.refl,P0⟩
   · intro h3 x3 r3
     obtain ⟨p3,e3,l3,_,g3⟩:=Cg.mp r3
     cases e3
     exact q h3 x3 l3 g3
 | _=>exact z.elim
theorem zW (m:Int) (ps:List (Int × Int)):(ways m ps).length=2 * ps.length:=by unfold ways;simp;omega
theorem zX {m:Int} {ps:List (Int × Int)} {p:Nat} {ws:List W} (hm:0 < m) (lp:p < h.n) (ep:h.get p=some (.lst ws)) (rs:Rds h (fun _=>True) (ps.map fun p=>Dp p.1 p.2) ws) (l1:ps.length <= 100) (k:∀ h',Ext h h'->Q (.bl (dist (ways m ps))) h'):wC 2 [.int m,.ref p] (bN Pg (d + 2)) (n + 200) h Q:=by
 refine (jP rfl rfl).mpr ?_
 unfold y_
 repeat walk_at "sy"
 refine ud (m:=m) (fun p=>(p.1 - p.2) % m) (fB ?_) lp ep rs l1 (by omega) (fun a h2 M=>?_) fun h3 x3 l3 g3=>?_
 · repeat walk_at "sy"
   exact ⟨p,_,rfl,.inl ⟨ep,rfl,rfl⟩⟩
 · repeat walk_at "sy"
   exact ⟨rfl,rfl⟩
 repeat walk_at "sy"
 have ep3:=x3.get lp ep
 refine ud (m:=m) (fun p=>(p.2 - p.1) % m) (fB ?_) (Nat.lt_of_lt_of_le lp x3.1) ep3 (rs.ext x3) l1 (by omega) (fun a h2 M=>?_) fun h4 x4 l4 g4=>?_
 · repeat walk_at "sy"
   exact ⟨p,_,rfl,.inl ⟨ep3,rfl,rfl⟩⟩
 · repeat walk_at "sy"
   exact ⟨rfl,rfl⟩
 repeat walk_at "sy"
 refine wH (x4.get l3 g3) g4 (by simp;omega) ?_
 repeat walk_at "sy"
 rw [<- List.map_append]
 refine Jz (ns:=ways m ps) aB (by rw [zW];omega) ?_
 repeat walk_at "sy"
 exact k _ ((x3.trans x4).trans .push)
def jw (ps:List (Int × Int)):Bool:=ps.any fun p=>decide (p.2 < p.1)
noncomputable def jR (m:Int) (ps:List (Int × Int)):Bool:=decide (gn (nums ps)=cA 1 (m - 1).toNat) && (!jw ps && (lA ps && dist (ways m ps)))
theorem qw (k:Nat):(cA 1 k).Nodup:=by
 unfold cA
 refine List.pairwise_map.mpr (List.Pairwise.imp (fun {a b} ne e=>ne ?_) List.nodup_range)
 have e:(1:Int) + (a:Int)=1 + (b:Int):=e
 omega
theorem Et (k:Nat):(cA 1 k).Pairwise (· <= ·):=by
 unfold cA
 refine List.pairwise_map.mpr (List.Pairwise.imp (fun {a b} l=>?_) List.pairwise_le_range)
 show (1:Int) + (a:Int) <= 1 + (b:Int)
 omega
theorem zY {ns:List Int} {k:Nat}:gn ns=cA 1 k ↔ ns.Perm (cA 1 k):=⟨fun e=>e ▸ (lY ns).symm,fun p=>oF ((lY ns).trans p) (mF ns) (Et k)⟩
theorem oX (ps:List (Int × Int)):(nums ps).length=2 * ps.length:=by
 unfold nums
 induction ps with
 | nil=>rfl
 | cons p ps ih=>simp only [List.map_cons,List.flatten_cons,List.length_append,List.length_cons,List.length_nil,ih];omega
theorem Cr:∀ {ps:List (Int × Int)},(nums ps).Nodup->(ps.map (·.1)).Nodup/\∀ p ∈ ps,p.1 ≠ p.2
 | [],_=>⟨by simp,fun p hp=>by cases hp⟩
 | (a,b)::ps,h=>by
   have h:(a::b::nums ps).Nodup:=h
   have h1:=List.nodup_cons.mp h
   have h2:=List.nodup_cons.mp h1.2
   obtain ⟨i1,i2⟩:=Cr h2.2
   refine ⟨List.nodup_cons.mpr ⟨fun z=>?_,i1⟩,fun p hp=>?_⟩
   · obtain ⟨q,hq,e⟩:=List.mem_map.mp z
     refine h1.1 (List.mem_cons_of_mem _ ?_)
     unfold nums
     exact List.mem_flatten.mpr ⟨_,List.mem_map.mpr ⟨q,hq,rfl⟩,by have e':q.1=a:=e;rw [e'];simp⟩
   · rcases List.mem_cons.mp hp with rfl | hp
     · intro z;exact h1.1 (by show a ∈ b::nums ps;rw [show a=b from z];exact List.mem_cons_self ..)
     · exact i2 p hp
theorem Cu {m:Int} {ps:List (Int × Int)} (r:Ring m) (e:gn (nums ps)=cA 1 (m - 1).toNat):1 <= ps.length/\ps.length <= 5/\(ps.map (·.1)).Nodup/\∀ p ∈ ps,p.1 ≠ p.2:=by
 have b:=r.bd
 have pe:=zY.mp e
 have l:=pe.length_eq
 rw [oX] at l
 have l2:(cA 1 (m - 1).toNat).length=(m - 1).toNat:=by unfold cA;simp
 have nd:=Cr (pe.nodup_iff.mpr (qw _))
 exact ⟨by omega,by omega,nd.1,nd.2⟩
theorem Am {m:Int} {ps:List (Int × Int)} {p:Nat} {ws:List W} (r:Ring m) (lp:p < h.n) (ep:h.get p=some (.lst ws)) (rs:Rds h (fun _=>True) (ps.map fun p=>Dp p.1 p.2) ws) (l1:ps.length <= 20) (k:∀ h',Ext h h'->Q (.bl (jR m ps)) h'):wC 3 [.int m,.ref p] (bN Pg (d + 3)) (n + 400) h Q:=by
 have b:=r.bd
 have lw:ws.length=ps.length:=by rw [rs.length,List.length_map]
 refine (jP rfl rfl).mpr ?_
 unfold ql
 repeat walk_at "sy"
 refine Hh r ?_
 repeat walk_at "sy"
 refine Ei (fB ?_)
 repeat walk_at "sy"
 refine ⟨p,_,rfl,.inl ⟨ep,.refl,ws.map fun w h=>(w,h),ps.map fun p=>[p.1,p.2],fun h2 x2=>(iV ep lp x2).two,by simp [lw],by simp;omega,?_,by simp;omega,?_,?_⟩⟩
 · intro f hf
   obtain ⟨a,_,rfl⟩:=List.mem_map.mp hf
   simp
 · intro i f ds h2 m' ei ed lm x2 l2'
   rw [List.getElem?_map] at ei ed
   obtain ⟨w,ew,rfl⟩:=Option.map_eq_some_iff.mp ei
   obtain ⟨li,r',rfl,lr,_,gr⟩:=oW rs ew
   rw [List.getElem?_eq_getElem li] at ed
   cases ed
   refine ⟨.refl,_,rfl,fB ?_⟩
   repeat walk_at "sy"
   have g2:=x2.get lr gr
   refine ⟨r',_,rfl,.inr ⟨g2,.refl,[.int ps[i].1,.int ps[i].2],fun h4 x4=>.inr (.inl ⟨r',rfl,x4.get (Nat.lt_of_lt_of_le lr x2.1) (by omega) g2⟩),rfl,?_,?_⟩⟩
   · rw [List.length_map] at lm
     show 2 < m';omega
   · intro i2 w z h4 m2 e2 ez lm2 x4
     refine ⟨_,rfl,?_⟩
     match i2,e2,ez with
     | 0,e2,ez=>cases e2;cases ez;repeat walk_at "sy"
                exact ⟨rfl,.refl⟩
     | 1,e2,ez=>cases e2;cases ez;repeat walk_at "sy"
                exact ⟨rfl,.refl⟩
     | i2 + 2,e2,ez=>simp at e2
 intro h3 x3 l3 g3
 have nl:=oX ps
 repeat walk_at "sy"
 refine Jw (ns:=nums ps) g3 (by omega) ?_
 repeat walk_at "sy"
 refine G7 (by decide) (by omega) ?_
 repeat walk_at "sy"
 refine wF (d:=Dis (gn (nums ps))) (d':=Dis (cA 1 (m - 1).toNat)) (A:=fun _=>True) (B:=fun _=>True) (wL (Nat.lt_of_lt_of_le aP Ext.push.1) trivial (Ext.push.get aP aB)) (wL aP trivial aB) (tQ _) (tQ _) (wK _) (wK _) ?_
 rw [vC]
 have x5:Ext h ((h3.push (.lst ((gn (nums ps)).map W.int))).push (.lst ((cA 1 (m - 1).toNat).map W.int))):=(x3.trans .push).trans .push
 generalize (h3.push (.lst ((gn (nums ps)).map W.int))).push (.lst ((cA 1 (m - 1).toNat).map W.int))=h5 at *
 have fin:∀ h',Ext h h'->Q (.bl (jR m ps)) h':=k
 unfold jR at fin
 cases c1:decide (gn (nums ps)=cA 1 (m - 1).toNat) with
 | false=>
   rw [c1] at fin
   repeat walk_at "sy"
   exact fin h5 x5
 | true=>
   rw [c1] at fin
   obtain ⟨q1,q5,qn,qd⟩:=Cu r (of_decide_eq_true c1)
   repeat walk_at "sy"
   have ep5:=x5.get lp ep
   have lp5:=Nat.lt_of_lt_of_le lp x5.1
   have rs5:=rs.ext x5
   refine comp_map (fB ?_)
   repeat walk_at "sy"
   refine ⟨p,_,rfl,.inl ⟨ep5,.refl,ws,(ps.map fun p=>decide (p.2 < p.1)).map D.bl,fun _=>False,fun h2 x2=>iV ep5 lp5 x2,fun _ z=>z.elim,by simp [lw],by omega,by omega,?_,?_⟩⟩
   · intro i w d' h2 m' ei ed lm x2 l2
     obtain ⟨li,r',rfl,lr,_,gr⟩:=oW rs5 ei
     rw [List.getElem?_map,List.getElem?_map,List.getElem?_eq_getElem li] at ed
     cases ed
     refine ⟨_,wR (x2.get lr gr),?_⟩
     repeat walk_at "sy"
     exact ⟨.refl,by simp only [Ev.Rd]⟩
   intro h6 x6 r6
   obtain ⟨p6,e6,l6,_,g6⟩:=tR.mp r6
   cases e6
   refine RT g6 ?_
   have ea:(ps.map fun p=>decide (p.2 < p.1)).any id=jw ps:=by unfold jw;rw [List.any_map];rfl
   rw [ea]
   repeat walk_at "sy"
   have x56:=x5.trans x6
   cases c2:jw ps with
   | true=>
     rw [c2] at fin
     repeat walk_at "sy"
     exact fin h6 x56
   | false=>
     rw [c2] at fin
     repeat walk_at "sy"
     obtain ⟨pp,s1,s2,s3,s4⟩:=Qg q1 q5 qn
     have rs6:=rs.ext x56
     refine G8 (x56.get lp ep) rs6 q1 (by omega) s1 s2 ?_
     repeat walk_at "sy"
     have x7:Ext h6 (h6.push (.lst (pp.toList.map fun k=>ws.getD k .non))):=.push
     have lp7:=Nat.lt_of_lt_of_le (Nat.lt_of_lt_of_le lp x56.1) x7.1
     refine wF (d:=Dps ps) (d':=Dps (pp.toList.map fun k=>ps.getD k (0,0))) (A:=fun _=>True) (B:=fun _=>True) (gw.mpr ⟨p,ws,rfl,lp7,trivial,x7.get (Nat.lt_of_lt_of_le lp x56.1) (x56.get lp ep),rs6.ext x7⟩) (gw.mpr ⟨_,_,rfl,aP,trivial,aB,(rs6.pick _ s3).ext x7⟩) (G4 _ _ _) (G4 _ _ _) (J7 _ _ _) (J7 _ _ _) ?_
     have ee:cg (Dps ps) (Dps (pp.toList.map fun k=>ps.getD k (0,0)))=lA ps:=by simp only [Dps,cg];rw [Cm,s4]
     rw [ee]
     generalize h6.push (.lst (pp.toList.map fun k=>ws.getD k .non))=h7 at *
     have x57:=x56.trans x7
     cases c3:lA ps with
     | false=>
       rw [c3] at fin
       repeat walk_at "sy"
       exact fin h7 x57
     | true=>
       rw [c3] at fin
       repeat walk_at "sy"
       refine zX (n:=n + 199) (by omega) lp7 (x57.get lp ep) (rs.ext x57) (by omega) fun h8 x8=>?_
       repeat walk_at "sy"
       exact fin h8 (x57.trans x8)
end
section
variable {d n:Nat} {h:Hs} {Q:W->Hs->Prop}
def offC (m:Int) (ns:List Int):List Int:=(cA 1 (m - 1).toNat).filter fun v=> !decide (ns.count v=1)
theorem Hi {m:Int} (hm:1 <= m) (ns:List Int):decide (gn ns=cA 1 (m - 1).toNat)=(decide (offC m ns= []) && decide ((ns.length:Int)=m - 1)):=by
 have l2:(cA 1 (m - 1).toNat).length=(m - 1).toNat:=by unfold cA;simp
 rw [<- Bool.decide_and]
 refine decide_eq_decide.mpr ?_
 rw [zY]
 unfold offC
 rw [List.filter_eq_nil_iff]
 constructor
 · intro p
   refine ⟨fun v hv=>?_,?_⟩
   · rw [p.count_eq v,(qw _).count,if_pos hv];simp
   · have:=p.length_eq;omega
 · rintro ⟨h1,h2⟩
   refine o4 _ _ (qw _) (fun v hv=>?_) (by omega)
   have:=h1 v hv
   simpa using this
theorem Qt {ps:List (Int × Int)} (h:∀ p ∈ ps,p.1 ≠ p.2):(ps.map fun p=>decide (p.1 < p.2)).all id= !jw ps:=by
 unfold jw
 induction ps with
 | nil=>rfl
 | cons p ps ih=>
   rw [List.map_cons,List.all_cons,ih (fun q hq=>h q (List.mem_cons_of_mem _ hq)),List.any_cons,Bool.not_or]
   congr 1
   have:=h p (List.mem_cons_self ..)
   by_cases c:p.1 < p.2
   · simp [c,show ¬ p.2 < p.1 by omega]
   · simp [c,show p.2 < p.1 by omega]
theorem An {m:Int} {ps:List (Int × Int)} {p:Nat} {ws:List W} (r:Ring m) (lp:p < h.n) (ep:h.get p=some (.lst ws)) (rs:Rds h (fun _=>True) (ps.map fun p=>Dp p.1 p.2) ws) (l1:ps.length <= 20) (k:∀ h',Ext h h'->Q (.bl (jR m ps)) h'):wC 8 [.int m,.ref p] (bN Pg (d + 3)) (n + 400) h Q:=by
 have b:=r.bd
 have lw:ws.length=ps.length:=by rw [rs.length,List.length_map]
 refine (jP rfl rfl).mpr ?_
 unfold jU
 repeat walk_at "sy"
 have x0:Ext h (h.push (.lst [])):=.push
 have g0:(h.push (.lst [])).get h.n=some (.lst []):=aB
 have l0:h.n < (h.push (.lst [])).n:=aP
 generalize h.push (.lst [])=h0 at *
 refine qe (fB ?_)
 repeat walk_at "sy"
 have ep0:=x0.get lp ep
 refine ⟨p,_,rfl,.inl ⟨ep0,ws,fun i τ h2=>∃ (f:Nat) (u v:Option W),τ= [some (.int m),some (.ref p),some (.ref f),u,v,none]/\Ext h h2/\f < h2.n/\h2.get f=some (.lst ((nums (ps.take i)).map W.int)),fun i τ h2 ⟨_,_,_,_,x,_⟩=>iV ep lp x,by omega,⟨h.n,none,none,rfl,x0,l0,g0⟩,?_,?_⟩⟩
 · rintro i w τ h2 m' ei lm ⟨f,u,v,rfl,x2,l2,g2⟩
   obtain ⟨li,r',rfl,lr,_,gr⟩:=oW rs ei
   refine ⟨_,wR (x2.get lr gr),?_⟩
   repeat walk_at "sy"
   have nl:=oX (ps.take i)
   have:(ps.take i).length <= ps.length:=by simp;omega
   refine wH (Ext.push.get l2 g2) aB (by rw [List.length_map];show _ + 2 <= _;omega) ?_
   repeat walk_at "sy"
   refine ⟨_,_,_,rfl,(x2.trans .push).trans .push,aP,?_⟩
   rw [aB,List.take_add_one,List.getElem?_eq_getElem li]
   unfold nums
   rw [List.map_append,List.flatten_append,List.map_append];rfl
 rintro τ h2 ⟨f,u,v,rfl,x2,l2,g2⟩
 rw [lw,List.take_length] at g2
 have nl:=oX ps
 have fin:∀ h',Ext h h'->Q (.bl (jR m ps)) h':=k
 unfold jR at fin
 rw [Hi (by omega)] at fin
 repeat walk_at "sy"
 refine mJ (Qd ?_)
 repeat walk_at "sy"
 refine ⟨1,m,rfl,rfl,by decide,by decide,by omega,by omega,.refl,mK 1 (m - 1).toNat,fun w=>match w with | .int v=> !decide ((nums ps).count v=1) | _=>false,fun _ _=>uR,by rw [fC];omega,by rw [fC];omega,?_,?_⟩
 · intro i w h3 m' ei lm x3 l3
   rw [Cq,List.getElem?_map] at ei
   obtain ⟨y,ey,rfl⟩:=Option.map_eq_some_iff.mp ei
   refine ⟨_,rfl,?_⟩
   repeat walk_at "sy"
   refine LK ?_
   repeat walk_at "sy"
   refine ⟨f,_,rfl,x3.get l2 g2,?_⟩
   repeat walk_at "sy"
   refine ⟨nums ps,y,rfl,x3.get l2 g2,?_⟩
   repeat walk_at "sy"
   refine ⟨by show W.bl (!decide ((((nums ps).count y:Nat):Int)=1))=W.bl (!decide ((nums ps).count y=1));rw [show decide ((((nums ps).count y:Nat):Int)=1)=decide ((nums ps).count y=1) from Ua (b:=1)],.refl,fun _=>?_⟩
   repeat walk_at "sy"
   exact ⟨rfl,.refl⟩
 intro h3 x3 l3 g3
 rw [Cq,List.filter_map] at g3
 have g3:h3.get h2.n=some (.lst ((offC m (nums ps)).map W.int)):=g3
 repeat walk_at "sy"
 refine wF (d:=Dis (offC m (nums ps))) (d':=Dis []) (A:=fun _=>True) (B:=fun _=>True) (wL (Nat.lt_of_lt_of_le l3 Ext.push.1) trivial (Ext.push.get l3 g3)) (wL aP trivial aB) (tQ _) (tQ _) (wK _) (wK _) ?_
 rw [vC]
 have x4:Ext h2 (h3.push (.lst [])):=x3.trans .push
 generalize h3.push (.lst [])=h4 at *
 have x24:=x2.trans x4
 cases c1:decide (offC m (nums ps)= []) with
 | false=>
   rw [c1] at fin
   repeat walk_at "sy"
   exact fin h4 x24
 | true=>
   rw [c1] at fin
   repeat walk_at "sy"
   refine wG (x4.get l2 g2) ?_
   rw [List.length_map]
   repeat walk_at "sy"
   cases c2:decide (((nums ps).length:Int)=m - 1) with
   | false=>
     rw [c2] at fin
     repeat walk_at "sy"
     exact fin h4 x24
   | true=>
     rw [c2] at fin
     have es:gn (nums ps)=cA 1 (m - 1).toNat:=of_decide_eq_true (by rw [Hi (by omega),c1,c2];rfl)
     obtain ⟨q1,q5,qn,qd⟩:=Cu r es
     repeat walk_at "sy"
     have ep4:=x24.get lp ep
     have lp4:=Nat.lt_of_lt_of_le lp x24.1
     have rs4:=rs.ext x24
     refine comp_map (fB ?_)
     repeat walk_at "sy"
     refine ⟨p,_,rfl,.inl ⟨ep4,.refl,ws,(ps.map fun p=>decide (p.1 < p.2)).map D.bl,fun _=>False,fun h2 x2=>iV ep4 lp4 x2,fun _ z=>z.elim,by simp [lw],by omega,by omega,?_,?_⟩⟩
     · intro i w d' h2 m' ei ed lm x2 l2
       obtain ⟨li,r',rfl,lr,_,gr⟩:=oW rs4 ei
       rw [List.getElem?_map,List.getElem?_map,List.getElem?_eq_getElem li] at ed
       cases ed
       refine ⟨_,wR (x2.get lr gr),?_⟩
       repeat walk_at "sy"
       exact ⟨.refl,by simp only [Ev.Rd]⟩
     intro h6 x6 r6
     obtain ⟨p6,e6,l6,_,g6⟩:=tR.mp r6
     cases e6
     refine Ef g6 ?_
     rw [Qt qd]
     repeat walk_at "sy"
     rw [Bool.not_not]
     have x26:=x24.trans x6
     cases c3:jw ps with
     | true=>
       rw [c3] at fin
       repeat walk_at "sy"
       exact fin h6 x26
     | false=>
       rw [c3] at fin
       repeat walk_at "sy"
       have ep6:=x26.get lp ep
       have lp6:=Nat.lt_of_lt_of_le lp x26.1
       have rs6:=rs.ext x26
       refine comp_map (GZ ?_)
       repeat walk_at "sy"
       refine wG ep6 ?_
       repeat walk_at "sy"
       rw [lw]
       have en:((ps.length:Int) - 1).toNat=ps.length - 1:=by omega
       refine ⟨_,rfl,by omega,by omega,.refl,mK 0 (ps.length - 1),((List.range (ps.length - 1)).map fun k=>ltP (ps.getD k (0,0)) (ps.getD (k + 1) (0,0))).map D.bl,fun _=>False,fun _ _=>by rw [en];exact uR,fun _ z=>z.elim,by simp [fC],by rw [fC];omega,by rw [fC];omega,?_,?_⟩
       · intro i w d' h7 m' ei ed lm x7 l7
         have li:i < ps.length - 1:=by have:=(List.getElem?_eq_some_iff.mp ei).1;rw [fC] at this;exact this
         rw [yG li] at ei
         cases ei
         rw [List.getElem?_map,List.getElem?_map,List.getElem?_range li] at ed
         cases ed
         refine ⟨_,rfl,?_⟩
         have ti:((0:Int) + Int.ofNat i).toNat=i:=by show (0 + (i:Int)).toNat=i;omega
         have t0:(0:Int) <= 0 + Int.ofNat i:=by show (0:Int) <= 0 + (i:Int);omega
         have ti1:((0:Int) + Int.ofNat i + 1).toNat=i + 1:=by show (0 + (i:Int) + 1).toNat=i + 1;omega
         have a1:ws[i]? =some (ws[i]'(by omega)):=List.getElem?_eq_getElem _
         have a2:ws[i + 1]? =some (ws[i + 1]'(by omega)):=List.getElem?_eq_getElem _
         obtain ⟨k1,z1,e1,m1,_,n1⟩:=oW rs6 a1
         obtain ⟨k2,z2,e2,m2,_,n2⟩:=oW rs6 a2
         rw [e1] at a1
         rw [e2] at a2
         repeat walk_at "sy"
         refine Ed (x7.get lp6 ep6) t0 (by rw [ti];exact a1) ?_
         repeat walk_at "sy"
         refine Ed (x7.get lp6 ep6) (by omega) (by rw [ti1];exact a2) ?_
         repeat walk_at "sy"
         refine RZ (x7.get m1 n1) (x7.get m2 n2) ?_
         refine ⟨.refl,?_⟩
         simp only [Ev.Rd]
         congr 1
         rw [getD_some (List.getElem?_eq_getElem k1),getD_some (List.getElem?_eq_getElem k2)]
       intro h7 x7 r7
       obtain ⟨p7,e7,l7,_,g7⟩:=tR.mp r7
       cases e7
       refine Ef g7 ?_
       have ea:((List.range (ps.length - 1)).map fun k=>ltP (ps.getD k (0,0)) (ps.getD (k + 1) (0,0))).all id=lA ps:=by unfold lA;rw [List.all_map];rfl
       rw [ea]
       repeat walk_at "sy"
       have x27:=x26.trans x7
       cases c4:lA ps with
       | false=>
         rw [c4] at fin
         repeat walk_at "sy"
         exact fin h7 x27
       | true=>
         rw [c4] at fin
         repeat walk_at "sy"
         have ep7:=x27.get lp ep
         have lp7:=Nat.lt_of_lt_of_le lp x27.1
         have rs7:=rs.ext x27
         refine ud (m:=m) (fun p=>(p.1 - p.2) % m) (fB ?_) lp7 ep7 rs7 (by omega) (by omega) (fun a h2 M=>?_) fun h8 x8 l8 g8=>?_
         · repeat walk_at "sy"
           exact ⟨p,_,rfl,.inl ⟨ep7,rfl,rfl⟩⟩
         · repeat walk_at "sy"
           exact ⟨rfl,rfl⟩
         repeat walk_at "sy"
         have ep8:=x8.get lp7 ep7
         refine ud (m:=m) (fun p=>(p.2 - p.1) % m) (fB ?_) (Nat.lt_of_lt_of_le lp7 x8.1) ep8 (rs7.ext x8) (by omega) (by omega) (fun a h2 M=>?_) fun h9 x9 l9 g9=>?_
         · repeat walk_at "sy"
           exact ⟨p,_,rfl,.inl ⟨ep8,rfl,rfl⟩⟩
         · repeat walk_at "sy"
           exact ⟨rfl,rfl⟩
         repeat walk_at "sy"
         refine wH (x9.get l8 g8) g9 (by simp;omega) ?_
         repeat walk_at "sy"
         rw [<- List.map_append]
         have wl:=zW m ps
         refine yN (ns:=ways m ps) aB (by omega) ?_
         repeat walk_at "sy"
         refine wG (xs:=(ways m ps).map W.int) aB ?_
         rw [List.length_map]
         repeat walk_at "sy"
         exact fin _ (((x27.trans x8).trans x9).trans .push)
end
section
def prM:Nat->List Int->List (List (Int × Int))
 | 0,_=>[[]]
 | _ + 1,[]=>[[]]
 | k + 1,a::r=>r.flatMap fun b=>(prM k (r.filter fun x=> !decide (x=b))).map ((a,b)::·)
def bB:Nat->Nat
 | 0=>1
 | k + 1=>(2 * k + 1) * bB k
theorem rO {α β:Type} {g:α->List β} {B:Nat}:∀ {l:List α},(∀ x ∈ l,(g x).length <= B)->(l.flatMap g).length <= l.length * B
 | [],_=>by simp
 | x::l,h=>by
   have a:=h x (List.mem_cons_self ..)
   have b:=rO (l:=l) fun y hy=>h y (List.mem_cons_of_mem _ hy)
   rw [List.flatMap_cons,List.length_append,List.length_cons,Nat.succ_mul];omega
theorem uX {r:List Int} {b:Int} (m:b ∈ r):(r.filter fun x=> !decide (x=b)).length < r.length:=List.length_filter_lt_length_iff_exists.mpr ⟨b,m,by simp⟩
theorem Hj:∀ k,1 <= bB k
 | 0=>Nat.le_refl _
 | k + 1=>by
   have:=Hj k
   show 1 <= (2 * k + 1) * bB k
   exact Nat.le_trans (by omega) (Nat.mul_le_mul (show 1 <= 2 * k + 1 by omega) this)
theorem ue:∀ (k:Nat) (ns:List Int),ns.length <= 2 * k->(prM k ns).length <= bB k
 | 0,_,_=>Nat.le_refl _
 | k + 1,[],_=>Hj _
 | k + 1,a::r,h=>by
   have hr:r.length <= 2 * k + 1:=by simp at h;omega
   refine Nat.le_trans (rO (B:=bB k) fun b hb=>?_) (Nat.mul_le_mul hr (Nat.le_refl _))
   rw [List.length_map]
   have:=uX hb
   exact ue k _ (by omega)
theorem J9 {k:Nat} (h:k <= 5):bB k <= 945:=by
 match k,h with
 | 0,_ | 1,_ | 2,_ | 3,_ | 4,_ | 5,_=>decide
 | k + 6,h=>omega
theorem rP:∀ (k:Nat) (ns:List Int) (ps:List (Int × Int)),ps ∈ prM k ns->ps.length <= k
 | 0,_,ps,h=>by simp [prM] at h;subst h;simp
 | k + 1,[],ps,h=>by simp [prM] at h;subst h;simp
 | k + 1,a::r,ps,h=>by
   simp only [prM,List.mem_flatMap,List.mem_map] at h
   obtain ⟨b,_,qs,hq,rfl⟩:=h
   have:=rP k _ qs hq
   simp;omega
abbrev dN (rs:List (List (Int × Int))):List D:=rs.map fun ps=>Dps ps
theorem Qu:∀ (k:Nat) {ns:List Int} {p d n:Nat} {h:Hs} {Q:W->Hs->Prop},ns.length <= 2 * k->k <= 5->p < h.n->h.get p=some (.lst (ns.map W.int))->
 (∀ r h',Ext h h'->Ev.Rd h' (fun q=>h.n <= q) (.lst (dN (prM k ns))) (.ref r)->Q (.ref r) h')->wC 4 [.ref p] (bN Pg (d + k + 1)) (n + 1200 + 30 * k) h Q:=by
 intro k
 induction k with
 | zero=>
   intro ns p d n h Q hl _ lp e q
   have en:ns= []:=List.length_eq_zero_iff.mp (by omega)
   subst en
   refine (jP rfl rfl).mpr ?_
   unfold oN
   repeat walk_at "sy"
   refine yS e ?_
   repeat walk_at "sy"
   refine G3 rfl ?_
   repeat walk_at "sy"
   refine q _ _ (Ext.push.trans .push) (gw.mpr ⟨_,_,rfl,aP,Ext.push.1,aB,?_⟩)
   simp only [dN,prM,List.map_cons,List.map_nil,Rds]
   exact ⟨_,_,rfl,gw.mpr ⟨_,[],rfl,Nat.lt_of_lt_of_le aP Ext.push.1,Nat.le_refl _,Ext.push.get aP aB,by simp [Rds]⟩,rfl⟩
 | succ k ih=>
   intro ns p d n h Q hl hk lp e q
   have en:n + 1200 + 30 * (k + 1)=(n + 1229 + 30 * k) + 1:=by omega
   rw [en]
   refine (jP rfl rfl).mpr ?_
   unfold oN
   repeat walk_at "sy"
   refine yS e ?_
   repeat walk_at "sy"
   cases ns with
   | nil=>
     refine G3 rfl ?_
     repeat walk_at "sy"
     refine q _ _ (Ext.push.trans .push) (gw.mpr ⟨_,_,rfl,aP,Ext.push.1,aB,?_⟩)
     simp only [dN,prM,List.map_cons,List.map_nil,Rds]
     exact ⟨_,_,rfl,gw.mpr ⟨_,[],rfl,Nat.lt_of_lt_of_le aP Ext.push.1,Nat.le_refl _,Ext.push.get aP aB,by simp [Rds]⟩,rfl⟩
   | cons a r=>
     refine wJ rfl ?_
     repeat walk_at "sy"
     have hr:r.length <= 2 * k + 1:=by simp at hl;omega
     have x1:Ext h (h.push (.lst [])):=.push
     have g1:(h.push (.lst [])).get h.n=some (.lst []):=aB
     have l1:h.n < (h.push (.lst [])).n:=aP
     generalize h.push (.lst [])=h1 at *
     have B:=J9 (k:=k) (by omega)
     refine qe (fB (yR ?_))
     repeat walk_at "sy"
     have epx:=x1.get lp e
     refine ⟨p,_,1,rfl,rfl,by simp,epx,?_⟩
     have ed:((a::r).map W.int).drop 1=r.map W.int:=rfl
     rw [ed]
     have x2:Ext h1 (h1.push (.lst (r.map W.int))):=.push
     have g2:(h1.push (.lst (r.map W.int))).get h1.n=some (.lst (r.map W.int)):=aB
     have l2:h1.n < (h1.push (.lst (r.map W.int))).n:=aP
     generalize h1.push (.lst (r.map W.int))=h2 at *
     have hS:h.n ≠ h1.n:=by omega
     have lF2:=Nat.lt_of_lt_of_le l1 x2.1
     have gF2:=x2.get l1 g1
     have x2h:=x1.trans x2
     clear x1 x2 l1 g1
     generalize h1.n=S at *
     have G:∀ b ∈ r,((prM k (r.filter fun x=> !decide (x=b))).map ((a,b)::·)).length <= bB k:=fun b hb=>by
      rw [List.length_map]
      have:=uX hb
      exact ue k _ (by omega)
     refine ⟨S,_,rfl,.inl ⟨g2,r.map W.int,fun i τ hh=>∃ (u v w:Option W) (ws:List W),τ= [some (.ref p),some (.ref h.n),u,v,w]/\Ext h hh/\S < hh.n/\hh.get S=some (.lst (r.map W.int))/\h.n < hh.n/\hh.get h.n=some (.lst ws)/\Rds hh (fun q=>q ≠ h.n/\h.n <= q) (dN ((r.take i).flatMap fun b=>(prM k (r.filter fun x=> !decide (x=b))).map ((a,b)::·))) ws,fun i τ hh ⟨_,_,_,_,_,_,lS,gS,_⟩=>.inl ⟨S,rfl,gS⟩,by simp;omega,⟨none,none,none,[],rfl,x2h,l2,g2,lF2,gF2,by simp [Rds]⟩,?_,?_⟩⟩
     · rintro i w τ hh m ei lm ⟨u,v,w',ws,rfl,xh,lS,gS,lF,gF,rF⟩
       rw [List.getElem?_map] at ei
       obtain ⟨b,eb,rfl⟩:=Option.map_eq_some_iff.mp ei
       rw [List.length_map] at lm
       have mb:b ∈ r:=List.mem_of_getElem? eb
       refine ⟨[some (.ref p),some (.ref h.n),some (.int b),v,w'],rfl,?_⟩
       repeat walk_at "sy"
       refine mJ (fB (yR ?_))
       repeat walk_at "sy"
       refine ⟨p,_,1,rfl,rfl,by simp,xh.get lp e,?_⟩
       rw [ed]
       refine ⟨hh.n,_,rfl,.inl ⟨aB,.push,r.map W.int,fun w=>match w with | .int x=> !decide (x=b) | _=>false,fun h3 x3=>iV aB aP x3,by simp;omega,by simp;omega,?_,?_⟩⟩
       · intro i' w h3 m' ei' lm' x3 l3
         rw [List.getElem?_map] at ei'
         obtain ⟨y,ey,rfl⟩:=Option.map_eq_some_iff.mp ei'
         refine ⟨_,rfl,?_⟩
         repeat walk_at "sy"
         refine ⟨rfl,.refl,fun _=>?_⟩
         repeat walk_at "sy"
         exact ⟨rfl,.refl⟩
       intro h3 x3 l3 g3
       rw [List.filter_map] at g3
       have x3:Ext hh h3:=Ext.push.trans x3
       have l3':hh.n <= (hh.push (.lst (r.map W.int))).n:=Ext.push.1
       generalize (hh.push (.lst (r.map W.int))).n=pO at *
       have g3:h3.get pO=some (.lst ((r.filter fun x=> !decide (x=b)).map W.int)):=g3
       repeat walk_at "sy"
       have ol:=uX mb
       have pl:(prM k (r.filter fun x=> !decide (x=b))).length <= 945:=Nat.le_trans (ue k _ (by omega)) B
       refine qe (fB ?_)
       repeat walk_at "sy"
       obtain ⟨m1,rfl⟩:∃ m1,m=m1 + 1200 + 30 * k:=⟨m - 1200 - 30 * k,by omega⟩
       refine ih (by omega) (by omega) l3 g3 fun R h4 x4 r4=>?_
       obtain ⟨_,wsR,eR,lR,aR,gR,rR⟩:=gw.mp r4
       cases eR
       have wl:wsR.length=(prM k (r.filter fun x=> !decide (x=b))).length:=by rw [rR.length];simp
       have x34:=x3.trans x4
       have lF4:=Nat.lt_of_lt_of_le lF x34.1
       have lS4:=Nat.lt_of_lt_of_le lS x34.1
       have bl:((r.take i).flatMap fun b=>(prM k (r.filter fun x=> !decide (x=b))).map ((a,b)::·)).length <= 10 * 945:=by
        refine Nat.le_trans (rO (B:=945) fun b hb=>?_) (Nat.mul_le_mul (by simp;omega) (Nat.le_refl _))
        exact Nat.le_trans (G b (List.mem_of_mem_take hb)) B
       refine ⟨R,_,rfl,.inl ⟨gR,wsR,fun j τ hh=>∃ (w:Option W) (ws:List W),τ= [some (.ref p),some (.ref h.n),some (.int b),some (.ref pO),w]/\Ext h hh/\S < hh.n/\hh.get S=some (.lst (r.map W.int))/\h.n < hh.n/\hh.get h.n=some (.lst ws)/\R < hh.n/\hh.get R=some (.lst wsR)/\Rds hh (fun q=>q ≠ h.n/\h.n <= q) (dN (prM k (r.filter fun x=> !decide (x=b)))) wsR/\Rds hh (fun q=>q ≠ h.n/\h.n <= q) (dN (((r.take i).flatMap fun b=>(prM k (r.filter fun x=> !decide (x=b))).map ((a,b)::·)) ++ ((prM k (r.filter fun x=> !decide (x=b))).take j).map ((a,b)::·))) ws,fun j τ hh ⟨_,_,_,_,_,_,_,_,_,gR,_⟩=>.inl ⟨R,rfl,gR⟩,by omega,⟨w',ws,rfl,xh.trans x34,lS4,x34.get lS gS,lF4,x34.get lF gF,lR,gR,rR.imp fun q _ z=>⟨by omega,by omega⟩,by simp only [List.take_zero,List.map_nil,List.append_nil];exact rF.ext x34⟩,?_,?_⟩⟩
       · rintro j wj τ h5 m2 ej lm2 ⟨w5,ws5,rfl,x5,lS5,gS5,lF5,gF5,lR5,gR5,rR5,rF5⟩
         obtain ⟨dj,edj,rdj⟩:=rR5.at ej
         rw [List.getElem?_map] at edj
         obtain ⟨ps,eps,rfl⟩:=Option.map_eq_some_iff.mp edj
         obtain ⟨pj,wsj,rfl,lj,aj,gj,rj⟩:=gw.mp rdj
         refine ⟨[some (.ref p),some (.ref h.n),some (.int b),some (.ref pO),some (.ref pj)],rfl,?_⟩
         repeat walk_at "sy"
         refine rK ?_
         repeat walk_at "sy"
         refine ⟨h.n,_,rfl,gF5,?_⟩
         repeat walk_at "sy"
         refine Jt (q:=0) (w:=.int a) (x5.get lp e) rfl ?_
         repeat walk_at "sy"
         have x6:Ext h5 ((h5.push (.tup [.int a,.int b])).push (.lst [.ref h5.n])):=Ext.push.trans .push
         have gT:((h5.push (.tup [.int a,.int b])).push (.lst [.ref h5.n])).get h5.n=some (.tup [.int a,.int b]):=Ext.push.get aP aB
         have gN:((h5.push (.tup [.int a,.int b])).push (.lst [.ref h5.n])).get (h5.push (.tup [.int a,.int b])).n=some (.lst [.ref h5.n]):=aB
         have lT:h5.n < ((h5.push (.tup [.int a,.int b])).push (.lst [.ref h5.n])).n:=Nat.lt_of_lt_of_le aP Ext.push.1
         generalize (h5.push (.tup [.int a,.int b])).push (.lst [.ref h5.n])=h6 at *
         have szj:wsj.length <= 16777000:=by
          have:wsj.length=ps.length:=by rw [rj.length];simp
          have:=rP k _ ps (List.mem_of_getElem? eps)
          omega
         refine wH gN (x6.get lj gj) (by show 1 + _ <= _;omega) ?_
         have x7:Ext h6 (h6.push (.lst ([.ref h5.n] ++ wsj))):=.push
         have g7:(h6.push (.lst ([.ref h5.n] ++ wsj))).get h6.n=some (.lst ([.ref h5.n] ++ wsj)):=aB
         have l7:h6.n < (h6.push (.lst ([.ref h5.n] ++ wsj))).n:=aP
         generalize h6.push (.lst ([.ref h5.n] ++ wsj))=h7 at *
         have x57:=x6.trans x7
         have l56:=x6.1
         refine ⟨ws5,x57.get lF5 gF5,?_,?_⟩
         · have:ws5.length=((r.take i).flatMap fun b=>(prM k (r.filter fun x=> !decide (x=b))).map ((a,b)::·)).length + ((prM k (r.filter fun x=> !decide (x=b))).take j).length:=by rw [rF5.length];simp
           have:((prM k (r.filter fun x=> !decide (x=b))).take j).length <= 945:=by simp;omega
           omega
         repeat walk_at "sy"
         have new:Ev.Rd h7 (fun q=>q ≠ h.n/\h.n <= q) (Dps ((a,b)::ps)) (.ref h6.n):=by
          refine gw.mpr ⟨_,_,rfl,l7,⟨by omega,by omega⟩,g7,?_⟩
          simp only [List.map_cons,List.cons_append,List.nil_append,Rds]
          exact ⟨_,_,rfl,Eg.mpr ⟨h5.n,rfl,Nat.lt_of_lt_of_le lT x7.1,⟨by omega,by omega⟩,x7.get lT gT⟩,rj.ext x57⟩
         refine ⟨_,ws5 ++ [.ref h6.n],rfl,(x5.trans x57).set (Nat.le_refl _),by rw [Hs.gH];exact Nat.lt_of_lt_of_le lS5 x57.1,by rw [Hs.get_set,if_neg (fun z=>hS z.symm)];exact x57.get lS5 gS5,by rw [Hs.gH];exact Nat.lt_of_lt_of_le lF5 x57.1,by rw [Hs.get_set,if_pos rfl],by rw [Hs.gH];exact Nat.lt_of_lt_of_le lR5 x57.1,?_,?_,?_⟩
         · rw [Hs.get_set,if_neg (by omega)];exact x57.get lR5 gR5
         · exact Rds.to (by rw [Hs.gH];exact Nat.le_refl _) (fun k _ z=>⟨by rw [Hs.get_set,if_neg z.1],z⟩) _ _ (rR5.ext x57)
         · have s:=(rF5.ext x57).snoc new
           rw [List.take_add_one,eps]
           have ee:dN ((r.take i).flatMap (fun b=>(prM k (r.filter fun x=> !decide (x=b))).map ((a,b)::·)) ++ ((prM k (r.filter fun x=> !decide (x=b))).take j ++ (some ps).toList).map ((a,b)::·))=dN ((r.take i).flatMap (fun b=>(prM k (r.filter fun x=> !decide (x=b))).map ((a,b)::·)) ++ ((prM k (r.filter fun x=> !decide (x=b))).take j).map ((a,b)::·)) ++ [Dps ((a,b)::ps)]:=by simp [dN]
           rw [ee]
           exact Rds.to (by rw [Hs.gH];exact Nat.le_refl _) (fun k _ z=>⟨by rw [Hs.get_set,if_neg z.1],z⟩) _ _ s
       · rintro τ h5 ⟨w5,ws5,rfl,x5,lS5,gS5,lF5,gF5,lR5,gR5,rR5,rF5⟩
         repeat walk_at "sy"
         refine ⟨_,_,_,ws5,rfl,x5,lS5,gS5,lF5,gF5,?_⟩
         rw [wl,List.take_length] at rF5
         rw [List.take_add_one,eb,List.flatMap_append]
         simpa using rF5
     · rintro τ h5 ⟨u,v,w,ws,rfl,x5,lS5,gS5,lF5,gF5,rF5⟩
       rw [List.length_map,List.take_length] at rF5
       repeat walk_at "sy"
       exact q h.n h5 x5 (gw.mpr ⟨_,ws,rfl,lF5,Nat.le_refl _,gF5,rF5.imp fun q _ z=>z.2⟩)
end
section
variable {d n:Nat} {h:Hs} {Q:W->Hs->Prop}
noncomputable def stM (m:Int):List (List (Int × Int)):=(prM 5 (cA 1 (m - 1).toNat)).filter fun ps=>dist (ways m ps)
noncomputable def okR (h:Hs) (m:Int):W->Bool
 | .ref j=>(match h.get j with | some (.lst xs)=>(match cu h xs with | some ps=>dist (ways m ps) | none=>false) | _=>false)
 | _=>false
theorem Hl {A:Nat->Prop} {m:Int} {ps:List (Int × Int)} {w:W} (r:Ev.Rd h A (Dps ps) w):okR h m w=dist (ways m ps):=by
 obtain ⟨j,xs,rfl,lj,_,gj,rj⟩:=gw.mp r
 unfold okR
 simp only [gj,mL rj]
theorem Eu {m:Int} (r:Ring m) (k:∀ f ws h',Ext h h'->f < h'.n->h.n <= f->h'.get f=some (.lst ws)->Rds h' (fun q=>q ≠ f/\h.n <= q) (dN (stM m)) ws->Q (.ref f) h'):wC 5 [.int m] (bN Pg (d + 8)) (n + 3000) h Q:=by
 have b:=r.bd
 refine (jP rfl rfl).mpr ?_
 unfold tW
 repeat walk_at "sy"
 refine Hh r ?_
 repeat walk_at "sy"
 refine mJ (fB ?_)
 repeat walk_at "sy"
 refine G7 (by decide) (by omega) ?_
 repeat walk_at "sy"
 have ln:(cA 1 (m - 1).toNat).length=(m - 1).toNat:=by unfold cA;simp
 refine Qu 5 (d:=d + 1) (n:=n + 1649) (by omega) (by decide) aP aB fun R h1 x1 r1=>?_
 obtain ⟨_,ws,eR,lR,aR,gR,rs⟩:=gw.mp r1
 cases eR
 have wl:ws.length=(prM 5 (cA 1 (m - 1).toNat)).length:=by rw [rs.length];simp
 have pl:(prM 5 (cA 1 (m - 1).toNat)).length <= 945:=Nat.le_trans (ue 5 _ (by omega)) (J9 (by decide))
 refine ⟨R,_,rfl,.inl ⟨gR,Ext.push.trans x1,ws,okR h1 m,fun h2 x2=>iV gR lR x2,by omega,by omega,?_,?_⟩⟩
 · intro i w h2 m' ei lm x2 l2
   obtain ⟨dj,edj,rdj⟩:=rs.at ei
   rw [List.getElem?_map] at edj
   obtain ⟨ps,eps,rfl⟩:=Option.map_eq_some_iff.mp edj
   have psl:=rP 5 _ ps (List.mem_of_getElem? eps)
   obtain ⟨pj,wsj,rfl,lj,aj,gj,rj⟩:=gw.mp rdj
   refine ⟨_,rfl,?_⟩
   repeat walk_at "sy"
   obtain ⟨m2,rfl⟩:∃ m2,m'=m2 + 200:=⟨m' - 200,by omega⟩
   refine zX (by omega) (Nat.lt_of_lt_of_le lj x2.1) (x2.get lj gj) ((rj.imp (A':=fun _=>True) fun _ _ _=>trivial).ext x2) (by omega) fun h3 x3=>?_
   repeat walk_at "sy"
   refine ⟨by rw [Hl rdj],x3,fun _=>?_⟩
   repeat walk_at "sy"
   exact ⟨rfl,.refl⟩
 intro h3 x3 l3 g3
 have rf:=Rds.Qh (P:=okR h1 m) (P':=fun ps=>dist (ways m ps)) (fun ps w z=>Hl z) rs
 repeat walk_at "sy"
 have x13:Ext h h1:=Ext.push.trans x1
 exact k _ _ h3 (x13.trans x3) l3 x13.1 g3 (Rds.to x3.1 (fun k l z=>⟨x3.2 k l,by omega,Nat.le_trans Ext.push.1 z⟩) _ _ rf)
end
theorem zZ:∀ rs:List (List (Int × Int)),iw (dN rs) <= 3
 | []=>by simp [dN,iw]
 | ps::rs=>by
   have a:=yI (fun p:Int × Int=>p.1) (fun p=>p.2) ps
   have b:=zZ rs
   simp only [dN,List.map_cons,iw,eX,Dps] at *;omega
theorem Cv:∀ rs:List (List (Int × Int)),jr (dN rs)=true
 | []=>by simp [dN,jr]
 | ps::rs=>by
   have a:=Eh (fun p:Int × Int=>p.1) (fun p=>p.2) ps
   have b:=Cv rs
   simp only [dN,List.map_cons,jr,okD,Dps] at *
   rw [a,b];rfl
theorem Ho (rs:List (List (Int × Int))):eX (.lst (dN rs)) <= 12:=by simp only [eX];have:=zZ rs;omega
theorem J_ (rs:List (List (Int × Int))):okD (.lst (dN rs))=true:=by simp only [okD];exact Cv rs
theorem Qv {d n:Nat} {h:Hs} {z:Int} (o:z=0\/z=1\/z=2\/z=4\/z=10\/z=12\/z=13\/z= -3\/z=10 ^ (40:Int).toNat + 1):jM 5 [.int z] (bN Pg (d + 2)) (n + 2) h= .ex 0 [(fu,.str [98,97,100,32,114,105,110,103])] h:=by
 rcases o with rfl | rfl | rfl | rfl | rfl | rfl | rfl | rfl | rfl <;> rfl
noncomputable def JB (h:Hs):W->Option (List (Int × Int))
 | .ref j=>(match h.get j with | some (.lst xs)=>cu h xs | _=>none)
 | _=>none
noncomputable def oY (h:Hs):List W->Option (List (List (Int × Int)))
 | []=>some []
 | w::ws=>(JB h w).bind fun ps=>(oY h ws).map fun rs=>ps::rs
theorem vG {h:Hs} (v:∀ k o,h.get k=some o->k < h.n):∀ {ws:List W} {rs:List (List (Int × Int))},oY h ws=some rs->Rds h (fun _=>True) (dN rs) ws
 | [],rs,e=>by cases e;simp [Rds]
 | w::ws,rs,e=>by
   have e:((JB h w).bind fun ps=>(oY h ws).map fun rs=>ps::rs)=some rs:=e
   cases e1:JB h w with
   | none=>rw [e1] at e;cases e
   | some ps=>
     rw [e1] at e
     have e:((oY h ws).map fun rs=>ps::rs)=some rs:=e
     cases e2:oY h ws with
     | none=>rw [e2] at e;cases e
     | some qs=>
       rw [e2] at e
       cases e
       simp only [dN,List.map_cons,Rds]
       refine ⟨_,_,rfl,?_,vG v e2⟩
       cases w with
       | ref j=>
         have e1:(match h.get j with | some (.lst xs)=>cu h xs | _=>none)=some ps:=e1
         cases g:h.get j with
         | none=>rw [g] at e1;cases e1
         | some o=>
           rw [g] at e1
           cases o with
           | lst xs=>exact gw.mpr ⟨j,xs,rfl,v _ _ g,trivial,g,uc v e1⟩
           | _=>cases e1
       | _=>cases e1
noncomputable def JC (kv:List (Nat × W)) (os:List O):Bool:=match kv,os with
 | [(2,.int m),(3,.ref 0)],.lst ws::r=>(m == 3 || m == 5 || m == 7 || m == 9 || m == 11) && (decide (oY (heapOf (.lst ws::r)) ws=some (stM m)) && (decide ((stM m).length <= 1000) && (stM m).all (fun ps=>decide (ps.length <= 5) && jR m ps)))
 | _,_=>false
theorem R3 {kv:List (Nat × W)} {os:List O} (e:JC kv os=true):∃ m ws,kv= [(2,.int m),(3,.ref 0)]/\Ring m/\os[0]? =some (.lst ws)/\oY (heapOf os) ws=some (stM m)/\(stM m).length <= 1000/\∀ ps ∈ stM m,ps.length <= 5/\jR m ps=true:=by
 unfold JC at e
 split at e
 · rename_i m ws r
   simp only [Bool.and_eq_true] at e
   obtain ⟨e1,e2,e4,e3⟩:=e
   refine ⟨m,ws,rfl,?_,rfl,of_decide_eq_true e2,of_decide_eq_true e4,fun ps hp=>?_⟩
   · simp only [Bool.or_eq_true,beq_iff_eq] at e1
     rcases e1 with (((e | e) | e) | e) | e
     · exact .inl e
     · exact .inr (.inl e)
     · exact .inr (.inr (.inl e))
     · exact .inr (.inr (.inr (.inl e)))
     · exact .inr (.inr (.inr (.inr e)))
   · have:=List.all_eq_true.mp e3 ps hp
     rw [Bool.and_eq_true] at this
     exact ⟨of_decide_eq_true this.1,this.2⟩
 · cases e
theorem Qw {r:R A} (x:okQ r (aF fun f _=>f= .rt (.bl true))):yo r=true:=by
 cases r with
 | ok a h=>cases a with
   | fl f=>cases (show f= .rt (.bl true) from x);rfl
   | _=>exact x.elim
 | _=>exact x.elim
theorem uf {kv:List (Nat × W)} {os:List O} {k0:Nat} {l:List Int} (ok:JC kv os=true) (hl:l ∈ rowsOf [9]):QE kv os (Int.ofNat k0::l):=by
 obtain ⟨m,wr,rfl,rg,e0,R4,Ul,hall⟩:=R3 ok
 have b:=rg.bd
 obtain ⟨z,rfl,z0,z9⟩:∃ z,l= [z]/\0 <= z/\z < 9:=by
  have:rowsOf [9] = [[0],[1],[2],[3],[4],[5],[6],[7],[8]]:=by decide
  rw [this] at hl
  simp at hl
  rcases hl with rfl | rfl | rfl | rfl | rfl | rfl | rfl | rfl | rfl <;> exact ⟨_,rfl,by decide,by decide⟩
 refine Qw ?_
 show wS tl2 (bN Pg 14) 20000 (frm 8 [(1,.ref os.length),(2,.int m),(3,.ref 0)]) (heapOf (os ++ [.lst ([Int.ofNat k0,z].map W.int)])) _
 rw [jz]
 have nos:(heapOf os).n=os.length:=(dY os).1
 have gp0:(heapOf os).get 0=some (.lst wr):=by rw [(dY os).2];exact e0
 have v:=Es os
 have lp0:=v _ _ gp0
 have x0:Ext (heapOf os) ((heapOf os).push (.lst ([Int.ofNat k0,z].map W.int))):=.push
 have rs:=(vG v R4).ext x0
 have gr:((heapOf os).push (.lst ([Int.ofNat k0,z].map W.int))).get os.length=some (.lst ([Int.ofNat k0,z].map W.int)):=by rw [<- nos];exact aB
 have lr:os.length < ((heapOf os).push (.lst ([Int.ofNat k0,z].map W.int))).n:=by rw [<- nos];exact aP
 have gp:=x0.get lp0 gp0
 have lp:=Nat.lt_of_lt_of_le lp0 x0.1
 generalize (heapOf os).push (.lst ([Int.ofNat k0,z].map W.int))=hh at *
 generalize os.length=pr at *
 have wl:wr.length=(stM m).length:=by rw [rs.length];simp
 unfold tl2
 refine Ce.mpr (qe (GZ ?_))
 repeat walk_at "sy"
 refine ⟨2,rfl,by decide,by decide,mK 0 2,fun i τ h1=>∃ u v w:Option W,τ= [none,some (.ref pr),some (.int m),some (.ref 0),u,v,w,none]/\Ext hh h1,fun _ _ _ _=>uR,by decide,⟨none,none,none,rfl,.refl⟩,?_,?_⟩
 · rintro i w τ h1 m1 ei lm ⟨u,v',w',rfl,x1⟩
   rw [fC] at lm
   refine ⟨[none,some (.ref pr),some (.int m),some (.ref 0),some w,v',w',none],rfl,?_⟩
   repeat walk_at "sy"
   obtain ⟨m2,rfl⟩:∃ m2,m1=m2 + 3000:=⟨m1 - 3000,by omega⟩
   refine Eu (d:=6) rg fun f ws h2 x2 lf af gf rf=>?_
   have x12:=x1.trans x2
   have fl:ws.length=(stM m).length:=by rw [rf.length];simp
   repeat walk_at "sy"
   refine PL (d:=.lst (dN (stM m))) (d':=.lst (dN (stM m))) (A:=fun _=>True) (B:=fun _=>True) (gw.mpr ⟨f,ws,rfl,lf,trivial,gf,rf.imp fun _ _ _=>trivial⟩) (gw.mpr ⟨0,wr,rfl,Nat.lt_of_lt_of_le lp x12.1,trivial,x12.get lp gp,rs.ext x12⟩) (Ho _) (Ho _) (J_ _) (J_ _) ?_
   rw [tM]
   repeat walk_at "sy"
   refine qe (fB ?_)
   repeat walk_at "sy"
   refine ⟨f,ws,rfl,.inl ⟨gf,ws,fun j τ h3=>∃ u:Option W,τ= [none,some (.ref pr),some (.int m),some (.ref 0),some w,some (.ref f),u,none]/\Ext h1 h3/\f < h3.n/\h3.get f=some (.lst ws)/\∀ w ∈ ws,∃ (q:Nat) (xs:List W),w= .ref q/\q < h3.n/\q ≠ f/\h1.n <= q/\h3.get q=some (.lst xs)/\xs.length <= 5 + j,fun j τ h3 ⟨_,_,_,_,g,_⟩=>.inl ⟨f,rfl,g⟩,by omega,⟨w',rfl,x2,lf,gf,fun w hw=>?_⟩,?_,?_⟩⟩
   · obtain ⟨dd,hdd,rdd⟩:=Rds.mem rf hw
     obtain ⟨ps,hps,rfl⟩:=List.mem_map.mp hdd
     obtain ⟨q,xs,rfl,lq,aq,gq,rq⟩:=gw.mp rdd
     have:xs.length=ps.length:=by rw [rq.length];simp
     have:=(hall ps hps).1
     exact ⟨q,xs,rfl,lq,aq.1,aq.2,gq,by omega⟩
   · rintro j wj τ h3 m3 ej lm3 ⟨u3,rfl,x3,lf3,gf3,al3⟩
     obtain ⟨q,xs,rfl,lq,nq,aq,gq,lx⟩:=al3 wj (List.mem_of_getElem? ej)
     have lj:j < ws.length:=(List.getElem?_eq_some_iff.mp ej).1
     refine ⟨[none,some (.ref pr),some (.int m),some (.ref 0),some w,some (.ref f),some (.ref q),none],rfl,?_⟩
     repeat walk_at "sy"
     refine rK ?_
     repeat walk_at "sy"
     refine ⟨q,_,rfl,gq,?_⟩
     repeat walk_at "sy"
     have x4:Ext h3 (h3.push (.tup [.int 0,.int 0])):=.push
     refine ⟨xs,x4.get lq gq,by omega,?_⟩
     repeat walk_at "sy"
     refine ⟨_,rfl,(x3.trans x4).set aq,by rw [Hs.gH];exact Nat.lt_of_lt_of_le lf3 x4.1,by rw [Hs.get_set,if_neg (fun z=>nq z.symm)];exact x4.get lf3 gf3,fun w hw=>?_⟩
     obtain ⟨q',xs',rfl,lq',nq',aq',gq',lx'⟩:=al3 w hw
     by_cases c:q'=q
     · subst c
       rw [gq] at gq';cases gq'
       exact ⟨q',_,rfl,by rw [Hs.gH];exact Nat.lt_of_lt_of_le lq' x4.1,nq',aq',by rw [Hs.get_set,if_pos rfl],by simp;omega⟩
     · exact ⟨q',xs',rfl,by rw [Hs.gH];exact Nat.lt_of_lt_of_le lq' x4.1,nq',aq',by rw [Hs.get_set,if_neg c];exact x4.get lq' gq',by omega⟩
   · rintro τ h3 ⟨u3,rfl,x3,lf3,gf3,al3⟩
     repeat walk_at "sy"
     refine rK ?_
     repeat walk_at "sy"
     refine ⟨f,_,rfl,gf3,?_⟩
     repeat walk_at "sy"
     refine ⟨ws,Ext.push.get lf3 gf3,by omega,?_⟩
     repeat walk_at "sy"
     exact ⟨_,_,_,rfl,x1.trans ((x3.trans .push).set af)⟩
 rintro τ h1 ⟨u,v',w',rfl,x1⟩
 repeat walk_at "sy"
 refine RV (by decide) (by decide) ?_
 repeat walk_at "sy"
 refine Jt (q:=1) (w:=.int z) ((x1.trans .push).get lr gr) rfl ?_
 repeat walk_at "sy"
 obtain ⟨od,eo,ho⟩:∃ od:Int,([0,1,2,4,10,12,13,-3,10 ^ (40:Int).toNat + 1].map W.int)[z.toNat]? =some (.int od)/\(od=0\/od=1\/od=2\/od=4\/od=10\/od=12\/od=13\/od= -3\/od=10 ^ (40:Int).toNat + 1):=by
  refine ⟨_,Lx (by show _ < 9;omega),?_⟩
  have:z.toNat < 9:=by omega
  generalize z.toNat=k at this
  match k,this with
  | 0,_=>simp
  | 1,_=>simp
  | 2,_=>simp
  | 3,_=>simp
  | 4,_=>simp
  | 5,_=>simp
  | 6,_=>simp
  | 7,_=>simp
  | 8,_=>simp
 refine Ed aB z0 eo ?_
 have x2:Ext h1 (h1.push (.lst [.int 0,.int 1,.int 2,.int 4,.int 10,.int 12,.int 13,.int (-3),.int (10 ^ (40:Int).toNat + 1)])):=.push
 generalize h1.push (.lst [.int 0,.int 1,.int 2,.int 4,.int 10,.int 12,.int 13,.int (-3),.int (10 ^ (40:Int).toNat + 1)])=h2 at *
 repeat walk_at "sy"
 have ee:(X.call 5 [.var 0]).f (bN Pg 12) 20000 (dM 0 [7] (setAt [none,some (W.ref pr),some (W.int m),some (W.ref 0),u,v',w',none] (some (W.int od)) 7)) h2= .ex 0 [(fu,.str [98,97,100,32,114,105,110,103])] h2:=Lz (ws:=[.int od]) (h1:=h2) rfl (Qv ho)
 refine Qc (c1:=_) (c2:=_) ee (by decide) rfl ?_
 repeat walk_at "sy"
 have rn:∀ (h':Hs) (p:Nat),p < h'.n->h'.get p=some (.tup [.str noT,.str [98,97,100,32,114,105,110,103]])->Ev.Rd h' (fun _=>True) (.tup [.str noT,.str [98,97,100,32,114,105,110,103]]) (.ref p):=fun h' p l g=>by
  simp only [Ev.Rd,Rds]
  exact ⟨p,_,rfl,l,trivial,g,_,_,rfl,rfl,_,_,rfl,rfl,rfl⟩
 refine wF (rn _ _ (Nat.lt_of_lt_of_le aP Ext.push.1) (Ext.push.get aP aB)) (rn _ _ aP aB) (by decide) (by decide) rfl rfl ?_
 rw [vz]
 have x3:Ext hh ((h2.push (.tup [.str noT,.str [98,97,100,32,114,105,110,103]])).push (.tup [.str [110,111],.str [98,97,100,32,114,105,110,103]])):=((x1.trans x2).trans .push).trans .push
 generalize (h2.push (.tup [.str noT,.str [98,97,100,32,114,105,110,103]])).push (.tup [.str [110,111],.str [98,97,100,32,114,105,110,103]])=h3 at *
 repeat walk_at "sy"
 have gp3:=x3.get lp gp
 have lp3:=Nat.lt_of_lt_of_le lp x3.1
 have rs3:=rs.ext x3
 refine comp_map (fB ?_)
 repeat walk_at "sy"
 refine ⟨0,_,rfl,.inl ⟨gp3,.refl,wr,(List.replicate wr.length true).map D.bl,fun _=>False,fun h2 x2=>iV gp3 lp3 x2,fun _ z=>z.elim,by simp,by omega,by omega,?_,?_⟩⟩
 · intro i w d' h4 m' ei ed lm x4 l4
   have li:i < wr.length:=(List.getElem?_eq_some_iff.mp ei).1
   rw [List.getElem?_map,List.getElem?_replicate,if_pos li] at ed
   cases ed
   obtain ⟨dj,edj,rdj⟩:=rs3.at ei
   rw [List.getElem?_map] at edj
   obtain ⟨ps,eps,rfl⟩:=Option.map_eq_some_iff.mp edj
   obtain ⟨pl5,pst⟩:=hall ps (List.mem_of_getElem? eps)
   obtain ⟨pj,wsj,rfl,lj,aj,gj,rj⟩:=gw.mp rdj
   refine ⟨_,rfl,?_⟩
   repeat walk_at "sy"
   obtain ⟨m2,rfl⟩:∃ m2,m'=m2 + 400:=⟨m' - 400,by omega⟩
   refine An (d:=11) rg (Nat.lt_of_lt_of_le lj x4.1) (x4.get lj gj) (rj.ext x4) (by omega) fun h5 x5=>?_
   rw [pst]
   repeat walk_at "sy"
   have x45:=x4.trans x5
   refine Am (d:=11) rg (Nat.lt_of_lt_of_le lj x45.1) (x45.get lj gj) (rj.ext x45) (by omega) fun h6 x6=>?_
   rw [pst]
   exact ⟨x5.trans x6,by simp only [Ev.Rd]⟩
 intro h4 x4 r4
 obtain ⟨p4,e4,l4,_,g4⟩:=tR.mp r4
 cases e4
 refine Ef g4 ?_
 rw [show (List.replicate wr.length true).all id=true by simp]
 rfl
end My
set_option maxRecDepth 1000000
set_option maxHeartbeats 4000000
namespace My
open PySem L2 PyProof.Rows
open Ev
abbrev NL:List Str:=["_law_script","_law_row","_law_m","_law_due","_law_turn","_law_found","_law_one","_law_odd"]
abbrev XL (P:Program) (w:World) (K:PySem.W.Frag) (mg:Str->Option Value) (base:Heap) (a:Adr) (cdv:Value) (A:Around) (outer:List Env) (s:Shared) (H:Hp) (E:XK):Cx:=i_ (CXE P w) P w K mg base NL "law" (aa cO) a.mq cdv A outer s H E
abbrev uY (k:Nat):Stmt:=(bO cO).getD k (.Pass ⟨0,0,0,0⟩)
section
variable {P:Program} {w:World} {K:PySem.W.Frag} {mg:Str->Option Value} {base:Heap} {a:Adr}
structure LC (P:Program) (w:World) (K:PySem.W.Frag) (mg:Str->Option Value) (base:Heap) (a:Adr) (X:Cx) (E:XK):Prop where
 T:Txt w K mg a
 S0:bK P w K mg base CX0 15 a.cX a.fW ["_law_found","_law_due"] (qF 13)
 A2:All P w K mg base a 14
 hr:bz 191 X.A
 hp:Passes (CXE P w) X E
 AL:All P w K mg base a 12
 LH:DP (cn a) X a.code
 hrT:bz (182 + 1) X.A
 hrL:∀ e1 e2,bz 182 ((X.A.deeper e1).deeper e2)
theorem Ub {σ0:L2.St} {A:Around} {outer:List Env} {s:Shared} {H:Hp} {E:XK} (C:LC P w K mg base a (XL P w K mg base a (.ref a.code) A outer s H E) E):QS (XL P w K mg base a (.ref a.code) A outer s H E) (uY 1) (tS Pg (cn a) E 14 σ0 (.asg (.nm 2) (.call 6 [(.pr .ix [(.var 1),(.cst (.int 0))])]))):=by
 have T:=C.T
 have A2:=C.A2
 have hr:=C.hr
 have hp:=C.hp
 exact ⟨(iu 2 jQ.nd (jA A2.uW T.dg hr hp (jc (j0 (dv 1) aH) az)))⟩
theorem Uc {σ0:L2.St} {A:Around} {outer:List Env} {s:Shared} {H:Hp} {E:XK} (C:LC P w K mg base a (XL P w K mg base a (.ref a.code) A outer s H E) E):QS (XL P w K mg base a (.ref a.code) A outer s H E) (uY 2) (tS Pg (cn a) E 14 σ0 (.asg (.nm 3) (.call 9 [(.var 2)]))):=by
 have T:=C.T
 have A2:=C.A2
 have hr:=C.hr
 have hp:=C.hp
 exact ⟨(iu 3 jQ.nd (jA A2.t8 T.cQ hr hp (aG (dv 2) az)))⟩
theorem Ud {σ0:L2.St} {A:Around} {outer:List Env} {s:Shared} {H:Hp} {E:XK} (C:LC P w K mg base a (XL P w K mg base a (.ref a.code) A outer s H E) E):QS (XL P w K mg base a (.ref a.code) A outer s H E) (uY 3) (tS Pg (cn a) E 14 σ0 (.for_ (.uD [(.cst (.int 2))]) (.nm 4) [(.asg (.nm 5) (.call 5 [(.var 2)])),
 (.ife (.pr .pJ [(.pr .truth [(.pr .same [(.var 5),(.var 3)])])]) [(.ret (.cst (.bl false)))] []),
 (.for_ (.seq (.var 5)) (.nm 6) [(.expr (.lm .append (.var 6) [(.pr .tup [(.cst (.int 0)),(.cst (.int 0))])]))]),
 (.expr (.lm .append (.var 5) [(.pr .lst [])]))])):=by
 have T:=C.T
 have S0:=C.S0
 have A2:=C.A2
 have hr:=C.hr
 have hp:=C.hp
 exact ⟨(jO PassesOwn.leaving rfl uH (lJ rfl T.gb (aK aH az)) (aY 4 jQ.nd)
  (ak (iu 5 jQ.nd (jA A2.t7 T.cW hr hp (aG (dv 2) az)))
  (ak (jx (sZ (jm (K_ T.d8 S0 (hr.mono (by omega)) rfl (aG (dv 5) (aG (dv 3) az))) (fun _=>rfl))) (ak (cH n8)
  aA) aA)
  (ak (jO PassesOwn.leaving rfl b7 (bI rfl (dv 5)) (aY 6 jQ.nd)
  (ak (kJ (tH n_ PySem.F.slot_list_append PySem.F.type_list_append gU (dv 6) (rG (tD (aK aH (aK aH az))) az)))
  aA))
  (ak (kJ (tH n_ PySem.F.slot_list_append PySem.F.type_list_append gU (dv 5) (uL (dW az) az)))
  aA)))))⟩
theorem Ue {σ0:L2.St} {A:Around} {outer:List Env} {s:Shared} {H:Hp} {E:XK} (C:LC P w K mg base a (XL P w K mg base a (.ref a.code) A outer s H E) E):QS (XL P w K mg base a (.ref a.code) A outer s H E) (uY 4) (tS Pg (cn a) E 14 σ0 (.asg (.nm 7) (.pr .ix [(.pr .lst [(.cst (.int 0)),(.cst (.int 1)),(.cst (.int 2)),(.cst (.int 4)),(.cst (.int 10)),(.cst (.int 12)),(.cst (.int 13)),(.pr .neg [(.cst (.int 3))]),(.pr .add [(.pr .pow [(.cst (.int 10)),(.cst (.int 40))]),(.cst (.int 1))])]),(.pr .ix [(.var 1),(.cst (.int 1))])]))):=by
 have T:=C.T
 have A2:=C.A2
 have hr:=C.hr
 have hp:=C.hp
 exact ⟨(iu 7 jQ.nd (j0 (dW (aK aH (aK aH (aK aH (aK aH (aK aH (aK aH (aK aH (DX (Rk Rb M_ aH) (iR (bM lV (L2.OpR.or eF jK) (bM Ra Fd aH aH) aH) az)))))))))) (j0 (dv 1) aH)))⟩
theorem Ug {σ0:L2.St} {A:Around} {outer:List Env} {s:Shared} {H:Hp} {E:XK} (C:LC P w K mg base a (XL P w K mg base a (.ref a.code) A outer s H E) E):QS (XL P w K mg base a (.ref a.code) A outer s H E) (uY 5) (tS Pg (cn a) E 14 σ0 (.ife (.pr .ne [(.told 1 [7] (.call 5 [(.var 0)])),(.pr .tup [(.cst (.str [110,111])),(.cst (.str [98,97,100,32,114,105,110,103]))])]) [(.ret (.cst (.bl false)))] [])):=by
 have T:=C.T
 have A2:=C.A2
 have hr:=C.hr
 have hp:=C.hp
 have AL:=C.AL
 have LH:=C.LH
 have hrT:=C.hrT
 have hrL:=C.hrL
 exact ⟨(jx (fL rz (kZ hr.units) (K8 (w2:="") (NT:=[]) (nx:=1) LH (fun _=>rfl) hrT T.cY.fn yX T.cY.bd rfl T.cY.mg T.cY.fn.kp rfl (by decide +kernel) (by decide +kernel) (by decide +kernel) rfl (Or.inl rfl) rfl T.o7 T.vN (by decide) (by decide) (by decide) (by decide) (by decide) (hXs T)
  (cG (N':=["_law_odd"]) (nt:=0) (idx:=[7]) (N:=["_law_script","_law_row","_law_m","_law_due","_law_turn","_law_found","_law_one","_law_odd"]) (osc:=aa cO) rfl rfl (by decide +kernel)) rfl rfl rfl (fun _ _ _ _ _=>rfl)
  (fun cdv s1 H1 E2 E' pn f c' clos s H E3=>by
    exact (kO (AL.t7) ((hrL _ _).mono (by omega)) rfl T.cW.mg T.cW.fn.kp T.cW.bd (q_ (E:=E3) Own.lam rfl (fun _ _ _ z=>z)) (aG (dv 0) az)))) (tD (aK (Gf [110,111]) (aK (Gf [98,97,100,32,114,105,110,103]) az))) (bJ _)) (ak (cH n8)
  aA) aA)⟩
theorem Uh {σ0:L2.St} {A:Around} {outer:List Env} {s:Shared} {H:Hp} {E:XK} (C:LC P w K mg base a (XL P w K mg base a (.ref a.code) A outer s H E) E):QS (XL P w K mg base a (.ref a.code) A outer s H E) (uY 6) (tS Pg (cn a) E 14 σ0 (.ret (.pr .all [(.comp 1 [2] (.seq (.var 3)) (.nm 0) none none (.and (.call 8 [(.var 1),(.var 0)]) (.call 3 [(.var 1),(.var 0)])))]))):=by
 have T:=C.T
 have A2:=C.A2
 have hr:=C.hr
 have hp:=C.hp
 exact ⟨(cH (dB Dz (lK rfl) rfl T.qH boot_all (dR (cR (cG (N':=["_law_pairs","_law_m"]) (nt:=1) (idx:=[2]) (N:=["_law_script","_law_row","_law_m","_law_due","_law_turn","_law_found","_law_one","_law_odd"]) (osc:=aa cO) rfl rfl (by decide +kernel)) rfl b7 (bI rfl (dv 3)) (fun C0 s0 H0 fp0=>(aY 0 (show List.Nodup (["_law_pairs","_law_m"]:List Str) by decide +kernel))) (fun C0 s0 H0 fp0=>cZ) (fun C0 s0 H0 fp0=>(Ox (kO (A2.qL) (hr.mono (by omega)) rfl T.bF.mg T.bF.fn.kp T.bF.bd oA (aG (dv 1) (aG (dv 0) az))) (m9 (kO (A2.zq) (hr.mono (by omega)) rfl T.cN.mg T.cN.fn.kp T.cN.bd oA (aG (dv 1) (aG (dv 0) az)))))) (by decide)) az)))⟩
def RD (a:Adr) (E:XK):TS:=(tSt Pg (cn a) E 14 tl0 (tSt Pg (cn a) E 14 tl1 (tSt Pg (cn a) E 14 tl2 Cw)))
theorem Qx {l:List Int} (hl:l ∈ rowsOf [9]):QE zF zG (Int.ofNat 0::l):=uf (by decide +kernel) hl
theorem Qy {l:List Int} (hl:l ∈ rowsOf [9]):QE zJ zK (Int.ofNat 1::l):=uf (by decide +kernel) hl
theorem Qz {l:List Int} (hl:l ∈ rowsOf [9]):QE zM zN (Int.ofNat 2::l):=uf (by decide +kernel) hl
theorem QB {l:List Int} (hl:l ∈ rowsOf [9]):QE zQ zR (Int.ofNat 3::l):=uf (by decide +kernel) hl
theorem QC {l:List Int} (hl:l ∈ rowsOf [9]):QE zU zV (Int.ofNat 4::l):=uf (by decide +kernel) hl
theorem Mq {E:XK} {σ:L2.St} {H:Hp} {r:Addr} {l:List Int} {D:Ends} (hn:σ.length=8) (hr:σ[1]? =some (some (.ref r))) (hH:H r=some (.lst ((Int.ofNat 0::l).map V.int))) (t:Tb (cn a) H) (hl:l ∈ rowsOf [9]) (kk:∀ H',D.rt (.bl true) H'):RD a E D σ H:=by
 refine lz (m0:=60) (kv:=zE) hn hr hH t rfl (List.all_eq_true.mp L_ l hl) fun σ0 H0 c0=>?_
 refine pX (kv':=zF) (os':=zG) c0 Ma fun σ1 H1 c1=>?_
 exact pY c1 (Qx hl) kk
theorem Mr {E:XK} {σ:L2.St} {H:Hp} {r:Addr} {l:List Int} {D:Ends} (hn:σ.length=8) (hr:σ[1]? =some (some (.ref r))) (hH:H r=some (.lst ((Int.ofNat 1::l).map V.int))) (t:Tb (cn a) H) (hl:l ∈ rowsOf [9]) (kk:∀ H',D.rt (.bl true) H'):RD a E D σ H:=by
 refine lz (m0:=60) (kv:=zH) hn hr hH t rfl (List.all_eq_true.mp Mf l hl) fun σ0 H0 c0=>?_
 refine pX (kv':=zJ) (os':=zK) c0 Mg fun σ1 H1 c1=>?_
 exact pY c1 (Qy hl) kk
theorem Ms {E:XK} {σ:L2.St} {H:Hp} {r:Addr} {l:List Int} {D:Ends} (hn:σ.length=8) (hr:σ[1]? =some (some (.ref r))) (hH:H r=some (.lst ((Int.ofNat 2::l).map V.int))) (t:Tb (cn a) H) (hl:l ∈ rowsOf [9]) (kk:∀ H',D.rt (.bl true) H'):RD a E D σ H:=by
 refine lz (m0:=60) (kv:=zL) hn hr hH t rfl (List.all_eq_true.mp Mh l hl) fun σ0 H0 c0=>?_
 refine pX (kv':=zM) (os':=zN) c0 Mi fun σ1 H1 c1=>?_
 exact pY c1 (Qz hl) kk
theorem Mt {E:XK} {σ:L2.St} {H:Hp} {r:Addr} {l:List Int} {D:Ends} (hn:σ.length=8) (hr:σ[1]? =some (some (.ref r))) (hH:H r=some (.lst ((Int.ofNat 3::l).map V.int))) (t:Tb (cn a) H) (hl:l ∈ rowsOf [9]) (kk:∀ H',D.rt (.bl true) H'):RD a E D σ H:=by
 refine lz (m0:=60) (kv:=zO) hn hr hH t rfl (List.all_eq_true.mp Mj l hl) fun σ0 H0 c0=>?_
 refine pX (kv':=zQ) (os':=zR) c0 Ml fun σ1 H1 c1=>?_
 exact pY c1 (QB hl) kk
theorem Mu {E:XK} {σ:L2.St} {H:Hp} {r:Addr} {l:List Int} {D:Ends} (hn:σ.length=8) (hr:σ[1]? =some (some (.ref r))) (hH:H r=some (.lst ((Int.ofNat 4::l).map V.int))) (t:Tb (cn a) H) (hl:l ∈ rowsOf [9]) (kk:∀ H',D.rt (.bl true) H'):RD a E D σ H:=by
 refine lz (m0:=60) (kv:=zT) hn hr hH t rfl (List.all_eq_true.mp Mm l hl) fun σ0 H0 c0=>?_
 refine pX (kv':=zU) (os':=zV) c0 Mp fun σ1 H1 c1=>?_
 exact pY c1 (QC hl) kk
theorem QD (T:Txt w K mg a) {oc kV doc pm ct:Value} {od an:Option Addr} {osl:Array (Option Value)}
 (lk:K.lookup a.mq=some ⟨oc,od,.func (PySem.W.fnOf "law" "law" (dO cO) (bO cO) (aa cO) .none kV doc pm an (.ref a.code) ct),osl⟩) (hcd:PySem.W.codeIn K (.ref a.code) "law" =true)
 (hch:PySem.W.codeHdIn K a.code a.tbl=true) (KX:K.In base) (bm:base.BuiltinsAt mg a.tbl):
 bK P w K mg base (CXE P w) 192 a.mq (PySem.W.fnOf "law" "law" (dO cO) (bO cO) (aa cO) .none kV doc pm an (.ref a.code) ct) ["_law_script"] (tL K a.tbl):=by
 have Ao:=zf (P:=P) (w:=w) (base:=base) T
 have Aq:=zj (P:=P) (w:=w) (base:=base) T
 refine CW (k:=191) lk hcd jQ (fun vs H Q E h=>?_) (fun A outer s H vs Q E hr h=>?_)
 · obtain ⟨_,_,rfl,_⟩:=h
   rfl
 obtain ⟨l,ns,rfl,hO,hS,h63,q⟩:=h
 have C:LC P w K mg base a (XL P w K mg base a (.ref a.code) A outer s H E) E:=⟨T,qt (P:=P) (w:=w) (base:=base) T 13,zB T 14,hr,q_ ⟨rfl,rfl,rfl⟩ rfl (fun _ _ _ z=>z),zB T 12,⟨rfl,rfl,PySem.W.codeHd_of_K KX hch,bm,rfl⟩,hr.mono (by omega),fun e1 e2=>((hr.mono (show 184 <= 191 by omega)).deeper e1).deeper e2⟩
 have z:QSs (XL P w K mg base a (.ref a.code) A outer s H E) ((bO cO).drop 1) (RD a E):=(yj (Pg:=Pg) (cl:=cn a) (E:=E) (d:=14) (a:=tl0) fun σ0=>(jn (Ub C) (uM (yj (Pg:=Pg) (cl:=cn a) (E:=E) (d:=14) (a:=tl1) fun σ0=>(jn (Uc C) (uM (yj (Pg:=Pg) (cl:=cn a) (E:=E) (d:=14) (a:=tl2) fun σ0=>(jn (Ud C) (jn (Ue C) (jn (Ug C) (jn (Uh C) (uM Lf))))))))))))
 refine ⟨_,(bG (jH (i:=1) jQ.nd rfl (Or.inl rfl) (qy T.fZ Ao (hr.mono (by omega)) rfl (ao (qy T.f9 Aq (hr.mono (by omega)) rfl (ao (pv 0) (ao bU aJ))) (ao (xj (ao bU (ao bU aJ))) aJ)))) z.h),?_⟩
 refine ⟨_,rfl,l,ns,_,rfl,hS,h63,by omega,fun cz=>?_⟩
 refine ⟨(by show 2 <= sizeLine;decide),fun pl hpl=>?_⟩
 refine ⟨cz,pl,[5,9],rfl,aC,by decide,?_,fun r ds H3 hr3 s3 hD z6=>?_⟩
 · intro z hz
   have:z=5\/z=9:=by simpa using hz
   exact ⟨by omega,Gy (by omega) (by omega)⟩
 obtain ⟨r0,dl,rfl,h0,ht⟩:∃ r0 dl,ds=r0::dl/\(0 <= r0/\r0 < 5)/\L2.Drawn dl [9]:=by cases hD with | cons h0 ht=>exact ⟨_,_,rfl,h0,ht⟩
 have hl:dl ∈ rowsOf [9]:=yq (ls:=[9]) ht
 have tb:Tb (cn a) H3:=((Sim.none (Ld hO rfl)).same ((nW hpl _).trans s3)).1.tb
 have kk:∀ H',Q (.bl true) H':=fun H'=>q H'
 have:r0=0\/r0=1\/r0=2\/r0=3\/r0=4:=by omega
 rcases this with rfl | rfl | rfl | rfl | rfl
 · exact Mq rfl rfl z6 tb hl kk
 · exact Mr rfl rfl z6 tb hl kk
 · exact Ms rfl rfl z6 tb hl kk
 · exact Mt rfl rfl z6 tb hl kk
 · exact Mu rfl rfl z6 tb hl kk
end
end My
set_option maxRecDepth 1000000
set_option maxHeartbeats 4000000
namespace My
open PySem L2 PyProof.Rows Ev PySem.W
theorem all_mk {l:OpenLaw} {w:World} {K:Frag} {h:Heap} {mg:Str->Option Value} {fa tbl:Addr} {fV eY ju eZ iy iz h_ iK iM jf cX jE c7 fX cD cP mq code aZ iW aO bQ:Addr} (X:K.In h) (G:h.Ns mainGlobals mg) (hfa:mg "law" =some (.ref fa))
 {QF Hq:Option Addr} {QG:Array (Option Value)} {QH Hr Ht Hu Hv:Value} {gM:Tok} {jg:Tok}
 (d7:∃ fd,DK K "need_ring" mO fV fd)
 (e_:∃ fd,DK K "all_unlike" lB eY fd)
 (fG:∃ fd,DK K "differ" lC ju fd)
 (cN:∃ fd,DK K "is_starter" g_ eZ fd)
 (fH:∃ fd,DK K "pairings" j6 iy fd)
 (cW:∃ fd,DK K "starters" j7 iz fd)
 (fj:∃ fd,DK K "_law_mixed" lD h_ fd)
 (fZ:∃ fd,DK K "_law_draw" mQ iK fd)
 (f9:∃ fd,DK K "_law_cell" mR iM fd)
 (iC:∃ fd,DK K "_law_num" oK jf fd)
 (d8:∃ fd,DK K "_law_same" jC cX fd)
 (cY:∃ fd,DK K "_law_told" mU jE fd)
 (dg:∃ fd,DK K "_law_ring_of" jt c7 fd)
 (cL:∃ fd,DK K "_law_step" mV fX fd)
 (bF:∃ fd,DK K "_law_starter_so" bD cD fd)
 (cQ:∃ fd,DK K "_law_starters" cB cP fd)
 (Ka:nsIn K mainGlobals "law" =some (some (.ref mq)))
 (Kc:K.lookup mq=some ⟨QH,QF,.func (fnOf "law" "law" (dO cO) (bO cO) (aa cO) .none Hr Ht Hu Hq (.ref code) Hv),QG⟩)
 (Hw:codeIn K (.ref code) "law" =true)
 (QJ:keepIn K (.ref mq)=true)
 (z7:nsIn K mainGlobals "StandError" =some (some (.ref aZ)))
 (Hx:nsIn K mainGlobals "BadRing" =some (some (.ref iW)))
 (bV:∃ fd,IK K aZ "__init__" "StandError.__init__" dZ aO fd)
 (bR:∃ fd,IK K iW "__init__" "BadRing.__init__" gC bQ fd)
 (z8:eG K aZ)
 (mz:XK1 K iW aZ)
 (ci1:specialIn K (.ref aZ) "__getattribute__" =some (some (.builtin "type.__getattribute__")))
 (ci2:readsIn K aZ (.type "type")=true)
 (ci3:findCls K (.ref aZ) (.type "type") "__init__" =some (.val (.ref aO)))
 (ci4:handedIn (.ref aO)=true)
 (rQ:nsIn K mainGlobals "GREATEST_RING" =some (some (.int (11) gM)))
 (vV:nsIn K mainGlobals "LEAST_RING" =some (some (.int (3) jg)))
 (lG:nsIn K mainGlobals "ValueError" =some none)
 (Em:nsIn K mainGlobals "abs" =some none)
 (qH:nsIn K mainGlobals "all" =some none)
 (En:nsIn K mainGlobals "any" =some none)
 (qm:nsIn K mainGlobals "bool" =some none)
 (wN:nsIn K mainGlobals "int" =some none)
 (bu:nsIn K mainGlobals "isinstance" =some none)
 (fJ:nsIn K mainGlobals "len" =some none)
 (nQ:nsIn K mainGlobals "list" =some none)
 (Eo:nsIn K mainGlobals "min" =some none)
 (gb:nsIn K mainGlobals "range" =some none)
 (wO:nsIn K mainGlobals "set" =some none)
 (oV:nsIn K mainGlobals "sorted" =some none)
 (wQ:nsIn K mainGlobals "str" =some none)
 (qI:nsIn K mainGlobals "tuple" =some none)
 (hch:codeHdIn K code tbl=true):
 ∃ fd:FuncData,(∀ (s:Shared) (v:Value),BindsTo s fd ⟨[v],[]⟩ [("_law_script",v)])/\∀ base:Heap,K.In base->base.Ns mainGlobals mg->base.BuiltinsAt mg tbl->bK l.prog w K mg base (CXE l.prog w) 192 fa fd ["_law_script"] (tL K tbl):=by
 have e:=hfa.symm.trans (mg_of X G Ka)
 cases e
 obtain ⟨jD,d7⟩:=d7
 obtain ⟨jd,e_⟩:=e_
 obtain ⟨oO,fG⟩:=fG
 obtain ⟨je,cN⟩:=cN
 obtain ⟨j8,fH⟩:=fH
 obtain ⟨j9,cW⟩:=cW
 obtain ⟨lE,fj⟩:=fj
 obtain ⟨mW,fZ⟩:=fZ
 obtain ⟨mY,f9⟩:=f9
 obtain ⟨oR,iC⟩:=iC
 obtain ⟨fW,d8⟩:=d8
 obtain ⟨qQ,cY⟩:=cY
 obtain ⟨iB,dg⟩:=dg
 obtain ⟨jF,cL⟩:=cL
 obtain ⟨d_,bF⟩:=bF
 obtain ⟨gK,cQ⟩:=cQ
 obtain ⟨cJ,bV⟩:=bV
 obtain ⟨dH,bR⟩:=bR
 have Kd:=xu (st:=cO) Kc Hw QJ
 have T:Txt w K mg ⟨fV,_,eY,_,ju,_,eZ,_,iy,_,iz,_,h_,_,iK,_,iM,_,jf,_,cX,_,jE,_,c7,_,fX,_,cD,_,cP,_,fa,_,aO,_,bQ,_,aZ,iW,gM,jg,tbl,code⟩:=⟨d7.df X G,e_.df X G,fG.df X G,cN.df X G,fH.df X G,cW.df X G,fj.df X G,fZ.df X G,f9.df X G,iC.df X G,d8.df X G,cY.df X G,dg.df X G,cL.df X G,bF.df X G,cQ.df X G,⟨Kd,fbn Kd,mg_of X G Ka⟩,bV.F,fbn bV.F,bR.F,fbn bR.F,⟨mz.X,bR.a,bR.n,mz.k⟩,mz.s,mz.w,mg_of X G Hx,z8,⟨ci1,ci2,ci3,ci4,bV.F.kp⟩,mg_of X G z7,mg_of X G rQ,mg_of X G vV,mg_none_of X G lG,mg_none_of X G Em,mg_none_of X G qH,mg_none_of X G En,mg_none_of X G qm,mg_none_of X G wN,mg_none_of X G bu,mg_none_of X G fJ,mg_none_of X G nQ,mg_none_of X G Eo,mg_none_of X G gb,mg_none_of X G wO,mg_none_of X G oV,mg_none_of X G wQ,mg_none_of X G qI⟩
 exact ⟨fnOf "law" "law" (dO cO) (bO cO) (aa cO) .none Hr Ht Hu Hq (.ref code) Hv,fun s v=>.of_eq rfl,fun base KB _ bm=>QD T Kc Hw hch KB bm⟩
theorem walk {l:OpenLaw} {q:Program} {loose:List Str} {XP:(Str->Option Value)->Heap->Prop} {YP:World->Heap->Prop} {d:DefRec} {K:Params->Frag} {tbl c:Addr} (hn:l.most=some 63) (hdf:d.params.defaults= [])
 (hY:∀ (w:World) (h:Heap),YP w h->(K w.params).In h/\h.get? tbl=some (tabObj #[])) (hK:∀ P:Params,(K P).lookup tbl=none/\codeHdIn (K P) c tbl=true)
 (F:∀ (w:World) (mg:Str->Option Value) (fa:Addr) (h:Heap),(K w.params).In h->h.Ns mainGlobals mg->mg d.name=some (.ref fa)->
   ∃ fd:FuncData,(∀ (s:Shared) (u:Value),BindsTo s fd ⟨[u],[]⟩ [("_law_script",u)])/\∀ base:Heap,(K w.params).In base->base.Ns mainGlobals mg->base.BuiltinsAt mg tbl->bK l.prog w (K w.params) mg base (CXE l.prog w) 192 fa fd ["_law_script"] (tL (K w.params) tbl)):
 WalkO q loose XP YP l.row.toRowW d [] (fun f vs=>PySem.call f vs):=
 Rp (n:=63) (k:=192) (x:="_law_script") (CX:=fun w=>CXE l.prog w) (sp:=fun w=>tL (K w.params) tbl) hn (by decide) hdf ⟨rfl,by decide,by decide⟩ hY hK F (fun _ _ a ns hl hO hS=>⟨a,ns,rfl,hO,hS,hl,fun _=>rfl⟩) fun _ _ _ _ _ z=>qY z
end My
namespace PySem.W.Fast
def tw4282816987817564214:=0
def tw9798225860416352214:=0
def tw15025584653861099190:=0
def tw12934089463076276694:=0
def tw17557881196889729495:=0
def tw15938686067675882679:=0
def tw2248217019962929527:=0
def tw15073177448991773431:=0
def tw4204485482329339844:=0
def tw12602109666631270756:=0
def tw17866357239336005892:=0
def tw9484620198660199428:=0
def tw2186875833205317221:=0
def tw59592989903239205:=0
def tw1164309961461917733:=0
def tw4992207458982227909:=0
def tw16227803860003278917:=0
def tw12148696057436744613:=0
def tw295286780055616986:=0
def tw15830133178606594170:=0
def tw12156511062741072922:=0
def tw17609234915786848954:=0
def tw10850479758743789755:=0
def tw4272238484270934299:=0
def tw7692809354178437019:=0
def tw9913776518397054747:=0
def tw17839206445073460699:=0
def tw7769222941411932520:=0
def tw10118904821353927336:=0
def tw14560560755215193672:=0
def tw8911990117213476552:=0
def tw5168549335715528072:=0
def tw14907146803389997161:=0
def tw17724522283785641673:=0
def tw14344354649119934697:=0
def tw16266634550803838089:=0
def tw4492963432925563241:=0
def tw18322907011975802942:=0
def tw11644455150833650494:=0
def tw11176176752897579774:=0
def tw7452658237116897630:=0
def tw5712037289062700446:=0
def tw11599467931919030367:=0
def tw7726607392302972012:=0
def tw15290805926067017452:=0
def tw3820795831746815660:=0
def tw13166258209420861741:=0
def tw17547731918054187117:=0
def tw5836432238873140013:=0
def tw15396925579642110669:=0
def tw1016408429377780482:=0
def tw10821337213334950498:=0
def tw7354543977803638370:=0
def tw8362261955031063170:=0
def tw9318021598537932834:=0
def tw5619121805412794211:=0
def tw3077095609534065251:=0
def tw10135581523280373072:=0
def tw17451602916904600880:=0
def tw5279540643328851888:=0
def tw2047122871864675377:=0
def tw1936532645370486385:=0
def tw11446121031035634225:=0
def tw9889160844079838673:=0
def tw17258596143182831185:=0
def tw11326802352504575281:=0
def tw4240060710679508550:=0
def tw1756904687176854854:=0
def tw9533507717631374278:=0
def tw13146469030955149543:=0
def tw50295461121460199:=0
def tw7188719248798107623:=0
def tw18191452171659384711:=0
def tw6947165352995460487:=0
def tw11348508175332860692:=0
def tw17337370745913736820:=0
def tw8176106204323501396:=0
def tw9962628023854851701:=0
def tw16348161328965853493:=0
def tw10371992045823942133:=0
def tw7146741940102742410:=0
def tw3250515229260311339:=0
def tw10365891225737655032:=0
def tw18230352280506053368:=0
def tw9616467595707965272:=0
def tw13394116683144234552:=0
def tw305755366095753656:=0
def tw13343978507066606744:=0
def tw15617852542930616696:=0
def tw5182711271911534872:=0
def tw5285474546054699769:=0
def tw14525941005989725721:=0
def tw17107596666091526830:=0
def tw259214854083135086:=0
def tw4867928335648771534:=0
def tw5670887952625435054:=0
def tw16710114623310845422:=0
def tw12496821812549903470:=0
def tw16684771875398236462:=0
def tw14523961430508983534:=0
def tw5334527836027987950:=0
def tw16410303257414977487:=0
def tw2971929079265141423:=0
def tw2970816644447852124:=0
def tw14689288228501174172:=0
def tw11878871769523860188:=0
def tw5562115675531809789:=0
def tw14573223007036378013:=0
def tw1375006300597647837:=0
def tw10515983989988439421:=0
def tw17025767141555424765:=0
def tw8341863212671743314:=0
def tw18018274435662610003:=0
def tw1511880155273229843:=0
def tw14547961359278604723:=0
def tw5664160025862663475:=0
def tw7328898729689521139:=0
def tw1414059344944781235:=0
def tw10052333612299584640:=0
def tw6719524163527999520:=0
def tw10233287417813866336:=0
def tw14188621787266436544:=0
def tw16773419745361933696:=0
def tw7310695494816331457:=0
def tw2621826229893843873:=0
def tw9491137231033554497:=0
def tw15614373304454170913:=0
def tw14384363692865946113:=0
end PySem.W.Fast
open PySem PySem.W PyProof.Rows
set_option maxRecDepth 100000 in
set_option maxHeartbeats 0 in
theorem PySem.Challenge.cw_byestand_k04_all_starters_holds : PySem.Challenge.rw_byestand_k04_all_starters.Holds := by
 w_on;o_law;k_head;(case hw=>w_witness2)
 k_fill
 first | refine My.walk (l:=PySem.Challenge.rw_byestand_k04_all_starters) (tbl:=151) (c:=151) rfl rfl (fun w h Y=>⟨PySem.W.km_in_of Y,PySem.W.km_tabs_of Y _ (by decide)⟩) (fun P=>⟨rfl,rfl⟩) ?F | refine My.walk (l:=PySem.Challenge.rw_byestand_k04_all_starters) (tbl:=151) (c:=152) rfl rfl (fun w h Y=>⟨PySem.W.km_in_of Y,PySem.W.km_tabs_of Y _ (by decide)⟩) (fun P=>⟨rfl,rfl⟩) ?F | refine My.walk (l:=PySem.Challenge.rw_byestand_k04_all_starters) (tbl:=151) (c:=153) rfl rfl (fun w h Y=>⟨PySem.W.km_in_of Y,PySem.W.km_tabs_of Y _ (by decide)⟩) (fun P=>⟨rfl,rfl⟩) ?F | refine My.walk (l:=PySem.Challenge.rw_byestand_k04_all_starters) (tbl:=151) (c:=154) rfl rfl (fun w h Y=>⟨PySem.W.km_in_of Y,PySem.W.km_tabs_of Y _ (by decide)⟩) (fun P=>⟨rfl,rfl⟩) ?F | refine My.walk (l:=PySem.Challenge.rw_byestand_k04_all_starters) (tbl:=151) (c:=155) rfl rfl (fun w h Y=>⟨PySem.W.km_in_of Y,PySem.W.km_tabs_of Y _ (by decide)⟩) (fun P=>⟨rfl,rfl⟩) ?F | refine My.walk (l:=PySem.Challenge.rw_byestand_k04_all_starters) (tbl:=151) (c:=156) rfl rfl (fun w h Y=>⟨PySem.W.km_in_of Y,PySem.W.km_tabs_of Y _ (by decide)⟩) (fun P=>⟨rfl,rfl⟩) ?F | refine My.walk (l:=PySem.Challenge.rw_byestand_k04_all_starters) (tbl:=151) (c:=157) rfl rfl (fun w h Y=>⟨PySem.W.km_in_of Y,PySem.W.km_tabs_of Y _ (by decide)⟩) (fun P=>⟨rfl,rfl⟩) ?F | refine My.walk (l:=PySem.Challenge.rw_byestand_k04_all_starters) (tbl:=153) (c:=151) rfl rfl (fun w h Y=>⟨PySem.W.km_in_of Y,PySem.W.km_tabs_of Y _ (by decide)⟩) (fun P=>⟨rfl,rfl⟩) ?F | refine My.walk (l:=PySem.Challenge.rw_byestand_k04_all_starters) (tbl:=153) (c:=152) rfl rfl (fun w h Y=>⟨PySem.W.km_in_of Y,PySem.W.km_tabs_of Y _ (by decide)⟩) (fun P=>⟨rfl,rfl⟩) ?F | refine My.walk (l:=PySem.Challenge.rw_byestand_k04_all_starters) (tbl:=153) (c:=153) rfl rfl (fun w h Y=>⟨PySem.W.km_in_of Y,PySem.W.km_tabs_of Y _ (by decide)⟩) (fun P=>⟨rfl,rfl⟩) ?F | refine My.walk (l:=PySem.Challenge.rw_byestand_k04_all_starters) (tbl:=153) (c:=154) rfl rfl (fun w h Y=>⟨PySem.W.km_in_of Y,PySem.W.km_tabs_of Y _ (by decide)⟩) (fun P=>⟨rfl,rfl⟩) ?F | refine My.walk (l:=PySem.Challenge.rw_byestand_k04_all_starters) (tbl:=153) (c:=155) rfl rfl (fun w h Y=>⟨PySem.W.km_in_of Y,PySem.W.km_tabs_of Y _ (by decide)⟩) (fun P=>⟨rfl,rfl⟩) ?F | refine My.walk (l:=PySem.Challenge.rw_byestand_k04_all_starters) (tbl:=153) (c:=156) rfl rfl (fun w h Y=>⟨PySem.W.km_in_of Y,PySem.W.km_tabs_of Y _ (by decide)⟩) (fun P=>⟨rfl,rfl⟩) ?F | refine My.walk (l:=PySem.Challenge.rw_byestand_k04_all_starters) (tbl:=153) (c:=157) rfl rfl (fun w h Y=>⟨PySem.W.km_in_of Y,PySem.W.km_tabs_of Y _ (by decide)⟩) (fun P=>⟨rfl,rfl⟩) ?F | refine My.walk (l:=PySem.Challenge.rw_byestand_k04_all_starters) (tbl:=152) (c:=151) rfl rfl (fun w h Y=>⟨PySem.W.km_in_of Y,PySem.W.km_tabs_of Y _ (by decide)⟩) (fun P=>⟨rfl,rfl⟩) ?F | refine My.walk (l:=PySem.Challenge.rw_byestand_k04_all_starters) (tbl:=152) (c:=152) rfl rfl (fun w h Y=>⟨PySem.W.km_in_of Y,PySem.W.km_tabs_of Y _ (by decide)⟩) (fun P=>⟨rfl,rfl⟩) ?F | refine My.walk (l:=PySem.Challenge.rw_byestand_k04_all_starters) (tbl:=152) (c:=153) rfl rfl (fun w h Y=>⟨PySem.W.km_in_of Y,PySem.W.km_tabs_of Y _ (by decide)⟩) (fun P=>⟨rfl,rfl⟩) ?F | refine My.walk (l:=PySem.Challenge.rw_byestand_k04_all_starters) (tbl:=152) (c:=154) rfl rfl (fun w h Y=>⟨PySem.W.km_in_of Y,PySem.W.km_tabs_of Y _ (by decide)⟩) (fun P=>⟨rfl,rfl⟩) ?F | refine My.walk (l:=PySem.Challenge.rw_byestand_k04_all_starters) (tbl:=152) (c:=155) rfl rfl (fun w h Y=>⟨PySem.W.km_in_of Y,PySem.W.km_tabs_of Y _ (by decide)⟩) (fun P=>⟨rfl,rfl⟩) ?F | refine My.walk (l:=PySem.Challenge.rw_byestand_k04_all_starters) (tbl:=152) (c:=156) rfl rfl (fun w h Y=>⟨PySem.W.km_in_of Y,PySem.W.km_tabs_of Y _ (by decide)⟩) (fun P=>⟨rfl,rfl⟩) ?F | refine My.walk (l:=PySem.Challenge.rw_byestand_k04_all_starters) (tbl:=152) (c:=157) rfl rfl (fun w h Y=>⟨PySem.W.km_in_of Y,PySem.W.km_tabs_of Y _ (by decide)⟩) (fun P=>⟨rfl,rfl⟩) ?F | refine My.walk (l:=PySem.Challenge.rw_byestand_k04_all_starters) (tbl:=150) (c:=151) rfl rfl (fun w h Y=>⟨PySem.W.km_in_of Y,PySem.W.km_tabs_of Y _ (by decide)⟩) (fun P=>⟨rfl,rfl⟩) ?F | refine My.walk (l:=PySem.Challenge.rw_byestand_k04_all_starters) (tbl:=150) (c:=152) rfl rfl (fun w h Y=>⟨PySem.W.km_in_of Y,PySem.W.km_tabs_of Y _ (by decide)⟩) (fun P=>⟨rfl,rfl⟩) ?F | refine My.walk (l:=PySem.Challenge.rw_byestand_k04_all_starters) (tbl:=150) (c:=153) rfl rfl (fun w h Y=>⟨PySem.W.km_in_of Y,PySem.W.km_tabs_of Y _ (by decide)⟩) (fun P=>⟨rfl,rfl⟩) ?F | refine My.walk (l:=PySem.Challenge.rw_byestand_k04_all_starters) (tbl:=150) (c:=154) rfl rfl (fun w h Y=>⟨PySem.W.km_in_of Y,PySem.W.km_tabs_of Y _ (by decide)⟩) (fun P=>⟨rfl,rfl⟩) ?F | refine My.walk (l:=PySem.Challenge.rw_byestand_k04_all_starters) (tbl:=150) (c:=155) rfl rfl (fun w h Y=>⟨PySem.W.km_in_of Y,PySem.W.km_tabs_of Y _ (by decide)⟩) (fun P=>⟨rfl,rfl⟩) ?F | refine My.walk (l:=PySem.Challenge.rw_byestand_k04_all_starters) (tbl:=150) (c:=156) rfl rfl (fun w h Y=>⟨PySem.W.km_in_of Y,PySem.W.km_tabs_of Y _ (by decide)⟩) (fun P=>⟨rfl,rfl⟩) ?F | refine My.walk (l:=PySem.Challenge.rw_byestand_k04_all_starters) (tbl:=150) (c:=157) rfl rfl (fun w h Y=>⟨PySem.W.km_in_of Y,PySem.W.km_tabs_of Y _ (by decide)⟩) (fun P=>⟨rfl,rfl⟩) ?F
 case F=>
  intro w mg fa h KX G hmg
  refine' My.all_mk KX G hmg (Ev.d9 ?_ ?_ ?_ ?_) (Ev.d9 ?_ ?_ ?_ ?_) (Ev.d9 ?_ ?_ ?_ ?_) (Ev.d9 ?_ ?_ ?_ ?_) (Ev.d9 ?_ ?_ ?_ ?_) (Ev.d9 ?_ ?_ ?_ ?_) (Ev.d9 ?_ ?_ ?_ ?_) (Ev.d9 ?_ ?_ ?_ ?_) (Ev.d9 ?_ ?_ ?_ ?_) (Ev.d9 ?_ ?_ ?_ ?_) (Ev.d9 ?_ ?_ ?_ ?_) (Ev.d9 ?_ ?_ ?_ ?_) (Ev.d9 ?_ ?_ ?_ ?_) (Ev.d9 ?_ ?_ ?_ ?_) (Ev.d9 ?_ ?_ ?_ ?_) (Ev.d9 ?_ ?_ ?_ ?_) ?_ ?_ ?_ ?_ ?_ ?_ (Ev.J0 ?_ ?_ ?_ ?_ ?_) (Ev.J0 ?_ ?_ ?_ ?_ ?_) (Ev.Rt ?_ ?_ ?_ ?_) (Ev.Ru ?_ ?_ ?_ ?_ ?_ ?_ ?_ ?_) ?_ ?_ ?_ ?_ ?_ ?_ ?_ ?_ ?_ ?_ ?_ ?_ ?_ ?_ ?_ ?_ ?_ ?_ ?_ ?_ ?_ ?_
  all_goals try first | k_is | rfl
