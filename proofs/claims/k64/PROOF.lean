import PyProof.Rows.All
import Wide.All
import OpenK.AllK
import Wide.FinOn
import Lean
import PyProof.EqAt
import PyProof.EqKinds
import PyProof.TupleCall
import PySem.Challenge.RW_paidspan_k64_one_line_a_span_a_day
abbrev Fg:=PySem.W.Frag
set_option compiler.extract_closed false
local macro_rules | `(tactic| omega) => `(tactic| lia)
set_option Elab.async false
set_option linter.all false
set_option maxRecDepth 100000
namespace L2
open PySem PySem.Spec PyProof.Rows
abbrev Key:=Sum Int Str
def zfP:Key→Value→Bool
 | .inl k,v=>Value.isInt k v
 | .inr x,v=>Value.isStrOf x v
def zqL(w:World):Key→Int
 | .inl k=>hashInt k
 | .inr x=>hashStr w x
theorem za7: ∀{k:Key} {v:Value},zfP k v=true→(∃i t,k=Sum.inl i∧v=Value.int i t)∨(∃x t,k=Sum.inr x∧v=Value.str x t)
 | .inl i,v,h=>by
  obtain⟨t,e⟩:=Value.isInt_shape (k:=i) (v:=v) h;exact .inl ⟨i,t,rfl,e⟩
 | .inr x,v,h=>by
  obtain⟨t,e⟩:=Value.isStrOf_shape (x:=x) (v:=v) h;exact .inr ⟨x,t,rfl,e⟩
theorem zju(i:Int)(t:Tok):zfP (.inl i) (.int i t)=true:=by simp [zfP,Value.isInt]
theorem zjv(x:Str)(t:Tok):zfP (.inr x) (.str x t)=true:=by simp [zfP,Value.isStrOf]
theorem znS(a b:Int):decide ((Sum.inl a:Key)=Sum.inl b)=(a==b):=by
 by_cases e:a=b
 ·subst e;simp
 ·have h: ¬(Sum.inl a:Key)=Sum.inl b:=fun q=>e (Sum.inl.inj q);rw[decide_eq_false h];exact(beq_eq_false_iff_ne.mpr e).symm
theorem znT(a b:Str):decide ((Sum.inr a:Key)=Sum.inr b)=decide (a=b):=by
 by_cases e:a=b
 ·subst e;simp
 ·have h: ¬(Sum.inr a:Key)=Sum.inr b:=fun q=>e (Sum.inr.inj q);rw[decide_eq_false h,decide_eq_false e]
theorem znU(a:Int)(b:Str):decide ((Sum.inl a:Key)=Sum.inr b)=false:=decide_eq_false (fun q=>nomatch q)
theorem znV(a:Str)(b:Int):decide ((Sum.inr a:Key)=Sum.inl b)=false:=decide_eq_false (fun q=>nomatch q)
def zaW(prog:Program)(w:World):PySem.KeyKind prog w Key where
 is:=zfP
 hash:=zqL w
 inj:=fun v a b ha hb=>by
  rcases za7 ha with⟨i,t,rfl,rfl⟩|⟨x,t,rfl,rfl⟩
  ·rcases za7 hb with⟨j,u,rfl,e⟩|⟨y,u,rfl,e⟩
   ·injection e with e1 _;rw[e1]
   ·exact nomatch e
  ·rcases za7 hb with⟨j,u,rfl,e⟩|⟨y,u,rfl,e⟩
   ·exact nomatch e
   ·injection e with e1 _;rw[e1]
 byValue:=fun k v h=>by
  rcases za7 h with⟨i,t,rfl,rfl⟩|⟨x,t,rfl,rfl⟩<;>rfl
 pyHash:=fun hv h=>by
  rcases za7 hv with⟨i,t,rfl,rfl⟩|⟨x,t,rfl,rfl⟩
  ·exact wpAny_pyHash_int h
  ·exact wpAny_pyHash_str h
 eqBool:=fun hu hv h=>by
  rcases za7 hu with⟨i,t,rfl,rfl⟩|⟨x,t,rfl,rfl⟩
  ·rcases za7 hv with⟨j,u,rfl,rfl⟩|⟨y,u,rfl,rfl⟩
   ·rw[znS] at h;exact wpAny_eqBool_int h
   ·rw[znU] at h;exact SeqAt.EqAt.int_str i t y u _ _ _ _ h
  ·rcases za7 hv with⟨j,u,rfl,rfl⟩|⟨y,u,rfl,rfl⟩
   ·rw[znV] at h;exact SeqAt.EqAt.str_int x t j u _ _ _ _ h
   ·rw[znT] at h;exact wpAny_eqBool_str h
 «strs» :=fun k x t v h=>by
  rcases za7 h with⟨i,u,rfl,e⟩|⟨y,u,rfl,e⟩
  ·exact nomatch e
  ·injection e with e1 _
   subst e1
   cases v<;>rfl
theorem zg4(prog:Program)(w:World)(i:Int)(t:Tok):(zaW prog w).is (.inl i) (.int i t)=true:=zju i t
theorem zg5(prog:Program)(w:World)(x:Str)(t:Tok):(zaW prog w).is (.inr x) (.str x t)=true:=zjv x t
end L2
namespace L2
open PySem PySem.Spec PyProof.Rows
inductive V where
 |non|bl (b:Bool)|int (i:Int)|str (x:Str)|byt (b:Array UInt8)|flt (b:UInt64)|ref (a:Addr)|ty (n:String)
 deriving DecidableEq
def zaC:V→Value→Prop
 | .non,u=>u=Value.none
 | .bl b,u=>u=Value.bool b
 | .int i,u=> ∃t,u=Value.int i t
 | .str x,u=> ∃t,u=Value.str x t
 | .byt b,u=> ∃t,u=Value.bytes b t
 | .flt b,u=> ∃t,u=Value.float b t
 | .ref a,u=>u=Value.ref a
 | .ty n,u=>u=Value.type n
abbrev zaI:List V→List Value→Prop:=Paired zaC
theorem zaI.length{xs:List V}{us:List Value}(r:zaI xs us):xs.length=us.length:=Paired.length r
theorem zaI.get: ∀{xs:List V} {us:List Value} {i:Nat} {x:V},zaI xs us→xs[i]? =some x→ ∃u,us[i]? =some u∧zaC x u
 |_,_,_,_, .nil,e=>by simp at e
 |_,_,0,_, .cons r _,e=>by simp at e;subst e;exact⟨_,rfl,r⟩
 |_,_,i+1,x, .cons _ t,e=>by
  obtain⟨u,h1,h2⟩:=zaI.get (i:=i) (x:=x) t (by simpa using e);exact⟨u,by simpa using h1,h2⟩
theorem zaI.append: ∀{xs ys:List V} {us ws:List Value},zaI xs us→zaI ys ws→zaI (xs++ys) (us++ws)
 |_,_,_,_, .nil,s=>s
 |_,_,_,_, .cons r t,s=> .cons r (zaI.append t s)
def zcN:Option V→Option Value→Prop
 |some v,some u=>zaC v u
 |none,none=>True
 |_,_=>False
def KV{κ:Type}:List (κ×V)→List (κ×Value)→Prop:=Paired fun(p:κ×V) (q:κ×Value)=>p.1=q.1∧zaC p.2 q.2
def kV:Key→V
 | .inl i=> .int i
 | .inr x=> .str x
inductive HO where
 |lst (xs:List V)
 |tup (xs:List V)
 |dK (kvs:List (Key×V))|dT (kvs:List (List Key×V))
 |set (S:Int→Bool) (n:Nat)
 |ins (C dx:Addr) (fs:List (Str×V))
 |own (x:Addr)
 |xd (fs:List (Str×V))
 |met (f x:Addr)
 |rng (lo hi:Int)
 |frz (o:Obj) (u:HO)
 |tbl (ps:Array Value)
 |ext (φ:Heap→Prop)
abbrev Hp:=Addr→Option HO
def upd(H:Hp)(a:Addr)(o:HO):Hp:=fun b=>if b=a then some o else H b
theorem zao{H:Hp}{a:Addr}{o:HO}:upd H a o a=some o:=by unfold upd;rw[if_pos rfl]
theorem zal{H:Hp}{a b:Addr}{o:HO}(h:b≠a):upd H a o b=H b:=by unfold upd;rw[if_neg h]
theorem zpU{H:Hp}{a b:Addr}{o u:HO}(h:H a=some o)(h':H b=some u)(d:o≠u):a≠b:=by
 intro e;subst e;rw[h] at h';exact d (Option.some.inj h')
theorem zaD{H:Hp}{a b:Addr}{o:HO}(h:H a=some o)(h':H b=none):a≠b:=by
 intro e;subst e;rw[h] at h';cases h'
section
variable (P:Program) (w:World)
def zbh(H:Hp)(h:Heap)(a:Addr):HO→Prop
 | .lst xs=>xs.length≤sizeLine∧ ∃(its:List Value) (n:Nat),zaI xs its∧h.get? a=some {cls:= .type "list",data:= .seq its.toArray n}
 | .tup xs=>xs.length≤sizeLine∧ ∃its:List Value,zaI xs its∧IsTup h a its.toArray
 | .dK kvs=>kvs.length≤sizeLine∧(a==sysModules)=false∧ ∃vs,KV kvs vs∧h.DictOf (zaW P w) a vs
 | .dT kvs=>kvs.length≤sizeLine∧(a==sysModules)=false∧ ∃xs:List (List Key×Addr×Value),
   Paired (fun(p:List Key×V) (q:List Key×Addr×Value)=>p.1=q.1∧H q.2.1=some (.tup (p.1.map kV))∧zaC p.2 q.2.2) kvs xs∧
   ∃o es ep,h.get? a=some o∧o.ExactDict∧o.data= .dict es ep∧es.toList=xs.map (entryOfKey (tupleKind (zaW P w)))∧(xs.map (·.1)).Nodup
 | .set S n=>h.SetOf (intKind P w) a S n
 | .ins C dx fs=>H dx=some (.own a)∧fs.length≤1000∧dx≠a∧h.get? a=some (PySem.W.instObj C dx)∧
   ∃mA,h.Ns1 dx mA∧(∀f,zcN (fs.lookup f) (mA f))∧PySem.Within mA (fs.map (·.1))
 | .own _=> ∃o,h.get? a=some o
 | .xd fs=> ∃mA,h.Ns1 a mA∧ ∀f,zcN (fs.lookup f) (mA f)
 | .rng lo hi=> ∃t u v,h.get? a=some {cls:= .type "range",data:= .fields #[.int lo t, .int hi u, .int 1 v]}
 | .frz o u=>h.get? a=some o∧zbh H h a u
 | .tbl ps=>h.get? a=some {cls:= .none,data:= .fields ps}
 | .met f x=>h.get? a=some (PySem.W.methodObj (.ref f) (.ref x))
 | .ext φ=>φ h∧(∃o,h.get? a=some o)∧ ∀h1 h2:Heap,φ h1→(∀o,h1.get? a=some o→h2.get? a=some o)→φ h2
def HOk(H:Hp)(h:Heap):Prop:= ∀a o,H a=some o→zbh P w H h a o
end
section
variable {P:Program} {w:World} {H H':Hp} {h h':Heap} {a:Addr} {o:HO}
theorem zbh.lt(x:zbh P w H h a o):a<h.objs.size:=by
 cases o with
 |lst xs=>obtain⟨_,_,_,_,e⟩:=x;exact Heap.lt_size e
 |tup xs=>obtain⟨_,_,_,p⟩:=x;exact p.lt
 |dK kvs=>obtain⟨_,_,_,_,o,_,_,e,_⟩:=x;exact Heap.lt_size e
 |dT kvs=>obtain⟨_,_,_,_,o,_,_,e,_⟩:=x;exact Heap.lt_size e
 |set S n=>obtain⟨o,_,_,_,e,_⟩:=x;exact Heap.lt_size e
 |ins C dx fs=>obtain⟨_,_,_,e,_⟩:=x;exact Heap.lt_size e
 |own y=>obtain⟨_,e⟩:=x;exact Heap.lt_size e
 |xd fs=>obtain⟨_,⟨_,_,_,e,_⟩,_⟩:=x;exact Heap.lt_size e
 |rng lo hi=>obtain⟨_,_,_,e⟩:=x;exact Heap.lt_size e
 |frz ob u=>obtain⟨e,_⟩:=x;exact Heap.lt_size e
 |tbl ps=>exact Heap.lt_size (show h.get? a=some _ from x)
 |met f y=>exact Heap.lt_size (show h.get? a=some _ from x)
 |ext φ=>obtain⟨_,⟨_,e⟩,_⟩:=x;exact Heap.lt_size e
theorem Paired.mapP{α β:Type}{F G:α→β→Prop}: ∀{l₁:List α} {l₂:List β},Paired F l₁ l₂→(∀a b,F a b→G a b)→Paired G l₁ l₂
 |_,_, .nil,_=> .nil
 |_,_, .cons r t,f=> .cons (f _ _ r) (Paired.mapP t f)
theorem zbh.stay(x:zbh P w H h a o)(k: ∀b u,(b=a∨H b=some (.own a))→h.get? b=some u→h'.get? b=some u)
  (ho: ∀b,H b=some (.own a)→H' b=some (.own a)) (ht: ∀b xs,H b=some (.tup xs)→H' b=some (.tup xs)):zbh P w H' h' a o:=by
 induction o with
 |lst xs=>obtain⟨z,its,n,r,e⟩:=x;exact⟨z,its,n,r,k _ _ (.inl rfl) e⟩
 |tup xs=>obtain⟨z,its,r,ob,e,c⟩:=x;exact⟨z,its,r,ob,k _ _ (.inl rfl) e,c⟩
 |dK kvs=>obtain⟨z,y,vs,r,ob,es,ep,e,c⟩:=x;exact⟨z,y,vs,r,ob,es,ep,k _ _ (.inl rfl) e,c⟩
 |dT kvs=>
  obtain⟨z,y,xs,r,ob,es,ep,e,c⟩:=x;exact⟨z,y,xs,Paired.mapP r fun p q z=>⟨z.1,ht _ _ z.2.1,z.2.2⟩,ob,es,ep,k _ _ (.inl rfl) e,c⟩
 |set S n=>obtain⟨ob,es,ep,t,e,c⟩:=x;exact⟨ob,es,ep,t,k _ _ (.inl rfl) e,c⟩
 |ins C dx fs=>
  obtain⟨d,z,ne,e,mA,⟨od,es,ep,e2,c⟩,r⟩:=x;exact⟨ho _ d,z,ne,k _ _ (.inl rfl) e,mA,⟨od,es,ep,k _ _ (.inr d) e2,c⟩,r⟩
 |own y=>obtain⟨ob,e⟩:=x;exact⟨ob,k _ _ (.inl rfl) e⟩
 |xd fs=>obtain⟨mA,⟨od,es,ep,e,c⟩,r⟩:=x;exact⟨mA,⟨od,es,ep,k _ _ (.inl rfl) e,c⟩,r⟩
 |rng lo hi=>obtain⟨t,u,v,e⟩:=x;exact⟨t,u,v,k _ _ (.inl rfl) e⟩
 |frz ob u ih=>obtain⟨e,q⟩:=x;exact⟨k _ _ (.inl rfl) e,ih q⟩
 |tbl ps=>
  have e:h.get? a=some {cls:= .none,data:= .fields ps}:=x;show h'.get? a=some {cls:= .none,data:= .fields ps};exact k a _ (.inl rfl) e
 |met f y=>
  have e:h.get? a=some (PySem.W.methodObj (.ref f) (.ref y)):=x;show h'.get? a=some (PySem.W.methodObj (.ref f) (.ref y));exact k a _ (.inl rfl) e
 |ext φ=>obtain⟨p,⟨o,e⟩,st⟩:=x;exact⟨st _ _ p fun o q=>k _ _ (.inl rfl) q,⟨o,k _ _ (.inl rfl) e⟩,st⟩
theorem HOk.lt(x:HOk P w H h)(e:H a=some o):a<h.objs.size:=(x a o e).lt
theorem HOk.fresh(x:HOk P w H h)(e:h.objs.size≤a):H a=none:=by
 cases q:H a with
 |none=>rfl
 |some u=>exact absurd (Nat.lt_of_lt_of_le (x.lt q) e) (Nat.lt_irrefl _)
theorem HOk.kept(x:HOk P w H h)(k: ∀b u,h.get? b=some u→h'.get? b=some u):HOk P w H h':=fun a o e=>
 (x a o e).stay (fun b u _ q=>k b u q) (fun _ q=>q) fun _ _ q=>q
theorem HOk.laid(x:HOk P w H h)(k: ∀b u,h.get? b=some u→h'.get? b=some u)(hp:h.objs.size≤a)(new:zbh P w (upd H a o) h' a o):HOk P w (upd H a o) h':=fun b u e=>by
 have hn:=x.fresh hp;by_cases hb:b=a
 ·subst hb;rw[zao] at e;cases e;exact new
 ·rw[zal hb] at e;exact(x b u e).stay (fun c v _ q=>k c v q) (fun c q=>by rw[zal (zaD q hn)];exact q) fun c xs q=>by rw[zal (zaD q hn)];exact q
end
def Rd(H:Hp)(a:Addr)(u:HO):Prop:=H a=some u∨ ∃o,H a=some (.frz o u)
theorem Rd.of{H:Hp}{a:Addr}{u:HO}(h:H a=some u):Rd H a u:= .inl h
theorem Rd.ok{P:Program}{w:World}{H:Hp}{h:Heap}{a:Addr}{u:HO}(r:Rd H a u)(x:HOk P w H h):zbh P w H h a u:=by
 rcases r with r|⟨o,r⟩
 ·exact x a u r
 ·obtain⟨_,q⟩:=x a _ r;exact q
def Mut:Option HO→Prop
 |some (.lst _)=>True
 |some (.dK _)=>True
 |some (.dT _)=>True
 |some (.set _ _)=>True
 |some (.ins _ _ _)=>True
 |some (.ext _)=>True
 |_=>False
section
variable {P:Program} {w:World} {H:Hp} {h h':Heap} {x e:Addr} {o':HO}
theorem HOk.write(ok:HOk P w H h)(mu:Mut (H x))(he:e=x∨H e=some (.own x))(k: ∀b u,b≠e→h.get? b=some u→h'.get? b=some u)(heo: ∃u,h'.get? e=some u)
  (new:zbh P w (upd H x o') h' x o'):HOk P w (upd H x o') h':=fun b u q=>by
 have nown: ∀c y,H c=some (.own y)→c≠x:=fun c y r z=>by subst z;rw[r] at mu;exact mu
 have ntup: ∀c xs,H c=some (.tup xs)→c≠x:=fun c xs r z=>by subst z;rw[r] at mu;exact mu
 by_cases hb:b=x
 ·subst hb;rw[zao] at q;cases q;exact new
 ·rw[zal hb] at q;by_cases hbe:b=e
  ·have q':H b=some (.own x):=by
    rcases he with z|z
    ·exact absurd (hbe.trans z) hb
    ·rw[hbe];exact z
   rw[q] at q';cases q';obtain⟨v,hv⟩:=heo;exact⟨v,by rw[hbe];exact hv⟩
  ·refine(ok b u q).stay (fun c v hc r=>k c v ?_ r) (fun c r=>by rw[zal (nown c b r)];exact r) fun c xs r=>by rw[zal (ntup c xs r)];exact r
   rcases hc with rfl|hc
   ·exact hbe
   ·rintro rfl;rcases he with z|z
    ·exact nown c b hc z
    ·rw[hc] at z;cases z;exact hb rfl
end
structure Un (fs ex:List Addr) (H H':Hp) (h h':Heap):Prop where
 keep: ∀b o,h.get? b=some o→H b=none→b∉fs→b∉ex→h'.get? b=some o
 slot: ∀b o,h.get? b=some o→H b=none→b∈fs→b∉ex→ ∃sl,h'.get? b=some {o with slots:=sl}
 free: ∀b o,h.get? b=some o→H b=none→b∉ex→H' b=none
 there: ∀b o,h.get? b=some o→b∉ex→ ∃o',h'.get? b=some o'
 tups: ∀b xs,H b=some (.tup xs)→H' b=some (.tup xs)
 frzs: ∀b o u,H b=some (.frz o u)→H' b=some (.frz o u)
 tbls: ∀b ps,H b=some (.tbl ps)→ ∃more,H' b=some (.tbl (ps++more))
section
variable {fs fs' ex ex':List Addr} {H H1 H2:Hp} {h h1 h2 h':Heap} {a x e:Addr} {o:HO}
theorem Un.any(u:Un fs ex H H1 h h1){b:Addr}{ob:Obj}(q:h.get? b=some ob)(n:H b=none)(hx:b∉ex): ∃sl,h1.get? b=some {ob with slots:=sl}:=by
 by_cases hb:b∈fs
 ·exact u.slot b ob q n hb hx
 ·exact⟨ob.slots,u.keep b ob q n hb hx⟩
theorem Un.kept(k: ∀b u,h.get? b=some u→h'.get? b=some u):Un fs ex H H h h':=
 ⟨fun b ob q _ _ _=>k b ob q,fun b ob q _ _ _=>⟨ob.slots,k b ob q⟩,fun _ _ _ n _=>n,fun b ob q _=>⟨ob,k b ob q⟩,fun _ _ q=>q,fun _ _ _ q=>q,fun _ ps q=>⟨#[],by rw[q];simp⟩⟩
theorem Un.refl:Un fs ex H H h h:=Un.kept fun _ _ q=>q
theorem Un.laid(k: ∀b u,h.get? b=some u→h'.get? b=some u)(hp:h.objs.size≤a)(hn:H a=none):Un fs ex H (upd H a o) h h' where
 keep:=fun b u q _ _ _=>k b u q
 slot:=fun b u q _ _ _=>⟨u.slots,k b u q⟩
 free:=fun b u q n _=>by rw[zal (Nat.ne_of_lt (Nat.lt_of_lt_of_le (Heap.lt_size q) hp))];exact n
 there:=fun b u q _=>⟨u,k b u q⟩
 tups:=fun b xs q=>by rw[zal (zaD q hn)];exact q
 frzs:=fun b u xs q=>by rw[zal (zaD q hn)];exact q
 tbls:=fun b ps q=>⟨#[],by rw[zal (zaD q hn),q];simp⟩
theorem Un.write(mu:Mut (H x))(he:e=x∨H e=some (.own x))(k: ∀b u,b≠e→h.get? b=some u→h'.get? b=some u)(heo: ∃u,h'.get? e=some u):Un fs ex H (upd H x o) h h':=by
 have hx: ∀b,H b=none→b≠x:=fun b n z=>by subst z;rw[n] at mu;exact mu
 have hb: ∀b,H b=none→b≠e:=fun b n z=>by
  subst z;rcases he with r|r
  ·exact hx b n r
  ·rw[n] at r;cases r
 have hm: ∀b u,H b=some u→ ¬Mut (some u)→b≠x:=fun b u q nm z=>by subst z;rw[q] at mu;exact nm mu
 refine⟨fun b u q n _ _=>k b u (hb b n) q,fun b u q n _ _=>⟨u.slots,k b u (hb b n) q⟩,fun b u q n _=>by rw[zal (hx b n)];exact n,fun b u q _=> ?_,
  fun b xs q=>by rw[zal (hm b _ q fun z=>z)];exact q,fun b u xs q=>by rw[zal (hm b _ q fun z=>z)];exact q,fun b ps q=>⟨#[],by rw[zal (hm b _ q fun z=>z),q];simp⟩⟩
 by_cases hbe:b=e
 ·subst hbe;exact heo
 ·exact⟨u,k b u hbe q⟩
end
def trk(h:Heap)(H:Hp):List Addr:=(List.range h.objs.size).filter fun a=>(H a).isSome
def zgv(h:Heap)(H:Hp):Heap:=PySem.W.hideAll h (trk h H)
theorem zjw(h:Heap)(H:Hp):(zgv h H).objs.size=h.objs.size:=PySem.W.hideAll_size _ _
theorem zke{h:Heap}{H:Hp}{b:Addr}{o:Obj}(e:h.get? b=some o)(n:H b=none):(zgv h H).get? b=some o:=
 PySem.W.hideAll_get _ e fun hm=>by
  have q:(H b).isSome=true:=(List.mem_filter.mp hm).2;rw[n] at q;simp at q
theorem zmz{h:Heap}{H:Hp}{b:Addr}{o:Obj}(e:(zgv h H).get? b=some o):h.get? b=some o∧H b=none:=by
 have e':h.get? b=some o:=PySem.W.of_hideAll (trk h H) e;refine⟨e',?_⟩;cases q:H b with
 |none=>rfl
 |some x=>
  have hm:b∈trk h H:=List.mem_filter.mpr ⟨List.mem_range.mpr (Heap.lt_size e'),by simp [q]⟩;have z:(zgv h H).get? b=none:=PySem.W.hideAll_none (trk h H) hm;rw[z] at e;cases e
def zmA(g h:Heap)(L:Addr):List (Addr×Obj):=(List.range h.objs.size).filterMap fun a=>if a=L∨(g.get? a).isSome=true then none else (h.get? a).map fun o=>(a,o)
def rest(g h:Heap)(L d:Addr):List (Addr×Obj):=(zmA g h L).filter fun p=>decide (p.1≠d)
end L2
namespace L2
open PySem PySem.Spec PyProof.Rows
structure Mod (K:Fg) (mg:Str→Option Value) (base:Heap):Prop where
 kin:K.In base
 glob:base.Ns mainGlobals mg
 blt: ∃mb,base.Ns builtinsNs mb∧ ∀x:Str,x≠"__name__"→mb x=bootBuiltins x
 nolimit:base.NoLimit
set_option genInjectivity false in
set_option genSizeOf false in
structure Cx where
 prog:Program
 w:World
 K:Fg
 mg:Str→Option Value
 base:Heap
 A:Around
 N:List Str
 s₀:Shared
 H₀:Hp
 env:Env
 outer:List Env
 stack:List Env
 ex:List Addr
 fn:Str→Bool
 calm:Bool
 pn:List (Addr×Obj)
 xe:Value→Shared→Prop
def frs(l:List Env):List Addr:=l.filterMap (·.frame)
abbrev Cx.fs(X:Cx):List Addr:=frs X.outer
def Vis(sc:Scope)(x:Str):Prop:=sc.names.lookup x=some .local∨sc.names.lookup x=some .cell∨sc.names.lookup x=some .free
def Loc(sc:Scope)(x:Str):Prop:=sc.names.lookup x=some .local∨sc.names.lookup x=some .cell
def zqM(env:Env)(h:Heap)(m:Str→Option Value)(x:Str)(u:Value):Prop:=
 (env.kindOf x=some .local∧m x=some u)∨((env.kindOf x=some .cell∨env.kindOf x=some .free)∧ ∃c,env.cells.lookup x=some c∧h.IsCell c (some u))
structure Cx.Ok (X:Cx):Prop where
 mod:Mod X.K X.mg X.base
 kind:X.env.scope.kind= .function
 glob:X.env.globals=mainGlobals
 blt:X.env.builtins=builtinsNs
 above:X.s₀.heap.objs.size≤X.env.locals
 inj: ∀x y c,X.env.cells.lookup x=some c→X.env.cells.lookup y=some c→x=y
 has: ∀x,(X.env.kindOf x=some .cell∨X.env.kindOf x=some .free)→ ∃c,X.env.cells.lookup x=some c
 cab: ∀x c,X.fn x=true→X.env.cells.lookup x=some c→X.s₀.heap.objs.size≤c
 hd:X.calm=true→X.A.handled=none
 frames:X.A.frames=some X.stack
 stk:X.stack=X.outer∨(X.stack=X.env::X.outer∧X.env.frame=some X.env.locals)
 exf: ∀b∈X.ex,b≠X.env.locals∧ ∀x c,X.env.cells.lookup x=some c→c≠b
 bs: ∀b o,X.base.get? b=some o→X.s₀.heap.get? b=some o∧X.H₀ b=none
 bsz:X.base.objs.size≤X.s₀.heap.objs.size
 noex: ∀b o,X.base.get? b=some o→b∉X.ex
 exfs: ∀b∈X.ex,b∉X.fs
 funs:X.s₀.heap.FunFrames X.base X.outer
 frf: ∀b∈X.fs,X.H₀ b=none
structure Inv (X:Cx) (pins:List (Addr×Obj)) (σ:List (Option V)) (H:Hp) (s:Shared):Prop where
 ok:X.Ok
 os:s.os=X.s₀.os
 bare:AllBare s.gens
 base:Un X.fs X.ex X.H₀ H X.s₀.heap s.heap
 loc: ∃m,s.heap.Ns X.env.locals m∧ ∀(i:Nat) (x:Str) (v:V),X.N[i]? =some x→σ[i]? =some (some v)→Vis X.env.scope x→ ∃u,zaC v u∧zqM X.env s.heap m x u
 cell: ∀x c,X.env.cells.lookup x=some c→ ∃v,s.heap.IsCell c v
 free:H X.env.locals=none
 freeC: ∀x c,X.env.cells.lookup x=some c→H c=none
 pin: ∀p∈X.pn++pins,s.heap.get? p.1=some p.2∧H p.1=none∧p.1≠X.env.locals∧p.1∉X.fs∧ ∀v,p.2.data≠ .cell v
 hok:HOk X.prog X.w H s.heap
 len:σ.length=X.N.length
section
variable {X:Cx} {pins:List (Addr×Obj)} {σ:List (Option V)} {H H':Hp} {s:Shared} {h':Heap}
theorem Cx.Ok.nofr(ok:X.Ok){b:Addr}{o:Obj}(e:X.base.get? b=some o):b∉X.fs:=fun hb=>by
 have:=(ok.funs.mem hb).1;rw[e] at this;cases this
theorem Inv.bs(I:Inv X pins σ H s): ∀b o,X.base.get? b=some o→s.heap.get? b=some o∧H b=none:=fun b o e=>
 ⟨I.base.keep b o (I.ok.bs b o e).1 (I.ok.bs b o e).2 (I.ok.nofr e) (I.ok.noex b o e),I.base.free b o (I.ok.bs b o e).1 (I.ok.bs b o e).2 (I.ok.noex b o e)⟩
theorem Inv.bk(I:Inv X pins σ H s): ∀b o,X.base.get? b=some o→s.heap.get? b=some o:=fun b o e=>(I.bs b o e).1
theorem Inv.mod(I:Inv X pins σ H s):Mod X.K X.mg X.base:=I.ok.mod
theorem Inv.kIn(I:Inv X pins σ H s):X.K.In s.heap:=I.ok.mod.kin.keeps I.bk
theorem Inv.nolimit(I:Inv X pins σ H s):s.heap.NoLimit:=I.ok.mod.nolimit.keeps I.bk
theorem Inv.lt(I:Inv X pins σ H s):X.env.locals<s.heap.objs.size:=let ⟨_,hn,_⟩:=I.loc;hn.lt
theorem Inv.sz(I:Inv X pins σ H s):X.s₀.heap.objs.size≤s.heap.objs.size:=Nat.le_trans I.ok.above (Nat.le_of_lt I.lt)
theorem Inv.nofs(I:Inv X pins σ H s){a:Addr}(h:s.heap.objs.size≤a):a∉X.fs:=fun hb=>by
 obtain⟨_,o,ho,_⟩:=I.ok.funs.mem hb;exact absurd (Nat.lt_of_lt_of_le (Heap.lt_size ho) (Nat.le_trans I.sz h)) (Nat.lt_irrefl _)
theorem Inv.cne(I:Inv X pins σ H s): ∀x c,X.env.cells.lookup x=some c→c≠X.env.locals:=fun x c e z=>by
 obtain⟨v,o,ho,hd⟩:=I.cell x c e;obtain⟨m,⟨o',es,ep,ho',hd',_⟩,_⟩:=I.loc;rw[z,ho'] at ho;cases ho;rw[hd'] at hd;cases hd
theorem Inv.funs(I:Inv X pins σ H s):s.heap.FunFrames X.base X.outer:=by
 have all: ∀(l:List Env),(∀b∈frs l,b∈X.fs)→X.s₀.heap.FunFrames X.base l→s.heap.FunFrames X.base l:=by
  intro l;induction l with
  |nil=>intro _ _;trivial
  |cons env r ih=>
   intro hs hl;obtain⟨hk,⟨L,o,hf,hn,ho,hd⟩,hr⟩:=hl;have hL:L∈X.fs:=hs L (by unfold frs;rw[List.filterMap_cons,hf];exact List.mem_cons_self);obtain⟨sl,e⟩:=I.base.slot L o ho (I.ok.frf L hL) hL fun z=>I.ok.exfs L z hL;exact⟨hk,⟨L,_,hf,hn,e,hd⟩,ih (fun b hb=>hs b (by unfold frs;rw[List.filterMap_cons,hf];exact List.mem_cons_of_mem _ hb)) hr⟩
 exact all X.outer (fun _ hb=>hb) I.ok.funs
theorem Inv.stack(I:Inv X pins σ H s):s.heap.FunFrames X.base X.stack:=by
 rcases I.ok.stk with e|⟨e,hf⟩
 ·rw[e];exact I.funs
 ·rw[e];obtain⟨m,hn,_⟩:=I.loc;refine .cons (by rw[I.ok.kind];decide) hf hn ?_ I.funs;exact Heap.get?_none_of_le (Nat.le_trans I.ok.bsz I.ok.above)
theorem Inv.stkSub(I:Inv X pins σ H s): ∀b∈frs X.stack,b∈X.env.locals::X.fs:=fun b hb=>by
 rcases I.ok.stk with e|⟨e,hf⟩
 ·rw[e] at hb;exact List.mem_cons_of_mem _ hb
 ·rw[e] at hb;unfold frs at hb;rw[List.filterMap_cons,hf] at hb;exact hb
theorem Inv.stkFree(I:Inv X pins σ H s): ∀b∈frs X.stack,H b=none:=fun b hb=>by
 rcases List.mem_cons.mp (I.stkSub b hb) with e|hb
 ·rw[e];exact I.free
 ·obtain⟨_,o,ho,_⟩:=I.ok.funs.mem hb;exact I.base.free b o ho (I.ok.frf b hb) fun z=>I.ok.exfs b z hb
theorem Inv.step{g':Array GenState}{t':Nat}{d':Drawn}{ch:List Addr}(I:Inv X pins σ H s)
  (hch: ∀b∈ch,(b∈X.ex∨X.s₀.heap.objs.size≤b)∧b≠X.env.locals∧(∀x c,X.env.cells.lookup x=some c→c≠b)∧ ∀p∈X.pn++pins,p.1≠b)
  (keep: ∀b o,b≠X.env.locals→b∉X.fs→b∉ch→s.heap.get? b=some o→H b=none→h'.get? b=some o)
  (slot: ∀b o,b≠X.env.locals→b∈X.fs→b∉ch→s.heap.get? b=some o→H b=none→ ∃sl,h'.get? b=some {o with slots:=sl}) (free: ∀b o,b∉ch→s.heap.get? b=some o→H b=none→H' b=none)
  (there: ∀b o,b∉ch→s.heap.get? b=some o→ ∃o',h'.get? b=some o')
  (tups: ∀b xs,H b=some (.tup xs)→H' b=some (.tup xs)) (frzs: ∀b o u,H b=some (.frz o u)→H' b=some (.frz o u)) (tbls: ∀b ps,H b=some (.tbl ps)→ ∃more,H' b=some (.tbl (ps++more)))
  (ns: ∀m,s.heap.Ns X.env.locals m→h'.Ns X.env.locals m) (hok:HOk X.prog X.w H' h') (hg:AllBare g'):
  Inv X pins σ H' {s with heap:=h',gens:=g',drawn:=d',toks:=t'}:=by
 have neL: ∀b o,X.s₀.heap.get? b=some o→b≠X.env.locals:=fun b o e=>Nat.ne_of_lt (Nat.lt_of_lt_of_le (Heap.lt_size e) I.ok.above);have neC: ∀b o,X.s₀.heap.get? b=some o→b∉X.ex→b∉ch:=fun b o e hx hb=>by
  rcases (hch b hb).1 with z|z
  ·exact hx z
  ·exact absurd (Nat.lt_of_lt_of_le (Heap.lt_size e) z) (Nat.lt_irrefl _)
 have cellK: ∀x c,X.env.cells.lookup x=some c→ ∀v,s.heap.IsCell c v→h'.IsCell c v:=fun x c e v ⟨o,ho,hd⟩=>by
  have nch:c∉ch:=fun z=>(hch c z).2.2.1 x c e rfl;by_cases hc:c∈X.fs
  ·obtain⟨sl,q⟩:=slot c o (I.cne x c e) hc nch ho (I.freeC x c e);exact⟨_,q,hd⟩
  ·exact⟨o,keep c o (I.cne x c e) hc nch ho (I.freeC x c e),hd⟩
 refine⟨I.ok,I.os,hg,⟨fun b o e n hb hx=> ?_,fun b o e n hb hx=> ?_,fun b o e n hx=> ?_,fun b o e hx=> ?_,fun b xs e=>tups b xs (I.base.tups b xs e),fun b o xs e=>frzs b o xs (I.base.frzs b o xs e),fun b ps e=> ?_⟩,?_,fun x c e=> ?_,?_,fun x c e=> ?_,fun p hp=> ?_,hok,I.len⟩
 ·exact keep b o (neL b o e) hb (neC b o e hx) (I.base.keep b o e n hb hx) (I.base.free b o e n hx)
 ·obtain⟨sl,e1⟩:=I.base.slot b o e n hb hx;obtain⟨sl',e2⟩:=slot b _ (neL b o e) hb (neC b o e hx) e1 (I.base.free b o e n hx);exact⟨sl',e2⟩
 ·obtain⟨o',e1⟩:=I.base.there b o e hx;exact free b o' (neC b o e hx) e1 (I.base.free b o e n hx)
 ·obtain⟨o',e1⟩:=I.base.there b o e hx;exact there b o' (neC b o e hx) e1
 ·obtain⟨m1,e1⟩:=I.base.tbls b ps e;obtain⟨m2,e2⟩:=tbls b _ e1;exact⟨m1++m2,by rw[e2,Array.append_assoc]⟩
 ·obtain⟨m,hn,hl⟩:=I.loc;refine⟨m,ns m hn,fun i x v e1 e2 e3=> ?_⟩;obtain⟨u,r,l⟩:=hl i x v e1 e2 e3;refine⟨u,r,?_⟩;rcases l with l|⟨k,c,e,z⟩
  ·exact .inl l
  ·exact .inr ⟨k,c,e,cellK x c e _ z⟩
 ·obtain⟨v,z⟩:=I.cell x c e;exact⟨v,cellK x c e v z⟩
 ·obtain⟨m,⟨o,_,_,ho,_⟩,_⟩:=I.loc;exact free _ o (fun z=>(hch _ z).2.1 rfl) ho I.free
 ·obtain⟨v,o,ho,hd⟩:=I.cell x c e;exact free c o (fun z=>(hch c z).2.2.1 x c e rfl) ho (I.freeC x c e)
 ·obtain⟨e,n,ne,nf,d⟩:=I.pin p hp;have nch:p.1∉ch:=fun z=>(hch p.1 z).2.2.2 p hp rfl;exact⟨keep p.1 p.2 ne nf nch e n,free p.1 p.2 nch e n,ne,nf,d⟩
theorem Inv.un{t':Nat}(I:Inv X pins σ H s)(u:Un X.fs [] H H' s.heap h')(hok:HOk X.prog X.w H' h'):Inv X pins σ H' {s with heap:=h',toks:=t'}:=by
 obtain⟨m,⟨o,es,ep,ho,r⟩,_⟩:=id I.loc;obtain⟨sl,hL⟩:=u.any ho I.free (by simp);exact I.step (g':=s.gens) (d':=s.drawn) (ch:= []) (fun _ z=>nomatch z) (fun b o _ hb _ e n=>u.keep b o e n hb (by simp)) (fun b o _ hb _ e n=>u.slot b o e n hb (by simp)) (fun b o _ e n=>u.free b o e n (by simp)) (fun b o _ e=>u.there b o e (by simp)) u.tups u.frzs u.tbls (fun m' hm=>by
  obtain⟨o',es',ep',ho',r'⟩:=hm;rw[ho] at ho';cases ho';exact⟨_,es',ep',hL,r'⟩) hok I.bare
theorem Inv.call{g':Array GenState}{t':Nat}{d':Drawn}{ch:List Addr}(I:Inv X pins σ H s)(u:Un (frs X.stack) ch H H' s.heap h')(hok:HOk X.prog X.w H' h')(hg:AllBare g')
  (hch: ∀b∈ch,(b∈X.ex∨X.s₀.heap.objs.size≤b)∧b≠X.env.locals∧(∀x c,X.env.cells.lookup x=some c→c≠b)∧ ∀p∈X.pn++pins,p.1≠b):
  Inv X pins σ H' {s with heap:=h',gens:=g',drawn:=d',toks:=t'}:=by
 obtain⟨m,⟨o,es,ep,ho,r⟩,_⟩:=id I.loc;obtain⟨sl,hL⟩:=u.any ho I.free fun z=>(hch _ z).2.1 rfl;exact I.step (ch:=ch) hch (fun b o hL hb hc e n=>u.keep b o e n (fun z=>(List.mem_cons.mp (I.stkSub b z)).elim hL hb) hc) (fun b o _ _ hc e n=>u.any e n hc) (fun b o hc e n=>u.free b o e n hc) (fun b o hc e=>u.there b o e hc) u.tups u.frzs u.tbls (fun m' hm=>by
  obtain⟨o',es',ep',ho',r'⟩:=hm;rw[ho] at ho';cases ho';exact⟨_,es',ep',hL,r'⟩) hok hg
theorem Inv.turned{t':Nat}{it:Addr}(I:Inv X pins σ H s)(k: ∀b o,b≠it→s.heap.get? b=some o→h'.get? b=some o)(hn:H it=none)(hL:it≠X.env.locals)
  (h1:it∈X.ex∨X.s₀.heap.objs.size≤it) (h2: ∀x c,X.env.cells.lookup x=some c→c≠it) (h3: ∀p∈X.pn++pins,p.1≠it):Inv X pins σ H {s with heap:=h',toks:=t'}:=by
 have nit: ∀b u,H b=some u→b≠it:=fun b u e z=>by rw[z,hn] at e;cases e
 refine I.step (g':=s.gens) (d':=s.drawn) (ch:= [it]) (fun b hb=> ?_) (fun b o _ _ hc e _=>k b o (fun z=>hc (by simp [z])) e) (fun b o _ _ hc e _=>⟨o.slots,k b o (fun z=>hc (by simp [z])) e⟩) (fun _ _ _ _ n=>n)
  (fun b o hc e=>⟨o,k b o (fun z=>hc (by simp [z])) e⟩) (fun _ _ e=>e) (fun _ _ _ e=>e) (fun b ps e=>⟨#[],by rw[e];simp⟩) (fun m hm=> ?_) (fun b u e=> ?_) I.bare
 ·have e:b=it:=by simpa using hb
  subst e;exact⟨h1,hL,h2,h3⟩
 ·obtain⟨o,es,ep,ho,r⟩:=hm;exact⟨o,es,ep,k _ o (Ne.symm hL) ho,r⟩
 ·refine(I.hok b u e).stay (fun c v hc q=>k c v ?_ q) (fun _ q=>q) fun _ _ q=>q;rcases hc with z|z
  ·rw[z];exact nit b u e
  ·exact nit c _ z
theorem Inv.tok(I:Inv X pins σ H s)(t:Nat):Inv X pins σ H {s with toks:=t}:=I.un (h':=s.heap) (t':=t) Un.refl I.hok
theorem Inv.kept{t':Nat}(I:Inv X pins σ H s)(k: ∀b u,s.heap.get? b=some u→h'.get? b=some u):Inv X pins σ H {s with heap:=h',toks:=t'}:=I.un (Un.kept k) (I.hok.kept k)
theorem Inv.laid{a:Addr}{o:HO}{t':Nat}(I:Inv X pins σ H s)(k: ∀b u,s.heap.get? b=some u→h'.get? b=some u)(hp:s.heap.objs.size≤a)(new:zbh X.prog X.w (upd H a o) h' a o):
  Inv X pins σ (upd H a o) {s with heap:=h',toks:=t'}:=I.un (Un.laid k hp (I.hok.fresh hp)) (I.hok.laid k hp new)
theorem Inv.write{x e:Addr}{o:HO}{t':Nat}(I:Inv X pins σ H s)(mu:Mut (H x))(he:e=x∨H e=some (.own x))(k: ∀b u,b≠e→s.heap.get? b=some u→h'.get? b=some u)(heo: ∃u,h'.get? e=some u)
  (new:zbh X.prog X.w (upd H x o) h' x o):Inv X pins σ (upd H x o) {s with heap:=h',toks:=t'}:=I.un (Un.write mu he k heo) (I.hok.write mu he k heo new)
theorem Inv.weak{σ':List (Option V)}(I:Inv X pins σ H s)(hl:σ'.length=σ.length)(w: ∀(i:Nat) v,σ'[i]? =some (some v)→σ[i]? =some (some v)):Inv X pins σ' H s:=
 ⟨I.ok,I.os,I.bare,I.base,let ⟨m,hn,hl'⟩:=I.loc;⟨m,hn,fun i x v e1 e2 e3=>hl' i x v e1 (w i v e2) e3⟩,I.cell,I.free,I.freeC,I.pin,I.hok,hl.trans I.len⟩
theorem Inv.pins_of{pins':List (Addr×Obj)}(I:Inv X pins σ H s)(h: ∀p∈pins',s.heap.get? p.1=some p.2∧H p.1=none∧p.1≠X.env.locals∧p.1∉X.fs∧ ∀v,p.2.data≠ .cell v):Inv X pins' σ H s:=
 ⟨I.ok,I.os,I.bare,I.base,I.loc,I.cell,I.free,I.freeC,fun p hp=>(List.mem_append.mp hp).elim (fun z=>I.pin p (List.mem_append_left _ z)) (h p),I.hok,I.len⟩
theorem zg6{N:List Str}(hN:N.Nodup){i j:Nat}{x:Str}(a:N[i]? =some x)(b:N[j]? =some x):i=j:=by
 obtain⟨h1,e1⟩:=List.getElem?_eq_some_iff.mp a;obtain⟨h2,e2⟩:=List.getElem?_eq_some_iff.mp b;exact(List.getElem_inj hN).mp (e1.trans e2.symm)
theorem zfQ{M:Model}{A:Around}{E:Value→Shared→Prop}{i:Nat}{x:Str}{v:V}{u:Value}{Q:Unit→Shared→Prop}(I:Inv X pins σ H s)(hN:X.N.Nodup)(hi:X.N[i]? =some x)(hx:Loc X.env.scope x)(r:zaC v u)
  (h: ∀s',Inv X pins (σ.set i (some v)) H s'→(∃a,Heap.SameBut a s.heap s'.heap∧(a=X.env.locals∨X.env.cells.lookup x=some a))→Q () s') (hf:X.fn x=true∨X.env.scope.names.lookup x=some .local:=by first|exact .inl rfl|exact .inr rfl|assumption):wpAny M A (storeName X.env x u) Q E s:=by
 obtain⟨m,hn,hl⟩:=id I.loc;have hcls:(X.env.scope.kind== .class||(X.env.scope.kind== .module && X.env.locals !=X.env.globals))=false:=by rw[I.ok.kind];rfl
 have hiσ:i<σ.length:=by rw[I.len];exact(List.getElem?_eq_some_iff.mp hi).1
 have cne:=I.cne;have tracked: ∀{a:Addr} {h':Heap},(∃o,s.heap.get? a=some o∧H a=none)→Heap.SameBut a s.heap h'→HOk X.prog X.w H h':=fun {a h'} ha hs b ob e=>by
  obtain⟨_,_,hfree⟩:=ha;refine(I.hok b ob e).stay (fun c w' hc q=>(hs.2 c ?_).trans q) (fun _ q=>q) fun _ _ q=>q;rintro rfl;rcases hc with rfl|hc
  ·rw[hfree] at e;cases e
  ·rw[hfree] at hc;cases hc
 rcases hx with hk|hk
 ·refine wpAny_storeName_local hk hn (fun h' hn' hs=> ?_) hcls;obtain⟨oL,_,_,hoL,_⟩:=id hn;refine h _ ⟨I.ok,I.os,I.bare,⟨fun b o e n hb hx=> ?_,fun b o e n hb hx=> ?_,I.base.free,fun b o e hx=> ?_,I.base.tups,I.base.frzs,I.base.tbls⟩,⟨_,hn',fun j y v' e1 e2 e3=> ?_⟩,fun y c e=> ?_,I.free,I.freeC,fun p hp=> ?_,tracked ⟨oL,hoL,I.free⟩ hs,by simpa using I.len⟩ ⟨_,hs, .inl rfl⟩
  ·exact(hs.2 b (Nat.ne_of_lt (Nat.lt_of_lt_of_le (Heap.lt_size e) I.ok.above))).trans (I.base.keep b o e n hb hx)
  ·obtain⟨sl,e1⟩:=I.base.slot b o e n hb hx;exact⟨sl,(hs.2 b (Nat.ne_of_lt (Nat.lt_of_lt_of_le (Heap.lt_size e) I.ok.above))).trans e1⟩
  ·obtain⟨o',e1⟩:=I.base.there b o e hx;exact⟨o',(hs.2 b (Nat.ne_of_lt (Nat.lt_of_lt_of_le (Heap.lt_size e) I.ok.above))).trans e1⟩
  ·by_cases hj:j=i
   ·subst hj;rw[hi] at e1;cases e1;rw[List.getElem?_set_self hiσ] at e2;cases e2;exact⟨u,r, .inl ⟨hk,by simp⟩⟩
   ·rw[List.getElem?_set_ne (Ne.symm hj)] at e2;obtain⟨u',r',q⟩:=hl j y v' e1 e2 e3;refine⟨u',r',?_⟩;rcases q with⟨k,e⟩|⟨k,c,e,z⟩
    ·refine .inl ⟨k,?_⟩
     have:y≠x:=fun e=>hj (zg6 hN e1 (e ▸ hi));simp [this,e]
    ·exact .inr ⟨k,c,e,z.sameBut hs (cne y c e)⟩
  ·obtain⟨w',z⟩:=I.cell y c e;exact⟨w',z.sameBut hs (cne y c e)⟩
  ·obtain⟨e,n,ne,nf,d⟩:=I.pin p hp;exact⟨(hs.2 p.1 ne).trans e,n,ne,nf,d⟩
 ·have hfn:X.fn x=true:=by
   rcases hf with z|z
   ·exact z
   ·rw[z] at hk;cases hk
  obtain⟨c,hc⟩:=I.ok.has x (.inl hk);obtain⟨w',z⟩:=I.cell x c hc;refine wpAny_storeName_cell I.ok.kind hk hc z (fun h' hc' hs=> ?_);obtain⟨oc,hoc,hocd⟩:=id z;refine h {s with heap:=h'} ⟨I.ok,I.os,I.bare,⟨fun b o e n hb hx=> ?_,fun b o e n hb hx=> ?_,I.base.free,fun b o e hx=> ?_,I.base.tups,I.base.frzs,I.base.tbls⟩,⟨m,hn.sameBut hs (Ne.symm (cne x c hc)),fun j y v' e1 e2 e3=> ?_⟩,fun y c' e=> ?_,I.free,I.freeC,fun p hp=> ?_,tracked ⟨oc,hoc,I.freeC x c hc⟩ hs,by simpa using I.len⟩ ⟨c,hs, .inr hc⟩
  ·exact(hs.2 b (Nat.ne_of_lt (Nat.lt_of_lt_of_le (Heap.lt_size e) (I.ok.cab x c hfn hc)))).trans (I.base.keep b o e n hb hx)
  ·obtain⟨sl,e1⟩:=I.base.slot b o e n hb hx;exact⟨sl,(hs.2 b (Nat.ne_of_lt (Nat.lt_of_lt_of_le (Heap.lt_size e) (I.ok.cab x c hfn hc)))).trans e1⟩
  ·obtain⟨o',e1⟩:=I.base.there b o e hx;exact⟨o',(hs.2 b (Nat.ne_of_lt (Nat.lt_of_lt_of_le (Heap.lt_size e) (I.ok.cab x c hfn hc)))).trans e1⟩
  ·by_cases hj:j=i
   ·subst hj;rw[hi] at e1;cases e1;rw[List.getElem?_set_self hiσ] at e2;cases e2;exact⟨u,r, .inr ⟨.inl hk,c,hc,hc'⟩⟩
   ·rw[List.getElem?_set_ne (Ne.symm hj)] at e2;obtain⟨u',r',q⟩:=hl j y v' e1 e2 e3;refine⟨u',r',?_⟩;rcases q with q|⟨k,c',e,z'⟩
    ·exact .inl q
    ·refine .inr ⟨k,c',e,z'.sameBut hs ?_⟩;rintro rfl;exact hj (zg6 hN e1 (I.ok.inj _ _ _ e hc ▸ hi))
  ·by_cases hcc:c'=c
   ·subst hcc;exact⟨_,hc'⟩
   ·obtain⟨w2,z2⟩:=I.cell y c' e;exact⟨w2,z2.sameBut hs hcc⟩
  ·obtain⟨e,n,ne,nf,d⟩:=I.pin p hp;refine⟨(hs.2 p.1 ?_).trans e,n,ne,nf,d⟩;intro q;rw[q,hoc] at e;have q':oc=p.2:=Option.some.inj e;exact d w' (by rw[←q'];exact hocd)
theorem zeG{M:Model}{A:Around}{E:Value→Shared→Prop}{i:Nat}{x:Str}{v:V}{u:Value}{Q:Unit→Shared→Prop}(I:Inv X pins σ H s)(hN:X.N.Nodup)(hi:X.N[i]? =some x)(hx:Loc X.env.scope x)(r:zaC v u)
  (h: ∀s',Inv X pins (σ.set i (some v)) H s'→Q () s') (hf:X.fn x=true∨X.env.scope.names.lookup x=some .local:=by first|exact .inl rfl|exact .inr rfl|assumption):wpAny M A (storeName X.env x u) Q E s:=
 zfQ I hN hi hx r (fun s' I' _=>h s' I') hf
theorem Inv.call'{s':Shared}{ch:List Addr}(I:Inv X pins σ H s)(ho:s'.os=s.os)(u:Un (frs X.stack) ch H H' s.heap s'.heap)(hok:HOk X.prog X.w H' s'.heap)(hg:AllBare s'.gens)
  (hch: ∀b∈ch,(b∈X.ex∨X.s₀.heap.objs.size≤b)∧b≠X.env.locals∧(∀x c,X.env.cells.lookup x=some c→c≠b)∧ ∀p∈X.pn++pins,p.1≠b):Inv X pins σ H' s':=by
 obtain⟨h',g',d',t',o'⟩:=s';have e:o'=s.os:=ho;subst e;exact I.call (g':=g') (t':=t') (d':=d') u hok hg hch
end
abbrev XK:=Value→Option Addr→Hp→Prop
abbrev St:=List (Option V)
abbrev VK:=V→Hp→Prop
abbrev TE:=St→Hp→VK→Prop
abbrev TT:=St→Hp→(Bool→Hp→Prop)→Prop
abbrev TA:=St→Hp→(List V→Hp→Prop)→Prop
structure Ends where
 nx:St→Hp→Prop
 rt:VK
 bk:St→Hp→Prop:=fun _ _=>False
 ct:St→Hp→Prop:=fun _ _=>False
abbrev TS:=Ends→St→Hp→Prop
def EP(X:Cx)(pins:List (Addr×Obj))(σ:St)(Q:VK)(u:Value)(s':Shared):Prop:= ∃v H',Inv X pins σ H' s'∧zaC v u∧Q v H'
def TP(X:Cx)(pins:List (Addr×Obj))(σ:St)(Q:Bool→Hp→Prop)(b:Bool)(s':Shared):Prop:= ∃H',Inv X pins σ H' s'∧Q b H'
def AP(X:Cx)(pins:List (Addr×Obj))(σ:St)(Q:List V→Hp→Prop)(us:List Value)(s':Shared):Prop:= ∃vs H',Inv X pins σ H' s'∧zaI vs us∧Q vs H'
def SP(X:Cx)(pins:List (Addr×Obj))(D:Ends)(f:Flow)(s':Shared):Prop:=
 match f with
 | .next=> ∃σ' H',Inv X pins σ' H' s'∧D.nx σ' H'
 | .brk=> ∃σ' H',Inv X pins σ' H' s'∧D.bk σ' H'
 | .cont=> ∃σ' H',Inv X pins σ' H' s'∧D.ct σ' H'
 | .ret u=> ∃v σ' H',Inv X pins σ' H' s'∧zaC v u∧D.rt v H'
def PE(X:Cx)(e:Expr)(t:TE):Prop:=
 ∀(pins:List (Addr×Obj)) (s:Shared) (σ:St) (H:Hp) (Q:VK),Inv X pins σ H s→t σ H Q→wpAny (model X.prog X.w) X.A (eval e X.env) (EP X pins σ Q) X.xe s
def PT(X:Cx)(e:Expr)(t:TT):Prop:=
 ∀(pins:List (Addr×Obj)) (s:Shared) (σ:St) (H:Hp) (Q:Bool→Hp→Prop),Inv X pins σ H s→t σ H Q→wpAny (model X.prog X.w) X.A (isTrue e X.env (eval e X.env)) (TP X pins σ Q) X.xe s
def PW(X:Cx)(e:Expr)(t:TT):Prop:=
 ∀(whole:Sem Value) (pins:List (Addr×Obj)) (s:Shared) (σ:St) (H:Hp) (Q:Bool→Hp→Prop),Inv X pins σ H s→t σ H Q→wpAny (model X.prog X.w) X.A (isTrue e X.env whole) (TP X pins σ Q) X.xe s
theorem PW.pt{X:Cx}{e:Expr}{t:TT}(h:PW X e t):PT X e t:=h _
def PA(X:Cx)(es:List Expr)(t:TA):Prop:=
 ∀(pos:Pos) (pins:List (Addr×Obj)) (s:Shared) (σ:St) (H:Hp) (Q:List V→Hp→Prop),Inv X pins σ H s→t σ H Q→wpAny (model X.prog X.w) X.A (spliced (backTo pos (starEach es X.env))) (AP X pins σ Q) X.xe s
def PS(X:Cx)(st:Stmt)(t:TS):Prop:=
 ∀(pins:List (Addr×Obj)) (s:Shared) (σ:St) (H:Hp) (D:Ends),Inv X pins σ H s→t D σ H→wpAny (model X.prog X.w) X.A (exec st X.env) (SP X pins D) X.xe s
def PSs(X:Cx)(st:List Stmt)(t:TS):Prop:=
 ∀(pins:List (Addr×Obj)) (s:Shared) (σ:St) (H:Hp) (D:Ends),Inv X pins σ H s→t D σ H→wpAny (model X.prog X.w) X.A (execs st X.env) (SP X pins D) X.xe s
theorem thn{α:Type}{t:Sem α}{Q Q':α→Shared→Prop}{M:Model}{A:Around}{E:Value→Shared→Prop}{s:Shared}(h:wpAny M A t Q E s)(hQ: ∀a s,Q a s→Q' a s):wpAny M A t Q' E s:=wpAny_mono h hQ fun _ _ x=>x
end L2
namespace L2
open PySem PySem.Spec PyProof.Rows
section
variable {X:Cx}
def znW(i:Nat):TE:=fun σ H Q=> ∃v,σ[i]? =some (some v)∧Q v H
def tC(v:V):TE:=fun _ H Q=>Q v H
theorem zkf{i:Nat}{x:Str}{pos:Pos}(hN:X.N[i]? =some x)(hv:Vis X.env.scope x)(hd:(x==("__debug__":Str))=false:=by decide)(hcd:(x==("__classdict__":Str))=false:=by decide):PE X (.Name x pos) (znW i):=by
 intro pins s σ H Q I h;obtain⟨v,e,h⟩:=h;obtain⟨m,hn,hl⟩:=I.loc;obtain⟨u,r,l⟩:=hl i x v hN e hv;have fin:EP X pins σ Q u s:=⟨v,H,I,r,h⟩
 rcases l with⟨hk,hm⟩|⟨hk,c,hc,hcell⟩
 ·exact wpAny_Name (wpAny_loadName_local I.ok.kind hk hn hm fin) hd
 ·rcases hk with hk|hk
  ·exact wpAny_Name (wpAny_loadName_cell I.ok.kind hk hc hcell fin) hd
  ·exact wpAny_Name (wpAny_loadName_free I.ok.kind hk hc hcell fin hcd) hd
theorem zac{i j pos}:PE X (.Constant (.int i) j pos) (tC (.int i)):=fun _ _ _ H _ I h=>wpAny_Constant_int ⟨.int i,H,I.tok _,⟨_,rfl⟩,h⟩
theorem zdJ{b j pos}:PE X (.Constant (.bool b) j pos) (tC (.bl b)):=fun _ _ _ H _ I h=>Constant_bool ⟨.bl b,H,I,rfl,h⟩
theorem zgw{j pos}:PE X (.Constant .none j pos) (tC .non):=fun _ _ _ H _ I h=>Constant_none ⟨.non,H,I,rfl,h⟩
theorem zcO{x j pos}:PE X (.Constant (.str x) j pos) (tC (.str x)):=fun _ _ _ H _ I h=>Calls.Constant_str ⟨.str x,H,I.tok _,⟨_,rfl⟩,h⟩
def Gl(X:Cx)(x:Str):Prop:=X.env.kindOf x=some .globalImplicit
theorem zdK{E:Value→Shared→Prop}{pins:List (Addr×Obj)}{s:Shared}{σ:St}{H:Hp}{x:Str}{u:Value}{pos:Pos}{Q:Value→Shared→Prop}(I:Inv X pins σ H s)(hg:Gl X x)(hm:X.mg x=some u)(h:Q u s)
  (hd:(x==("__debug__":Str))=false:=by decide):wpAny (model X.prog X.w) X.A (eval (.Name x pos) X.env) Q E s:=
 Calls.Name_function_global I.ok.kind hg (Calls.loadGlobal_global (by rw[I.ok.glob];exact I.mod.glob.keeps I.bk) hm h) hd
theorem zd6{E:Value→Shared→Prop}{pins:List (Addr×Obj)}{s:Shared}{σ:St}{H:Hp}{x:Str}{u:Value}{pos:Pos}{Q:Value→Shared→Prop}(I:Inv X pins σ H s)(hg:Gl X x)(hm:X.mg x=none)(hv:bootBuiltins x=some u)(h:Q u s)
  (hn:x≠"__name__":=by decide) (hd:(x==("__debug__":Str))=false:=by decide):wpAny (model X.prog X.w) X.A (eval (.Name x pos) X.env) Q E s:=by
 obtain⟨mb,h1,h2⟩:=I.mod.blt;exact Calls.Name_function_global I.ok.kind hg (Calls.loadGlobal_builtin (by rw[I.ok.glob];exact I.mod.glob.keeps I.bk) hm (by rw[I.ok.blt];exact h1.keeps I.bk) ((h2 x hn).trans hv) h) hd
theorem zbx{x:Str}{v:V}{u:Value}{pos:Pos}(hg:Gl X x)(hm:X.mg x=some u)(r:zaC v u)(hd:(x==("__debug__":Str))=false:=by decide):PE X (.Name x pos) (tC v):=
 fun _ _ _ H _ I h=>zdK I hg hm ⟨v,H,I,r,h⟩ hd
variable {a b:Expr} {ta tb:TE} {pos:Pos}
def PC(X:Cx)(op:CmpOp)(a b:Expr)(t:TE):Prop:=
 ∀(pins:List (Addr×Obj)) (s:Shared) (σ:St) (H:Hp) (Q:VK),Inv X pins σ H s→t σ H Q→
  wpAny (model X.prog X.w) X.A (eval a X.env) (fun v s₁=>wpAny (model X.prog X.w) X.A (eval b X.env) (fun u s₂=>wpAny (model X.prog X.w) X.A (compareOp op v u) (EP X pins σ Q) X.xe s₂) X.xe s₁) X.xe s
theorem zg7(b:Expr){op:CmpOp}(h:op≠ .In)(h2:op≠ .NotIn):behindInMarks op b=false:=by
 have e1:(op==CmpOp.In)=false:=by cases op<;>first|rfl|exact absurd rfl h
 have e2:(op==CmpOp.NotIn)=false:=by cases op<;>first|rfl|exact absurd rfl h2
 cases b<;>simp [behindInMarks,e1,e2]
def tB(t:TE):TT:=fun σ H Q=>t σ H fun x H1=> ∃c,x= .bl c∧Q c H1
theorem znX{op:CmpOp}{t:TE}(h:PC X op a b t)(h1:behindInMarks op b=false:=by first|exact zg7 _ (by decide) (by decide)|rfl):PE X (.Compare a [op] [b] pos) t:=fun pins s σ H Q I hw=>wpAny_Compare1 (h pins s σ H Q I hw) h1
theorem znY{op:CmpOp}{t:TE}(h:PC X op a b t)(h1:behindInMarks op b=false:=by first|exact zg7 _ (by decide) (by decide)|rfl):PT X (.Compare a [op] [b] pos) (tB t):=by
 intro pins s σ H Q I hw;refine wpAny_isTrue_Compare1 (thn (h pins s σ H _ I hw) fun v s1 h1=>thn h1 fun u s2 h2=>thn h2 fun c s3 ⟨x,H1,I1,r1,q1⟩=> ?_) h1;obtain⟨d,rfl,q⟩:=q1;cases r1;exact wpAny_truthy_bool ⟨H1,I1,q⟩
theorem zeH{e:Expr}{t:TE}(h:PE X e t)(he: ∀whole,isTrue e X.env whole=(do let v←whole;standAt e.pos;holding [v] (truthy v)):=by intro _;rfl):PT X e (tB t):=by
 intro pins s σ H Q I hw
 refine isTrue_plain (thn (h pins s σ H _ I hw) fun v s1 ⟨x,H1,I1,r1,q1⟩=> ?_) (he _)
 obtain⟨d,rfl,q⟩:=q1
 cases r1
 exact wpAny_truthy_bool ⟨H1,I1,q⟩
variable {tA tB':TT} {rest:List Expr}
def znZ(t u:TT):TT:=fun σ H Q=>t σ H fun c H1=>if c=true then u σ H1 Q else Q false H1
def tOr(t u:TT):TT:=fun σ H Q=>t σ H fun c H1=>if c=true then Q true H1 else u σ H1 Q
def zn0(t:TT):TT:=fun σ H Q=>t σ H fun c H1=>Q (!c) H1
theorem zmB(ha:PT X a tA):PW X (.BoolOp .And [a] pos) tA:=by
 intro wh pins s σ H Q I h;refine isTrue_and (thn (ha pins s σ H Q I h) fun c s1 e=> ?_);cases c with
 |true=>exact isTrue_and_nil e
 |false=>exact e
theorem zn1(ha:PT X a tA):PW X (.BoolOp .Or [a] pos) tA:=by
 intro wh pins s σ H Q I h;refine isTrue_or (thn (ha pins s σ H Q I h) fun c s1 e=> ?_);cases c with
 |false=>exact isTrue_or_nil e
 |true=>exact e
theorem zn2(ha:PT X a tA)(hb:PW X (.BoolOp .And (b::rest) pos) tB'):PW X (.BoolOp .And (a::b::rest) pos) (znZ tA tB'):=by
 intro wh pins s σ H Q I h;refine isTrue_and (thn (ha pins s σ H _ I h) fun c s1 ⟨H1,I1,q1⟩=> ?_);cases c with
 |true=>exact hb wh pins s1 σ H1 Q I1 q1
 |false=>exact⟨H1,I1,q1⟩
theorem zpV(ha:PT X a tA)(hb:PW X (.BoolOp .Or (b::rest) pos) tB'):PW X (.BoolOp .Or (a::b::rest) pos) (tOr tA tB'):=by
 intro wh pins s σ H Q I h;refine isTrue_or (thn (ha pins s σ H _ I h) fun c s1 ⟨H1,I1,q1⟩=> ?_);cases c with
 |true=>exact⟨H1,I1,q1⟩
 |false=>exact hb wh pins s1 σ H1 Q I1 q1
theorem zn3(ha:PT X a tA):PT X (.UnaryOp .Not a pos) (zn0 tA):=by
 intro pins s σ H Q I h;exact isTrue_not (ha pins s σ H (fun c H1=>Q (!c) H1) I h)
def znC(ta tb:TE):TE:=fun σ H Q=>ta σ H fun x H1=> ∃c,x= .bl c∧if c=true then tb σ H1 Q else Q (.bl false) H1
def zpW(ta tb:TE):TE:=fun σ H Q=>ta σ H fun x H1=> ∃c,x= .bl c∧if c=true then Q (.bl true) H1 else tb σ H1 Q
def znD(ta:TE):TE:=fun σ H Q=>ta σ H fun x H1=> ∃c,x= .bl c∧Q (.bl (!c)) H1
theorem zhX{op}{t:TE}(h:PE X a t):PE X (.BoolOp op [a] pos) t:=fun pins s σ H Q I hw=>BoolOp_one (h pins s σ H Q I hw)
theorem zn4(ha:PE X a ta)(hb:PE X (.BoolOp .And (b::rest) pos) tb):PE X (.BoolOp .And (a::b::rest) pos) (znC ta tb):=by
 intro pins s σ H Q I h;refine BoolOp_and (thn (ha pins s σ H _ I h) fun v s1 ⟨x,H1,I1,r1,q1⟩=> ?_);obtain⟨c,rfl,q1⟩:=q1;cases r1;refine wpAny_truthy_bool ?_;cases c with
 |true=>exact hb pins s1 σ H1 Q I1 q1
 |false=>exact⟨.bl false,H1,I1,rfl,q1⟩
theorem zpX(ha:PE X a ta)(hb:PE X (.BoolOp .Or (b::rest) pos) tb):PE X (.BoolOp .Or (a::b::rest) pos) (zpW ta tb):=by
 intro pins s σ H Q I h;refine BoolOp_or (thn (ha pins s σ H _ I h) fun v s1 ⟨x,H1,I1,r1,q1⟩=> ?_);obtain⟨c,rfl,q1⟩:=q1;cases r1;refine wpAny_truthy_bool ?_;cases c with
 |false=>exact hb pins s1 σ H1 Q I1 q1
 |true=>exact⟨.bl true,H1,I1,rfl,q1⟩
theorem zn5(ha:PE X a ta):PE X (.UnaryOp .Not a pos) (znD ta):=by
 intro pins s σ H Q I h;refine UnaryOp_ (thn (ha pins s σ H _ I h) fun v s1 ⟨x,H1,I1,r1,q1⟩=> ?_);obtain⟨c,rfl,q1⟩:=q1;cases r1;exact not_of (wpAny_truthy_bool ⟨.bl (!c),H1,I1,rfl,q1⟩)
def tIf(t:TT)(ta tb:TE):TE:=fun σ H Q=>t σ H fun c H1=>if c=true then ta σ H1 Q else tb σ H1 Q
theorem zkg{c:Expr}(hc:PT X c tA)(ha:PE X a ta)(hb:PE X b tb):PE X (.IfExp c a b pos) (tIf tA ta tb):=by
 intro pins s σ H Q I h;refine wpAny_IfExp (thn (hc pins s σ H _ I h) fun d s1 ⟨H1,I1,q1⟩=> ?_);cases d with
 |true=>exact ha pins s1 σ H1 Q I1 q1
 |false=>exact hb pins s1 σ H1 Q I1 q1
end
end L2
namespace L2
open PySem PySem.Spec PyProof.Rows
def SqL(K:Fg)(H:Hp)(a:Addr)(xs:List V):Prop:=
 Rd H a (.lst xs)∨
  ∃(o:Obj) (its:Array Value) (n:Nat),K.lookup a=some o∧o.cls= .type "list"∧o.dict=none∧o.data= .seq its n∧its.size≤sizeLine∧zaI xs its.toList
def SqT(K:Fg)(H:Hp)(a:Addr)(xs:List V):Prop:=
 Rd H a (.tup xs)∨
  ∃(o:Obj) (its:Array Value) (n:Nat),K.lookup a=some o∧o.cls= .type "tuple"∧o.data= .seq its n∧its.size≤sizeLine∧zaI xs its.toList
def zqN:Value→Option V
 | .none=>some .non
 | .bool b=>some (.bl b)
 | .int i _=>some (.int i)
 | .str x _=>some (.str x)
 | .bytes b _=>some (.byt b)
 | .float b _=>some (.flt b)
 | .ref a=>some (.ref a)
 | .type n=>some (.ty n)
 |_=>none
theorem zaC.abs{x:V}{u:Value}(r:zaC x u):zqN u=some x:=by
 cases x with
 |non=>cases r;rfl
 |bl _=>cases r;rfl
 |int _=>obtain⟨t,rfl⟩:=r;rfl
 |str _=>obtain⟨t,rfl⟩:=r;rfl
 |byt _=>obtain⟨t,rfl⟩:=r;rfl
 |flt _=>obtain⟨t,rfl⟩:=r;rfl
 |ref _=>cases r;rfl
 |ty _=>cases r;rfl
theorem zaC.inj{x y:V}{u:Value}(r:zaC x u)(q:zaC y u):x=y:=Option.some.inj (r.abs.symm.trans q.abs)
theorem zaI.inj: ∀{xs ys:List V} {us:List Value},zaI xs us→zaI ys us→xs=ys
 |_,_,_, .nil, .nil=>rfl
 |_,_,_, .cons r t, .cons r' t'=>by rw[r.inj r',zaI.inj t t']
section
variable {X:Cx} {pins:List (Addr×Obj)} {σ:St} {H:Hp} {s:Shared} {a:Addr} {xs ys:List V}
theorem SqL.of{K:Fg}(h:H a=some (.lst xs)):SqL K H a xs:= .inl (.inl h)
theorem SqT.of{K:Fg}(h:H a=some (.tup xs)):SqT K H a xs:= .inl (.inl h)
theorem Inv.list(I:Inv X pins σ H s)(h:SqL X.K H a xs): ∃its:List Value,zaI xs its∧PlainL s.heap a its.toArray∧xs.length≤sizeLine:=by
 rcases h with h|⟨o,its,n,hk,hc,hd,hs,hz,r⟩
 ·obtain⟨z,its,n,r,e⟩:=h.ok I.hok;exact⟨its,r,⟨_,n,e,rfl,rfl,rfl⟩,z⟩
 ·refine⟨its.toList,r,⟨o,n,I.kIn a o hk,hc,hd,by simpa using hs⟩,?_⟩;have e:=r.length;simp only[Array.length_toList] at e;omega
theorem Inv.tuple(I:Inv X pins σ H s)(h:SqT X.K H a xs): ∃its:List Value,zaI xs its∧IsTup s.heap a its.toArray∧xs.length≤sizeLine:=by
 rcases h with h|⟨o,its,n,hk,hc,hs,hz,r⟩
 ·obtain⟨z,its,r,p⟩:=h.ok I.hok;exact⟨its,r,p,z⟩
 ·refine⟨its.toList,r,⟨o,I.kIn a o hk,hc,n,by simpa using hs⟩,?_⟩;have e:=r.length;simp only[Array.length_toList] at e;omega
theorem Inv.list_inj(I:Inv X pins σ H s)(h:SqL X.K H a xs)(h':SqL X.K H a ys):xs=ys:=by
 obtain⟨its,r,⟨o,n,e,_,_,d⟩,_⟩:=I.list h;obtain⟨its',r',⟨o',n',e',_,_,d'⟩,_⟩:=I.list h';rw[e] at e';cases e';rw[d] at d';injection d' with d1 _
 have:its=its':=by simpa using congrArg Array.toList d1
 subst this;exact r.inj r'
theorem Inv.tuple_inj(I:Inv X pins σ H s)(h:SqT X.K H a xs)(h':SqT X.K H a ys):xs=ys:=by
 obtain⟨its,r,⟨o,e,_,n,d⟩,_⟩:=I.tuple h;obtain⟨its',r',⟨o',e',_,n',d'⟩,_⟩:=I.tuple h';rw[e] at e';cases e';rw[d] at d';injection d' with d1 _
 have:its=its':=by simpa using congrArg Array.toList d1
 subst this;exact r.inj r'
end
section
variable {X:Cx} {pins:List (Addr×Obj)} {σ:St} {H:Hp} {s:Shared} {E:Value→Shared→Prop}
end
section
variable {X:Cx} {st:Stmt} {rest:List Stmt} {t u:TS} {e:Expr} {te:TE} {pos:Pos}
def zkh:TS:=fun D σ H=>D.nx σ H
def zpY(t u:TS):TS:=fun D σ H=>t {D with nx:=u D} σ H
theorem zav:PSs X [] zkh:=fun _ _ σ H _ I h=>wpAny_execs_nil ⟨σ,H,I,h⟩
theorem zad(h1:PS X st t)(h2:PSs X rest u):PSs X (st::rest) (zpY t u):=by
 intro pins s σ H D I h;refine wpAny_execs_cons (thn (h1 pins s σ H {D with nx:=u D} I h) fun f s1 q=> ?_);cases f with
 |next=>
  obtain⟨σ',H',I',q⟩:=q;exact h2 pins s1 σ' H' D I' q
 |ret v=>exact q
 |brk=>exact q
 |cont=>exact q
theorem zag(h1:PS X st t):PSs X [st] t:=by
 intro pins s σ H D I h;refine wpAny_execs_cons (thn (h1 pins s σ H D I h) fun f s1 q=> ?_);cases f with
 |next=>exact wpAny_execs_nil q
 |ret v=>exact q
 |brk=>exact q
 |cont=>exact q
def zki:TS:=fun D σ H=>D.bk σ H
theorem zkj:PS X (.Break pos) zki:=fun _ _ σ H _ I h=>wpAny_Break ⟨σ,H,I,h⟩
theorem Inv.quiet{pins:List (Addr×Obj)}{σ:St}{H:Hp}{s:Shared}(I:Inv X pins σ H s):interactive X.env=false:=by simp [interactive,I.ok.kind]
def znE(te:TE):TS:=fun D σ H=>te σ H fun _ H1=>D.nx σ H1
theorem zbb(he:PE X e te)(hs:swapsWith e none pos.line X.env=pure false:=by rfl):PS X (.Expr e pos) (znE te):=by
 intro pins s σ H D I h;exact wpAny_Expr_any (thn (he pins s σ H _ I h) fun v s1 ⟨x,H1,I1,r1,q1⟩=>⟨σ,H1,I1,q1⟩) I.quiet hs
def zkk(te:TE):TS:=fun D σ H=>te σ H D.rt
theorem zap(he:PE X e te):PS X (.Return (some e) pos) (zkk te):=by
 intro pins s σ H D I h;exact wpAny_Return_some (thn (he pins s σ H _ I h) fun v s1 ⟨x,H1,I1,r1,q1⟩=>⟨x,σ,H1,I1,r1,q1⟩)
def zn6(c:TT)(t u:TS):TS:=fun D σ H=>c σ H fun b H1=>if b=true then t D σ H1 else u D σ H1
theorem zpZ{c:Expr}{a b:List Stmt}{tc:TT}(hc:PT X c tc)(ha:PSs X a t)(hb:PSs X b u):PS X (.If c a b pos) (zn6 tc t u):=by
 intro pins s σ H D I h;refine wpAny_If (thn (hc pins s σ H _ I h) fun d s1 ⟨H1,I1,q1⟩=> ?_);cases d with
 |true=>exact ha pins s1 σ H1 D I1 q1
 |false=>exact hb pins s1 σ H1 D I1 q1
end
abbrev TG:=V→St→Hp→(St→Hp→Prop)→Prop
abbrev TGs:=List V→St→Hp→(St→Hp→Prop)→Prop
def PG(X:Cx)(target:Expr)(t:TG):Prop:=
 ∀(pins:List (Addr×Obj)) (s:Shared) (σ:St) (H:Hp) (v:V) (u:Value) (Q:St→Hp→Prop),Inv X pins σ H s→zaC v u→t v σ H Q→
  wpAny (model X.prog X.w) X.A (assign target X.env u) (fun _ s'=> ∃σ' H',Inv X pins σ' H' s'∧Q σ' H') X.xe s
def PGs(X:Cx)(ts:List Expr)(t:TGs):Prop:=
 ∀(pins:List (Addr×Obj)) (s:Shared) (σ:St) (H:Hp) (vs:List V) (us:List Value) (Q:St→Hp→Prop),Inv X pins σ H s→zaI vs us→t vs σ H Q→
  wpAny (model X.prog X.w) X.A (assignInOrder ((assignEach ts X.env).map (·.2)) us) (fun _ s'=> ∃σ' H',Inv X pins σ' H' s'∧Q σ' H') X.xe s
abbrev TIp:=V→V→Hp→VK→Prop
def PIp(X:Cx)(op:Operator)(t:TIp):Prop:=
 ∀(pins:List (Addr×Obj)) (s:Shared) (σ:St) (H:Hp) (x y:V) (v u:Value) (Q:VK),Inv X pins σ H s→zaC x v→zaC y u→t x y H Q→
  wpAny (model X.prog X.w) X.A (inplaceOp op v u) (EP X pins σ Q) X.xe s
section
variable {X:Cx} {pos:Pos}
def zdL(i:Nat):TG:=fun v σ H Q=>Q (σ.set i (some v)) H
theorem zai{i:Nat}{x:Str}(hN:X.N.Nodup)(hi:X.N[i]? =some x)(hx:Loc X.env.scope x)(hf:X.fn x=true∨X.env.scope.names.lookup x=some .local:=by first|exact .inl rfl|exact .inr rfl|assumption):PG X (.Name x pos) (zdL i):=by
 intro pins s σ H v u Q I r h;exact wpAny_assign_Name (zeG I hN hi hx r (fun s' I'=>⟨_,H,I',h⟩) hf)
def zkl:TGs:=fun vs σ H Q=>vs= []∧Q σ H
def zeI(t:TG)(u:TGs):TGs:=fun vs σ H Q=> ∃v r,vs=v::r∧t v σ H fun σ' H'=>u r σ' H' Q
theorem zb0:PGs X [] zkl:=by
 intro pins s σ H vs us Q I r h;obtain⟨e,h⟩:=h;subst e;cases r;exact assignInOrder_nil ⟨σ,H,I,h⟩
theorem zaL{e:Expr}{es:List Expr}{t:TG}{u:TGs}(h1:PG X e t)(h2:PGs X es u)
  (hs:(assignEach (e::es) X.env).map (·.2)=assign e X.env::(assignEach es X.env).map (·.2):=by rfl):PGs X (e::es) (zeI t u):=by
 intro pins s σ H vs us Q I r h;obtain⟨v,vr,e1,h⟩:=h;subst e1;cases r with
 |cons r rr=>
  rw[hs];refine assignInOrder_cons (thn (h1 pins s σ H _ _ _ I r h) fun _ s1 ⟨σ1,H1,I1,q1⟩=> ?_);exact h2 pins s1 σ1 H1 _ _ Q I1 rr q1
def zn7(K:Fg)(n:Nat)(t:TGs):TG:=fun v σ H Q=> ∃a xs,v= .ref a∧SqT K H a xs∧xs.length=n∧t xs σ H Q
theorem zaO{es:List Expr}{k:Nat}{t:TGs}{n:Nat}(hc:X.calm=true)(h:PGs X es t)
  (hn:(assignEach es X.env).length=n:=by rfl) (hst:(assignEach es X.env).findIdx? (·.1)=none:=by rfl):PG X (.Tuple es k pos) (zn7 X.K n t):=by
 intro pins s σ H v u Q I r hw;obtain⟨a,xs,e1,hq,hl,hw⟩:=hw;subst e1;cases r;obtain⟨its,rv,ht,hz⟩:=I.tuple hq;refine assign_Tuple_tuple (I.ok.hd hc) ht (by simp [hn,←hl,rv.length]) hst fun h' hx=> ?_;have I1:Inv X pins σ H {s with heap:=h'}:=I.kept (t':=s.toks) fun b o e=>hx b o (Nat.ne_of_lt (Heap.lt_size e)) e;exact h pins _ σ H xs _ Q I1 (by simpa using rv) hw
def zkm(te:TE)(g:TG):TS:=fun D σ H=>te σ H fun x H1=>g x σ H1 D.nx
theorem za6{tg e:Expr}{te:TE}{g:TG}(he:PE X e te)(hg:PG X tg g)(hs:swapsWithSole [tg] e pos.line X.env=pure false:=by rfl)(hw:swappedStores [tg] e X.env=pure none:=by rfl)
  (h1:(assignEach [tg] X.env).map (·.2)= [assign tg X.env]:=by rfl):PS X (.Assign [tg] e pos) (zkm te g):=by
 intro pins s σ H D I h;refine wpAny_Assign_stores (thn (he pins s σ H _ I h) fun v s1 ⟨x,H1,I1,r1,q1⟩=> ?_) hs hw;rw[h1];exact thn (hg pins s1 σ H1 x v _ I1 r1 q1) fun _ s2 q=>q
theorem zn8{i:Nat}{x:Str}{e:Expr}{te:TE}{pos':Pos}(hN:X.N.Nodup)(hi:X.N[i]? =some x)(hx:Loc X.env.scope x)(he:PE X e te)(hs:swapsWith e (some (.Name x pos')) pos.line X.env=pure false:=by rfl)(hf:X.fn x=true∨X.env.scope.names.lookup x=some .local:=by first|exact .inl rfl|exact .inr rfl|assumption):
  PS X (.Assign [.Name x pos'] e pos) (zkm te (zdL i)):=by
 intro pins s σ H D I h;refine wpAny_Assign_Name (thn (he pins s σ H _ I h) fun v s1 ⟨y,H1,I1,r1,q1⟩=> ?_) hs;exact zeG I1 hN hi hx r1 (fun s2 I2=>⟨_,H1,I2,q1⟩) hf
def zp0(i:Nat)(te:TE)(ti:TIp):TS:=fun D σ H=> ∃x,σ[i]? =some (some x)∧te σ H fun y H1=>ti x y H1 fun z H2=>D.nx (σ.set i (some z)) H2
theorem zn9{i:Nat}{x:Str}{e:Expr}{te:TE}{op:Operator}{ti:TIp}{pos':Pos}(hN:X.N.Nodup)(hi:X.N[i]? =some x)(hx:Loc X.env.scope x)(he:PE X e te)(ho:PIp X op ti)(hf:X.fn x=true∨X.env.scope.names.lookup x=some .local:=by first|exact .inl rfl|exact .inr rfl|assumption):
  PS X (.AugAssign (.Name x pos') op e pos) (zp0 i te ti):=by
 intro pins s σ H D I h;obtain⟨v,e1,h⟩:=h;obtain⟨m,hn,hl⟩:=I.loc;have vis:Vis X.env.scope x:=by rcases hx with k|k;exact .inl k;exact .inr (.inl k)
 obtain⟨u,r,l⟩:=hl i x v hi e1 vis;refine wpAny_AugAssign_Name ?_;have go:wpAny (model X.prog X.w) X.A (eval e X.env) (fun w s₂=>wpAny (model X.prog X.w) X.A (inplaceOp op u w) (fun r s₃=>wpAny (model X.prog X.w) X.A (storeName X.env x r) (fun _=>SP X pins D .next) X.xe s₃) X.xe s₂) X.xe s:=by
  refine thn (he pins s σ H _ I h) fun w s1 ⟨y,H1,I1,r1,q1⟩=> ?_;refine thn (ho pins s1 σ H1 v y u w _ I1 r r1 q1) fun z s2 ⟨zv,H2,I2,r2,q2⟩=> ?_;exact zeG I2 hN hi hx r2 (fun s3 I3=>⟨_,H2,I3,q2⟩) hf
 rcases l with⟨hk,hm⟩|⟨hk,c,hc,hcell⟩
 ·exact wpAny_loadName_local I.ok.kind hk hn hm go
 ·rcases hk with hk|hk
  ·exact wpAny_loadName_cell I.ok.kind hk hc hcell go
  ·rcases hx with k|k
   ·have:X.env.scope.names.lookup x=some .free:=hk;rw[k] at this;cases this
   ·have:X.env.scope.names.lookup x=some .free:=hk;rw[k] at this;cases this
def ipI(f:Int→Int→Int):TIp:=fun x y H Q=> ∃i j,x= .int i∧y= .int j∧Q (.int (f i j)) H
theorem zoa:PIp X .Add (ipI fun i j=>i+j):=by
 intro pins s σ H x y v u Q I r1 r2 h;obtain⟨i,j,e1,e2,q⟩:=h;subst e1;subst e2;obtain⟨t,rfl⟩:=r1;obtain⟨t',rfl⟩:=r2;exact iadd_int ⟨.int _,H,I.tok _,⟨_,rfl⟩,q⟩
theorem zob:PIp X .Sub (ipI fun i j=>i - j):=by
 intro pins s σ H x y v u Q I r1 r2 h;obtain⟨i,j,e1,e2,q⟩:=h;subst e1;subst e2;obtain⟨t,rfl⟩:=r1;obtain⟨t',rfl⟩:=r2;exact isub_int ⟨.int _,H,I.tok _,⟨_,rfl⟩,q⟩
end
section
variable {X:Cx} {pos:Pos}
def zkn(c:TT)(tb:TS):TS:=fun D σ H=> ∃W:Nat→St→Hp→Prop,(∃m,W m σ H)∧ ∀m σ H,W m σ H→
 c σ H fun b H1=>if b=true then∃N:St→Hp→Prop,(∀σ' H',N σ' H'→ ∃m',m'<m∧W m' σ' H')∧tb {D with nx:=N,ct:=N,bk:=D.nx} σ H1 else D.nx σ H1
theorem zeJ{c:Expr}{body:List Stmt}{tc:TT}{tb:TS}(hp:PassesOwn (model X.prog X.w) X.A X.env X.xe)(hc:PT X c tc)(hb:PSs X body tb):PS X (.While c body [] pos) (zkn tc tb):=by
 intro pins s σ H D I h;obtain⟨W,⟨m0,w0⟩,turn⟩:=h;refine wpAny_While (codeAny_whileLoop (fun n s'=> ∃σ' H',Inv X pins σ' H' s'∧W n σ' H') ?_ m0 ⟨σ,H,I,w0⟩);rintro n s1 ⟨σ1,H1,I1,w1⟩;refine wpAny_passesOwn hp (thn (hc pins s1 σ1 H1 _ I1 (turn n σ1 H1 w1)) fun b s2 ⟨H2,I2,q2⟩=> ?_);cases b with
 |true=>
  obtain⟨N,hN,q2⟩:=q2;rw[if_pos rfl];refine wpAny_passesOwn hp (thn (hb pins s2 σ1 H2 _ I2 q2) fun f s3 q3=> ?_);cases f with
  |next=>
   obtain⟨σ3,H3,I3,n3⟩:=q3;obtain⟨m',hm,w3⟩:=hN σ3 H3 n3;exact⟨m',hm,σ3,H3,I3,w3⟩
  |cont=>
   obtain⟨σ3,H3,I3,n3⟩:=q3;obtain⟨m',hm,w3⟩:=hN σ3 H3 n3;exact⟨m',hm,σ3,H3,I3,w3⟩
  |brk=>exact q3
  |ret v=>exact q3
 |false=>
  rw[if_neg Bool.false_ne_true];exact wpAny_execs_nil ⟨σ1,H2,I2,q2⟩
end
structure It where
 go:Nat→Hp→Prop
 yld:Nat→Hp→V→Hp→Prop
 stop:Nat→Hp→Prop
def zex(X:Cx)(pins:List (Addr×Obj))(H:Hp)(b:Addr):Prop:=
 H b=none∧b≠X.env.locals∧b∉X.fs∧(b∈X.ex∨X.s₀.heap.objs.size≤b)∧(∀x c,X.env.cells.lookup x=some c→c≠b)∧ ∀p∈X.pn++pins,p.1≠b
theorem Inv.fpOk{X:Cx}{pins:List (Addr×Obj)}{σ:St}{H H':Hp}{s:Shared}{b:Addr}(I:Inv X pins σ H s)(hb:s.heap.objs.size≤b)(hn:H' b=none):zex X pins H' b:=by
 refine⟨hn,Nat.ne_of_gt (Nat.lt_of_lt_of_le I.lt hb),I.nofs hb, .inr (Nat.le_trans I.sz hb),fun x c e z=> ?_,fun p hp z=> ?_⟩
 ·obtain⟨v,q⟩:=I.cell x c e;exact absurd (Nat.lt_of_lt_of_le q.lt (by rw[z];exact hb)) (Nat.lt_irrefl _)
 ·exact absurd (Nat.lt_of_lt_of_le (Heap.lt_size (I.pin p hp).1) (by rw[z];exact hb)) (Nat.lt_irrefl _)
structure Turn (P:Program) (w:World) (K:Fg) (tg:Expr) (J:It) (fp:List Addr) (it:Addr) (tn:Nat→Heap→Prop):Prop where
 mem:it∈fp
 obj: ∀i h,tn i h→ ∀b∈fp,∃o,h.get? b=some o∧ ∀v,o.data≠ .cell v
 keep: ∀i h h',tn i h→(∀b∈fp,∀o,h.get? b=some o→h'.get? b=some o)→tn i h'
 item: ∀(X:Cx),X.prog=P→X.w=w→X.K=K→X.calm=true→ ∀(i:Nat) (pins:List (Addr×Obj)) (s:Shared) (σ:St) (H:Hp) (E:Value→Shared→Prop),Inv X pins σ H s→(∀b∈fp,zex X pins H b)→tn i s.heap→J.go i H→
  wpAny (model P w) X.A (pyNext (.ref it)) (fun r s1=> ∃u,r=some u∧
   wpAny (model P w) X.A (letOwnedTupleGo tg (.ref it) u) (fun _ s2=> ∃x H',Inv X pins σ H' s2∧zaC x u∧J.yld i H x H'∧tn (i+1) s2.heap∧ ∀b∈fp,H' b=none) E s1) E s
 done: ∀(X:Cx),X.prog=P→X.w=w→X.K=K→X.calm=true→ ∀(i:Nat) (pins:List (Addr×Obj)) (s:Shared) (σ:St) (H:Hp) (E:Value→Shared→Prop),Inv X pins σ H s→(∀b∈fp,zex X pins H b)→tn i s.heap→J.stop i H→
  wpAny (model P w) X.A (pyNext (.ref it)) (fun r s1=>r=none∧Inv X pins σ H s1) E s
 self: ∀(A:Around) (i:Nat) (s:Shared) (Q:Value→Shared→Prop) (E:Value→Shared→Prop),tn i s.heap→Q (.ref it) s→wpAny (model P w) A (pyIter (.ref it)) Q E s
abbrev TI:=St→Hp→(It→Hp→Prop)→Prop
def PIE(X:Cx)(pins:List (Addr×Obj))(σ:St)(tg:Expr)(R:It→Hp→Prop)(itv:Value)(s2:Shared):Prop:=
 ∃(it:Addr) (fp:List Addr) (tn:Nat→Heap→Prop) (J:It) (H':Hp),itv= .ref it∧Inv X pins σ H' s2∧Turn X.prog X.w X.K tg J fp it tn∧tn 0 s2.heap∧(∀b∈fp,zex X pins H' b)∧R J H'
def PI(X:Cx)(tg iter:Expr)(wi:TI):Prop:=
 ∀(pins:List (Addr×Obj)) (s:Shared) (σ:St) (H:Hp) (R:It→Hp→Prop),Inv X pins σ H s→wi σ H R→
  wpAny (model X.prog X.w) X.A (eval iter X.env) (fun v s1=>wpAny (model X.prog X.w) X.A (pyIter v) (PIE X pins σ tg R) X.xe s1) X.xe s
theorem znF{M:Model}{A:Around}{E:Value→Shared→Prop}{s:Shared}{tg:Expr}{it:Addr}{u:Value}{o:Obj}{n:String}{vs:Array Value}{Q:Unit→Shared→Prop}(ho:s.heap.get? it=some o)(hc:o.cls= .type n)(hd:o.data= .fields vs)
  (hn: ["enumerate","zip","dict_itemiterator","dict_reverseitemiterator","odict_iterator","itertools.zip_longest","itertools.pairwise"].contains n=false) (hQ:Q () s):wpAny M A (letOwnedTupleGo tg (.ref it) u) Q E s:=by
 unfold letOwnedTupleGo;cases tg<;>first
  |exact wpAny_pure hQ
  |(cases u<;>first
    |exact wpAny_pure hQ
    |(refine wpAny_bind (wpAny_load ho ?_)
      rw[hc,hd];show wpAny M A (if (["enumerate","zip","dict_itemiterator","dict_reverseitemiterator","odict_iterator","itertools.zip_longest","itertools.pairwise"].contains n && vs[0]? ==some (rawInt _))=true then _ else _) Q E s;rw[if_neg (by intro h;rw[hn,Bool.false_and] at h;cases h)];exact wpAny_pure hQ))
def Itl(K:Fg)(a:Addr):It:=
 ⟨fun i H=> ∃xs x,SqL K H a xs∧xs[i]? =some x,fun i H x H'=>H'=H∧ ∀xs,SqL K H a xs→xs[i]? =some x,fun i H=> ∃xs,SqL K H a xs∧xs.length≤i⟩
def Itr(lo:Int)(n:Nat):It:=⟨fun i _=>i<n,fun i H x H'=>H'=H∧x= .int (lo+i),fun i _=>n≤i⟩
theorem zjx{P:Program}{w:World}{K:Fg}{tg:Expr}(a it:Addr):Turn P w K tg (Itl K a) [it] it (fun i h=>h.IsListIter it a i) where
 mem:=by simp
 obj:=fun i h st b hb=>by
  have e:b=it:=by simpa using hb
  subst e;obtain⟨o,e,c,d⟩:=st;exact⟨o,e,fun v z=>by rw[d] at z;cases z⟩
 keep:=fun i h h' st k=>st.at fun o e=>k it (by simp) o e
 item:=by
  intro X hP hw hK hc i pins s σ H E I hf st hg;subst hP hw hK;obtain⟨xs,x,hq,hx⟩:=hg;obtain⟨its,rv,p,hz⟩:=I.list hq;obtain⟨u,hu,ru⟩:=rv.get hx;obtain⟨f0,f1,f2,f3,f4,f5⟩:=hf it (by simp);refine wpAny_pyNext_list_item st p.isList (x:=u) (by simpa using hu) fun h' st' sb=> ?_;have I1:Inv X pins σ H {s with heap:=h'}:=I.turned (t':=s.toks) (fun b o hb e=>(sb.2 b hb).trans e) f0 f1 f3 f4 f5;obtain⟨o,e,c,d⟩:=id st';exact⟨u,rfl,znF (s:={s with heap:=h'}) e c d (by decide) ⟨x,H,I1,ru,⟨rfl,fun ys hy=>by rw[I.list_inj hy hq];exact hx⟩,st',fun b hb=>(hf b hb).1⟩⟩
 done:=by
  intro X hP hw hK hc i pins s σ H E I hf st hg;subst hP hw hK;obtain⟨xs,hq,hx⟩:=hg;obtain⟨its,rv,p,hz⟩:=I.list hq;obtain⟨f0,f1,f2,f3,f4,f5⟩:=hf it (by simp);have hl:=rv.length;exact wpAny_pyNext_list_end (I.ok.hd hc) st p.isList (by simp;omega) fun h' eb=>⟨rfl,I.turned (t':=s.toks) (fun b o hb e=>eb b o hb e) f0 f1 f3 f4 f5⟩
 self:=fun _ _ _ _ _ st h=>wpAny_pyIter_listiter st h
theorem zhY{P:Program}{w:World}{K:Fg}{tg:Expr}(it:Addr)(lo:Int)(n:Nat):Turn P w K tg (Itr lo n) [it] it (fun i h=>IsRangeIter h it (lo+(i:Nat)*1) ((n:Int) - (i:Nat)) 1) where
 mem:=by simp
 obj:=fun i h st b hb=>by
  have e:b=it:=by simpa using hb
  subst e;exact⟨_,st,fun v z=>by
   have z':Data.fields _=Data.cell v:=z;cases z'⟩
 keep:=fun i h h' st k=>k it (by simp) _ st
 item:=by
  intro X hP hw hK hc i pins s σ H E I hf st hg;subst hP hw hK;obtain⟨f0,f1,f2,f3,f4,f5⟩:=hf it (by simp);have W:=Walks.range (prog:=X.prog) (w:=X.w) (I.ok.hd hc) it lo 1 n;refine W.item i s _ _ hg st fun v h' tk hv st' kk=> ?_;obtain⟨t,rfl⟩:=hv;have I1:Inv X pins σ H {s with heap:=h',toks:=tk}:=I.turned (fun b o hb e=>kk b o (by simpa using hb) e) f0 f1 f3 f4 f5;refine⟨_,rfl,znF (s:={s with heap:=h',toks:=tk}) (n:="range_iterator") st' rfl rfl (by decide) ⟨.int (lo+i),H,I1,⟨t,?_⟩,⟨rfl,rfl⟩,st',fun b hb=>(hf b hb).1⟩⟩;rw[Int.mul_one]
 done:=by
  intro X hP hw hK hc i pins s σ H E I hf st hg;subst hP hw hK;obtain⟨f0,f1,f2,f3,f4,f5⟩:=hf it (by simp);exact wpAny_pyNext_range_end (I.ok.hd hc) st (by have:n≤i:=hg;omega) fun h' eb=>⟨rfl,I.turned (t':=s.toks) (fun b o hb e=>eb b o hb e) f0 f1 f3 f4 f5⟩
 self:=fun _ _ _ _ _ st h=>wpAny_pyIter_rangeiter st h
end L2
namespace L2
open PySem PySem.Spec PyProof.Rows
section
variable {X:Cx} {tg:Expr}
def zbB(K:Fg)(tl:TE):TI:=fun σ H R=>tl σ H fun x H1=> ∃a,x= .ref a∧(∃xs,SqL K H1 a xs)∧R (Itl K a) H1
theorem zbm{l:Expr}{tl:TE}(hl:PE X l tl):PI X tg l (zbB X.K tl):=by
 intro pins s σ H R I h;refine thn (hl pins s σ H _ I h) fun v s1 ⟨x,H1,I1,r1,q1⟩=> ?_;obtain⟨a,e,⟨xs,hq⟩,q⟩:=q1;subst e;cases r1;obtain⟨its,rv,p,hz⟩:=I1.list hq;refine wpAny_pyIter_list p.isList ?_;refine⟨s1.heap.objs.size, [s1.heap.objs.size],_,_,H1,rfl,I1.kept (t':=s1.toks) fun b o e=>Heap.get?_push_of_some _ e,zjx a _,⟨_,Heap.get?_push_size _ rfl,rfl,rfl⟩,fun b hb=> ?_,q⟩;have e:b=s1.heap.objs.size:=by simpa using hb
 subst e;exact I1.fpOk (Nat.le_refl _) (I1.hok.fresh (Nat.le_refl _))
theorem zg8{pins:List (Addr×Obj)}{σ:St}{H:Hp}{s:Shared}{R:It→Hp→Prop}{E:Value→Shared→Prop}{lo hi:Int}{t u v:Tok}{tk:Nat}(I:Inv X pins σ H s)(h1: -(2 ^ 62)≤lo)(h2:lo<2 ^ 62)(h3: -(2 ^ 62)≤hi)(h4:hi<2 ^ 62)
  (q:R (Itr lo (hi - lo).toNat) H):wpAny (model X.prog X.w) X.A (pyIter (.ref s.heap.objs.size)) (PIE X pins σ tg R) E {s with heap:=s.heap.push {cls:= .type "range",data:= .fields #[.int lo t, .int hi u, .int 1 v]},toks:=tk}:=by
 refine wpAny_pyIter_range (IsRange.new ..) (small_one h1 h2 h3 h4) ?_;have I1:Inv X pins σ H {s with heap:=s.heap.push {cls:= .type "range",data:= .fields #[.int lo t, .int hi u, .int 1 v]},toks:=tk}:=I.kept fun b o e=>Heap.get?_push_of_some _ e;refine⟨(s.heap.push {cls:= .type "range",data:= .fields #[.int lo t, .int hi u, .int 1 v]}).objs.size, [(s.heap.push {cls:= .type "range",data:= .fields #[.int lo t, .int hi u, .int 1 v]}).objs.size],_,_,H,rfl,
  I1.kept (t':=tk) fun b o e=>Heap.get?_push_of_some _ e,zhY _ lo (hi - lo).toNat,?_,fun b hb=> ?_,q⟩
 ·have e1:lo+((0:Nat):Int)*1=lo:=by simp
  have e2:(((hi - lo).toNat:Nat):Int) - ((0:Nat):Int)=Builtin.Range.rangeSize lo hi 1:=by rw[rangeSize_one];split<;>omega
  show IsRangeIter _ _ (lo+((0:Nat):Int)*1) ((((hi - lo).toNat:Nat):Int) - ((0:Nat):Int)) 1;rw[e1,e2];exact Heap.get?_push_size _ rfl
 ·have e:b=(s.heap.push {cls:= .type "range",data:= .fields #[.int lo t, .int hi u, .int 1 v]}).objs.size:=by simpa using hb
  subst e;exact I1.fpOk (Nat.le_refl _) (I1.hok.fresh (Nat.le_refl _))
def zbU(ta:TA):TI:=fun σ H R=>ta σ H fun vs H1=> ∃j:Int,vs= [.int j]∧ -(2 ^ 62)≤j∧j<2 ^ 62∧R (Itr 0 j.toNat) H1
def zb7(ta:TA):TI:=fun σ H R=>ta σ H fun vs H1=> ∃i j:Int,vs= [.int i, .int j]∧(-(2 ^ 62)≤i∧i<2 ^ 62∧ -(2 ^ 62)≤j∧j<2 ^ 62)∧R (Itr i (j - i).toNat) H1
theorem zcc{a:Expr}{ta:TA}{p pos:Pos}(hg:Gl X "range")(hm:X.mg "range"=none)(ha:PA X [a] ta)(hs:starEach [a] X.env= [(false,eval a X.env)]:=by rfl):PI X tg (.Call (.Name "range" p) [a] [] pos) (zbU ta):=by
 intro pins s σ H R I h;refine Call_ (zd6 I hg hm boot_range (PyProof.Rows.callWith_type1 (thn (ha pos pins s σ H _ I h) fun us s1 ⟨vs,H1,I1,r1,q1⟩=> ?_) hs rfl));obtain⟨j,e,q1,q2,q⟩:=q1;subst e;cases r1 with
 |cons r rr=>
  cases rr;obtain⟨t,rfl⟩:=r;exact call_range_1 (zg8 I1 (by omega) (by omega) q1 q2 (by simpa using q))
theorem zjy{a b:Expr}{ta:TA}{p pos:Pos}(hg:Gl X "range")(hm:X.mg "range"=none)(ha:PA X [a,b] ta)(hs:starEach [a,b] X.env= [(false,eval a X.env),(false,eval b X.env)]:=by rfl)(hs2:starEach [b] X.env= [(false,eval b X.env)]:=by rfl):
  PI X tg (.Call (.Name "range" p) [a,b] [] pos) (zb7 ta):=by
 intro pins s σ H R I h;refine Call_ (zd6 I hg hm boot_range (PyProof.Rows.callWith_type1 (thn (ha pos pins s σ H _ I h) fun us s1 ⟨vs,H1,I1,r1,q1⟩=> ?_) (by rw[hs,hs2]) (by rw[hs2];rfl)));obtain⟨i,j,e,⟨q1,q2,q3,q4⟩,q⟩:=q1;subst e;cases r1 with
 |cons r rr=>
  cases rr with
  |cons r' rr=>
   cases rr;obtain⟨t,rfl⟩:=r;obtain⟨t',rfl⟩:=r';exact call_range_2 (zg8 I1 q1 q2 q3 q4 q)
def zp1(wi:TI)(g:TG)(tb:TS):TS:=fun D σ H=>wi σ H fun J H1=> ∃W:Nat→Nat→St→Hp→Prop,(∃m,W 0 m σ H1)∧ ∀i m σ H,W i m σ H→
 (J.stop i H∧D.nx σ H)∨(J.go i H∧ ∃N:St→Hp→Prop,(∀σ' H',N σ' H'→ ∃m',m'<m∧W (i+1) m' σ' H')∧ ∀x H',J.yld i H x H'→g x σ H' fun σ2 H2=>tb {D with nx:=N,ct:=N,bk:=D.nx} σ2 H2)
def zeK(fp:List Addr)(h:Heap):List (Addr×Obj):=fp.filterMap fun b=>(h.get? b).map fun o=>(b,o)
theorem zcP{fp:List Addr}{h:Heap}{b:Addr}{o:Obj}(hb:b∈fp)(e:h.get? b=some o):(b,o)∈zeK fp h:=List.mem_filterMap.mpr ⟨b,hb,by rw[e];rfl⟩
theorem zjz{fp:List Addr}{h:Heap}{p:Addr×Obj}(hp:p∈zeK fp h):p.1∈fp∧h.get? p.1=some p.2:=by
 obtain⟨b,hb,e⟩:=List.mem_filterMap.mp hp;cases q:h.get? b with
 |none=>rw[q] at e;cases e
 |some o=>
  rw[q] at e;have e':(b,o)=p:=Option.some.inj e;subst e';exact⟨hb,q⟩
theorem Inv.pinned{pins:List (Addr×Obj)}{σ:St}{H:Hp}{s:Shared}{fp:List Addr}(I:Inv X pins σ H s)(hf: ∀b∈fp,zex X pins H b)(ho: ∀b∈fp,∃o,s.heap.get? b=some o∧ ∀v,o.data≠ .cell v):Inv X (pins++zeK fp s.heap) σ H s:=
 I.pins_of fun p hp=>(List.mem_append.mp hp).elim (fun z=>I.pin p (List.mem_append_right _ z)) fun z=>by
  obtain⟨hb,e⟩:=zjz z;obtain⟨f0,f1,f2,_⟩:=hf p.1 hb;obtain⟨o,e',d⟩:=ho p.1 hb;rw[e] at e';cases e';exact⟨e,f0,f1,f2,d⟩
theorem Inv.unpinned{pins pl:List (Addr×Obj)}{σ:St}{H:Hp}{s:Shared}(I:Inv X (pins++pl) σ H s):Inv X pins σ H s:=I.pins_of fun p hp=>I.pin p (List.mem_append_right _ (List.mem_append_left _ hp))
theorem zbs{iter:Expr}{body:List Stmt}{wi:TI}{g:TG}{tb:TS}{pos:Pos}(hp:PassesOwn (model X.prog X.w) X.A X.env X.xe)(hc:X.calm=true)(hi:PI X tg iter wi)(hg:PG X tg g)(hb:PSs X body tb)
  (hs: ∀x,foldedSetIterable iter X.env x=pure x:=by intro _;rfl):PS X (.For tg iter body [] pos) (zp1 wi g tb):=by
 intro pins s σ H D I h;refine wpAny_For (thn (hi pins s σ H _ I h) fun v s1 h1=>thn h1 fun itv s2 h2=> ?_) hs;obtain⟨it,fp,tn,J,H2,e,I2,T,st2,f2,W,⟨m0,w0⟩,turn⟩:=h2;subst e;have stat: ∀{H':Hp},(∀b∈fp,H' b=none)→ ∀b∈fp,zex X pins H' b:=fun hn b hb=>⟨hn b hb,(f2 b hb).2⟩
 refine codeAny_forLoop_any (fun n s'=> ∃i σ' H',Inv X pins σ' H' s'∧tn i s'.heap∧(∀b∈fp,H' b=none)∧W i n σ' H') ?_ m0 ⟨0,σ,H2,I2,st2,fun b hb=>(f2 b hb).1,w0⟩;rintro n s3 ⟨i,σ3,H3,I3,st3,fr3,w3⟩;rcases turn i n σ3 H3 w3 with⟨stop,qn⟩|⟨go,N,hN,step⟩
 ·refine wpAny_passesOwn hp (thn (T.done X rfl rfl rfl hc i pins s3 σ3 H3 X.xe I3 (stat fr3) st3 stop) fun r s4 ⟨hr,I4⟩=> ?_);subst hr;exact wpAny_execs_nil ⟨σ3,H3,I4,qn⟩
 ·refine wpAny_passesOwn hp (thn (T.item X rfl rfl rfl hc i pins s3 σ3 H3 X.xe I3 (stat fr3) st3 go) fun r s4 ⟨u,hr,h4⟩=> ?_);subst hr;refine wpAny_passesOwn hp (thn h4 fun _ s5 ⟨x,H5,I5,r5,y5,st5,fr5⟩=> ?_);have I5':=I5.pinned (stat fr5) (T.obj _ _ st5);refine wpAny_passesOwn hp (thn (hg _ s5 σ3 H5 x u _ I5' r5 (step x H5 y5)) fun _ s6 ⟨σ6,H6,I6,q6⟩=> ?_);refine wpAny_passesOwn hp (thn (hb _ s6 σ6 H6 _ I6 q6) fun f s7 q7=> ?_);have again: ∀{σ7:St} {H7:Hp},Inv X (pins++zeK fp s5.heap) σ7 H7 s7→N σ7 H7→ ∃m,m<n∧ ∃i σ' H',Inv X pins σ' H' s7∧tn i s7.heap∧(∀b∈fp,H' b=none)∧W i m σ' H':=fun {σ7 H7} I7 n7=>by
   obtain⟨m',hm,w7⟩:=hN σ7 H7 n7;refine⟨m',hm,i+1,σ7,H7,I7.unpinned,T.keep _ _ _ st5 fun b hb o e=>(I7.pin (b,o) (List.mem_append_right _ (List.mem_append_right _ (zcP hb e)))).1,fun b hb=> ?_,w7⟩;obtain⟨o,e,d⟩:=T.obj _ _ st5 b hb;exact(I7.pin (b,o) (List.mem_append_right _ (List.mem_append_right _ (zcP hb e)))).2.1
  cases f with
  |next=>obtain⟨σ7,H7,I7,n7⟩:=q7;exact again I7 n7
  |cont=>obtain⟨σ7,H7,I7,n7⟩:=q7;exact again I7 n7
  |brk=>obtain⟨σ7,H7,I7,q7⟩:=q7;exact⟨σ7,H7,I7.unpinned,q7⟩
  |ret v=>obtain⟨x7,σ7,H7,I7,r7,q7⟩:=q7;exact⟨x7,σ7,H7,I7.unpinned,r7,q7⟩
end
theorem zb3{K:Fg}{a:Addr}{xs:List V}{g:TG}{tb:TS}{D:Ends}{σ:St}{H:Hp}(Pv:Nat→St→Hp→Prop)(h0:Pv 0 σ H)(hl: ∀i σ H,i≤xs.length→Pv i σ H→SqL K H a xs)
  (hs: ∀i x σ H,xs[i]? =some x→Pv i σ H→g x σ H fun σ2 H2=>tb {D with nx:=Pv (i+1),ct:=Pv (i+1),bk:=D.nx} σ2 H2) (hd: ∀σ H,Pv xs.length σ H→D.nx σ H):
  ∃W:Nat→Nat→St→Hp→Prop,(∃m,W 0 m σ H)∧ ∀i m σ H,W i m σ H→
   ((Itl K a).stop i H∧D.nx σ H)∨((Itl K a).go i H∧ ∃N:St→Hp→Prop,(∀σ' H',N σ' H'→ ∃m',m'<m∧W (i+1) m' σ' H')∧ ∀x H',(Itl K a).yld i H x H'→g x σ H' fun σ2 H2=>tb {D with nx:=N,ct:=N,bk:=D.nx} σ2 H2):=by
 refine⟨fun i m σ H=>m=xs.length - i∧i≤xs.length∧Pv i σ H,⟨xs.length,by simp,Nat.zero_le _,h0⟩,?_⟩;rintro i m σ H ⟨rfl,hi,p⟩;have q:=hl i σ H hi p;by_cases hlt:i<xs.length
 ·refine .inr ⟨⟨xs,xs[i],q,by simp [hlt]⟩,Pv (i+1),fun σ' H' p'=>⟨xs.length - (i+1),by omega,rfl,hlt,p'⟩,fun x H' y=> ?_⟩;obtain⟨e,y⟩:=y;subst e;exact hs i x σ _ (y xs q) p
 ·have e:i=xs.length:=by omega
  subst e;exact .inl ⟨⟨xs,q,Nat.le_refl _⟩,hd σ H p⟩
theorem zcz{lo:Int}{n:Nat}{g:TG}{tb:TS}{D:Ends}{σ:St}{H:Hp}(Pv:Nat→St→Hp→Prop)(h0:Pv 0 σ H)
  (hs: ∀i σ H,i<n→Pv i σ H→g (.int (lo+i)) σ H fun σ2 H2=>tb {D with nx:=Pv (i+1),ct:=Pv (i+1),bk:=D.nx} σ2 H2) (hd: ∀σ H,Pv n σ H→D.nx σ H):
  ∃W:Nat→Nat→St→Hp→Prop,(∃m,W 0 m σ H)∧ ∀i m σ H,W i m σ H→
   ((Itr lo n).stop i H∧D.nx σ H)∨((Itr lo n).go i H∧ ∃N:St→Hp→Prop,(∀σ' H',N σ' H'→ ∃m',m'<m∧W (i+1) m' σ' H')∧ ∀x H',(Itr lo n).yld i H x H'→g x σ H' fun σ2 H2=>tb {D with nx:=N,ct:=N,bk:=D.nx} σ2 H2):=by
 refine⟨fun i m σ H=>m=n - i∧i≤n∧Pv i σ H,⟨n,by simp,Nat.zero_le _,h0⟩,?_⟩;rintro i m σ H ⟨rfl,hi,p⟩;by_cases hlt:i<n
 ·refine .inr ⟨hlt,Pv (i+1),fun σ' H' p'=>⟨n - (i+1),by omega,rfl,hlt,p'⟩,fun x H' y=> ?_⟩;obtain⟨e,y⟩:=y;subst e y;exact hs i σ _ hlt p
 ·have e:i=n:=by omega
  subst e;exact .inl ⟨Nat.le_refl _,hd σ H p⟩
theorem zg9{c:TT}{tb:TS}{D:Ends}{σ:St}{H:Hp}(Pv:St→Hp→Prop)(μ:St→Hp→Nat)(h0:Pv σ H)
  (hs: ∀σ H,Pv σ H→c σ H fun b H1=>if b=true then tb {D with nx:=fun σ' H'=>Pv σ' H'∧μ σ' H'<μ σ H,ct:=fun σ' H'=>Pv σ' H'∧μ σ' H'<μ σ H,bk:=D.nx} σ H1 else D.nx σ H1)
  (mono: ∀σ H Q Q',(∀b H1,Q b H1→Q' b H1)→c σ H Q→c σ H Q'):zkn c tb D σ H:=by
 refine⟨fun m σ H=>m=μ σ H∧Pv σ H,⟨_,rfl,h0⟩,?_⟩;rintro m σ H ⟨rfl,p⟩;refine mono σ H _ _ (fun b H1 q=> ?_) (hs σ H p);cases b with
 |true=>exact⟨_,fun σ' H' ⟨p',l⟩=>⟨_,l,rfl,p'⟩,q⟩
 |false=>exact q
end L2
namespace L2
open PySem PySem.Spec PyProof.Rows
abbrev R2:=V→V→Hp→VK→Prop
def OpR(X:Cx)(f:Value→Value→Sem Value)(r:R2):Prop:=
 ∀(pins:List (Addr×Obj)) (s:Shared) (σ:St) (H:Hp) (x y:V) (v u:Value) (Q:VK),Inv X pins σ H s→zaC x v→zaC y u→r x y H Q→
  wpAny (model X.prog X.w) X.A (f v u) (EP X pins σ Q) X.xe s
def UnR(X:Cx)(f:Value→Sem Value)(r:V→Hp→VK→Prop):Prop:=
 ∀(pins:List (Addr×Obj)) (s:Shared) (σ:St) (H:Hp) (x:V) (v:Value) (Q:VK),Inv X pins σ H s→zaC x v→r x H Q→
  wpAny (model X.prog X.w) X.A (f v) (EP X pins σ Q) X.xe s
def zbK(X:Cx)(f:Value)(r:List V→Hp→VK→Prop):Prop:=
 ∀(pins:List (Addr×Obj)) (s:Shared) (σ:St) (H:Hp) (xs:List V) (us:List Value) (Q:VK),Inv X pins σ H s→zaI xs us→r xs H Q→
  wpAny (model X.prog X.w) X.A (call f us) (EP X pins σ Q) X.xe s
def tOp(r:R2)(ta tb:TE):TE:=fun σ H Q=>ta σ H fun x H1=>tb σ H1 fun y H2=>r x y H2 Q
def tUn(r:V→Hp→VK→Prop)(ta:TE):TE:=fun σ H Q=>ta σ H fun x H1=>r x H1 Q
def rI(C:Int→Int→Prop)(g:Int→Int→V):R2:=fun x y H Q=> ∃i j,x= .int i∧y= .int j∧C i j∧Q (g i j) H
def rI0(g:Int→Int→V):R2:=fun x y H Q=> ∃i j,x= .int i∧y= .int j∧Q (g i j) H
def rU(g:Int→V):V→Hp→VK→Prop:=fun x H Q=> ∃i,x= .int i∧Q (g i) H
section
variable {X:Cx} {a b c:Expr} {ta tb tc:TE} {pos:Pos}
theorem zoc(ha:PE X a ta)(hb:PE X b tb){pins:List (Addr×Obj)}{s:Shared}{σ:St}{H:Hp}{R:V→V→Hp→Prop}(I:Inv X pins σ H s)
  (h:ta σ H fun x H1=>tb σ H1 fun y H2=>R x y H2) {Q:Value→Shared→Prop} {f:Value→Value→Sem Value}
  (hf: ∀v u s2 x y H2,Inv X pins σ H2 s2→zaC x v→zaC y u→R x y H2→wpAny (model X.prog X.w) X.A (f v u) Q X.xe s2):
  wpAny (model X.prog X.w) X.A (eval a X.env) (fun v s₁=>wpAny (model X.prog X.w) X.A (eval b X.env) (fun u s₂=>wpAny (model X.prog X.w) X.A (f v u) Q X.xe s₂) X.xe s₁) X.xe s:=by
 refine thn (ha pins s σ H _ I h) fun v s1 ⟨x,H1,I1,r1,q1⟩=> ?_;refine thn (hb pins s1 σ H1 _ I1 q1) fun u s2 ⟨y,H2,I2,r2,q2⟩=> ?_;exact hf v u s2 x y H2 I2 r1 r2 q2
theorem zah{op:Operator}{r:R2}(ho:OpR X (binaryOp op) r)(ha:PE X a ta)(hb:PE X b tb):PE X (.BinOp a op b pos) (tOp r ta tb):=by
 intro pins s σ H Q I h;exact wpAny_BinOp (zoc ha hb I h fun v u s2 x y H2 I2 rx ry q=>ho pins s2 σ H2 x y v u Q I2 rx ry q)
theorem zeL{op:UnaryOp}{r:V→Hp→VK→Prop}(ho:UnR X (unaryOp op) r)(ha:PE X a ta):PE X (.UnaryOp op a pos) (tUn r ta):=by
 intro pins s σ H Q I h;exact UnaryOp_ (thn (ha pins s σ H _ I h) fun v s1 ⟨x,H1,I1,r1,q1⟩=>ho pins s1 σ H1 x v Q I1 r1 q1)
theorem opI{f:Value→Value→Sem Value}{C:Int→Int→Prop}{g:Int→Int→Int}
  (rule: ∀(i j:Int) (t u:Tok) (s:Shared) (Q:Value→Shared→Prop) (E:Value→Shared→Prop),C i j→Q (.int (g i j) s.toks) {s with toks:=s.toks+1}→wpAny (model X.prog X.w) X.A (f (.int i t) (.int j u)) Q E s):
  OpR X f (rI C fun i j=> .int (g i j)):=by
 intro pins s σ H x y v u Q I rx ry h;obtain⟨i,j,rfl,rfl,hc,q⟩:=h;obtain⟨t,rfl⟩:=rx;obtain⟨t',rfl⟩:=ry;exact rule i j t t' s _ _ hc ⟨.int (g i j),H,I.tok _,⟨_,rfl⟩,q⟩
theorem zp2{f:Value→Value→Sem Value}{g:Int→Int→Int}
  (rule: ∀(i j:Int) (t u:Tok) (s:Shared) (Q:Value→Shared→Prop) (E:Value→Shared→Prop),Q (.int (g i j) s.toks) {s with toks:=s.toks+1}→wpAny (model X.prog X.w) X.A (f (.int i t) (.int j u)) Q E s):
  OpR X f (rI0 fun i j=> .int (g i j)):=by
 intro pins s σ H x y v u Q I rx ry h;obtain⟨i,j,rfl,rfl,q⟩:=h;obtain⟨t,rfl⟩:=rx;obtain⟨t',rfl⟩:=ry;exact rule i j t t' s _ _ ⟨.int (g i j),H,I.tok _,⟨_,rfl⟩,q⟩
theorem zmC{f:Value→Value→Sem Value}{g:Int→Int→Bool}
  (rule: ∀(i j:Int) (t u:Tok) (s:Shared) (Q:Value→Shared→Prop) (E:Value→Shared→Prop),Q (.bool (g i j)) s→wpAny (model X.prog X.w) X.A (f (.int i t) (.int j u)) Q E s):
  OpR X f (rI0 fun i j=> .bl (g i j)):=by
 intro pins s σ H x y v u Q I rx ry h;obtain⟨i,j,rfl,rfl,q⟩:=h;obtain⟨t,rfl⟩:=rx;obtain⟨t',rfl⟩:=ry;exact rule i j t t' s _ _ ⟨.bl (g i j),H,I,rfl,q⟩
def zmD(i j:Int):Prop:=0<j∧j<1073741824
def zhZ(i j:Int):Prop:=0≤j∧j≤1000000∧i.natAbs<2 ^ 64
def zjA(i j:Int):Prop:=(-(2 ^ 64)<i∧i<2 ^ 64)∨(-(2 ^ 64)<j∧j<2 ^ 64)
theorem zjA.ok{i j:Int}(h:zjA i j):IntMulOk i j:=by
 rcases h with⟨h1,h2⟩|⟨h1,h2⟩
 ·exact .of_left (intBits_le_64 h1 h2)
 ·exact .of_right (intBits_le_64 h1 h2)
theorem zod:OpR X (binaryOp .Add) (rI0 fun i j=> .int (i+j)):=zp2 fun _ _ _ _ _ _ _ q=>add_int q
theorem zoe:OpR X (binaryOp .Sub) (rI0 fun i j=> .int (i - j)):=zp2 fun _ _ _ _ _ _ _ q=>sub_int q
theorem zof:OpR X (binaryOp .Mult) (rI zjA fun i j=> .int (i*j)):=opI fun _ _ _ _ _ _ _ hc q=>mul_int q hc.ok
theorem zmE:OpR X (binaryOp .FloorDiv) (rI zmD fun i j=> .int (i / j)):=opI fun i j _ _ _ _ _ hc q=>by
 have h1:(0:Int)<j:=hc.1;have h2:j<1073741824:=hc.2;exact floordiv_int (by omega) (by rw[Int.fdiv_eq_ediv_of_nonneg i (by omega)];exact q) (.inl (PyProof.noPylong_small (by omega)))
theorem zog:OpR X (binaryOp .Mod) (rI (fun _ j=>0<j) fun i j=> .int (i % j)):=opI fun i j _ _ _ _ _ hc q=>by
 have h1:(0:Int)<j:=hc;exact mod_int' (by omega) (by rw[Int.fmod_eq_emod_of_nonneg i (by omega)];exact q)
theorem zoh:OpR X (binaryOp .Pow) (rI zhZ fun i j=> .int (i ^ j.toNat)):=opI fun _ _ _ _ _ _ _ hc q=>pow_int_small hc.1 hc.2.1 hc.2.2 q
theorem unI{f:Value→Sem Value}{g:Int→Int}
  (rule: ∀(i:Int) (t:Tok) (s:Shared) (Q:Value→Shared→Prop) (E:Value→Shared→Prop),Q (.int (g i) s.toks) {s with toks:=s.toks+1}→wpAny (model X.prog X.w) X.A (f (.int i t)) Q E s):
  UnR X f (rU fun i=> .int (g i)):=by
 intro pins s σ H x v Q I rx h;obtain⟨i,rfl,q⟩:=h;obtain⟨t,rfl⟩:=rx;exact rule i t s _ _ ⟨.int (g i),H,I.tok _,⟨_,rfl⟩,q⟩
theorem zoi:UnR X (unaryOp .USub) (rU fun i=> .int (-i)):=unI fun _ _ _ _ _ q=>neg_int q
end
def zeM:V→V→Bool
 | .non, .non=>true| .non, .int _=>true| .int _, .non=>true| .non, .bl _=>true| .bl _, .non=>true| .non, .str _=>true| .str _, .non=>true
 | .int _, .int _=>true| .bl _, .bl _=>true| .str _, .str _=>true| .byt _, .byt _=>true
 | .int _, .str _=>true| .str _, .int _=>true| .bl _, .str _=>true| .str _, .bl _=>true
 |_,_=>false
def rEq:R2:=fun x y H Q=>zeM x y=true∧Q (.bl (decide (x=y))) H
def rNe:R2:=fun x y H Q=>zeM x y=true∧Q (.bl (!decide (x=y))) H
theorem ziO{i j:Int}:decide (V.int i=V.int j)=(i==j):=by
 rw[Bool.eq_iff_iff];simp
theorem zko{i j:Bool}:decide (V.bl i=V.bl j)=(i==j):=by
 rw[Bool.eq_iff_iff];simp
theorem ziP{i j:Str}:decide (V.str i=V.str j)=(i==j):=by
 rw[Bool.eq_iff_iff];simp
theorem ziQ{i j:Array UInt8}:decide (V.byt i=V.byt j)=(i.toList==j.toList):=by
 rw[Bool.eq_iff_iff];cases i;cases j;simp
section
variable {X:Cx} {a b c:Expr} {ta tb tc:TE} {pos:Pos}
theorem zaT{pins:List (Addr×Obj)}{σ:St}{H:Hp}{s:Shared}{Q:VK}{k k':Bool}(I:Inv X pins σ H s)(q:Q (.bl k) H)(e:k=k'):EP X pins σ Q (.bool k') s:=by
 subst e;exact⟨.bl k,H,I,rfl,q⟩
theorem zcY:OpR X (compareOp .Eq) rEq:=by
 intro pins s σ H x y v u Q I rx ry h;obtain⟨hs,q⟩:=h;cases x with
 |non=>
  cases rx;cases y with
  |non=>cases ry;exact PySem.EqNone.eq_none_none (zaT I q (by simp))
  |bl j=>cases ry;exact PySem.EqNone.eq_none_bool (zaT I q (by simp))
  |int j=>obtain⟨t',rfl⟩:=ry;exact PySem.EqNone.eq_none_int (zaT I q (by simp))
  |str j=>obtain⟨t',rfl⟩:=ry;exact PySem.EqNone.eq_none_str (zaT I q (by simp))
  |_=>exact absurd (show false=true from hs) Bool.false_ne_true
 |bl i=>
  cases rx;cases y with
  |non=>cases ry;exact PySem.EqNone.eq_bool_none (zaT I q (by simp))
  |bl j=>cases ry;exact eq_bool (zaT I q zko)
  |str j=>obtain⟨t',rfl⟩:=ry;exact PySem.EqMixed.eq_bool_str (zaT I q (by simp))
  |_=>exact absurd (show false=true from hs) Bool.false_ne_true
 |int i=>
  obtain⟨t,rfl⟩:=rx;cases y with
  |non=>cases ry;exact PySem.EqNone.eq_int_none (zaT I q (by simp))
  |int j=>obtain⟨t',rfl⟩:=ry;exact eq_int (zaT I q ziO)
  |str j=>obtain⟨t',rfl⟩:=ry;exact PySem.EqMixed.eq_int_str (zaT I q (by simp))
  |_=>exact absurd (show false=true from hs) Bool.false_ne_true
 |str i=>
  obtain⟨t,rfl⟩:=rx;cases y with
  |non=>cases ry;exact PySem.EqNone.eq_str_none (zaT I q (by simp))
  |bl j=>cases ry;exact PySem.EqMixed.eq_str_bool (zaT I q (by simp))
  |int j=>obtain⟨t',rfl⟩:=ry;exact PySem.EqMixed.eq_str_int (zaT I q (by simp))
  |str j=>obtain⟨t',rfl⟩:=ry;exact eq_str (zaT I q ziP)
  |_=>exact absurd (show false=true from hs) Bool.false_ne_true
 |byt i=>
  obtain⟨t,rfl⟩:=rx;cases y with
  |byt j=>obtain⟨t',rfl⟩:=ry;exact PySem.W.eq_bytes (zaT I q ziQ)
  |_=>exact absurd (show false=true from hs) Bool.false_ne_true
 |_=>cases y<;>exact absurd (show false=true from hs) Bool.false_ne_true
theorem znG:OpR X (compareOp .NotEq) rNe:=by
 intro pins s σ H x y v u Q I rx ry h;obtain⟨hs,q⟩:=h;cases x with
 |non=>
  cases rx;cases y with
  |non=>cases ry;exact PySem.EqNone.ne_none_none (zaT I q (by simp))
  |bl j=>cases ry;exact PySem.EqNone.ne_none_bool (zaT I q (by simp))
  |int j=>obtain⟨t',rfl⟩:=ry;exact PySem.EqNone.ne_none_int (zaT I q (by simp))
  |str j=>obtain⟨t',rfl⟩:=ry;exact PySem.EqNone.ne_none_str (zaT I q (by simp))
  |_=>exact absurd (show false=true from hs) Bool.false_ne_true
 |bl i=>
  cases rx;cases y with
  |non=>cases ry;exact PySem.EqNone.ne_bool_none (zaT I q (by simp))
  |bl j=>cases ry;exact ne_bool (zaT I q (congrArg not zko))
  |str j=>obtain⟨t',rfl⟩:=ry;exact PySem.EqMixed.ne_bool_str (zaT I q (by simp))
  |_=>exact absurd (show false=true from hs) Bool.false_ne_true
 |int i=>
  obtain⟨t,rfl⟩:=rx;cases y with
  |non=>cases ry;exact PySem.EqNone.ne_int_none (zaT I q (by simp))
  |int j=>obtain⟨t',rfl⟩:=ry;exact ne_int (zaT I q (congrArg not ziO))
  |str j=>obtain⟨t',rfl⟩:=ry;exact PySem.EqMixed.ne_int_str (zaT I q (by simp))
  |_=>exact absurd (show false=true from hs) Bool.false_ne_true
 |str i=>
  obtain⟨t,rfl⟩:=rx;cases y with
  |non=>cases ry;exact PySem.EqNone.ne_str_none (zaT I q (by simp))
  |bl j=>cases ry;exact PySem.EqMixed.ne_str_bool (zaT I q (by simp))
  |int j=>obtain⟨t',rfl⟩:=ry;exact PySem.EqMixed.ne_str_int (zaT I q (by simp))
  |str j=>obtain⟨t',rfl⟩:=ry;exact ne_str (zaT I q (congrArg not ziP))
  |_=>exact absurd (show false=true from hs) Bool.false_ne_true
 |byt i=>
  obtain⟨t,rfl⟩:=rx;cases y with
  |byt j=>obtain⟨t',rfl⟩:=ry;exact PySem.W.ne_bytes (zaT I q (congrArg not ziQ))
  |_=>exact absurd (show false=true from hs) Bool.false_ne_true
 |_=>cases y<;>exact absurd (show false=true from hs) Bool.false_ne_true
theorem zbL:OpR X (compareOp .Lt) (rI0 fun i j=> .bl (decide (i<j))):=zmC fun _ _ _ _ _ _ _ q=>lt_int q
theorem zkp:OpR X (compareOp .LtE) (rI0 fun i j=> .bl (decide (i≤j))):=zmC fun _ _ _ _ _ _ _ q=>le_int q
theorem zdu:OpR X (compareOp .Gt) (rI0 fun i j=> .bl (decide (j<i))):=zmC fun _ _ _ _ _ _ _ q=>gt_int q
theorem znH:OpR X (compareOp .GtE) (rI0 fun i j=> .bl (decide (j≤i))):=zmC fun _ _ _ _ _ _ _ q=>ge_int q
theorem zkq:OpR X (compareOp .Is) (fun x y H Q=>y= .non∧Q (.bl (decide (x= .non))) H):=by
 intro pins s σ H x y v u Q I rx ry h;obtain⟨rfl,q⟩:=h;cases ry;refine is_none_gen (zaT I q ?_);cases x<;>first
  |(cases rx;rfl)
  |(obtain⟨t,rfl⟩:=rx;rfl)
theorem za3(b:Expr){op:CmpOp}(h:op≠ .In:=by decide)(h2:op≠ .NotIn:=by decide):behindInMarks op b=false:=by
 have e1:(op==CmpOp.In)=false:=by cases op<;>first|rfl|exact absurd rfl h
 have e2:(op==CmpOp.NotIn)=false:=by cases op<;>first|rfl|exact absurd rfl h2
 cases b<;>simp [behindInMarks,e1,e2]
theorem zbG{op:CmpOp}{r:R2}(ho:OpR X (compareOp op) r)(ha:PE X a ta)(hb:PE X b tb)(hm:behindInMarks op b=false):PE X (.Compare a [op] [b] pos) (tOp r ta tb):=by
 intro pins s σ H Q I h;exact wpAny_Compare1 (zoc ha hb I h fun v u s2 x y H2 I2 rx ry q=>ho pins s2 σ H2 x y v u Q I2 rx ry q) hm
def zdM(t:TE):TT:=fun σ H Q=>t σ H fun x H'=> ∃k,x= .bl k∧Q k H'
theorem zeA{op:CmpOp}{r:R2}(ho:OpR X (compareOp op) r)(ha:PE X a ta)(hb:PE X b tb)(hm:behindInMarks op b=false):PT X (.Compare a [op] [b] pos) (zdM (tOp r ta tb)):=by
 intro pins s σ H Q I h;refine wpAny_isTrue_Compare1 (thn (ha pins s σ H _ I h) fun v s1 ⟨x,H1,I1,r1,q1⟩=>thn (hb pins s1 σ H1 _ I1 q1) fun u s2 ⟨y,H2,I2,r2,q2⟩=>
  thn (ho pins s2 σ H2 x y v u _ I2 r1 r2 q2) fun c s3 ⟨z,H3,I3,r3,k,e,q3⟩=> ?_) hm
 subst e;cases r3;exact wpAny_truthy_bool ⟨H3,I3,q3⟩
theorem zgx:(sizeLine:Nat)<2 ^ 63:=by rw[sizeLine_eq];decide
theorem zh0:OpR X (binaryOp .Add) (fun x y H Q=> ∃i j,x= .str i∧y= .str j∧i.length+j.length≤sizeLine∧Q (.str (i++j)) H):=by
 intro pins s σ H x y v u Q I rx ry h;obtain⟨i,j,rfl,rfl,hz,q⟩:=h;obtain⟨t,rfl⟩:=rx;obtain⟨t',rfl⟩:=ry;exact add_str (fun t' tk=>⟨.str (i++j),H,I.tok _,⟨_,rfl⟩,q⟩) hz
theorem zc2{x:V}{us:List Value}(r:zaI [x] us): ∃u,us= [u]∧zaC x u:=by
 cases r with
 |cons r1 r2=>cases r2;exact⟨_,rfl,r1⟩
theorem znI{x y:V}{us:List Value}(r:zaI [x,y] us): ∃u w',us= [u,w']∧zaC x u∧zaC y w':=by
 cases r with
 |cons r1 r2=>
  cases r2 with
  |cons r3 r4=>cases r4;exact⟨_,_,rfl,r1,r3⟩
theorem zbX(hc:X.calm=true):zbK X (.builtin "min") (fun xs H Q=> ∃i j,xs= [.int i, .int j]∧Q (.int (if j<i then j else i)) H):=by
 intro pins s σ H xs us Q I r h;obtain⟨i,j,rfl,q⟩:=h;obtain⟨u,w',rfl,⟨t,rfl⟩,⟨t',rfl⟩⟩:=znI r;refine min_two_ints (I.ok.hd hc) fun h' tk k=>⟨_,H,I.kept k,?_,q⟩
 by_cases hj:j<i
 ·rw[if_pos hj,if_pos hj];exact⟨_,rfl⟩
 ·rw[if_neg hj,if_neg hj];exact⟨_,rfl⟩
theorem zdg:zbK X (.type "int") (fun xs H Q=>(∃i,xs= [.int i]∧Q (.int i) H)∨ ∃k,xs= [.bl k]∧Q (.int (if k then 1 else 0)) H):=by
 intro pins s σ H xs us Q I r h;rcases h with⟨i,rfl,q⟩|⟨k,rfl,q⟩
 ·obtain⟨u,rfl,t,rfl⟩:=zc2 r;exact call_int_int ⟨.int i,H,I,⟨_,rfl⟩,q⟩
 ·obtain⟨u,rfl,r1⟩:=zc2 r;cases r1;exact call_int_bool ⟨.int (if k then 1 else 0),H,I.tok _,⟨_,rfl⟩,q⟩
theorem zem:zbK X (.builtin "divmod") (fun xs H Q=> ∃i j,xs= [.int i, .int j]∧zmD i j∧ ∀p,H p=none→Q (.ref p) (upd H p (.tup [.int (i / j), .int (i % j)]))):=by
 intro pins s σ H xs us Q I r h;obtain⟨i,j,rfl,⟨h1,h2⟩,q⟩:=h;obtain⟨u,w',rfl,⟨t,rfl⟩,⟨t',rfl⟩⟩:=znI r;refine divmod_int (by omega) ?_ (.inl (PyProof.noPylong_small (by omega)));rw[Int.fdiv_eq_ediv_of_nonneg i (by omega),Int.fmod_eq_emod_of_nonneg i (by omega)];have hn:H s.heap.objs.size=none:=I.hok.fresh (Nat.le_refl _);refine⟨.ref s.heap.objs.size,_,?_,rfl,q _ hn⟩;refine I.laid (fun b o e=>Heap.get?_push_of_some _ e) (Nat.le_refl _) ⟨by simp only[List.length_cons,List.length_nil];rw[sizeLine_eq];decide, [.int (i / j) s.toks, .int (i % j) (s.toks+1)], .cons ⟨_,rfl⟩ (.cons ⟨_,rfl⟩ .nil),?_⟩;exact⟨_,Heap.get?_push_size s.heap rfl,rfl,0,rfl⟩
end
end L2
namespace L2
open PySem PySem.Spec PyProof.Rows
structure ObjM (h:Heap) (x dx C:Addr) (mA:Str→Option Value):Prop where
 obj:h.get? x=some (PySem.W.instObj C dx)
 ns:h.Ns1 dx mA
 ne:dx≠x
theorem zjB{h:Heap}{dx:Addr}{mA:Str→Option Value}(n:h.Ns1 dx mA): ∃od,h.get? dx=some od∧ ∀name,PySem.W.lookIn name od=some (mA name):=by
 obtain⟨o,es,ep,ho,hd,hk,_,hm⟩:=n;refine⟨o,ho,fun name=> ?_⟩;have e:=hm name;unfold nsFind findBy at e;rw[←Array.find?_toList] at e;unfold PySem.W.lookIn;rw[hd];dsimp only;split
 ·rename_i y q;rw[q] at e;exact congrArg some e
 ·rename_i q;rw[q] at e;have a:es.toList.any (·.refKey)=false:=by
   rw[List.any_eq_false];intro y hy;obtain⟨z,t,hkey⟩:=hk y (Array.mem_toList_iff.mp hy);simp [DictEntry.refKey,hkey]
  have a': ¬es.toList.any (·.refKey)=true:=by rw[a];exact Bool.false_ne_true
  rw[if_neg a'];exact congrArg some e
theorem ObjM.look{h:Heap}{x dx C:Addr}{mA:Str→Option Value}(I:ObjM h x dx C mA): ∃od,PySem.W.InstAt h x (PySem.W.instObj C dx) C (some od)∧ ∀name,PySem.W.lookIn name od=some (mA name):=
 let ⟨od,ho,hl⟩:=zjB I.ns
 ⟨od,⟨I.obj,rfl,rfl,ho⟩,hl⟩
section
variable {prog:Program} {w:World} {A:Around} {E:Value→Shared→Prop} {s:Shared} {K:Fg} {x dx C f:Addr} {mA:Str→Option Value} {name:Str} {v:Value}
theorem zmF{expr:Bool}{Q:Value→Shared→Prop}(X:K.In s.heap)(I:ObjM s.heap x dx C mA)(hg:PySem.W.plainGet K C name=true)(hh:PySem.W.hasDictIn K C=true)
  (ha:PySem.W.findIn K (.ref C) name=some none) (hv:mA name=some v) (hv':PySem.W.handedIn v=true) (h:Q v {s with toks:=s.toks+1}):
  wpAny (model prog w) A (getAttr (.ref x) name expr) Q E s:=by
 obtain⟨od,J,hl⟩:=I.look;exact PySem.W.get_value X J (PySem.W.plainGet_of hg).1 (PySem.W.findObj_own hh ha rfl (by rw[hl,hv])) hv' h
theorem zkr{pl:Sem Bool}{Q:Value×List Value→Shared→Prop}(X:K.In s.heap)(I:ObjM s.heap x dx C mA)(hg:PySem.W.plainGet K C name=true)
  (hf:PySem.W.findIn K (.ref C) name=some (some (.ref f))) (ht:PySem.W.isFn K (.ref f)=true) (hv:mA name=none) (h:Q (.ref f, [.ref x]) s):
  wpAny (model prog w) A (getMethod (.ref x) name pl) Q E s:=by
 obtain⟨od,J,hl⟩:=I.look;exact PySem.W.method_fn X J (PySem.W.plainGet_of hg).1 (PySem.W.plainGet_of hg).2 hf (beq_iff_eq.mp ht) (by show (PySem.W.lookIn name od).map (·.isSome)=some false;rw[hl,hv];rfl) h
theorem zmG{ns:List Str}{Q:Unit→Shared→Prop}(X:K.In s.heap)(I:ObjM s.heap x dx C mA)
  (hs:PySem.W.findIn K (.ref C) "__setattr__"=some (some (.builtin "object.__setattr__"))) (hp:PySem.W.plainOver K C=true) (ht:PySem.W.takerIn K C name=some none) (hh:PySem.W.hasDictIn K C=true)
  (hw:PySem.Within mA ns) (hsz:ns.length≤sizeLine)
  (h: ∀h',ObjM h' x dx C (fun y=>if y=name then some v else mA y)→Heap.SameBut dx s.heap h'→Q () {s with heap:=h',toks:=s.toks+2}):
  wpAny (model prog w) A (setAttr (.ref x) name v) Q E s:=by
 obtain⟨od,J,hl⟩:=I.look;refine PySem.W.set_plain X J hs (PySem.W.osa_open (s:={s with toks:=s.toks+1}) (r:=none) X J hp ht fun b=> ?_);obtain⟨cd,hc,hd'⟩:=PySem.W.any_some hh;have hx:s.heap.get? x=some ⟨.ref C,some dx, .plain, #[]⟩:=I.obj;refine wpAny_bind (wpAny_pure (wpAny_bind (wpAny_bind (wpAny_loadPart hx (wpAny_bind (PySem.W.Looks.here (s:={s with toks:=s.toks+1}) (PySem.W.looks_clsIn X hc) ?_))))));rw[hd'];refine wpAny_pure (a:=some dx) (wpAny_bind (wpAny_pure (wpAny_bind ?_)));refine wpAny_nsSet1 (s:={s with toks:=s.toks+1}) I.ns fun h' hn2 hs2=> ?_;obtain⟨oD,esD,epD,hoD,hdD,hcD⟩:=hn2.count (PySem.Within.cons name v hw);refine wpAny_bind (wpAny_lookBehind hoD (by rw[hdD];exact pastItsLine_dict (Nat.le_trans hcD (by rw[List.length_cons];omega))) ?_);exact wpAny_pure (h _ ⟨(hs2.2 _ (Ne.symm I.ne)).trans I.obj,hn2,I.ne⟩ hs2)
theorem zks{R:Result→Shared→Prop}{vs:List Value}{kw:List (Str×Value)}(X:K.In s.heap)(hm:PySem.W.makesIn K C=true)
  (hi:PySem.W.findIn K (.ref C) "__init__"=some (some (.ref f))) (hf:PySem.W.typeIn K (.ref f)=some (.type "function"))
  (h:codeAny (model prog w) (A.under (.builtin "type.__call__" ⟨.ref C::vs,kw⟩)) (.call (.ref f) ⟨.ref (s.heap.objs.size+1)::vs,kw⟩) (PySem.W.InitBack (s.heap.objs.size+1) R)
   {s with heap:=(s.heap.push PySem.W.emptyDict).push (PySem.W.instObj C s.heap.objs.size)}):
  codeAny (model prog w) A (.call (.ref C) ⟨vs,kw⟩) R s:=by
 obtain⟨hh,g,d,t,os⟩:=s;exact PySem.W.make_core (PySem.W.makes_of X hm) (PySem.W.looks_findIn X hi) (fun self=>PySem.W.bind_fn X self hf) (.inl rfl) h
end
def zco(f:Str)(v:V):List (Str×V)→List (Str×V)
 | []=> [(f,v)]
 |(g,x)::r=>if g=f then (g,v)::r else (g,x)::zco f v r
theorem zen(f g:Str)(v:V): ∀fs:List (Str×V),(zco f v fs).lookup g=if g=f then some v else fs.lookup g
 | []=>by
  show List.lookup g [(f,v)]=_;by_cases h:g=f
  ·have hb:(g==f)=true:=beq_iff_eq.mpr h;simp only[List.lookup,hb,if_pos h]
  ·have hb:(g==f)=false:=beq_eq_false_iff_ne.mpr h;simp only[List.lookup,hb,if_neg h]
 |(k,x)::r=>by
  have ih:=zen f g v r;rw[show zco f v ((k,x)::r)=(if k=f then (k,v)::r else (k,x)::zco f v r) from rfl];by_cases hk:k=f
  ·rw[if_pos hk];by_cases h:g=k
   ·have hb:(g==k)=true:=beq_iff_eq.mpr h;simp only[List.lookup,hb,if_pos (h.trans hk)]
   ·have hb:(g==k)=false:=beq_eq_false_iff_ne.mpr h;simp only[List.lookup,hb,if_neg (fun e:g=f=>h (e.trans hk.symm))]
  ·rw[if_neg hk];by_cases h:g=k
   ·have hb:(g==k)=true:=beq_iff_eq.mpr h;simp only[List.lookup,hb,if_neg (fun e:g=f=>hk (h.symm.trans e))]
   ·have hb:(g==k)=false:=beq_eq_false_iff_ne.mpr h;simp only[List.lookup,hb];exact ih
theorem zd7(f:Str)(v:V): ∀fs:List (Str×V),f∈(zco f v fs).map (·.1)∧ ∀g,g∈fs.map (·.1)→g∈(zco f v fs).map (·.1)
 | []=>⟨by simp [zco],fun g h=>by simp at h⟩
 |(k,x)::r=>by
  obtain⟨i1,i2⟩:=zd7 f v r;rw[show zco f v ((k,x)::r)=(if k=f then (k,v)::r else (k,x)::zco f v r) from rfl];by_cases hk:k=f
  ·rw[if_pos hk];subst hk;exact⟨by simp,fun g h=>by simpa using h⟩
  ·rw[if_neg hk];refine⟨?_,fun g h=> ?_⟩
   ·rw[List.map_cons];exact List.mem_cons_of_mem _ i1
   ·rw[List.map_cons] at h ⊢;rcases List.mem_cons.mp h with e|e
    ·exact List.mem_cons.mpr (.inl e)
    ·exact List.mem_cons_of_mem _ (i2 g e)
theorem zeo(f:Str)(v:V): ∀fs:List (Str×V),(zco f v fs).length≤fs.length+1
 | []=>by simp [zco]
 |(k,x)::r=>by
  have ih:=zeo f v r;rw[show zco f v ((k,x)::r)=(if k=f then (k,v)::r else (k,x)::zco f v r) from rfl];by_cases hk:k=f
  ·rw[if_pos hk,List.length_cons,List.length_cons];omega
  ·rw[if_neg hk,List.length_cons,List.length_cons];omega
theorem zcN.some_of{v:V}{o:Option Value}(r:zcN (some v) o): ∃u,o=some u∧zaC v u:=by
 cases o with
 |none=>exact(show False from r).elim
 |some u=>exact⟨u,rfl,r⟩
theorem zcN.none_of{o:Option Value}(r:zcN none o):o=none:=by
 cases o with
 |none=>rfl
 |some u=>exact(show False from r).elim
theorem zjC{v:V}{u:Value}(r:zaC v u):PySem.W.handedIn u=true:=by
 cases v with
 |non=>cases (show u=Value.none from r);rfl
 |bl b=>cases (show u=Value.bool b from r);rfl
 |int i=>obtain⟨t,e⟩:=(show∃t,u=Value.int i t from r);cases e;rfl
 |str x=>obtain⟨t,e⟩:=(show∃t,u=Value.str x t from r);cases e;rfl
 |byt b=>obtain⟨t,e⟩:=(show∃t,u=Value.bytes b t from r);cases e;rfl
 |flt b=>obtain⟨t,e⟩:=(show∃t,u=Value.float b t from r);cases e;rfl
 |ref a=>cases (show u=Value.ref a from r);rfl
 |ty n=>cases (show u=Value.type n from r);rfl
section
variable {P:Program} {w:World} {H H':Hp} {h h':Heap} {a C dx:Addr} {fs fs':List (Str×V)}
theorem zgy(hok:HOk P w H h)(e:H a=some (.ins C dx fs)): ∃mA,ObjM h a dx C mA∧(∀f,zcN (fs.lookup f) (mA f))∧PySem.Within mA (fs.map (·.1))∧fs.length≤1000∧H dx=some (.own a):=by
 obtain⟨d,z,ne,ob,mA,n,r,q⟩:=(show zbh P w H h a (.ins C dx fs) from hok a _ e)
 exact⟨mA,⟨ob,n,ne⟩,r,q,z,d⟩
end
structure Cls (K:Fg) (C:Addr):Prop where
 pg:PySem.W.plainGet K C Str.empty=true
 hd:PySem.W.hasDictIn K C=true
 po:PySem.W.plainOver K C=true
 sa:PySem.W.findIn K (.ref C) "__setattr__"=some (some (.builtin "object.__setattr__"))
theorem Cls.get{K:Fg}{C:Addr}(c:Cls K C)(f:Str):PySem.W.plainGet K C f=true:=c.pg
def zcx(K:Fg)(C:Addr)(f:Str):Prop:=PySem.W.findIn K (.ref C) f=some none
theorem zcx.taker{K:Fg}{C:Addr}{f:Str}(n:zcx K C f):PySem.W.takerIn K C f=some none:=by
 unfold PySem.W.takerIn;rw[show PySem.W.findIn K (.ref C) f=some none from n];rfl
structure Con (K:Fg) (C:Addr) (f:Str) (v:V) (u:Value):Prop where
 at_:PySem.W.findIn K (.ref C) f=some (some u)
 rel:zaC v u
 get:PySem.W.specialIn K u "__get__"=some none
 cp:PySem.W.copiedNames.contains f=false
structure Meth (K:Fg) (C:Addr) (m:Str) (f:Addr):Prop where
 at_:PySem.W.findIn K (.ref C) m=some (some (.ref f))
 fn:PySem.W.isFn K (.ref f)=true
 kp:PySem.W.keepIn K (.ref f)=true
section
variable {X:Cx} {pins:List (Addr×Obj)} {σ:St} {H:Hp} {s:Shared} {a C dx:Addr} {fs:List (Str×V)} {f:Str} {v:V} {A:Around} {E:Value→Shared→Prop}
theorem zeN{b:Bool}{Q:Value→Shared→Prop}(I:Inv X pins σ H s)(e:H a=some (.ins C dx fs))(c:Cls X.K C)(n:zcx X.K C f)(l:fs.lookup f=some v)
  (h: ∀u s',Inv X pins σ H s'→zaC v u→Q u s'):wpAny (model X.prog X.w) A (getAttr (.ref a) f b) Q E s:=by
 obtain⟨mA,O,r,_,_,_⟩:=zgy I.hok e;obtain⟨u,hu,ru⟩:=zcN.some_of (v:=v) (o:=mA f) (by rw[←l];exact r f);exact zmF I.kIn O (c.get f) c.hd n hu (zjC ru) (h u _ (I.tok _) ru)
theorem zeO{m:Str}{g:Addr}{pl:Sem Bool}{Q:Value×List Value→Shared→Prop}(I:Inv X pins σ H s)(e:H a=some (.ins C dx fs))(c:Cls X.K C)(k:Meth X.K C m g)(l:fs.lookup m=none)
  (h:Q (.ref g, [.ref a]) s):wpAny (model X.prog X.w) A (getMethod (.ref a) m pl) Q E s:=by
 obtain⟨mA,O,r,_,_,_⟩:=zgy I.hok e;have hn:mA m=none:=zcN.none_of (by rw[←l];exact r m);exact zkr I.kIn O (c.get m) k.at_ k.fn hn h
theorem zeP{y:V}{u:Value}{Q:Unit→Shared→Prop}(I:Inv X pins σ H s)(e:H a=some (.ins C dx fs))(c:Cls X.K C)(n:zcx X.K C f)(hl:fs.length<1000)(ry:zaC y u)
  (h: ∀s',Inv X pins σ (upd H a (.ins C dx (zco f y fs))) s'→Q () s'):wpAny (model X.prog X.w) A (setAttr (.ref a) f u) Q E s:=by
 obtain⟨mA,O,r,wi,_,ho⟩:=zgy I.hok e;have hz:(fs.map (·.1)).length≤sizeLine:=by rw[List.length_map,sizeLine_eq];omega
 refine zmG I.kIn O c.sa c.po n.taker c.hd wi hz fun h' O' sb=>h _ ?_;have hd: ∃o,h'.get? dx=some o:=let ⟨o,_,_,e',_⟩:=O'.ns;⟨o,e'⟩;refine I.write (x:=a) (e:=dx) (by rw[e];exact True.intro) (.inr ho) (fun b q hb z=>(sb.2 b hb).trans z) hd ?_;refine⟨by rw[zal O.ne];exact ho,?_,O.ne,O'.obj,_,O'.ns,fun g=> ?_,fun g hg=> ?_⟩
 ·have:=zeo f y fs;omega
 ·show zcN ((zco f y fs).lookup g) (if g=f then some u else mA g);rw[zen];by_cases q:g=f
  ·rw[if_pos q,if_pos q];exact ry
  ·rw[if_neg q,if_neg q];exact r g
 ·by_cases q:g=f
  ·rw[q];exact(zd7 f y fs).1
  ·refine(zd7 f y fs).2 g (wi g fun z=>hg ?_);show (if g=f then some u else mA g)=none;rw[if_neg q];exact z
theorem Inv.made(I:Inv X pins σ H s):Inv X pins σ (upd (upd H s.heap.objs.size (.own (s.heap.objs.size+1))) (s.heap.objs.size+1) (.ins C s.heap.objs.size []))
  {s with heap:=(s.heap.push PySem.W.emptyDict).push (PySem.W.instObj C s.heap.objs.size)}:=by
 have e1:(s.heap.push PySem.W.emptyDict).get? s.heap.objs.size=some PySem.W.emptyDict:=Heap.get?_push_size s.heap rfl;have e2:((s.heap.push PySem.W.emptyDict).push (PySem.W.instObj C s.heap.objs.size)).get? (s.heap.objs.size+1)=some (PySem.W.instObj C s.heap.objs.size):=by
  have:=Heap.get?_push_size (s.heap.push PySem.W.emptyDict) (o:=PySem.W.instObj C s.heap.objs.size) rfl;rwa[Heap.size_push] at this
 have e3:(s.heap.push PySem.W.emptyDict).Ns s.heap.objs.size (fun _=>none):=⟨PySem.W.emptyDict, #[],_,e1,rfl,(fun e he=>absurd he (by simp)),fun _=>rfl⟩
 have I1:=I.laid (a:=s.heap.objs.size) (o:= .own (s.heap.objs.size+1)) (h':=s.heap.push PySem.W.emptyDict) (t':=s.toks) (fun b u q=>Heap.get?_push_of_some _ q) (Nat.le_refl _) ⟨_,e1⟩;refine I1.laid (a:=s.heap.objs.size+1) (o:= .ins C s.heap.objs.size []) (t':=s.toks) (fun b u q=>Heap.get?_push_of_some _ q) (Nat.le_of_eq (Heap.size_push _ _)) ?_;have ne:s.heap.objs.size≠s.heap.objs.size+1:=Nat.ne_of_lt (Nat.lt_succ_self _);refine⟨by rw[zal ne,zao],Nat.zero_le _,ne,e2,fun _=>none,(Heap.Ns1.of_empty e3).at fun o q=>Heap.get?_push_of_some _ q,fun _=>True.intro,fun y hy=>absurd rfl hy⟩
theorem zmH{prog:Program}{w:World}{env:Env}{e:Expr}{f:Str}{pos:Pos}{s:Shared}{Q:Value→Shared→Prop}(hb:attributeBase e f env (eval e env)=eval e env)
  (h:wpAny (model prog w) A (eval e env) (fun o s₁=>wpAny (model prog w) A (getAttr o f true) Q E s₁) E s):wpAny (model prog w) A (eval (.Attribute e f pos) env) Q E s:=
 Attribute_any_ h (by rw[arm_eval_Attribute,hb])
end
def zp3(K:Fg)(ta:TE)(f:Str):TE:=fun σ H Q=>ta σ H fun x H1=> ∃a C dx fs v,x= .ref a∧H1 a=some (.ins C dx fs)∧Cls K C∧zcx K C f∧fs.lookup f=some v∧Q v H1
def zp4(K:Fg)(ta tv:TE)(f:Str):TS:=fun D σ H=>tv σ H fun y H1=>ta σ H1 fun x H2=> ∃a C dx fs,x= .ref a∧H2 a=some (.ins C dx fs)∧Cls K C∧zcx K C f∧fs.length<1000∧
 D.nx σ (upd H2 a (.ins C dx (zco f y fs)))
def zoj(X:Cx)(op:Operator)(rd:V→V→Hp→VK→Prop):Prop:=
 ∀(pins:List (Addr×Obj)) (s:Shared) (σ:St) (H:Hp) (x y:V) (u v:Value) (Q:VK),Inv X pins σ H s→zaC x u→zaC y v→rd x y H Q→wpAny (model X.prog X.w) X.A (inplaceOp op u v) (EP X pins σ Q) X.xe s
def ziR(K:Fg)(ta tv:TE)(rd:V→V→Hp→VK→Prop)(f:Str):TS:=fun D σ H=>ta σ H fun x H1=> ∃a C dx fs v,x= .ref a∧H1 a=some (.ins C dx fs)∧Cls K C∧zcx K C f∧fs.lookup f=some v∧
 tv σ H1 fun y H2=>rd v y H2 fun z H3=> ∃dx' fs',H3 a=some (.ins C dx' fs')∧fs'.length<1000∧D.nx σ (upd H3 a (.ins C dx' (zco f z fs')))
section
variable {X:Cx} {o e value:Expr} {f:Str} {pos pos' tpos:Pos} {ta tv:TE}
theorem zd8(he:PE X e ta)(hb:attributeBase e f X.env (eval e X.env)=eval e X.env):PE X (.Attribute e f pos) (zp3 X.K ta f):=by
 intro pins s σ H Q I h;refine zmH hb (thn (he pins s σ H _ I h) fun u s1 ⟨x,H1,I1,rx,a,C,dx,fs,v,ex,ea,c,n,l,q⟩=> ?_);subst ex;obtain rfl:u=Value.ref a:=rx;exact zeN I1 ea c n l fun u' s2 I2 ru=>⟨v,H1,I2,ru,q⟩
theorem zgz(ha:PE X o ta)(hv:PE X value tv)(hs:swapsWith value (some (.Attribute o f pos')) pos.line X.env=pure false):PS X (.Assign [.Attribute o f pos'] value pos) (zp4 X.K ta tv f):=by
 intro pins s σ H D I h;refine plainObj_wpAny_Assign_Attribute (thn (hv pins s σ H _ I h) fun u s1 ⟨y,H1,I1,ry,q⟩=>thn (ha pins s1 σ H1 _ I1 q) fun ov s2 ⟨x,H2,I2,rx,a,C,dx,fs,ex,ea,c,n,l,q2⟩=> ?_) hs;subst ex;obtain rfl:ov=Value.ref a:=rx;exact zeP I2 ea c n l ry fun s3 I3=>⟨σ,_,I3,q2⟩
theorem zcA{op:Operator}{rd:V→V→Hp→VK→Prop}(ha:PE X o ta)(hv:PE X value tv)(hop:zoj X op rd):PS X (.AugAssign (.Attribute o f tpos) op value pos) (ziR X.K ta tv rd f):=by
 intro pins s σ H D I h;refine wpAny_AugAssign_AttributeAny (thn (ha pins s σ H _ I h) fun ov s1 ⟨x,H1,I1,rx,a,C,dx,fs,v,ex,ea,c,n,l,q⟩=> ?_);subst ex;obtain rfl:ov=Value.ref a:=rx;refine zeN I1 ea c n l fun u s2 I2 ru=>thn (hv pins s2 σ H1 _ I2 q) fun w3 s3 ⟨y,H2,I3,ry,q3⟩=>thn (hop pins s3 σ H2 v y u w3 _ I3 ru ry q3) fun w4 s4 ⟨z,H3,I4,rz,dx',fs',ea',l',q4⟩=> ?_;exact zeP I4 ea' c n l' rz fun s5 I5=>⟨σ,_,I5,q4⟩
def zp5:V→V→Hp→VK→Prop:=fun x y H Q=> ∃i j,x= .int i∧y= .int j∧Q (.int (i+j)) H
def zp6:V→V→Hp→VK→Prop:=fun x y H Q=> ∃i j,x= .int i∧y= .int j∧Q (.int (i - j)) H
theorem zh1:zoj X .Add zp5:=by
 rintro pins s σ H x y u v Q I rx ry ⟨i,j,rfl,rfl,q⟩;obtain⟨t,rfl⟩:=(show∃t,u=Value.int i t from rx)
 obtain⟨t',rfl⟩:=(show∃t',v=Value.int j t' from ry)
 exact PyProof.Rows.iadd_int ⟨.int (i+j),H,I.tok _,⟨_,rfl⟩,q⟩
theorem zkt:zoj X .Sub zp6:=by
 rintro pins s σ H x y u v Q I rx ry ⟨i,j,rfl,rfl,q⟩;obtain⟨t,rfl⟩:=(show∃t,u=Value.int i t from rx)
 obtain⟨t',rfl⟩:=(show∃t',v=Value.int j t' from ry)
 exact PyProof.Rows.isub_int ⟨.int (i - j),H,I.tok _,⟨_,rfl⟩,q⟩
end
section
variable {X:Cx} {pins:List (Addr×Obj)} {σ:St} {H:Hp} {s:Shared} {A:Around} {E:Value→Shared→Prop} {Q:Value→Shared→Prop} {c:Value} {b:Bool}
inductive TyOf (K:Fg) (H:Hp):V→Value→Prop where
 |non:TyOf K H .non (.type "NoneType")
 |bl (x:Bool):TyOf K H (.bl x) (.type "bool")
 |int (i:Int):TyOf K H (.int i) (.type "int")
 |str (x:Str):TyOf K H (.str x) (.type "str")
 |flt (x:UInt64):TyOf K H (.flt x) (.type "float")
 |lst {a:Addr} {xs:List V} (e:H a=some (.lst xs)):TyOf K H (.ref a) (.type "list")
 |frz {a:Addr} {o:Obj} {xs:List V} (e:H a=some (.frz o (.lst xs))):TyOf K H (.ref a) (.type "list")
 |tup {a:Addr} {xs:List V} (e:H a=some (.tup xs)):TyOf K H (.ref a) (.type "tuple")
 |dK {a:Addr} {kvs:List (Key×V)} (e:H a=some (.dK kvs)):TyOf K H (.ref a) (.type "dict")
 |dT {a:Addr} {kvs:List (List Key×V)} (e:H a=some (.dT kvs)):TyOf K H (.ref a) (.type "dict")
 |ins {a C dx:Addr} {fs:List (Str×V)} (e:H a=some (.ins C dx fs)) (cl:Cls K C) (ha:PySem.W.findIn K (.ref C) "__class__"=some (some (.builtin "object.__class__")))
   (hn:PySem.W.specialIn K (.builtin "object.__class__") "__get__"=some (some (.builtin "getset_descriptor.__get__"))) (htk:PySem.W.takesIn K (.builtin "object.__class__")=some true)
   (hm:PySem.W.mroIn K C (.type "object")=some true):TyOf K H (.ref a) (.ref C)
end
end L2
namespace L2
open PySem PySem.Spec PyProof.Rows
structure Room (k:Nat) (A:Around):Prop where
 hd:A.handled=none
 dp:A.depth+3*k+5<recursionLimit
 un:A.units+16*k+200<cLine
theorem Room.mono{j k:Nat}{A:Around}(r:Room k A)(h:j≤k):Room j A:=⟨r.hd,by have:=r.dp;omega,by have:=r.un;omega⟩
theorem Room.deeper{k:Nat}{A:Around}(r:Room (k+1) A)(env:Env):Room k (A.deeper env):=
 ⟨r.hd,by have:=r.dp;show A.depth+1+3*k+5<_;omega,by have:=r.un;show A.units+3+16*k+200<_;omega⟩
theorem Room.in1{k:Nat}{A:Around}(r:Room (k+1) A):Room k A.in1:=
 ⟨r.hd,by have:=r.dp;show A.depth+3*k+5<_;omega,by have:=r.un;show A.units+1+16*k+200<_;omega⟩
theorem zh2{A:Around}{C:Addr}{us:List Value}{kw:List (Str×Value)}:(A.under (.builtin "type.__call__" ⟨.ref C::us,kw⟩)).depth=A.depth+1:=by
 first|rfl|simp [Around.under,Code.weight,Code.isCreation,Code.isGuard,Code.isCaller,Code.frames,Code.isFrame,guardIds]
theorem zh3{A:Around}{C:Addr}{us:List Value}{kw:List (Str×Value)}:(A.under (.builtin "type.__call__" ⟨.ref C::us,kw⟩)).units=A.units+1:=by
 first|rfl|simp [Around.under,Code.cUnits,Code.frames,Code.isFrame]
theorem Room.make{k:Nat}{A:Around}(r:Room (k+1) A)(C:Addr)(us:List Value)(kw:List (Str×Value)):Room k (A.under (.builtin "type.__call__" ⟨.ref C::us,kw⟩)):=
 ⟨r.hd,by have:=r.dp;rw[zh2];omega,by have:=r.un;rw[zh3];omega⟩
theorem Room.depth{k:Nat}{A:Around}(r:Room k A):A.depth<recursionLimit:=by have:=r.dp;omega
theorem Room.units{k:Nat}{A:Around}(r:Room k A):A.units+64<cLine:=by have:=r.un;omega
theorem Room.units0{k:Nat}{A:Around}(r:Room k A):A.units<cLine:=by have:=r.un;omega
def zku:TA:=fun _ H Q=>Q [] H
def zkv(ta:TE)(tr:TA):TA:=fun σ H Q=>ta σ H fun x H1=>tr σ H1 fun xs H2=>Q (x::xs) H2
section
variable {X:Cx} {e:Expr} {es:List Expr} {te:TE} {t:TA} {pos:Pos}
theorem zae:PA X [] zku:=fun _ _ _ _ H Q I h=>Calls.spliced_nil ⟨[],H,I, .nil,h⟩
theorem zaa(ha:PE X e te)(hr:PA X es t)(hs:starEach (e::es) X.env=(false,eval e X.env)::starEach es X.env:=by rfl):PA X (e::es) (zkv te t):=by
 intro pos pins s σ H Q I h;rw[hs];show wpAny _ _ (spliced ((false,eval e X.env)::backTo pos (starEach es X.env))) _ _ s;refine Calls.spliced_cons (thn (ha pins s σ H _ I h) fun u s1 ⟨x,H1,I1,r1,q1⟩=> ?_);exact thn (hr pos pins s1 σ H1 _ I1 q1) fun us s2 ⟨xs,H2,I2,r2,q2⟩=>⟨x::xs,H2,I2, .cons r1 r2,q2⟩
def zp7(t:TA):TE:=fun σ H Q=>t σ H fun xs H1=>xs.length≤sizeLine∧ ∀p,H1 p=none→Q (.ref p) (upd H1 p (.tup xs))
theorem zok{x1}(h:PA X es t):PE X (.Tuple es x1 pos) (zp7 t):=by
 intro pins s σ H Q I hq;refine wpAny_Tuple_spliced (thn (h pos pins s σ H _ I hq) fun us s1 ⟨xs,H1,I1,r,z,q⟩=>⟨by rw[←r.length];exact z,?_⟩);have hf:H1 s1.heap.objs.size=none:=I1.hok.fresh (Nat.le_refl _);refine⟨.ref s1.heap.objs.size,upd H1 s1.heap.objs.size (.tup xs),I1.laid (t':=s1.toks) (fun b u e=>Heap.get?_push_of_some _ e) (Nat.le_refl _) ?_,rfl,q _ hf⟩;exact⟨z,us,r,⟨_,Heap.get?_push_size _ rfl,rfl,_,rfl⟩⟩
end
abbrev Sp:=List V→Hp→VK→XK→Prop
abbrev CXT:=List Env→Hp→Shared→XK→Value→Shared→Prop
structure Env0 (P:Program) (w:World) (K:Fg) (mg:Str→Option Value) (base:Heap) (A:Around) (outer:List Env) (s:Shared) (H:Hp):Prop where
 frames:A.frames=some outer
 mod:Mod K mg base
 bs: ∀b o,base.get? b=some o→s.heap.get? b=some o∧H b=none
 bsz:base.objs.size≤s.heap.objs.size
 funs:s.heap.FunFrames base outer
 frf: ∀b∈frs outer,H b=none
 hok:HOk P w H s.heap
 bare:AllBare s.gens
def CE(outer:List Env)(P:Program)(w:World)(H:Hp)(s:Shared)(Q:VK)(u:Value)(s':Shared):Prop:=
 ∃v H',s'.os=s.os∧AllBare s'.gens∧Un (frs outer) [] H H' s.heap s'.heap∧HOk P w H' s'.heap∧zaC v u∧Q v H'
def CR(CX:CXT)(outer:List Env)(P:Program)(w:World)(H:Hp)(s:Shared)(Q:VK)(E:XK)(r:Result)(s':Shared):Prop:=
 match r with
 | .ok (.ret u)=>CE outer P w H s Q u s'
 | .ok _=>False
 | .error e=>CX outer H s E e s'
structure FnOk (P:Program) (w:World) (K:Fg) (mg:Str→Option Value) (base:Heap) (CX:CXT) (k:Nat) (f:Addr) (fd:FuncData) (ps:List Str) (sp:Sp):Prop where
 len: ∀vs H Q E,sp vs H Q E→vs.length=ps.length
 run: ∀(A:Around) (outer:List Env) (s:Shared) (H:Hp) (args:Args) (us:List Value) (vs:List V) (Q:VK) (E:XK),Room k A→Env0 P w K mg base A outer s H→BindsTo s fd args (ps.zip us)→zaI vs us→sp vs H Q E→
  codeAny (model P w) A (.call (.ref f) args) (CR CX outer P w H s Q E) s
theorem FnOk.mono{P:Program}{w:World}{K:Fg}{mg:Str→Option Value}{base:Heap}{CX:CXT}{j k:Nat}{f:Addr}{fd:FuncData}{ps:List Str}{sp:Sp}(F:FnOk P w K mg base CX j f fd ps sp)(h:j≤k):
  FnOk P w K mg base CX k f fd ps sp:=⟨F.len,fun A outer s H args us vs Q E hr=>F.run A outer s H args us vs Q E (hr.mono h)⟩
theorem Env0.make{P:Program}{w:World}{K:Fg}{mg:Str→Option Value}{base:Heap}{A:Around}{outer:List Env}{s:Shared}{H:Hp}(e:Env0 P w K mg base A outer s H)(C:Addr)(us:List Value)(kw:List (Str×Value)):
  Env0 P w K mg base (A.under (.builtin "type.__call__" ⟨.ref C::us,kw⟩)) outer s H:=⟨by first|exact e.frames|(simpa [Around.under,Code.envs,Code.isFrame,pushEnvs] using e.frames),e.mod,e.bs,e.bsz,e.funs,e.frf,e.hok,e.bare⟩
theorem Env0.in1{P:Program}{w:World}{K:Fg}{mg:Str→Option Value}{base:Heap}{A:Around}{outer:List Env}{s:Shared}{H:Hp}(e:Env0 P w K mg base A outer s H):
  Env0 P w K mg base A.in1 outer s H:=⟨e.frames,e.mod,e.bs,e.bsz,e.funs,e.frf,e.hok,e.bare⟩
section
variable {X:Cx} {pins:List (Addr×Obj)} {σ:St} {H:Hp} {s s':Shared}
theorem Inv.env0(I:Inv X pins σ H s):Env0 X.prog X.w X.K X.mg X.base X.A X.stack s H:=
 ⟨I.ok.frames,I.ok.mod,I.bs,Nat.le_trans I.ok.bsz I.sz,I.stack,I.stkFree,I.hok,I.bare⟩
theorem Inv.after{Q:VK}{u:Value}(I:Inv X pins σ H s)(h:CE X.stack X.prog X.w H s Q u s'):EP X pins σ Q u s':=by
 obtain⟨v,H',os,bare,un,hok,r,q⟩:=h;obtain⟨hh,g,d,t,os'⟩:=s';obtain rfl:os'=s.os:=os;exact⟨v,H',I.call (h':=hh) (g':=g) (d':=d) (t':=t) (ch:= []) un hok bare (fun b z=>absurd z (by simp)),r,q⟩
end
def zkw(C:Addr)(m:Str)(sp:Sp)(dvs:List V)(E:XK)(ta:TE)(t:TA):TE:=fun σ H Q=>ta σ H fun x H1=> ∃a dx fs,x= .ref a∧H1 a=some (.ins C dx fs)∧fs.lookup m=none∧
 t σ H1 fun vs H2=>sp (x::(vs++dvs)) H2 Q E
def znJ(C:Addr)(sp:Sp)(dvs:List V)(E:XK)(t:TA):TE:=fun σ H Q=>t σ H fun vs H1=> ∀x dx,H1 x=none→H1 dx=none→dx≠x→
 sp (.ref x::(vs++dvs)) (upd (upd H1 dx (.own x)) x (.ins C dx [])) (fun v H2=>v= .non∧Q (.ref x) H2) E
def zbM(K:Fg)(fd:FuncData)(ps:List Str)(ds:List Value):Prop:=
 ∀(s:Shared) (us:List Value),K.In s.heap→(us++ds).length=ps.length→BindsTo s fd ⟨us, []⟩ (ps.zip (us++ds))
theorem zbM.all{K:Fg}{fd:FuncData}{ps:List Str}(h: ∀us:List Value,us.length=ps.length→bindArgs fd ⟨us, []⟩=pure (ps.zip us)):zbM K fd ps []:=fun s us _ hl=>by
 rw[List.append_nil] at hl ⊢;exact .of_eq (h us hl)
def zd9(CX:CXT)(X:Cx)(E:XK):Prop:= ∀(pins:List (Addr×Obj)) (σ:St) (H:Hp) (s:Shared) (e:Value) (s':Shared),Inv X pins σ H s→CX X.stack H s E e s'→X.xe e s'
section
variable {X:Cx} {CX:CXT} {k:Nat} {f C:Addr} {fd:FuncData} {ps:List Str} {sp:Sp} {dvs:List V} {ds:List Value} {E:XK} {x m:Str} {p pos apos:Pos} {e o:Expr} {es:List Expr} {ta:TE} {t:TA}
theorem zkx{pins:List (Addr×Obj)}{σ:St}{H:Hp}{s:Shared}{Q:VK}{us:List Value}{vs:List V}(F:FnOk X.prog X.w X.K X.mg X.base CX k f fd ps sp)(hr:Room k X.A)(hb:zbM X.K fd ps ds)(hd:zaI dvs ds)(hx:zd9 CX X E)
  (I:Inv X pins σ H s) (r:zaI vs us) (h:sp (vs++dvs) H Q E):wpAny (model X.prog X.w) X.A (call (.ref f) us) (EP X pins σ Q) X.xe s:=by
 have r2:zaI (vs++dvs) (us++ds):=r.append hd;have hl:(us++ds).length=ps.length:=by rw[←r2.length];exact F.len _ _ _ _ h
 refine wpAny_call (codeAny_mono (F.run X.A X.stack s H ⟨us, []⟩ (us++ds) (vs++dvs) Q E hr I.env0 (hb s us I.kIn hl) r2 h) fun r s' hq=> ?_);cases r with
 |error e=>exact hx pins σ H s e s' I hq
 |ok fl=>
  cases fl with
  |ret u=>exact I.after hq
  |next=>exact False.elim hq
  |brk=>exact False.elim hq
  |cont=>exact False.elim hq
theorem zdh{pl:Sem Bool}(he:PE X o ta)(c:Cls X.K C)(hm:Meth X.K C m f)(F:FnOk X.prog X.w X.K X.mg X.base CX k f fd ps sp)(hr:Room k X.A)(hb:zbM X.K fd ps ds)(hd:zaI dvs ds)(hx:zd9 CX X E)(ha:PA X (e::es) t)
  (hst:starEach (e::es) X.env=(false,eval e X.env)::starEach es X.env:=by rfl) (hpl:(backTo pos (starEach es X.env)).any (·.1)=false:=by rfl)
  (ht:eval (.Call (.Attribute o m apos) (e::es) [] pos) X.env=(do
   let ov←eval o X.env
   standAt apos.atName
   let (f,first)←holding [ov] (getMethod ov m pl)
   callWith pos f first (backTo pos (starEach (e::es) X.env)) (backToKw pos (keywordEach [] X.env))):=by rfl):
  PE X (.Call (.Attribute o m apos) (e::es) [] pos) (zkw C m sp dvs E ta t):=by
 intro pins s σ H Q I h;refine PySem.W.methodCall_KW (pl:=pl) (thn (he pins s σ H _ I h) fun u s1 ⟨x,H1,I1,rx,a,dx,fs,ex,ea,l,q⟩=> ?_) ht;subst ex;obtain rfl:u=Value.ref a:=rx;refine zeO I1 ea c hm l ?_;refine PySem.W.callWith_K (first:= [.ref a]) (h₀:=X.base) I.ok.mod.kin hm.kp (thn (ha pos pins s1 σ H1 _ I1 q) fun us s2 ⟨vs,H2,I2,r,q2⟩=>⟨I2.kIn,?_⟩) hst hpl;exact zkx (us:= .ref a::us) (vs:= .ref a::vs) F hr hb hd hx I2 (.cons rfl r) q2
theorem zky{pl:Sem Bool}(he:PE X o ta)(c:Cls X.K C)(hm:Meth X.K C m f)(F:FnOk X.prog X.w X.K X.mg X.base CX k f fd ps sp)(hr:Room k X.A)(hb:zbM X.K fd ps ds)(hd:zaI dvs ds)(hx:zd9 CX X E)
  (ht:eval (.Call (.Attribute o m apos) [] [] pos) X.env=(do
   let ov←eval o X.env
   standAt apos.atName
   let (f,first)←holding [ov] (getMethod ov m pl)
   callWith pos f first (backTo pos (starEach [] X.env)) (backToKw pos (keywordEach [] X.env))):=by rfl):
  PE X (.Call (.Attribute o m apos) [] [] pos) (zkw C m sp dvs E ta zku):=by
 intro pins s σ H Q I h;refine PySem.W.methodCall_KW (pl:=pl) (thn (he pins s σ H _ I h) fun u s1 ⟨x,H1,I1,rx,a,dx,fs,ex,ea,l,q⟩=> ?_) ht;subst ex;obtain rfl:u=Value.ref a:=rx;refine zeO I1 ea c hm l ?_;exact PySem.W.callWith_K0 (first:= [.ref a]) I1.kIn hm.kp (zkx (us:= [.ref a]) (vs:= [.ref a]) F hr hb hd hx I1 (.cons rfl .nil) q)
structure Mk (K:Fg) (C f:Addr):Prop where
 makes:PySem.W.makesIn K C=true
 init:PySem.W.findIn K (.ref C) "__init__"=some (some (.ref f))
 fn:PySem.W.isFn K (.ref f)=true
 kp:PySem.W.keepIn K (.ref C)=true
theorem zkz{pins:List (Addr×Obj)}{σ:St}{H:Hp}{s:Shared}{Q:VK}{us:List Value}{vs:List V}(M:Mk X.K C f)(F:FnOk X.prog X.w X.K X.mg X.base CX k f fd ps sp)(hr:Room (k+1) X.A)(hb:zbM X.K fd ps ds)(hd:zaI dvs ds)
  (hx:zd9 CX X E) (I:Inv X pins σ H s) (r:zaI vs us)
  (h: ∀x dx,H x=none→H dx=none→dx≠x→sp (.ref x::(vs++dvs)) (upd (upd H dx (.own x)) x (.ins C dx [])) (fun v H2=>v= .non∧Q (.ref x) H2) E):
  wpAny (model X.prog X.w) X.A (call (.ref C) us) (EP X pins σ Q) X.xe s:=by
 have hq:=h (s.heap.objs.size+1) s.heap.objs.size (I.hok.fresh (Nat.le_succ _)) (I.hok.fresh (Nat.le_refl _)) (Nat.ne_of_lt (Nat.lt_succ_self _));have I2:=Inv.made (C:=C) I;have r2:zaI (V.ref (s.heap.objs.size+1)::(vs++dvs)) (Value.ref (s.heap.objs.size+1)::(us++ds)):= .cons rfl (r.append hd);have hl:(Value.ref (s.heap.objs.size+1)::us++ds).length=ps.length:=by
  have e:=r2.length;rw[F.len _ _ _ _ hq] at e;exact e.symm
 refine wpAny_call (zks (f:=f) I.kIn M.makes M.init (beq_iff_eq.mp M.fn) (codeAny_mono (F.run _ X.stack _ _ ⟨Value.ref (s.heap.objs.size+1)::us, []⟩ (Value.ref (s.heap.objs.size+1)::(us++ds)) _ _ E (hr.make C us [])
  (I2.env0.make C us []) (hb _ (Value.ref (s.heap.objs.size+1)::us) I2.kIn hl) r2 hq) fun r s' hq'=> ?_))
 cases r with
 |error e=>exact hx pins σ _ _ e s' I2 hq'
 |ok fl=>
  cases fl with
  |ret u=>
   obtain⟨v,H',I3,rv,ev,q3⟩:=I2.after hq';subst ev;exact⟨rv,⟨V.ref (s.heap.objs.size+1),H',I3,rfl,q3⟩⟩
  |next=>exact False.elim hq'
  |brk=>exact False.elim hq'
  |cont=>exact False.elim hq'
theorem zkA(M:Mk X.K C f)(F:FnOk X.prog X.w X.K X.mg X.base CX k f fd ps sp)(hr:Room (k+1) X.A)(hg:Gl X x)(hm:X.mg x=some (.ref C))(hb:zbM X.K fd ps ds)(hd:zaI dvs ds)(hx:zd9 CX X E)
  (hdb:(x==("__debug__":Str))=false:=by decide):PE X (.Call (.Name x p) [] [] pos) (znJ C sp dvs E zku):=by
 intro pins s σ H Q I h;refine wpAny_Call_Name_kw (zdK I hg hm ?_ hdb);exact PySem.W.callWith_K0 I.kIn M.kp (zkz (us:= []) M F hr hb hd hx I .nil h)
end
section
variable {X:Cx} {CX:CXT} {k:Nat} {f C:Addr} {fd:FuncData} {ps ks:List Str} {sp:Sp} {E:XK} {x m:Str} {p pos apos kpos:Pos} {e o:Expr} {es:List Expr} {kws:List Keyword} {te ta:TE} {t tk:TA} {nm:Option Str}
structure KBinds (K:Fg) (fd:FuncData) (ps ks:List Str) (g:List Value→List Value→List Value) (gV:List V→List V→List V):Prop where
 to: ∀(s:Shared) (us ws:List Value),K.In s.heap→(g us ws).length=ps.length→BindsTo s fd ⟨us,ks.zip ws⟩ (ps.zip (g us ws))
 rel: ∀{vs:List V} {us:List Value} {zs:List V} {ws:List Value},zaI vs us→zaI zs ws→zaI (gV vs zs) (g us ws)
variable {g:List Value→List Value→List Value} {gV:List V→List V→List V}
end
structure FnScope (N P:List Str) (sc:Scope):Prop where
 kind:sc.kind= .function
 co:sc.isCoroutine=false
 gen:sc.isGenerator=false
 nd:N.Nodup
 pre:N.take P.length=P
 par: ∀x∈P,sc.names.lookup x=some .local∨sc.names.lookup x=some .cell
 nofree: ∀y∈sc.names,y.2≠ .free
theorem zfR{kindOf:Str→Option NameKind}{x:Str}: ∀{binds:List (Str×Value)} {m:Str→Option Value},(∀v,(x,v)∉binds)→bindL kindOf binds m x=m x
 | [],_,_=>rfl
 |(n,v)::r,m,h=>by
  unfold bindL;rw[zfR fun w hw=>h w (List.mem_cons_of_mem _ hw)];split
  ·have:x≠n:=by rintro rfl;exact h v List.mem_cons_self
   simp [this]
  ·rfl
theorem zfS{kindOf:Str→Option NameKind}{x:Str}: ∀{binds:List (Str×Value)} {m:Str→Option Value},(∀v,(x,v)∉binds)→bindC kindOf binds m x=m x
 | [],_,_=>rfl
 |(n,v)::r,m,h=>by
  unfold bindC;rw[zfS fun w hw=>h w (List.mem_cons_of_mem _ hw)];split
  ·rfl
  ·have:x≠n:=by rintro rfl;exact h v List.mem_cons_self
   simp [this]
theorem zfT{kindOf:Str→Option NameKind}{x:Str}{v:Value}: ∀{P:List Str} {vs:List Value} {i:Nat} {m:Str→Option Value},P.Nodup→P[i]? =some x→vs[i]? =some v→kindOf x=some .local→
  bindL kindOf (P.zip vs) m x=some v
 | [],_,_,_,_,h,_,_=>by simp at h
 |_::_, [],_,_,_,_,h,_=>by simp at h
 |p::P,w::vs,0,m,nd,h1,h2,hk=>by
  simp at h1 h2;subst h1;subst h2;show bindL kindOf ((p,w)::P.zip vs) m p=_;unfold bindL;rw[zfR fun v hv=>(List.nodup_cons.mp nd).1 (List.of_mem_zip hv).1,if_pos hk];simp
 |p::P,w::vs,i+1,m,nd,h1,h2,hk=>by
  show bindL kindOf ((p,w)::P.zip vs) m x=_;unfold bindL;exact zfT (i:=i) (List.nodup_cons.mp nd).2 (by simpa using h1) (by simpa using h2) hk
theorem zfU{kindOf:Str→Option NameKind}{x:Str}{v:Value}: ∀{P:List Str} {vs:List Value} {i:Nat} {m:Str→Option Value},P.Nodup→P[i]? =some x→vs[i]? =some v→kindOf x≠some .local→
  bindC kindOf (P.zip vs) m x=some v
 | [],_,_,_,_,h,_,_=>by simp at h
 |_::_, [],_,_,_,_,h,_=>by simp at h
 |p::P,w::vs,0,m,nd,h1,h2,hk=>by
  simp at h1 h2;subst h1;subst h2;show bindC kindOf ((p,w)::P.zip vs) m p=_;unfold bindC;rw[zfS fun v hv=>(List.nodup_cons.mp nd).1 (List.of_mem_zip hv).1,if_neg hk];simp
 |p::P,w::vs,i+1,m,nd,h1,h2,hk=>by
  show bindC kindOf ((p,w)::P.zip vs) m x=_;unfold bindC;exact zfU (i:=i) (List.nodup_cons.mp nd).2 (by simpa using h1) (by simpa using h2) hk
def start(N:List Str)(vs:List V):St:=vs.map some++List.replicate (N.length - vs.length) none
def zfL(CX:CXT)(P:Program)(w:World)(K:Fg)(mg:Str→Option Value)(base:Heap)(N:List Str)(qual:Str)(scope:Scope)(f:Addr)(cd:Value)(A:Around)(outer:List Env)(s:Shared)(H:Hp)(E:XK):Cx where
 prog:=P
 w:=w
 K:=K
 mg:=mg
 base:=base
 A:=A.deeper (envOfC qual scope s.heap.objs.size f cd)
 N:=N
 s₀:=s
 H₀:=H
 env:=envOfC qual scope s.heap.objs.size f cd
 outer:=outer
 stack:=envOfC qual scope s.heap.objs.size f cd::outer
 ex:= []
 calm:=true
 fn:=fun _=>true
 pn:= []
 xe:=fun e s'=>wpAny (model P w) (A.deeper (envOfC qual scope s.heap.objs.size f cd)) (leaving (envOfC qual scope s.heap.objs.size f cd) e) (fun _ s''=>CX outer H s E e s'') (fun e' s''=>CX outer H s E e' s'') s'
theorem zha{sc:Scope}{n:Nat}{x:Str}(h:sc.names.lookup x=some .cell): ∃c,(cellsFrom n sc.names []).lookup x=some c:=by
 have q:=PySem.W.cellsFrom_some sc.names n [] (.inl h);exact Option.isSome_iff_exists.mp q
theorem zjD{CX:CXT}{P:Program}{w:World}{K:Fg}{mg:Str→Option Value}{base:Heap}{N ps:List Str}{qual:Str}{scope:Scope}{f:Addr}{cd:Value}{A:Around}{outer:List Env}{s s1:Shared}{H:Hp}{E:XK}{us:List Value}{vs:List V}
  (S:FnScope N ps scope) (hd:A.handled=none) (e0:Env0 P w K mg base A outer s H) (hl:vs.length=ps.length) (r:zaI vs us)
  (x:InCallC s s.heap.objs.size (bindL (envOfC qual scope s.heap.objs.size f cd).kindOf (ps.zip us) fun _=>none) (cellsFrom (s.heap.objs.size+1) scope.names []) (bindC (envOfC qual scope s.heap.objs.size f cd).kindOf (ps.zip us) fun _=>none) s1):
  Inv (zfL CX P w K mg base N qual scope f cd A outer s H E) [] (start N vs) H s1:=by
 have hpl:ps.length≤N.length:=by have:=congrArg List.length S.pre;rw[List.length_take] at this;omega
 obtain⟨h1,tk,rfl,hk⟩:=x.done;have noA: ∀b:Addr,b∉(zfL CX P w K mg base N qual scope f cd A outer s H E).ex:=fun b z=>absurd (show b∈([]:List Addr) from z) (by simp);refine⟨⟨e0.mod,S.kind,rfl,rfl,Nat.le_refl _,fun y z c h1 h2=> ?_,fun y hy=> ?_,fun y c _ h=> ?_,fun _=>hd,Around.frames_deeper e0.frames, .inr ⟨rfl,rfl⟩,fun b z=>absurd z (noA b),e0.bs,e0.bsz,fun b _ _=>noA b,fun b z=>absurd z (noA b),e0.funs,e0.frf⟩,
  rfl,e0.bare,Un.kept hk,⟨_,x.toInCall.ns,fun i y v h1 h2 h3=> ?_⟩,fun y c h=>⟨_,x.cell y c h⟩,e0.hok.fresh (Nat.le_refl _),fun y c h=> ?_,fun p hp=>absurd (show p∈([]:List (Addr×Obj)) from hp) (by simp),e0.hok.kept hk,?_⟩
 ·exact name_of_addr x.apart (PySem.mem_of_lookup h1) (PySem.mem_of_lookup h2)
 ·have hy:scope.names.lookup y=some .cell∨scope.names.lookup y=some .free:=hy;rcases hy with hy|hy
  ·exact zha hy
  ·exact absurd rfl (S.nofree _ (PySem.mem_of_lookup hy))
 ·exact Nat.le_of_lt (x.above y c (PySem.mem_of_lookup h))
 ·have hi:i<vs.length:=by
   unfold start at h2;by_cases hi:i<vs.length
   ·exact hi
   ·rw[List.getElem?_append_right (by simpa using hi)] at h2;rw[List.getElem?_replicate] at h2;split at h2<;>cases h2
  have ha:vs[i]? =some v:=by
   unfold start at h2;rw[List.getElem?_append_left (by simpa using hi),List.getElem?_map] at h2;cases e:vs[i]? with
   |none=>rw[e] at h2;cases h2
   |some a=>rw[e] at h2;cases h2;rfl
  obtain⟨u,hu,rv⟩:=r.get ha;have hp:ps[i]? =some y:=by
   rw[←S.pre,List.getElem?_take_of_lt (by omega)];exact h1
  have ndP:ps.Nodup:=by rw[←S.pre];exact S.nd.sublist (List.take_sublist _ _)
  refine⟨u,rv,?_⟩;rcases S.par y (List.mem_of_getElem? hp) with k|k
  ·exact .inl ⟨k,zfT ndP hp hu k⟩
  ·obtain⟨c,e⟩:=zha (n:=s.heap.objs.size+1) k;refine .inr ⟨.inl k,c,e,?_⟩;have q:=x.cell y c e;rw[zfU ndP hp hu (by show scope.names.lookup y≠_;rw[k];decide)] at q;exact q
 ·exact e0.hok.fresh (Nat.le_of_lt (x.above y c (PySem.mem_of_lookup h)))
 ·unfold start;show _=N.length;rw[List.length_append,List.length_map,List.length_replicate];omega
theorem zp8{CX:CXT}{P:Program}{w:World}{K:Fg}{mg:Str→Option Value}{base:Heap}{k:Nat}{f:Addr}{name qual:Str}{params:Arguments}{body:List Stmt}{scope:Scope}{dV kV doc pm cdv ct oc:Value}{an od:Option Addr}
  {osl:Array (Option Value)} {N ps:List Str} {sp:Sp} (lk:K.lookup f=some ⟨oc,od, .func (PySem.W.fnOf name qual params body scope dV kV doc pm an cdv ct),osl⟩) (hcd:PySem.W.codeIn K cdv qual=true) (S:FnScope N ps scope)
  (len: ∀vs H Q E,sp vs H Q E→vs.length=ps.length)
  (hbody: ∀(A:Around) (outer:List Env) (s:Shared) (H:Hp) (vs:List V) (Q:VK) (E:XK),Room k (A.deeper (envOfC qual scope s.heap.objs.size f cdv))→sp vs H Q E→
   ∃t,PSs (zfL CX P w K mg base N qual scope f cdv A outer s H E) body t∧t {nx:=fun _ H'=>Q .non H',rt:=Q} (start N vs) H):
  FnOk P w K mg base CX (k+1) f (PySem.W.fnOf name qual params body scope dV kV doc pm an cdv ct) ps sp:=by
 refine⟨len,fun A outer s H args us vs Q E hr e0 hb r hsp=> ?_⟩;have hl:=len _ _ _ _ hsp;have KX:K.In s.heap:=e0.mod.kin.keeps fun b o e=>(e0.bs b o e).1;have lim:s.heap.NoLimit:=e0.mod.nolimit.keeps fun b o e=>(e0.bs b o e).1;have hkind: ∀y∈ps.zip us,scope.names.lookup y.1=some .local∨(scope.names.lookup y.1=some .cell∧((cellsFrom (s.heap.objs.size+1) scope.names []).lookup y.1).isSome=true):=fun⟨n,v⟩ hy=>by
  rcases S.par n (List.of_mem_zip hy).1 with q|q
  ·exact .inl q
  ·exact .inr ⟨q,PySem.W.cellsFrom_some _ _ _ (.inl q)⟩
 refine codeAny_call_function hr.depth (KX _ _ lk) rfl S.co S.gen rfl (PySem.W.codeRec_of KX hcd) (hb _ _ _ _ ?_);refine wpAny_newFunctionEnv_cells S.kind hkind fun env he s1 x=> ?_;subst he;refine⟨lim.keeps x.toInCall.keep,codeAny_func ?_⟩;obtain⟨t,ht,hq⟩:=hbody A outer s H vs Q E (hr.deeper _) hsp;have I:Inv (zfL CX P w K mg base N qual scope f cdv A outer s H E) [] (start N vs) H s1:=zjD S hr.hd e0 hl r x;refine wpAny_mono (ht [] s1 (start N vs) H _ I hq) (fun fl s' hs=> ?_) fun e s' hs=>hs;have fin: ∀{σ':St} {H':Hp} {v:V} {u:Value},Inv (zfL CX P w K mg base N qual scope f cdv A outer s H E) [] σ' H' s'→zaC v u→Q v H'→CE outer P w H s Q u s':=
  fun {σ' H' v u} J rv q=>⟨v,H',J.os,J.bare,J.base,J.hok,rv,q⟩
 cases fl with
 |ret u=>
  obtain⟨v,σ',H',J,rv,q⟩:=hs;exact fin J rv q
 |next=>
  obtain⟨σ',H',J,q⟩:=hs;exact fin (v:=V.non) (u:=Value.none) J rfl q
 |brk=>
  obtain⟨_,_,_,q⟩:=hs;exact False.elim q
 |cont=>
  obtain⟨_,_,_,q⟩:=hs;exact False.elim q
end L2
namespace L2
open PySem PySem.Spec PyProof.Rows
section
variable {X:Cx} {x:Str} {p pos:Pos} {e:Expr} {es:List Expr} {t:TA} {id T:String} {r:List V→Hp→VK→Prop}
def tCB(r:List V→Hp→VK→Prop)(t:TA):TE:=fun σ H Q=>t σ H fun vs H1=>r vs H1 Q
theorem zaM(hc:zbK X (.builtin id) r)(hg:Gl X x)(hm:X.mg x=none)(hv:bootBuiltins x=some (.builtin id))(ha:PA X (e::es) t)(hn:x≠"__name__":=by decide)(hdb:(x==("__debug__":Str))=false:=by decide)
  (he:starEach (e::es) X.env=(false,eval e X.env)::starEach es X.env:=by rfl) (hpl:(backTo pos (starEach es X.env)).any (·.1)=false:=by rfl):PE X (.Call (.Name x p) (e::es) [] pos) (tCB r t):=by
 intro pins s σ H Q I h;refine wpAny_Call_Name_kw (zd6 I hg hm hv ?_ hn hdb);exact PyProof.Rows.callWith_builtin1 (thn (ha pos pins s σ H _ I h) fun us s1 ⟨vs,H1,I1,r1,q1⟩=>hc pins s1 σ H1 vs us Q I1 r1 q1) he hpl
theorem zcd(hc:zbK X (.type T) r)(hg:Gl X x)(hm:X.mg x=none)(hv:bootBuiltins x=some (.type T))(ha:PA X (e::es) t)(hn:x≠"__name__":=by decide)(hdb:(x==("__debug__":Str))=false:=by decide)
  (he:starEach (e::es) X.env=(false,eval e X.env)::starEach es X.env:=by rfl) (hpl:(backTo pos (starEach es X.env)).any (·.1)=false:=by rfl):PE X (.Call (.Name x p) (e::es) [] pos) (tCB r t):=by
 intro pins s σ H Q I h;refine wpAny_Call_Name_kw (zd6 I hg hm hv ?_ hn hdb);exact PyProof.Rows.callWith_type1 (thn (ha pos pins s σ H _ I h) fun us s1 ⟨vs,H1,I1,r1,q1⟩=>hc pins s1 σ H1 vs us Q I1 r1 q1) he hpl
end
end L2
namespace HT
open PySem PyProof.Rows
def lexLt:List Int→List Int→Bool
 | [], []=>false
 | [],_::_=>true
 |_::_, []=>false
 |x::xs,y::ys=>if x=y then lexLt xs ys else decide (x<y)
theorem lexLt_cons(x y:Int)(xs ys:List Int):lexLt (x::xs) (y::ys)=if x=y then lexLt xs ys else decide (x<y):=rfl
theorem lexLt_nil_nil:lexLt [] []=false:=rfl
theorem zeQ(y:Int)(ys:List Int):lexLt [] (y::ys)=true:=rfl
theorem zeR(x:Int)(xs:List Int):lexLt (x::xs) []=false:=rfl
theorem zkB(A:Around)(s:Shared)(a:Int)(t:Tok)(c:Int)(u:Tok): ∃e,SeqAt.EqAt A s (.int a t) (.int c u) e∧(e=true↔a=c):=
 ⟨(a==c),SeqAt.EqAt.int_int a t c u,by simp⟩
theorem zkC(A:Around)(s:Shared)(a:Int)(t:Tok)(c:Int)(u:Tok)(prog:Program)(w:World)(E:Value→Shared→Prop)(Q:Value→Shared→Prop)(h:Q (.bool (decide (a<c))) s):
  wpAny (model prog w) A (richCompare .Lt (.int a t) (.int c u)) Q E s:=
 (PyProof.Rows.lt_int h:wpAny (model prog w) A (compareOp .Lt (.int a t) (.int c u)) Q E s)
section
open PySem.SeqAt
open PySem.AutoSeq1 (wpAny_loadPart')
open PySem.MeetsSeq PySem.MeetsSeq2 PySem.MeetsSeq3
theorem zfM(l b:Addr)(items items2:Array Value)(n n2:Nat)(dd dd2:Option Addr)(sl sl2:Array (Option Value))(ns ms:List Int)(hi:IntsAre items.toList ns)(hj:IntsAre items2.toList ms):
  Meets (Builtin.«tuple.__lt__» ⟨[.ref l, .ref b], []⟩)
   (fun _ R s=>s.heap.get? l=some {cls:= .type "tuple",dict:=dd,data:= .seq items n,slots:=sl}∧s.heap.get? b=some {cls:= .type "tuple",dict:=dd2,data:= .seq items2 n2,slots:=sl2}∧
    R (.ok (.ret (.bool (lexLt ns ms)))) s):=
 .of_wp fun prog w A R s h=>by
  obtain⟨hp,g,d,tk,os⟩:=s;obtain⟨hl,hb,h⟩:=h;have f2:=AutoSeq1.sub_tuple_tuple;have z1:items.size=ns.length:=by rw[←hi.length];simp
  have z2:items2.size=ms.length:=by rw[←hj.length];simp
  wp_walk using wpAny_loadPart' hl,wpAny_loadPart' hb,wpAny_forIn_list _ (fun rest b s'=>b.1=none∧s'=⟨hp,g,d,tk,os⟩∧ ∃(vs ws:List Value) (ns' ms':List Int),rest=vs.zip ws∧
   IntsAre vs ns'∧IntsAre ws ms'∧ns'.length+items2.size=ms'.length+items.size∧R (.ok (.ret (.bool (lexLt ns' ms')))) ⟨hp,g,d,tk,os⟩) _
  case turn=>
   rintro⟨y,x⟩ rest b s' ⟨hb',rfl,vs,ws,ns',ms',hz,hvi,hwi,hlen,hR⟩;cases hvi with
   |nil=>rw[List.zip_nil_left] at hz;cases hz
   |cons a t hvi'=>
    cases hwi with
    |nil=>rw[List.zip_nil_right] at hz;cases hz
    |cons c u hwi'=>
     rw[List.zip_cons_cons] at hz;injection hz with hyx hrest
     injection hyx with hy hx
     subst hy hx;rw[lexLt_cons] at hR;simp only[List.length_cons] at hlen;obtain⟨e,he,hiff⟩:=zkB A.in1 ⟨hp,g,d,tk,os⟩ a t c u;refine wpAny_bind (he prog w _ _ ?_);cases e with
     |true=>
      rw[if_pos (hiff.mp rfl)] at hR;wp_walk
      exact⟨rfl,rfl,_,_,_,_,hrest,hvi',hwi',by omega,hR⟩
     |false=>
      rw[if_neg (fun q=>absurd (hiff.mpr q) Bool.false_ne_true)] at hR;have hri:=zkC A.in1 ⟨hp,g,d,tk,os⟩ a t c u prog w;wp_walk using hri
      exact⟨_,rfl,by simpa using hR⟩
  case fin=>
   rintro⟨b1,b2⟩ s' ⟨hb',rfl,vs,ws,ns',ms',hz,hvi,hwi,hlen,hR⟩;simp only at hb';subst hb';have hv:lexLt ns' ms'=decide (items.size<items2.size):=by
    cases hvi with
    |nil=>
     cases hwi with
     |nil=>
      simp only[List.length_nil] at hlen;rw[lexLt_nil_nil];exact(decide_eq_false (by omega)).symm
     |cons c u hw=>
      simp only[List.length_nil,List.length_cons] at hlen;rw[zeQ];exact(decide_eq_true (by omega)).symm
    |cons a t hv=>
     cases hwi with
     |nil=>
      simp only[List.length_nil,List.length_cons] at hlen;rw[zeR];exact(decide_eq_false (by omega)).symm
     |cons c u hw=>
      rw[List.zip_cons_cons] at hz;cases hz
   rw[hv] at hR;wp_walk
   exact⟨_,rfl,by simpa [Builtin.Tuple.tupleCompareSizes] using hR⟩
  case h=>
   exact⟨rfl,rfl,items.toList,items2.toList,ns,ms,rfl,hi,hj,by omega,h⟩
end
section
variable {prog:Program} {w:World} {A:Around} {E:Value→Shared→Prop} {s:Shared}
theorem lt_tupInts{l b:Addr}{items items2:Array Value}{ns ms:List Int}{Q:Value→Shared→Prop}(hl:IsTup s.heap l items)(hb:IsTup s.heap b items2)(hi:IntsAre items.toList ns)(hj:IntsAre items2.toList ms)
  (hu:A.units<cLine) (h:Q (.bool (lexLt ns ms)) s):wpAny (model prog w) A (compareOp .Lt (.ref l) (.ref b)) Q E s:=by
 obtain⟨⟨cls,dd,data,sl⟩,ho,hc,n,hd⟩:=id hl;obtain⟨⟨cls2,dd2,data2,sl2⟩,ho2,hc2,n2,hd2⟩:=id hb;simp only at hc hd hc2 hd2;subst hc hd hc2 hd2;exact richCompare_meets_room (op:= .Lt) ⟨_,ho,rfl⟩ ⟨_,ho2,rfl⟩ PySem.F.slot_tuple_lt PySem.F.entry_tuple_lt (PySem.F.args_tuple_lt_2 _ _) (zfM l b items items2 n n2 dd dd2 sl sl2 ns ms hi hj)
  ⟨ho,ho2,show Value.bool (lexLt ns ms)≠Value.notImplemented∧Q (.bool (lexLt ns ms)) s from⟨(fun x=>nomatch x),h⟩⟩ hu
end
end HT
namespace L2
open PySem PySem.Spec PyProof.Rows
abbrev TO:=St→Hp→(Option Int→Hp→Prop)→Prop
def PO(X:Cx)(e:Option Expr)(t:TO):Prop:=
 ∀(pins:List (Addr×Obj)) (s:Shared) (σ:St) (H:Hp) (Q:Option Int→Hp→Prop),Inv X pins σ H s→t σ H Q→
  wpAny (model X.prog X.w) X.A (evalPart e X.env) (fun u s'=> ∃o H',Inv X pins σ H' s'∧IsPart u o∧Q o H') X.xe s
theorem zeS{ns:List Int}: ∀{us:List Value},zaI (ns.map V.int) us→IntsAre us ns:=by
 induction ns with
 |nil=>intro us r;rw[List.map_nil] at r;cases r;exact .nil
 |cons n ns ih=>
  intro us r;rw[List.map_cons] at r;cases r with
  |cons r1 r2=>
   obtain⟨t,e⟩:=r1;subst e;exact .cons n t (ih r2)
section
variable {X:Cx} {e:Expr} {te:TE} {lo hi:Option Expr} {tl th:TO} {pos p2:Pos}
def zqO(K:Fg):R2:=fun x y H Q=> ∃a b ns ms,x= .ref a∧y= .ref b∧SqT K H a (ns.map V.int)∧SqT K H b (ms.map V.int)∧Q (.bl (HT.lexLt ns ms)) H
theorem zol(hu:X.A.units<cLine):OpR X (compareOp .Lt) (zqO X.K):=by
 intro pins s σ H x y v u Q I rx ry h;obtain⟨a,b,ns,ms,rfl,rfl,ha,hb,q⟩:=h;cases rx;cases ry;obtain⟨its,r1,p1,_⟩:=I.tuple ha;obtain⟨its2,r2,p2,_⟩:=I.tuple hb;have i1:IntsAre its.toArray.toList ns:=zeS r1;have i2:IntsAre its2.toArray.toList ms:=zeS r2;exact HT.lt_tupInts p1 p2 i1 i2 hu ⟨.bl (HT.lexLt ns ms),H,I,rfl,q⟩
end
end L2
namespace L2
open PySem PySem.Spec PyProof.Rows
def ixN(n:Nat)(i:Int):Option Nat:=if 0≤i then (if i<n then some i.toNat else none) else if -(n:Int)≤i then some (i+n).toNat else none
def atI{α:Type}(xs:List α)(i:Int):Option α:=(ixN xs.length i).bind fun j=>xs[j]?
theorem zmI{n:Nat}{i:Int}{j:Nat}(h:ixN n i=some j):seqIndex? i n=some j∧j<n∧ -(n:Int)≤i∧i<n:=by
 unfold ixN at h;by_cases h0:0≤i
 ·rw[if_pos h0] at h;by_cases h1:i<n
  ·rw[if_pos h1] at h;have e:i.toNat=j:=Option.some.inj h;exact⟨by rw[seqIndex_of h0 h1,e],by omega,by omega,h1⟩
  ·rw[if_neg h1] at h;cases h
 ·rw[if_neg h0] at h;by_cases h1: -(n:Int)≤i
  ·rw[if_pos h1] at h;have e:(i+n).toNat=j:=Option.some.inj h;exact⟨by rw[seqIndex_neg (by omega) h1,e],by omega,h1,by omega⟩
  ·rw[if_neg h1] at h;cases h
theorem zgA{α:Type}{xs:List α}{i:Int}{v:α}(h:atI xs i=some v): ∃j,seqIndex? i xs.length=some j∧xs[j]? =some v∧j<xs.length∧ -(xs.length:Int)≤i∧i<xs.length:=by
 unfold atI at h;cases e:ixN xs.length i with
 |none=>rw[e] at h;cases h
 |some j=>
  rw[e] at h;obtain⟨h1,h2,h3,h4⟩:=zmI e;exact⟨j,h1,h,h2,h3,h4⟩
theorem zb1{α:Type}{xs:List α}{j:Nat}{v:α}(h:xs[j]? =some v):atI xs (j:Int)=some v:=by
 have hj:j<xs.length:=(List.getElem?_eq_some_iff.mp h).1;have e:ixN xs.length (j:Int)=some j:=by
  unfold ixN;rw[if_pos (by omega),if_pos (by omega)];simp
 unfold atI;rw[e];exact h
def ziS(b:Expr):Prop:= ∀o i,subscripted b false o i=operate [o,i] (getItem o i)
def IxR(X:Cx)(r:R2):Prop:=
 ∀(value slice:Expr) (pins:List (Addr×Obj)) (s:Shared) (σ:St) (H:Hp) (x y:V) (v u:Value) (Q:VK),Inv X pins σ H s→zaC x v→zaC y u→r x y H Q→
  subscripted slice false v u=operate [v,u] (getItem v u)→wpAny (model X.prog X.w) X.A (subscriptTail value slice v u) (EP X pins σ Q) X.xe s
def MtR(X:Cx)(id:String)(r:V→List V→Hp→VK→Prop):Prop:=
 ∀(pins:List (Addr×Obj)) (s:Shared) (σ:St) (H:Hp) (x:V) (xs:List V) (v:Value) (us:List Value) (Q:VK),Inv X pins σ H s→zaC x v→zaI xs us→r x xs H Q→
  wpAny (model X.prog X.w) X.A (call (.builtin id) (v::us)) (EP X pins σ Q) X.xe s
section
variable {X:Cx} {a b:Expr} {ta tb:TE} {pos:Pos}
theorem zp9{r:R2}(hr:IxR X r)(ha:PE X a ta)(hb:PE X b tb)(hs:ziS b):PE X (.Subscript a b pos) (tOp r ta tb):=by
 intro pins s σ H Q I h;exact Subscript_ (zoc ha hb I h fun v u s2 x y H2 I2 rx ry q=>hr a b pins s2 σ H2 x y v u Q I2 rx ry q (hs _ _))
def zkD(K:Fg):R2:=fun x y H Q=> ∃p xs i v,x= .ref p∧y= .int i∧SqL K H p xs∧atI xs i=some v∧Q v H
def zfN(K:Fg):R2:=fun x y H Q=> ∃p xs i v,x= .ref p∧y= .int i∧SqT K H p xs∧atI xs i=some v∧Q v H
def zqP:R2:=fun x y H Q=> ∃z i c,x= .str z∧y= .int i∧z.length≤sizeLine∧atI z.cps.toList i=some c∧Q (.str ⟨#[c]⟩) H
theorem zaR:IxR X (zkD X.K):=by
 intro value slice pins s σ H x y v u Q I rx ry h hs;obtain⟨p,xs,i,z,rfl,rfl,hq,he,q⟩:=h;cases rx;obtain⟨t,rfl⟩:=ry;obtain⟨its,r,pl,hz⟩:=I.list hq;obtain⟨j,h1,h2,h3,h4,h5⟩:=zgA he;obtain⟨w,ew,rw'⟩:=r.get h2;have hl:=r.length;have hn:=zgx;have fin:EP X pins σ Q w s:=⟨z,H,I,rw',q⟩
 by_cases h0:0≤i
 ·have hj:i.toNat=j:=by
   rw[seqIndex_of h0 h5] at h1;exact Option.some.inj h1
  exact item_listR pl.isList h0 (by omega) (by rw[hj];simpa using ew) fin hs
 ·have hj:(i+(its.toArray.size:Int)).toNat=j:=by
   rw[seqIndex_neg (by omega) h4] at h1;rw[List.size_toArray,←hl];exact Option.some.inj h1
  exact subscriptTail_builtinR (x:=w) pl.isList.typeIs slot_list_getitem.lookup
   (wpAny_getItem_list_neg (Q:=fun r s'=>r=w∧EP X pins σ Q r s') pl.isList (by omega) (by rw[List.size_toArray]<;>omega) (by omega) (by rw[hj];simpa using ew) ⟨rfl,fin⟩) hs
theorem zaq:IxR X (zfN X.K):=by
 intro value slice pins s σ H x y v u Q I rx ry h hs;obtain⟨p,xs,i,z,rfl,rfl,hq,he,q⟩:=h;cases rx;obtain⟨t,rfl⟩:=ry;obtain⟨its,r,pl,hz⟩:=I.tuple hq;obtain⟨j,h1,h2,h3,h4,h5⟩:=zgA he;obtain⟨w,ew,rw'⟩:=r.get h2;have hl:=r.length;have hn:=zgx;have fin:EP X pins σ Q w s:=⟨z,H,I,rw',q⟩
 exact subscriptTail_builtinR (x:=w) pl.typeIs slot_tuple_getitem.lookup
  (getItem_tuple (j:=j) (Q:=fun r s'=>r=w∧EP X pins σ Q r s') pl (by omega) (by omega) (by rw[List.size_toArray,←hl];exact h1) (by simpa using ew) ⟨rfl,fin⟩) hs
theorem zom:IxR X zqP:=by
 intro value slice pins s σ H x y v u Q I rx ry h hs;obtain⟨z,i,c,rfl,rfl,hz,he,q⟩:=h;obtain⟨t,rfl⟩:=rx;obtain⟨t',rfl⟩:=ry;obtain⟨j,h1,h2,h3,h4,h5⟩:=zgA he;have hl:z.cps.toList.length=z.length:=by simp [Str.length]
 rw[hl] at h1 h4 h5;have hn:=zgx;exact tail_any (typeIs_str s z t) slot_str_getitem.lookup (getItem_str (c:=c) (by
  have e1:decide (i< -(2 ^ 63:Int))=false:=decide_eq_false (by omega);have e2:decide (i≥2 ^ 63)=false:=decide_eq_false (by omega);rw[e1,e2,Bool.or_false]) (by rw[h1];simpa using h2) ⟨.str ⟨#[c]⟩,H,I.tok _,⟨_,rfl⟩,q⟩) hs
def zdv:V→Bool
 | .non=>true
 | .bl _=>true
 | .int _=>true
 | .str _=>true
 |_=>false
def eqV:V→V→Bool
 | .non, .non=>true
 | .bl a, .bl b=>a==b
 | .bl a, .int b=>(if a then 1 else 0)==b
 | .int a, .bl b=>a==(if b then 1 else 0)
 | .int a, .int b=>a==b
 | .str a, .str b=>a==b
 |_,_=>false
theorem zh4{A:Around}{s:Shared}{y x:V}{u v:Value}(ry:zaC y u)(rx:zaC x v)(fy:zdv y=true)(fx:zdv x=true):SeqAt.EqAt A s u v (eqV y x):=by
 cases y with
 |non=>
  cases ry;cases x with
  |non=>cases rx;exact SeqAt.EqAt.same _
  |bl b=>cases rx;exact SeqAt.EqAt.none_bool b
  |int b=>obtain⟨t,rfl⟩:=rx;exact SeqAt.EqAt.none_int b t
  |str b=>obtain⟨t,rfl⟩:=rx;exact SeqAt.EqAt.none_str b t
  |_=>exact absurd (show false=true from fx) Bool.false_ne_true
 |bl a=>
  cases ry;cases x with
  |non=>cases rx;exact SeqAt.EqAt.bool_none a
  |bl b=>cases rx;exact SeqAt.EqAt.bool_bool a b
  |int b=>obtain⟨t,rfl⟩:=rx;exact SeqAt.EqAt.bool_int a b t
  |str b=>obtain⟨t,rfl⟩:=rx;exact SeqAt.EqAt.bool_str a b t
  |_=>exact absurd (show false=true from fx) Bool.false_ne_true
 |int a=>
  obtain⟨t',rfl⟩:=ry;cases x with
  |non=>cases rx;exact SeqAt.EqAt.int_none a t'
  |bl b=>cases rx;exact SeqAt.EqAt.int_bool a t' b
  |int b=>obtain⟨t,rfl⟩:=rx;exact SeqAt.EqAt.int_int a t' b t
  |str b=>obtain⟨t,rfl⟩:=rx;exact SeqAt.EqAt.int_str a t' b t
  |_=>exact absurd (show false=true from fx) Bool.false_ne_true
 |str a=>
  obtain⟨t',rfl⟩:=ry;cases x with
  |non=>cases rx;exact SeqAt.EqAt.str_none a t'
  |bl b=>cases rx;exact SeqAt.EqAt.str_bool a t' b
  |int b=>obtain⟨t,rfl⟩:=rx;exact SeqAt.EqAt.str_int a t' b t
  |str b=>obtain⟨t,rfl⟩:=rx;exact SeqAt.EqAt.str_str a t' b t
  |_=>exact absurd (show false=true from fx) Bool.false_ne_true
 |_=>exact absurd (show false=true from fy) Bool.false_ne_true
def eqU(x:V)(u:Value):Bool:=match u with
 | .none=>eqV .non x
 | .bool b=>eqV (.bl b) x
 | .int i _=>eqV (.int i) x
 | .str z _=>eqV (.str z) x
 |_=>false
theorem zkE{x y:V}{u:Value}(r:zaC y u)(f:zdv y=true):eqU x u=eqV y x:=by
 cases y with
 |non=>cases r;rfl
 |bl b=>cases r;rfl
 |int i=>obtain⟨t,rfl⟩:=r;rfl
 |str z=>obtain⟨t,rfl⟩:=r;rfl
 |_=>exact absurd (show false=true from f) Bool.false_ne_true
theorem zgB{x:V}: ∀{xs:List V} {us:List Value},zaI xs us→xs.all zdv=true→us.any (eqU x)=xs.any fun y=>eqV y x
 |_,_, .nil,_=>rfl
 |y::xs,u::us, .cons r t,f=>by
  rw[List.all_cons,Bool.and_eq_true] at f;rw[List.any_cons,List.any_cons,zkE r f.1,zgB t f.2]
theorem zeT{A:Around}{s:Shared}{x:V}{v:Value}(rx:zaC x v)(fx:zdv x=true): ∀{xs:List V} {us:List Value},zaI xs us→xs.all zdv=true→ ∀u∈us,SeqAt.EqAt A s u v (eqU x u)
 |_,_, .nil,_=>fun u hu=>by cases hu
 |y::xs,u::us, .cons r t,f=>fun u' hu=>by
  rw[List.all_cons,Bool.and_eq_true] at f;rcases List.mem_cons.mp hu with rfl|hu
  ·rw[zkE r f.1];exact zh4 r rx f.1 fx
  ·exact zeT rx fx t f.2 u' hu
def inV(x:V)(xs:List V):Bool:=xs.any fun y=>eqV y x
def rIn(K:Fg)(neg:Bool):R2:=fun x y H Q=> ∃p xs,y= .ref p∧(SqL K H p xs∨SqT K H p xs)∧zdv x=true∧xs.all zdv=true∧Q (.bl (if neg then !inV x xs else inV x xs)) H
theorem zfV:OpR X (compareOp .In) (rIn X.K false):=by
 intro pins s σ H x y v u Q I rx ry h;obtain⟨p,xs,rfl,hq,fx,fs,q⟩:=h;cases ry;rcases hq with hq|hq
 ·obtain⟨its,r,pl,hz⟩:=I.list hq;refine SeqAt.in_listAt (eqU x) pl.isList (fun w hw=>zeT rx fx r fs w (by simpa using hw)) ⟨.bl _,H,I,rfl,?_⟩;rw[show its.toArray.any (eqU x)=its.any (eqU x) by simp,zgB r fs];exact q
 ·obtain⟨its,r,pl,hz⟩:=I.tuple hq;refine SeqAt.in_tupleAt (eqU x) pl (fun w hw=>zeT rx fx r fs w (by simpa using hw)) ⟨.bl _,H,I,rfl,?_⟩;rw[show its.toArray.any (eqU x)=its.any (eqU x) by simp,zgB r fs];exact q
theorem zby:zbK X (.builtin "len") (fun xs H Q=> ∃p ys,xs= [.ref p]∧(SqL X.K H p ys∨SqT X.K H p ys)∧Q (.int ys.length) H):=by
 intro pins s σ H xs us Q I r h;obtain⟨p,ys,rfl,hq,q⟩:=h;obtain⟨u,rfl,rx⟩:=zc2 r;cases rx;have hn:=zgx;rcases hq with hq|hq
 ·obtain⟨its,r',pl,hz⟩:=I.list hq;have hlen:=r'.length;exact Calls.call_len_list pl.isList (by simp only[List.size_toArray]<;>omega) ⟨.int ys.length,H,I.tok _,⟨s.toks+1,by rw[List.size_toArray,hlen]⟩,q⟩
 ·obtain⟨its,r',pl,hz⟩:=I.tuple hq;have hlen:=r'.length;exact len_tuple pl (by simp only[List.size_toArray]<;>omega) ⟨.int ys.length,H,I.tok _,⟨s.toks+1,by rw[List.size_toArray,hlen]⟩,q⟩
def tyV(K:Fg)(T:String)(x:V)(H:Hp):Prop:=match x with
 | .str _=>T="str"
 | .int _=>T="int"
 | .ref p=>(T="list"∧ ∃xs,SqL K H p xs)∨(T="tuple"∧ ∃o,K.lookup p=some o∧o.cls= .type "tuple"∧o.dict=none)∨
   (T="dict"∧((∃kvs,H p=some (.dK kvs))∨ ∃kvs,H p=some (.dT kvs)))∨(T="set"∧ ∃S n,H p=some (.set S n))
 |_=>False
theorem zon{pins:List (Addr×Obj)}{σ:St}{H:Hp}{s:Shared}{T:String}{x:V}{v:Value}(I:Inv X pins σ H s)(r:zaC x v)(ty:tyV X.K T x H):
  s.TypeIs v T∧ ∀a,v= .ref a→ ∃ob,s.heap.get? a=some ob∧ob.dict=none:=by
 cases x with
 |str z=>
  obtain⟨t,rfl⟩:=r;cases (show T="str" from ty);exact⟨typeIs_str s z t,fun _ e=>nomatch e⟩
 |int i=>
  obtain⟨t,rfl⟩:=r;cases (show T="int" from ty);exact⟨typeIs_int s i t,fun _ e=>nomatch e⟩
 |ref p=>
  cases r;rcases ty with⟨rfl,xs,hq⟩|⟨rfl,o,hk,hc,hd⟩|⟨rfl,hk⟩|⟨rfl,S,n,hk⟩
  ·obtain⟨its,_,pl,_⟩:=I.list hq;refine⟨pl.isList.typeIs,fun a e=> ?_⟩;cases e;obtain⟨o,n,e,c,hd,_⟩:=pl;exact⟨o,e,hd⟩
  ·refine⟨⟨o,I.kIn p o hk,hc⟩,fun a e=> ?_⟩;cases e;exact⟨o,I.kIn _ o hk,hd⟩
  ·have z: ∃o,s.heap.get? p=some o∧o.ExactDict:=by
    rcases hk with⟨kvs,hk⟩|⟨kvs,hk⟩
    ·obtain⟨_,_,_,_,o,_,_,e,ex,_⟩:=I.hok p _ hk;exact⟨o,e,ex⟩
    ·obtain⟨_,_,_,_,o,_,_,e,ex,_⟩:=I.hok p _ hk;exact⟨o,e,ex⟩
   obtain⟨o,e,ex⟩:=z;refine⟨⟨o,e,ex.1⟩,fun a e2=> ?_⟩;cases e2;exact⟨o,e,ex.2.1⟩
  ·obtain⟨o,_,_,_,e,ex,_⟩:=I.hok p _ hk;refine⟨⟨o,e,ex.1⟩,fun a e2=> ?_⟩;cases e2;exact⟨o,e,ex.2.1⟩
 |_=>exact False.elim ty
def tBM(K:Fg)(T:String)(r:V→List V→Hp→VK→Prop)(to:TE)(t:TA):TE:=fun σ H Q=>to σ H fun x H1=>tyV K T x H1∧t σ H1 fun xs H2=>r x xs H2 Q
variable {o e:Expr} {es:List Expr} {to:TE} {t:TA} {name:Str} {apos cpos:Pos} {T id:String} {r:V→List V→Hp→VK→Prop}
theorem zb4(pa:PlainAttrs T)(slot:Slot T name id)(hty:typeOf (.builtin id)=pure (.type "method_descriptor"))(hm:MtR X id r)(ho:PE X o to)(ha:PA X (e::es) t)
  (hbase:attributeBase o name X.env (eval o X.env)=eval o X.env:=by rfl)
  (hfew:((backTo cpos (starEach (e::es) X.env)).all (fun x=> !x.1) && (backToKw cpos (keywordEach [] X.env)).all (fun x=>x.1.isSome)
   && decide ((e::es).length+([]:List Keyword).length+(if ([]:List Keyword).isEmpty then 0 else 1)<30))=true:=by rfl)
  (hline:(apos.endLine==cpos.line)=true:=by rfl) (hs:starEach (e::es) X.env=(false,eval e X.env)::starEach es X.env:=by rfl) (hplain:(backTo cpos (starEach es X.env)).any (·.1)=false:=by rfl):
  PE X (.Call (.Attribute o name apos) (e::es) [] cpos) (tBM X.K T r to t):=by
 intro pins s σ H Q I h;refine wpAny_Call_method_late hbase hfew hline rfl (thn (ho pins s σ H _ I h) fun v s1 ⟨x,H1,I1,r1,ty,q1⟩=> ?_);obtain⟨h1,h2⟩:=zon I1 r1 ty;refine⟨T,id,pa,slot,hty,h1,h2,?_⟩;have hA:=ha cpos pins s1 σ H1 _ I1 q1;rw[hs] at hA ⊢;refine Calls.callWith_builtin (by show (false||(backTo cpos (starEach es X.env)).any (·.1))=false;rw[hplain]<;>rfl) (Calls.evalArgs_plain ?_);exact thn hA fun us s2 ⟨vs,H2,I2,r2,q2⟩=>hm pins s2 σ H2 x vs v us Q I2 r1 r2 q2
end
end L2
namespace L2
open PySem PySem.Spec PyProof.Rows
def MtM(X:Cx)(id:String)(r:V→List V→Hp→VK→Prop):Prop:=
 ∀(pins:List (Addr×Obj)) (s:Shared) (σ:St) (H:Hp) (x:V) (xs:List V) (v:Value) (us:List Value) (Q:VK),Inv X pins σ H s→zaC x v→zaI xs us→r x xs H Q→
  wpAny (model X.prog X.w) X.A (call (.builtin id) (v::us)) (EP X pins σ Q) X.xe s
theorem zaI.one: ∀{x:V} {us:List Value},zaI [x] us→ ∃u,us= [u]∧zaC x u
 |_,_, .cons r .nil=>⟨_,rfl,r⟩
theorem zaI.eraseIdx: ∀{xs:List V} {us:List Value} (i:Nat),zaI xs us→zaI (xs.eraseIdx i) (us.eraseIdx i)
 |_,_,_, .nil=> .nil
 |_,_,0, .cons _ t=>t
 |_,_,i+1, .cons r t=> .cons r (zaI.eraseIdx i t)
theorem zaI.reverse{xs:List V}{us:List Value}(h:zaI xs us):zaI xs.reverse us.reverse:=by
 induction h with
 |nil=>exact .nil
 |cons r t ih=>rw[List.reverse_cons,List.reverse_cons];exact zaI.append ih (.cons r .nil)
theorem zfW{α:Type}: ∀(l:List α) (i:Nat),(l.eraseIdx i).length≤l.length
 | [],_=>Nat.le_refl _
 |_::_,0=>Nat.le_succ _
 |_::r,i+1=>Nat.succ_le_succ (zfW r i)
section
variable {X:Cx} {pins:List (Addr×Obj)} {σ:St} {H:Hp} {s:Shared} {l b:Addr} {xs ys zs:List V}
theorem Inv.lset{its its':List Value}{n:Nat}{f:Array Value→Array Value}{t':Nat}(I:Inv X pins σ H s)(hH:H l=some (.lst xs))
  (e:s.heap.get? l=some {cls:= .type "list",data:= .seq its.toArray n}) (hf:f its.toArray=its'.toArray) (hv:zaI ys its') (hz:ys.length≤sizeLine):
  Inv X pins σ (upd H l (.lst ys)) {s with heap:=s.heap.update l (Obj.mapSeq f),toks:=t'}:=by
 have q:=PySem.IsL.update e f;rw[hf] at q;refine I.write (x:=l) (e:=l) (by rw[hH];exact trivial) (.inl rfl) (fun b' u hb hu=>(Heap.get?_update_other s.heap (Obj.mapSeq f) (Ne.symm hb)).trans hu) ⟨_,q⟩ ?_;exact⟨hz,its',_,hv,q⟩
theorem Inv.lnew{its:List Value}{t':Nat}(I:Inv X pins σ H s)(hv:zaI ys its)(hz:ys.length≤sizeLine):
  Inv X pins σ (upd H s.heap.objs.size (.lst ys)) {s with heap:=s.heap.push {cls:= .type "list",data:= .seq its.toArray},toks:=t'}:=
 I.laid (fun _ _ q=>Heap.get?_push_of_some _ q) (Nat.le_refl _) ⟨hz,its,0,hv,Heap.get?_push_size _ rfl⟩
theorem Inv.fresh(I:Inv X pins σ H s):H s.heap.objs.size=none:=I.hok.fresh (Nat.le_refl _)
theorem Inv.lstM(I:Inv X pins σ H s)(hH:H l=some (.lst xs)):xs.length≤sizeLine∧ ∃(its:List Value) (n:Nat),zaI xs its∧xs.length=its.length∧s.heap.get? l=some {cls:= .type "list",data:= .seq its.toArray n}:=by
 obtain⟨z,its,n,r,e⟩:=I.hok l _ hH;exact⟨z,its,n,r,r.length,e⟩
theorem zkF{n:Nat}(h:n≤sizeLine):Builtin.List.listTooLong n=false:=by
 unfold Builtin.List.listTooLong;exact decide_eq_false (by omega)
end
section
variable {X:Cx}
def zmJ:V→List V→Hp→VK→Prop:=fun x vs H Q=> ∃l xs y,x= .ref l∧vs= [y]∧H l=some (.lst xs)∧xs.length<sizeLine∧Q .non (upd H l (.lst (xs++ [y])))
theorem za8:MtM X "list.append" zmJ:=by
 intro pins s σ H x vs v us Q I rx rv h;obtain⟨l,xs,y,rfl,rfl,hH,hz,q⟩:=h;cases rx;obtain⟨u,rfl,ru⟩:=rv.one;obtain⟨z,its,n,r,hl,e⟩:=I.lstM hH;refine call_meets F.slot_list_append ⟨_,e,rfl⟩ F.entry_list_append (F.args_list_append_2 _ _) (PySem.list_append l its.toArray n u (by rw[List.size_toArray];omega)) ⟨e,?_⟩;refine⟨.non,_,I.lset (its':=its++ [u]) hH e (by simp) (r.append (.cons ru .nil)) ?_,rfl,q⟩;rw[List.length_append,List.length_singleton];omega
def ziT:V→List V→Hp→VK→Prop:=fun x vs H Q=> ∃l b xs zs,x= .ref l∧vs= [.ref b]∧H l=some (.lst xs)∧H b=some (.lst zs)∧xs.length+zs.length≤sizeLine∧Q .non (upd H l (.lst (xs++zs)))
theorem zea:MtM X "list.extend" ziT:=by
 intro pins s σ H x vs v us Q I rx rv h;obtain⟨l,b,xs,zs,rfl,rfl,hH,hB,hz,q⟩:=h;cases rx;obtain⟨u,rfl,ru⟩:=rv.one;cases ru;obtain⟨z,its,n,r,hl,e⟩:=I.lstM hH;obtain⟨z2,its2,n2,r2,hl2,e2⟩:=I.lstM hB;have hsz:its.toArray.size+its2.toArray.size≤sizeLine:=by rw[List.size_toArray,List.size_toArray];omega
 have hlong: ¬(!its.toArray.isEmpty && Builtin.List.listTooLong (its.toArray.size+its2.toArray.size))=true:=by
  rw[zkF hsz,Bool.and_false];exact Bool.false_ne_true
 refine call_meets F.slot_list_extend ⟨_,e,rfl⟩ F.entry_list_extend (F.args_list_extend_2 _ _)
  (AutoSeq1.list_extend_list_list_0 l its.toArray n b its2.toArray n2 hlong (by rw[List.size_toArray];omega) (by omega)) ⟨e,e2,?_⟩
 refine⟨.non,_,I.lset (its':=its++its2) hH e (by simp) (r.append r2) ?_,rfl,q⟩;rw[List.length_append];omega
def zoo:V→List V→Hp→VK→Prop:=fun x vs H Q=> ∃l xs i k y,x= .ref l∧vs= [.int i]∧H l=some (.lst xs)∧ -(2 ^ 63)≤i∧i<2 ^ 63∧seqIndex? i xs.length=some k∧xs[k]? =some y∧Q y (upd H l (.lst (xs.eraseIdx k)))
theorem zkG:MtM X "list.pop" zoo:=by
 intro pins s σ H x vs v us Q I rx rv h;obtain⟨l,xs,i,k,y,rfl,rfl,hH,h1,h2,hk,hy,q⟩:=h;cases rx;obtain⟨u,rfl,ru⟩:=rv.one;obtain⟨t,rfl⟩:=ru;obtain⟨z,its,n,r,hl,e⟩:=I.lstM hH;obtain⟨w,hw,rw'⟩:=r.get hy;refine call_meets F.slot_list_pop ⟨_,e,rfl⟩ F.entry_list_pop (F.args_list_pop_2 _ _)
  (MeetsSeq.list_pop_at l its.toArray n i t k w (fitsIndex_both h1 h2) (by rw[List.size_toArray,←hl];exact hk) (by rw[←Array.getElem?_toList];exact hw) (by rw[List.size_toArray];omega)) ⟨e,?_⟩
 refine⟨y,_,I.lset (its':=its.eraseIdx k) hH e ?_ (r.eraseIdx k) ?_,rw',q⟩
 ·show its.toArray.eraseIdxIfInBounds k=(its.eraseIdx k).toArray;rw[List.eraseIdxIfInBounds_toArray]
 ·have:=zfW xs k;omega
def zqQ:R2:=fun x y H Q=> ∃l b xs zs,x= .ref l∧y= .ref b∧H l=some (.lst xs)∧H b=some (.lst zs)∧xs.length+zs.length≤sizeLine∧ ∀p,H p=none→Q (.ref p) (upd H p (.lst (xs++zs)))
theorem zop:OpR X (binaryOp .Add) zqQ:=by
 intro pins s σ H x y v u Q I rx ry h;obtain⟨l,b,xs,zs,rfl,rfl,hH,hB,hz,q⟩:=h;cases rx;cases ry;obtain⟨z,its,n,r,hl,e⟩:=I.lstM hH;obtain⟨z2,its2,n2,r2,hl2,e2⟩:=I.lstM hB;refine PySem.P.add_list e e2 ?_ (by rw[List.size_toArray,List.size_toArray];omega);have ea:its.toArray++its2.toArray=(its++its2).toArray:=by simp
 rw[ea];exact⟨.ref _,_,I.lnew (t':=s.toks) (r.append r2) (by rw[List.length_append];omega),rfl,q _ I.fresh⟩
end
section
variable {prog:Program} {w:World} {A:Around} {E:Value→Shared→Prop} {s:Shared}
end
section
variable {X:Cx}
end
end L2
namespace Att
open PySem PySem.W PySem.Calls PyProof.Rows
theorem zey{P:Params}{h:Heap}: ∀(ns:List Int) (vs:List Value),WellAll P h vs (ns.map WData.int)→IntsAre vs ns:=by
 intro ns;induction ns with
 |nil=>
  intro vs w;rw[List.map_nil] at w;cases w;exact .nil
 |cons n ns ih=>
  intro vs w;rw[List.map_cons] at w;cases w with
  |cons a b=>
   cases a;exact .cons _ _ (ih _ b)
theorem zjE{l:OpenLaw}{n:Nat}(hn:l.most=some n){P:Params}{h:Heap}{args:List WData}{vals:List Value}
  (hpre:l.row.toRowW.claim.pre args=true) (hwl:WellAll P h vals args):
  ∃a vs ns,vals= [Value.ref a]∧args= [WData.list (ns.map WData.int)]∧h.get? a=some {cls:= .type "list",data:= .seq vs.toArray}∧IntsAre vs ns∧ns.length≤n:=by
 have hsh:WShape.hasAll [] args [.list .int]=true:=(pre_splitW hpre).1;have hc:l.pre.holds [] {args:=args}=true:=(pre_splitW hpre).2;obtain⟨d,r,rfl,h1,h2⟩:=hasAllW_cons hsh;obtain rfl:=hasAllW_nil h2;obtain⟨xs,rfl,h3⟩:=hasW_list h1;obtain⟨ns,rfl⟩:=items_int h3;have hlen:ns.length≤n:=by
  unfold OpenLaw.pre at hc;have h4:(WTm.not (.lt (.lit (.int (n:Int))) (.len (.arg 0)))).holds [] {args:= [.list (ns.map .int)]}=true:=by
   have h4:=(holds_andW hc).1;rw[hn] at h4;exact h4
  have h5:=condW_of h4 (w_not (w_lt w_lit (w_len_list (w_arg rfl))));rw[List.length_map] at h5;refine Nat.le_of_not_lt fun q=> ?_;have q':(n:Int)<((ns.length:Nat):Int):=by omega
  first
   |(rw[decide_eq_true q'] at h5;exact absurd h5 (by decide))
   |(simp at h5;omega)
 cases hwl with
 |cons w1 w2=>
  cases w2;cases w1 with
  |list ho hall=>exact⟨_,_,ns,rfl,rfl,ho,zey ns _ hall,hlen⟩
theorem zjF(l:OpenLaw)(args:List WData):l.row.toRowW.claim.post args (.bool true) args=true:=
 postW_of (r:=l.row.toRowW) (X:=(true==true))
  (show WShape.has [] (.bool true) .bool=true by first|rfl|decide|simp [WShape.has,WShape.arms,WShape.armsAll])
  (show (WTm.eq .res (.lit (.bool true))).value [] {args:=args,res:=some (.bool true),after:=args}=some (.bool (true==true)) from w_eq_bool (w_res rfl) w_lit) rfl
theorem attach_call{l:OpenLaw}{n:Nat}{q:Program}{loose:List Str}{XP:(Str→Option Value)→Heap→Prop}{YP:World→Heap→Prop}{d:DefRec}
  (hn:l.most=some n) (hdf:d.params.defaults= [])
  (call: ∀(w:World) (s₀ s₁:Shared) (mg mb:Str→Option Value) (fa:Addr) (o:Obj) (pm cd doc:Value) (a:Addr) (vs:List Value) (ns:List Int),
   Ground q loose [] XP w s₀ mg mb s₁.heap→YP w s₁.heap→
   s₁.heap.get? fa=some o→o.data= .func (docDef d.name d.params d.body d.scope pm cd doc)→s₁.heap.CodeRec cd d.name→mg d.name=some (.ref fa)→
   s₁.heap.get? a=some {cls:= .type "list",data:= .seq vs.toArray}→IntsAre vs ns→ns.length≤n→s₁.gens= #[]→
   codeAny (model l.prog w) callerA (.call (.ref fa) ⟨[.ref a], []⟩) (fun r s'=>r= .ok (.ret (.bool true))∧OldK s₁.heap s'.heap∧s'.os=s₁.os∧AllBare s'.gens) s₁):
  WalkO q loose XP YP l.row.toRowW d [] (fun f vs=>PySem.call f vs):=by
 intro w s₀ s₁ mg mb G Y fa o pm cd doc dV kV ho hd hcd hD hmg hg args vals as hpre hlay hrd hwl hlo;obtain rfl:dV= .none:=Dflts.none hD hdf;obtain rfl:kV= .none:=Dflts.noKw hD;obtain⟨a,vs,ns,rfl,rfl,hobj,hints,hlen⟩:=zjE hn hpre hwl;refine enter_call (codeAny_mono (call w s₀ s₁ mg mb fa o pm cd doc a vs ns G Y ho (fd_plain hd) hcd hmg hobj hints hlen hg) fun r s' hq=> ?_);obtain⟨rfl,h2,h3,h4⟩:=hq;exact⟨.inl ⟨.bool true, .bool true, [],rfl,fun _=>rfl, .bool true,zjF l _,fun _=>⟨List.Pairwise.nil,fun _ hm=>(nomatch hm)⟩⟩,h2,h3,h4⟩
section
variable {prog:Program} {w:World} {A:Around} {E:Value→Shared→Prop} {s:Shared} {K:Frag}
end
end Att
namespace L2
open PySem PySem.Spec PyProof.Rows
theorem zfX: ∀{vs:List Value} {ns:List Int},IntsAre vs ns→zaI (ns.map V.int) vs
 |_,_, .nil=> .nil
 |_,_, .cons n t h=> .cons ⟨t,rfl⟩ (zfX h)
def zoq(H:Hp):Prop:= ∀b,H b=none∨ ∃o xs,H b=some (.frz o (.lst xs))
theorem zkH{P:Program}{w:World}{K:Fg}{mg mb:Str→Option Value}{CX:CXT}{k:Nat}{fa a:Addr}{fd:FuncData}{x:Str}{sp:Sp}{s₁:Shared}{vs:List Value}{ns:List Int}
  (KX:K.In s₁.heap) (hns:s₁.heap.Ns mainGlobals mg) (hb:s₁.heap.Ns builtinsNs mb) (hbb: ∀x:Str,x≠"__name__"→mb x=bootBuiltins x) (hlim:s₁.heap.NoLimit) (hg:s₁.gens= #[])
  (ha:s₁.heap.get? a=some {cls:= .type "list",data:= .seq vs.toArray}) (hi:IntsAre vs ns) (hl:ns.length≤sizeLine) (hr:Room k callerA)
  (F: ∀base:Heap,K.In base→base.Ns mainGlobals mg→FnOk P w K mg base CX k fa fd [x] sp) (hbind: ∀(s:Shared) (u:Value),BindsTo s fd ⟨[u], []⟩ [(x,u)])
  (hsp: ∀H:Hp,zoq H→SqL K H a (ns.map V.int)→sp [.ref a] H (fun v _=>v= .bl true) fun _ _ _=>False)
  (hCX: ∀H e s',CX [] H s₁ (fun _ _ _=>False) e s'→False):
  codeAny (model P w) callerA (.call (.ref fa) ⟨[.ref a], []⟩) (fun r s'=>r= .ok (.ret (.bool true))∧OldK s₁.heap s'.heap∧s'.os=s₁.os∧AllBare s'.gens) s₁:=by
 have rv:=zfX hi;have lenV:=hi.length;have core: ∀H:Hp,zoq H→SqL K H a (ns.map V.int)→HOk P w H s₁.heap→(∀b,H b≠none→b=a)→(H a≠none→K.lookup a=none)→
   codeAny (model P w) callerA (.call (.ref fa) ⟨[.ref a], []⟩) (fun r s'=>r= .ok (.ret (.bool true))∧OldK s₁.heap s'.heap∧s'.os=s₁.os∧AllBare s'.gens) s₁:=by
  intro H hO hS hok hA hK;have base_of: ∀{b:Addr} {o:Obj},s₁.heap.get? b=some o→H b=none→(zgv s₁.heap H).get? b=some o:=fun e n=>zke e n;have noA: ∀{b:Addr} {o:Obj} {es:Array DictEntry} {ep:Nat},s₁.heap.get? b=some o→o.data= .dict es ep→H b=none:=fun {b o es ep} e d=>by
   cases q:H b with
   |none=>rfl
   |some u=>
    have e':b=a:=hA b (by rw[q];simp);subst e';rw[ha] at e;cases e;have d':Data.seq vs.toArray _=Data.dict es ep:=d;cases d'
  have nsK: ∀{b:Addr} {m:Str→Option Value},s₁.heap.Ns b m→(zgv s₁.heap H).Ns b m:=fun {b m} ⟨o,es,ep,e,d,r⟩=>⟨o,es,ep,base_of e (noA e d),d,r⟩
  have hKb:K.In (zgv s₁.heap H):=fun b o e=>base_of (KX b o e) (by
   cases q:H b with
   |none=>rfl
   |some u=>
    have e':b=a:=hA b (by rw[q];simp);subst e';rw[hK (by rw[q];simp)] at e;cases e)
  have hM:Mod K mg (zgv s₁.heap H):=⟨hKb,nsK hns,⟨mb,nsK hb,hbb⟩,let ⟨mc,h1,h2⟩:=hlim;⟨mc,nsK h1,h2⟩⟩
  have e0:Env0 P w K mg (zgv s₁.heap H) callerA [] s₁ H:=⟨rfl,hM,fun b o e=>zmz e,Nat.le_of_eq (zjw _ _),trivial,fun b hb=>absurd (show b∈([]:List Addr) from hb) (by simp),hok, .of_eq hg⟩
  refine codeAny_mono ((F _ hKb (nsK hns)).run callerA [] s₁ H ⟨[.ref a], []⟩ [.ref a] [.ref a] _ _ hr e0 (hbind s₁ (.ref a)) (.cons rfl .nil) (hsp H hO hS)) fun r s' h=> ?_;cases r with
  |error e=>exact(hCX H e s' h).elim
  |ok fl=>
   cases fl with
   |next=>exact False.elim h
   |brk=>exact False.elim h
   |cont=>exact False.elim h
   |ret u=>
    obtain⟨v,H',os,bare,un,hok',r',q⟩:=h;have q':v= .bl true:=q;subst q';obtain rfl:u=Value.bool true:=r';refine⟨rfl,OldK.of_keep fun b o e=> ?_,os,bare⟩;cases q:H b with
    |none=>exact un.keep b o e q (by intro z;exact absurd (show b∈([]:List Addr) from z) (by simp)) (by simp)
    |some u=>
     rcases hO b with z|⟨ob,xs,z⟩
     ·rw[q] at z;cases z
     ·have z2:=un.frzs b ob _ z;obtain⟨e1,_⟩:=hok b _ z;obtain⟨e2,_⟩:=hok' b _ z2;rw[e] at e1;cases e1;exact e2
 cases hk:K.lookup a with
 |some o=>
  have e:=KX a o hk;rw[ha] at e;cases e;refine core (fun _=>none) (fun _=> .inl rfl) (.inr ⟨_,vs.toArray,_,hk,rfl,rfl,rfl,by rw[List.size_toArray,lenV];exact hl,by simpa using rv⟩) (fun b u z=>by have z':(none:Option HO)=some u:=z;cases z') (fun b z=>absurd rfl z) fun z=>absurd rfl z
 |none=>
  refine core (fun b=>if b=a then some (.frz {cls:= .type "list",data:= .seq vs.toArray} (.lst (ns.map V.int))) else none) (fun b=> ?_) (.inl (.inr ⟨{cls:= .type "list",data:= .seq vs.toArray},if_pos rfl⟩)) (fun b u z=> ?_) (fun b z=> ?_) fun _=>hk
  ·by_cases hb:b=a
   ·exact .inr ⟨_,_,if_pos hb⟩
   ·exact .inl (if_neg hb)
  ·by_cases hb:b=a
   ·have z':=(if_pos hb).symm.trans z;cases z';subst hb;exact⟨ha,by rw[List.length_map];exact hl,vs,_,rv,ha⟩
   ·have z':=(if_neg hb).symm.trans z;cases z'
  ·by_cases hb:b=a
   ·exact hb
   ·exact absurd (if_neg hb) z
end L2
namespace L2
open PySem PySem.Spec PyProof.Rows
abbrev KOf{K:Fg}{h:Heap}(_:K.In h):Fg:=K
theorem walk_of{l:PySem.W.OpenLaw}{n k:Nat}{q:Program}{loose:List Str}{XP:(Str→Option Value)→Heap→Prop}{YP:World→Heap→Prop}{d:DefRec}{K:Params→Fg}{CX:World→CXT}{sp:World→Sp}{x:Str}
  (hn:l.most=some n) (hn2:n≤sizeLine) (hdf:d.params.defaults= []) (hr:Room k callerA)
  (hY: ∀(w:World) (h:Heap),YP w h→(K w.params).In h)
  (F: ∀(w:World) (mg:Str→Option Value) (fa:Addr) (h:Heap),(K w.params).In h→h.Ns mainGlobals mg→mg d.name=some (.ref fa)→
   ∃fd:FuncData,(∀(s:Shared) (u:Value),BindsTo s fd ⟨[u], []⟩ [(x,u)])∧
    ∀base:Heap,(K w.params).In base→base.Ns mainGlobals mg→FnOk l.prog w (K w.params) mg base (CX w) k fa fd [x] (sp w))
  (hsp: ∀(w:World) (H:Hp) (a:Addr) (ns:List Int),ns.length≤n→zoq H→SqL (K w.params) H a (ns.map V.int)→sp w [.ref a] H (fun v _=>v= .bl true) fun _ _ _=>False)
  (hCX: ∀(w:World) (H:Hp) (s:Shared) (e:Value) (s':Shared),CX w [] H s (fun _ _ _=>False) e s'→False):
  PySem.W.WalkO q loose XP YP l.row.toRowW d [] (fun f vs=>PySem.call f vs):=by
 refine Att.attach_call hn hdf fun w s₀ s₁ mg mb fa o pm cd doc a vs ns G Y ho hd hcd hmg hobj hints hlen hg=> ?_;have KX:=hY w _ Y;obtain⟨fd,hb,hF⟩:=F w mg fa _ KX G.T.g hmg;exact zkH KX G.T.g G.T.b G.T.builtins G.T.nolimit hg hobj hints (Nat.le_trans hlen hn2) hr hF hb (fun H hO hS=>hsp w H a ns hlen hO hS) fun H e s'=>hCX w H s₁ e s'
end L2
namespace L2
open PySem PySem.Spec PyProof.Rows
def zcQ(s:Stmt):Arguments:=match s with
 | .FunctionDef _ a _ _ _ _ _ _ _ _=>a
 |_=>{posonlyargs:= [],args:= [],vararg:=none,kwonlyargs:= [],kw_defaults:= [],kwarg:=none,defaults:= []}
def zcp(s:Stmt):List Stmt:=match s with
 | .FunctionDef _ _ b _ _ _ _ _ _ _=>b
 |_=> []
def zak(s:Stmt):Scope:=match s with
 | .FunctionDef _ _ _ _ _ _ sc _ _ _=>sc
 |_=>{kind:= .function,names:= [],isGenerator:=false,isCoroutine:=false}
structure Fun (K:Fg) (x qual:Str) (st:Stmt) (f:Addr) (fd:FuncData):Prop where
 ex: ∃(oc:Value) (od:Option Addr) (kV doc pm:Value) (an:Option Addr) (cdv ct:Value) (osl:Array (Option Value)),
  fd=PySem.W.fnOf x qual (zcQ st) (zcp st) (zak st) .none kV doc pm an cdv ct∧K.lookup f=some ⟨oc,od, .func fd,osl⟩∧PySem.W.codeIn K cdv qual=true
 kp:PySem.W.keepIn K (.ref f)=true
section
variable {P:Program} {w:World} {K:Fg} {mg:Str→Option Value} {base:Heap}
theorem Fun.binds{x qual:Str}{st:Stmt}{f:Addr}{fd:FuncData}{ps:List Str}(F:Fun K x qual st f fd)
  (h: ∀(kV doc pm:Value) (an:Option Addr) (cdv ct:Value) (us:List Value),us.length=ps.length→bindArgs (PySem.W.fnOf x qual (zcQ st) (zcp st) (zak st) .none kV doc pm an cdv ct) ⟨us, []⟩=pure (ps.zip us)):zbM K fd ps []:=by
 obtain⟨oc,od,kV,doc,pm,an,cdv,ct,osl,rfl,lk,hcd⟩:=F.ex;exact .all (h kV doc pm an cdv ct)
theorem zkI{x qual:Str}{st:Stmt}{f:Addr}{oc:Value}{od an:Option Addr}{osl:Array (Option Value)}{kV doc pm cdv ct:Value}(l:K.lookup f=some ⟨oc,od, .func (PySem.W.fnOf x qual (zcQ st) (zcp st) (zak st) .none kV doc pm an cdv ct),osl⟩)
  (c:PySem.W.codeIn K cdv qual=true) (k:PySem.W.keepIn K (.ref f)=true):Fun K x qual st f (PySem.W.fnOf x qual (zcQ st) (zcp st) (zak st) .none kV doc pm an cdv ct):=⟨⟨oc,od,kV,doc,pm,an,cdv,ct,osl,rfl,l,c⟩,k⟩
end
theorem zc3{A:Around}{k:Nat}(hr:Room k A):A.units+1<cLine:=Nat.lt_of_le_of_lt (Nat.add_le_add_left (by decide:1≤64) _) hr.units
theorem zba{n:Nat}(h:n≤1000):n<sizeLine:=Nat.lt_of_le_of_lt h (by decide)
section
variable {X:Cx}
theorem pv(i:Nat){x:Str}{pos:Pos}(hN:X.N[i]? =some x:=by rfl)(hv:Vis X.env.scope x:=by first|exact Or.inl rfl|exact Or.inr (Or.inl rfl)|exact Or.inr (Or.inr rfl))(hd:(x==("__debug__":Str))=false:=by decide)
  (hcd:(x==("__classdict__":Str))=false:=by decide):PE X (.Name x pos) (znW i):=zkf hN hv hd hcd
end
def zam(H H':Hp):Prop:= ∀b o,H b=some o→H' b=some o
theorem zam.refl(H:Hp):zam H H:=fun _ _ h=>h
theorem zam.trans{H H1 H2:Hp}(a:zam H H1)(b:zam H1 H2):zam H H2:=fun c o h=>b c o (a c o h)
theorem zam.free{H H':Hp}(e:zam H H'){l:Addr}(h:H' l=Option.none):H l=Option.none:=by
 cases q:H l with
 |none=>rfl
 |some o=>
  rw[e l o q] at h;cases h
theorem zam.seq{K:Fg}{H H':Hp}{a:Addr}{xs:List V}(e:zam H H')(h:SqL K H a xs):SqL K H' a xs:=by
 rcases h with(h|⟨o,h⟩)|h
 ·exact .inl (.inl (e _ _ h))
 ·exact .inl (.inr ⟨o,e _ _ h⟩)
 ·exact .inr h
end L2
set_option maxHeartbeats 4000000
namespace L2
open PySem PySem.Spec PyProof.Rows
theorem zbh.is{P:Program}{w:World}{H:Hp}{h:Heap}{a:Addr}{o:HO}(x:zbh P w H h a o): ∃ob,h.get? a=some ob:=by
 cases o with
 |lst xs=>obtain⟨_,_,_,_,e⟩:=x;exact⟨_,e⟩
 |tup xs=>obtain⟨_,_,_,ob,e,_⟩:=x;exact⟨_,e⟩
 |dK kvs=>obtain⟨_,_,_,_,o,_,_,e,_⟩:=x;exact⟨_,e⟩
 |dT kvs=>obtain⟨_,_,_,_,o,_,_,e,_⟩:=x;exact⟨_,e⟩
 |set S n=>obtain⟨o,_,_,_,e,_⟩:=x;exact⟨_,e⟩
 |ins C dx fs=>obtain⟨_,_,_,e,_⟩:=x;exact⟨_,e⟩
 |own y=>obtain⟨_,e⟩:=x;exact⟨_,e⟩
 |xd fs=>obtain⟨_,⟨_,_,_,e,_⟩,_⟩:=x;exact⟨_,e⟩
 |rng lo hi=>obtain⟨_,_,_,e⟩:=x;exact⟨_,e⟩
 |frz ob u=>obtain⟨e,_⟩:=x;exact⟨_,e⟩
 |tbl ps=>exact⟨_,(show h.get? a=some _ from x)⟩
 |met f y=>exact⟨_,(show h.get? a=some _ from x)⟩
 |ext φ=>obtain⟨_,⟨_,e⟩,_⟩:=x;exact⟨_,e⟩
structure Fly (P:Program) (w:World) (l:List Env) (H:Hp) (s:Shared) (ea:Addr) (cls:Value) (H':Hp) (s':Shared):Prop where
 os:s'.os=s.os
 bare:AllBare s'.gens
 un:Un (frs l) [] H H' s.heap s'.heap
 ex: ∃B a0,Heap.FlyingW B l ea cls a0 s'.heap∧HOk P w H' B∧(∀b o,s.heap.get? b=some o→H b=none→b∉frs l→B.get? b=some o)∧
  ∀b o,s.heap.get? b=some o→b∉frs l→ ∃o',B.get? b=some o'
structure Cx.Own (X:Cx):Prop where
 stk:X.stack=X.env::X.outer
 fr:X.env.frame=some X.env.locals
 ex:X.ex= []
section
variable {X:Cx} {pins:List (Addr×Obj)} {σ:St} {H H':Hp} {s s':Shared} {ea:Addr} {cls a0:Value} {B h1 h2 h':Heap} {M:Model} {E:Value→Shared→Prop} {Q:Unit→Shared→Prop}
theorem Inv.fly_out(W:X.Own)(I:Inv X pins σ H s)(u:Un (frs X.stack) [] H H' s.heap h1)(up:h1.UpToSlots s'.heap)(ff:h1.FunFrames B X.stack)(fl:Heap.FlyingW B X.outer ea cls a0 s'.heap)(hok:HOk X.prog X.w H' B)
  (kp: ∀b o,s.heap.get? b=some o→H b=none→b∉frs X.stack→B.get? b=some o) (th: ∀b o,s.heap.get? b=some o→b∉frs X.stack→ ∃o',B.get? b=some o') (os:s'.os=s.os) (bare:AllBare s'.gens):
  Fly X.prog X.w X.outer X.H₀ X.s₀ ea cls H' s':=by
 have nst: ∀b o,X.s₀.heap.get? b=some o→b∉frs X.outer→b∉frs X.stack:=fun b o e hb z=>by
  rcases List.mem_cons.mp (I.stkSub b z) with q|q
  ·exact absurd q (Nat.ne_of_lt (Nat.lt_of_lt_of_le (Heap.lt_size e) I.ok.above))
  ·exact hb q
 have nx: ∀b,b∉X.ex:=fun b=>by rw[W.ex];simp
 have nn: ∀b:Addr,b∉([]:List Addr):=fun b=>by simp
 have inS: ∀b,b∈frs X.outer→b∈frs X.stack:=fun b hb=>by
  rw[W.stk];obtain⟨env,he,hf⟩:=List.mem_filterMap.mp hb;exact List.mem_filterMap.mpr ⟨env,List.mem_cons_of_mem _ he,hf⟩
 have kpo: ∀b o,X.s₀.heap.get? b=some o→X.H₀ b=none→b∉frs X.outer→B.get? b=some o:=fun b o e n hb=>
  kp b o (I.base.keep b o e n hb (nx b)) (I.base.free b o e n (nx b)) (nst b o e hb)
 refine⟨os.trans I.os,bare,⟨fun b o e n hb _=>fl.1 b o (kpo b o e n hb),fun b o e n hb _=> ?_,fun b o e n _=> ?_,fun b o e _=> ?_,fun b xs e=>u.tups b xs (I.base.tups b xs e),fun b o xs e=>u.frzs b o xs (I.base.frzs b o xs e),fun b ps e=> ?_⟩,
  B,a0,fl,hok,kpo,fun b o e hb=> ?_⟩
 ·obtain⟨sl,e1⟩:=I.base.slot b o e n hb (nx b);obtain⟨sl2,e2⟩:=u.any e1 (I.base.free b o e n (nx b)) (nn b);obtain⟨_,o',ho',hnf⟩:=ff.mem (inS b hb);rw[e2] at ho';cases ho';obtain⟨sl3,e3⟩:=up b _ e2 hnf;exact⟨sl3,e3⟩
 ·obtain⟨o',e1⟩:=I.base.there b o e (nx b);exact u.free b o' e1 (I.base.free b o e n (nx b)) (nn b)
 ·obtain⟨o1,e1⟩:=I.base.there b o e (nx b);by_cases hb:b∈frs X.stack
  ·obtain⟨_,o',ho',hnf⟩:=ff.mem hb;obtain⟨sl3,e3⟩:=up b _ ho' hnf;exact⟨_,e3⟩
  ·obtain⟨o2,e2⟩:=th b o1 e1 hb;exact⟨o2,fl.1 b o2 e2⟩
 ·obtain⟨m1,e1⟩:=I.base.tbls b ps e;obtain⟨m2,e2⟩:=u.tbls b _ e1;exact⟨m1++m2,by rw[e2,Array.append_assoc]⟩
 ·obtain⟨o1,e1⟩:=I.base.there b o e (nx b);exact th b o1 e1 (nst b o e hb)
theorem zor(W:X.Own)(I:Inv X pins σ H s)(F:Fly X.prog X.w X.stack H s ea cls H' s')
  (hQ: ∀h',Fly X.prog X.w X.outer X.H₀ X.s₀ ea cls H' {s' with heap:=h'}→Q () {s' with heap:=h'}):wpAny M X.A (leaving X.env (.ref ea)) Q E s':=by
 obtain⟨B,a0,fl,hok,kp,th⟩:=F.ex;have fl2:=fl;rw[W.stk] at fl2;refine wpAny_leaves_onW (by rw[I.ok.frames,W.stk]) W.fr fl2 fun h' fl' up=>hQ h' ?_;exact I.fly_out W F.un up fl.2.2.1 fl' hok kp th F.os F.bare
theorem Inv.hide(I:Inv X pins σ H s):HOk X.prog X.w H (PySem.W.hideAll s.heap (frs X.stack))∧
  s.heap.FunFrames (PySem.W.hideAll s.heap (frs X.stack)) X.stack:=by
 refine⟨fun a u e=>(I.hok a u e).stay (fun b v hc q=>PySem.W.hideAll_get _ q fun z=> ?_) (fun _ q=>q) fun _ _ q=>q,PySem.W.funFrames_hide I.stack fun env he a ha=>List.mem_filterMap.mpr ⟨env,he,ha⟩⟩;have n:=I.stkFree b z;rcases hc with rfl|hc
 ·rw[n] at e;cases e
 ·rw[n] at hc;cases hc
theorem zmK(W:X.Own)(I:Inv X pins σ H s){args:List Value}(hx:Heap.MadeExcOf s.heap h2 ea cls args)
  (hQ: ∀h',Fly X.prog X.w X.outer X.H₀ X.s₀ ea cls H {s with heap:=h'}→Q () {s with heap:=h'}):wpAny M X.A (leaving X.env (.ref ea)) Q E {s with heap:=h2}:=by
 obtain⟨hok,ff⟩:=I.hide;have ff2:=ff;rw[W.stk] at ff2;refine wpAny_leaves_madeW (s:={s with heap:=h2}) (base:=PySem.W.hideAll s.heap (frs X.stack)) (h:=s.heap) (by rw[I.ok.frames,W.stk]) W.fr (fun b o q=>PySem.W.of_hideAll _ q) (by rw[←W.stk];exact ff) hx fun h' t fl tup bt up=>hQ h' ?_;exact I.fly_out (s':={s with heap:=h'}) W (Un.kept hx.keeps) up (ff.of_keeps fun b o e _=>⟨o,hx.keeps b o e,rfl⟩) fl hok (fun b o e _ hb=>PySem.W.hideAll_get _ e hb) (fun b o e hb=>⟨o,PySem.W.hideAll_get _ e hb⟩) rfl I.bare
end
def CXE(P:Program)(w:World):CXT:=fun l H s E e s'=> ∃ea cls H',e= .ref ea∧Fly P w l H s ea cls H' s'∧E cls none H'
structure Lv (X:Cx) (Ek:St→XK):Prop where
 call: ∀pins σ ea cls H H' s s',Inv X pins σ H s→Fly X.prog X.w X.stack H s ea cls H' s'→Ek σ cls none H'→X.xe (.ref ea) s'
structure LvR (X:Cx) (Ek:St→XK):Prop extends Lv X Ek where
 new: ∀pins σ ea cls args H s h2,Inv X pins σ H s→Heap.MadeExcOf s.heap h2 ea cls args→Ek σ cls none H→X.xe (.ref ea) {s with heap:=h2}
theorem zos{P:Program}{w:World}{K:Fg}{mg:Str→Option Value}{base:Heap}{N:List Str}{qual:Str}{scope:Scope}{f:Addr}{cd:Value}{A:Around}{outer:List Env}{s:Shared}{H:Hp}{E:XK}:
  LvR (zfL (CXE P w) P w K mg base N qual scope f cd A outer s H E) (fun _=>E):=by
 have W:(zfL (CXE P w) P w K mg base N qual scope f cd A outer s H E).Own:=⟨rfl,rfl,rfl⟩
 refine⟨⟨fun pins σ ea cls H1 H' s1 s' I F q=> ?_⟩,fun pins σ ea cls args H1 s1 h2 I hx q=> ?_⟩
 ·exact zor W I F fun h' F=>⟨ea,cls,H',rfl,F,q⟩
 ·exact zmK W I hx fun h' F=>⟨ea,cls,H1,rfl,F,q⟩
section
variable {X:Cx} {Ek:St→XK} {k:Nat} {f C:Addr} {fd:FuncData} {ps:List Str} {sp:Sp} {dvs:List V} {ds:List Value} {x:Str} {p pos:Pos} {e:Expr} {es:List Expr} {t:TA}
theorem zmL{pins:List (Addr×Obj)}{σ:St}{H:Hp}{s:Shared}{Q:VK}{us:List Value}{vs:List V}(L:Lv X Ek)(F:FnOk X.prog X.w X.K X.mg X.base (CXE X.prog X.w) k f fd ps sp)(hr:Room k X.A)(hb:zbM X.K fd ps ds)(hd:zaI dvs ds)
  (I:Inv X pins σ H s) (r:zaI vs us) (h:sp (vs++dvs) H Q (Ek σ)):wpAny (model X.prog X.w) X.A (call (.ref f) us) (EP X pins σ Q) X.xe s:=by
 have r2:zaI (vs++dvs) (us++ds):=r.append hd;have hl:(us++ds).length=ps.length:=by rw[←r2.length];exact F.len _ _ _ _ h
 refine wpAny_call (codeAny_mono (F.run X.A X.stack s H ⟨us, []⟩ (us++ds) (vs++dvs) Q (Ek σ) hr I.env0 (hb s us I.kIn hl) r2 h) fun r s' hq=> ?_);cases r with
 |error e=>
  obtain⟨ea,cls,H',rfl,fl,q⟩:=hq;exact L.call pins σ ea cls H H' s s' I fl q
 |ok fl=>
  cases fl with
  |ret u=>exact I.after hq
  |next=>exact False.elim hq
  |brk=>exact False.elim hq
  |cont=>exact False.elim hq
def zgC(sp:Sp)(dvs:List V)(Ek:St→XK)(t:TA):TE:=fun σ H Q=>t σ H fun vs H1=>sp (vs++dvs) H1 Q (Ek σ)
theorem zkJ(L:Lv X Ek)(F:FnOk X.prog X.w X.K X.mg X.base (CXE X.prog X.w) k f fd ps sp)(hr:Room k X.A)(hg:Gl X x)(hm:X.mg x=some (.ref f))(hk:PySem.W.keepIn X.K (.ref f)=true)(hb:zbM X.K fd ps ds)(hd:zaI dvs ds)
  (ha:PA X (e::es) t) (hdb:(x==("__debug__":Str))=false:=by decide) (he:starEach (e::es) X.env=(false,eval e X.env)::starEach es X.env:=by rfl) (hpl:(backTo pos (starEach es X.env)).any (·.1)=false:=by rfl):
  PE X (.Call (.Name x p) (e::es) [] pos) (zgC sp dvs Ek t):=by
 intro pins s σ H Q I h;refine wpAny_Call_Name_kw (zdK I hg hm ?_ hdb);refine PySem.W.callWith_K (h₀:=X.base) I.ok.mod.kin hk (thn (ha pos pins s σ H _ I h) fun us s1 ⟨vs,H1,I1,r,q⟩=>⟨I1.kIn,?_⟩) he hpl;exact zmL L F hr hb hd I1 r q
structure Exc (K:Fg) (C:Addr):Prop where
 ok: ∃bmB newId initId,ExcBaseFacts "ValueError" newId initId bmB∧PySem.W.excIn K C bmB newId=true
theorem zmM{K:Fg}{h:Heap}{C:Addr}{bmB:List Value}{newId:String}(X:K.In h)(q:PySem.W.excIn K C bmB newId=true):
  ∃bm N nm q bs hdct sn sub ab col dd k0 k1 k2 k3 k5 mN,h.get? C=some (excClassObj nm q C N bs bm hdct sn sub ab col dd k0 k1 k2 k3 k5 newId)∧h.Ns N mN∧mN "__init__"=none∧OwnTail h bmB bm:=by
 unfold PySem.W.excIn at q;split at q
 case h_2=>cases q
 case h_1 dd cd sl ho=>
  split at q
  case h_2=>cases q
  case h_1 C1 bm1 a0 a1 a2 a3 nw a5 hm hs=>
   simp only[Bool.and_eq_true,beq_iff_eq,Bool.not_eq_true'] at q;obtain⟨⟨⟨⟨⟨e1,e2⟩,e3⟩,e4⟩,e5⟩,e6⟩:=q;subst e1;subst e2;cases cd with
   |mk nm bs mro ns qn hd sn sub ab col del=>
    have m1:mro= .ref C1::bm1:=hm;have m2:del=false:=e3;subst m1;subst m2;have z:sl= #[a0,a1,a2,a3,some (.builtin nw),a5]:=Array.toList_inj.mp hs;subst z;exact⟨bm1,ns,nm,qn,bs,hd,sn,sub,ab,col,dd,a0,a1,a2,a3,a5,_,X _ _ ho,Heap.Ns.of_isNs (PySem.W.isNs_of_in X e5),PySem.W.nsMap_none_of_in X e5 e6,PySem.W.tail_of_in X e4⟩
def zh5(C:Addr)(Ek:St→XK)(t:TA):TS:=fun _ σ H=>t σ H fun vs H1=>vs.length≤sizeLine∧Ek σ (.ref C) none H1
theorem zkK(L:LvR X Ek)(O:Exc X.K C)(hc:X.calm=true)(hg:Gl X x)(hm:X.mg x=some (.ref C))(ha:PA X (e::es) t)(hdb:(x==("__debug__":Str))=false:=by decide)
  (he:starEach (e::es) X.env=(false,eval e X.env)::starEach es X.env:=by rfl) (hpl:(backTo pos (starEach es X.env)).any (·.1)=false:=by rfl) {rpos:Pos}:
  PS X (.Raise (some (.Call (.Name x p) (e::es) [] pos)) none rpos) (zh5 C Ek t):=by
 intro pins s σ H D I h;obtain⟨bmB,newId,initId,FB,q⟩:=O.ok;obtain⟨tl,N,nm,qn,bs,hdct,sn,sub,ab,col,dd,k0,k1,k2,k3,k5,mN,hC,hN,hni,T⟩:=zmM I.ok.mod.kin q;refine wpAny_Raise_call_subT (C:=C) (nm:=nm) (q:=qn) (N:=N) (bs:=bs) (bm:=tl) (hdct:=hdct) (sn:=sn) (sub:=sub) (ab:=ab) (col:=col) (dd:=dd) (k0:=k0) (k1:=k1) (k2:=k2) (k3:=k3) (k5:=k5)
  FB (mN:=mN) (T.hasType FB.hasBase) (I.ok.hd hc) (by rw[he];show (false||(backTo pos (starEach es X.env)).any (·.1))=false;rw[hpl];rfl) hni (zdK I hg hm ⟨rfl,?_⟩ hdb)
 have ha':=ha pos pins s σ H _ I h;rw[he] at ha' ⊢;refine Calls.evalArgs_plain (wpAny_mono ha' (fun us s2 hq=> ?_) fun _ _ y=>y);obtain⟨vs,H1,I1,r,hl,q1⟩:=hq;refine⟨rfl,by rw[←r.length];exact hl,I1.bk _ _ hC,hN.keeps I1.bk,T.keeps I1.bk,fun h' ea hm=> ?_⟩;exact L.new pins σ ea _ us H1 s2 h' I1 hm q1
end
def zqa(ea:Addr)(cls:Value):HO:= .ext fun h=> ∃o vs,h.get? ea=some o∧o.cls=cls∧o.data= .fields vs
section
variable {X:Cx} {pins:List (Addr×Obj)} {σ:St} {H H':Hp} {s s':Shared}
end
section
variable {X:Cx} {body suite:List Stmt} {b₀:Stmt} {n xn:Str} {i:Nat} {C:Addr} {tb:(St→XK)→TS} {ts:TS} {np hpos pos:Pos}
end
end L2
namespace L2
open PySem PySem.Spec PyProof.Rows
theorem Fun.okX{P:Program}{w:World}{K:Fg}{mg:Str→Option Value}{base:Heap}{x qual:Str}{st:Stmt}{f:Addr}{fd:FuncData}{N ps:List Str}{k:Nat}{sp:Sp}(F:Fun K x qual st f fd)(S:FnScope N ps (zak st))(len: ∀vs H Q E,sp vs H Q E→vs.length=ps.length)
  (hbody: ∀(cdv:Value) (A:Around) (outer:List Env) (s:Shared) (H:Hp) (vs:List V) (Q:VK) (E:XK),LvR (zfL (CXE P w) P w K mg base N qual (zak st) f cdv A outer s H E) (fun _=>E)→Room k (A.deeper (envOfC qual (zak st) s.heap.objs.size f cdv))→sp vs H Q E→
   ∃t,PSs (zfL (CXE P w) P w K mg base N qual (zak st) f cdv A outer s H E) (zcp st) t∧t {nx:=fun _ H'=>Q .non H',rt:=Q} (start N vs) H):FnOk P w K mg base (CXE P w) (k+1) f fd ps sp:=by
 obtain⟨oc,od,kV,doc,pm,an,cdv,ct,osl,rfl,lk,hcd⟩:=F.ex;exact zp8 lk hcd S len fun A outer s H vs Q E hr hsp=>hbody cdv A outer s H vs Q E zos hr hsp
end L2
namespace L2
open PySem PySem.Spec PyProof.Rows
theorem zdy:bootBuiltins "len"=some (.builtin "len"):=by decide+kernel
theorem zdz:bootBuiltins "min"=some (.builtin "min"):=by decide+kernel
theorem zfY:bootBuiltins "divmod"=some (.builtin "divmod"):=by decide+kernel
theorem zgD:bootBuiltins "int"=some (.type "int"):=by decide+kernel
theorem zmN:bootBuiltins "list"=some (.type "list"):=by decide+kernel
open PySem.Builtin PySem.Builtin.ObjectAttr PySem.Builtin.Getset_descriptor
structure ExcCls (K:Fg) (D:Addr):Prop where
 cls:(PySem.W.clsIn K D).isSome=true
 ga:PySem.W.findIn K (.ref D) "__getattribute__"=some (some (.builtin "BaseException.__getattribute__"))
 gt:PySem.W.findIn K (.ref D) "__getattr__"=some none
 cl:PySem.W.findIn K (.ref D) "__class__"=some (some (.builtin "object.__class__"))
 mo:PySem.W.mroIn K D (.type "object")=some true
 mb:PySem.W.mroIn K D (.type "BaseException")=some true
section
variable {prog:Program} {w:World} {A:Around} {E:Value→Shared→Prop} {h:Heap} {g:Array GenState} {d:Drawn} {t:Nat} {os:OsState} {K:Fg} {a D:Addr} {o:Obj}
end
inductive TyX (K:Fg) (H:Hp):V→Value→Prop where
 |old {x:V} {t:Value} (h:TyOf K H x t):TyX K H x t
 |exc {a D:Addr} (e:H a=some (zqa a (.ref D))) (C:ExcCls K D):TyX K H (.ref a) (.ref D)
structure ClsOk (K:Fg) (C:Addr):Prop where
 cls:(PySem.W.clsIn K C).isSome=true
 ty:PySem.W.typeIn K (.ref C)=some (.type "type")
 me:PySem.W.mroIn K C (.ref C)=some true
section
variable {X:Cx}
end
section
variable {X:Cx}
end
theorem zqR{CX:CXT}{P:Program}{w:World}{K:Fg}{mg:Str→Option Value}{base:Heap}{N:List Str}{qual:Str}{scope:Scope}{f:Addr}{cd:Value}{A:Around}{outer:List Env}{s:Shared}{H:Hp}{E:XK}:
  (zfL CX P w K mg base N qual scope f cd A outer s H E).K=K:=rfl
theorem slT{n:Nat}(h:n≤1000):(n≤sizeLine)=True:=eq_true (Nat.le_trans h (by decide))
theorem ixL{K:Fg}{H:Hp}{p:Addr}{xs:List V}{i:Int}{v:V}{Q:VK}(h:SqL K H p xs)(e:atI xs i=some v)(q:Q v H):zkD K (.ref p) (.int i) H Q:=⟨p,xs,i,v,rfl,rfl,h,e,q⟩
theorem ixT{K:Fg}{H:Hp}{p:Addr}{xs:List V}{i:Int}{v:V}{Q:VK}(h:SqT K H p xs)(e:atI xs i=some v)(q:Q v H):zfN K (.ref p) (.int i) H Q:=⟨p,xs,i,v,rfl,rfl,h,e,q⟩
theorem zdN{xs:List Int}{i:Int}(h0:0≤i)(h1:i<xs.length):atI (xs.map V.int) i=some (.int (xs.getD i.toNat 0)):=by
 obtain⟨k,rfl⟩:=Int.eq_ofNat_of_zero_le h0;have hk:k<xs.length:=by omega
 refine zb1 ?_;rw[List.getElem?_map,List.getElem?_eq_getElem hk,Int.toNat_natCast,List.getD_eq_getElem?_getD,List.getElem?_eq_getElem hk];rfl
theorem zbN{H:Hp}{p:Addr}(h:H p=none)(o:HO):zam H (upd H p o):=fun b u q=>by rw[zal (zaD q h)];exact q
theorem zmO(a b:Int):(zeM (.int a) (.int b)=true)=True:=eq_true rfl
theorem zmP(a b:Bool):(zeM (.bl a) (.bl b)=true)=True:=eq_true rfl
theorem zmQ(a b:Str):(zeM (.str a) (.str b)=true)=True:=eq_true rfl
theorem zmR(b:Int):(zeM .non (.int b)=true)=True:=eq_true rfl
theorem zmS(a:Int):(zeM (.int a) .non=true)=True:=eq_true rfl
end L2
namespace L2
open PySem PySem.Spec PyProof.Rows
section
variable {X:Cx}
end
theorem zdO{H H':Hp}{p:Addr}{o:HO}(s:zam H H')(h:H p=none):zam H (upd H' p o):=fun b u q=>by
 rw[zal (zaD q h)];exact s b u q
theorem zam.sqT{K:Fg}{H H':Hp}{a:Addr}{xs:List V}(e:zam H H')(h:SqT K H a xs):SqT K H' a xs:=by
 rcases h with(h|⟨o,h⟩)|h
 ·exact .inl (.inl (e _ _ h))
 ·exact .inl (.inr ⟨o,e _ _ h⟩)
 ·exact .inr h
end L2
namespace L2
open PySem PySem.Spec PyProof.Rows
def zqb(t:TS):TS:=fun D σ H=> ∃R:St→Hp→Prop,t {D with nx:=R} σ H∧ ∀σ' H',R σ' H'→D.nx σ' H'
theorem zdA{X:Cx}{st:Stmt}{t:TS}(h:PS X st t):PS X st (zqb t):=by
 intro pins s σ H D I q;obtain⟨R,q1,q2⟩:=q;refine thn (h pins s σ H {D with nx:=R} I q1) fun f s1 z=> ?_;cases f with
 |next=>
  obtain⟨σ',H',I',z⟩:=z;exact⟨σ',H',I',q2 _ _ z⟩
 |ret v=>exact z
 |brk=>exact z
 |cont=>exact z
section
variable {X:Cx} {Ek:St→XK} {k:Nat} {f:Addr} {fd:FuncData} {ps:List Str} {sp:Sp} {x:Str} {p pos:Pos} {e:Expr} {es:List Expr} {t:TA}
end
section
variable {X:Cx} {K:Fg}
end
end L2
namespace L2
open PySem PySem.Spec PyProof.Rows
def SL(cs:List Nat):Str:=⟨cs.toArray⟩
theorem zqc(z:Str):z=SL z.cps.toList:=by cases z;rfl
theorem zeb(cs:List Nat):(SL cs).length=cs.length:=by show cs.toArray.size=_;simp
theorem zot(a b:List Nat):SL a++SL b=SL (a++b):=by
 show (⟨a.toArray++b.toArray⟩:Str)=⟨(a++b).toArray⟩;simp
theorem zcR(a b:List Nat):(SL a=SL b)=(a=b):=by
 refine propext ⟨fun h=> ?_,fun h=>by rw[h]⟩
 have:=congrArg (fun z:Str=>z.cps.toList) h;exact this
section
variable {X:Cx} {tg:Expr}
end
def dg(n:Nat):List Nat:=(Nat.toDigits 10 n).map Char.toNat
def sI(i:Int):List Nat:=if i<0 then 45::dg (-i).toNat else dg i.toNat
section
variable {X:Cx}
theorem zax{x:Str}{cs:List Nat}{j pos}(e:x=SL cs):PE X (.Constant (.str x) j pos) (tC (.str (SL cs))):=e ▸ zcO
theorem zhb:OpR X (binaryOp .Add) (fun x y H Q=> ∃a b,x= .str (SL a)∧y= .str (SL b)∧a.length+b.length≤sizeLine∧Q (.str (SL (a++b))) H):=by
 intro pins s σ H x y v u Q I rx ry h;obtain⟨a,b,rfl,rfl,hz,q⟩:=h;exact zh0 pins s σ H _ _ v u Q I rx ry ⟨_,_,rfl,rfl,by rw[zeb,zeb];exact hz,by rw[zot];exact q⟩
theorem zqd:IxR X (fun x y H Q=> ∃cs i c,x= .str (SL cs)∧y= .int i∧cs.length≤sizeLine∧atI cs i=some c∧Q (.str (SL [c])) H):=by
 intro value slice pins s σ H x y v u Q I rx ry h hs;obtain⟨cs,i,c,rfl,rfl,hz,he,q⟩:=h;exact zom value slice pins s σ H _ _ v u Q I rx ry ⟨_,i,c,rfl,rfl,by rw[zeb];exact hz,he,q⟩ hs
end
def jn(sep:List Nat):List (List Nat)→List Nat
 | []=> []
 | [x]=>x
 |x::y::r=>x++sep++jn sep (y::r)
def zf(cs:List Nat)(n:Nat):List Nat:=List.replicate (n - cs.length) 48++cs
section
variable {X:Cx}
end
end L2
namespace L2
open PySem PySem.NumText
theorem zgE{xs:List Int}{lo hi:Int}(h: ∀x∈xs,lo≤x∧x≤hi){i:Int}(h0:0≤i)(h1:i<xs.length):lo≤xs.getD i.toNat 0∧xs.getD i.toNat 0≤hi:=by
 have hl:i.toNat<xs.length:=by omega
 rw[List.getD_eq_getElem?_getD,List.getElem?_eq_getElem hl];exact h _ (List.getElem_mem hl)
end L2
namespace L2
open PySem PySem.Spec PyProof.Rows
section
variable {prog:Program} {w:World} {A:Around} {E:Value→Shared→Prop}
end
section
variable {X:Cx} {pos:Pos}
end
def PEt(X:Cx)(e:Expr)(t:TE):Prop:=
 ∀(pins:List (Addr×Obj)) (s:Shared) (σ:St) (H:Hp) (Q:VK),0<s.toks→Inv X pins σ H s→t σ H Q→wpAny (model X.prog X.w) X.A (eval e X.env) (EP X pins σ Q) X.xe s
def PAt(X:Cx)(es:List Expr)(t:TA):Prop:=
 ∀(pos:Pos) (pins:List (Addr×Obj)) (s:Shared) (σ:St) (H:Hp) (Q:List V→Hp→Prop),0<s.toks→Inv X pins σ H s→t σ H Q→wpAny (model X.prog X.w) X.A (spliced (backTo pos (starEach es X.env))) (AP X pins σ Q) X.xe s
def zqS(X:Cx)(st:List Stmt)(t:TS):Prop:=
 ∀(pins:List (Addr×Obj)) (s:Shared) (σ:St) (H:Hp) (D:Ends),0<s.toks→Inv X pins σ H s→t D σ H→wpAny (model X.prog X.w) X.A (execs st X.env) (SP X pins D) X.xe s
section
variable {X:Cx} {a b e o:Expr} {es:List Expr} {te ta tb to:TE} {t:TA} {pos apos cpos:Pos}
end
end L2
namespace L2
open PySem PySem.Spec PyProof.Rows
section
variable {prog:Program} {w:World} {A:Around} {R:Result→Shared→Prop} {s:Shared}
abbrev NoE:Value→Shared→Prop:=fun _ _=>False
theorem zhc{elt target iter:Expr}{ifs:List Expr}{scope:Scope}{pos:Pos}{it acc:Value}{env:Env}(I:Nat→Shared→Prop)
  (turn: ∀n s,I n s→wpAny (model prog w) A (pyNext it) (fun r s₁=>match r with
   |none=>R (.ok .next) s₁
   |some v=>wpAny (model prog w) A (letOwnedTupleGo target it v) (fun _ s₁'=>wpAny (model prog w) A (assign target env v) (fun _ s₂=>
     wpAny (model prog w) A (forIn ifs true fun c r=>if r=true then do let ok←isTrue c env (eval c env);pure (ForInStep.yield ok) else pure (ForInStep.yield r)) (fun ok s₃=>
      if ok=true then wpAny (model prog w) A (eval elt env) (fun x s₄=>
       wpAny (model prog w) A (call (.builtin "list.append") [acc,x]) (fun _ s₅=> ∃m,m<n∧I m s₅) NoE s₄) NoE s₃
      else∃m,m<n∧I m s₃) NoE s₂) NoE s₁') NoE s₁) NoE s)
  (n:Nat) (h:I n s):
  codeAny (model prog w) A (.compLoop (.ListComp elt [⟨target,iter,ifs,0⟩] scope pos) 0 it acc env) R s:=by
 refine codeAny_loop rfl I (fun n s hI=> ?_) n h;show wpAny _ A ((compTurn (.ListComp elt [⟨target,iter,ifs,0⟩] scope pos) 0 it acc env).onRaise (fun x=>do noteFrame x env;theTreesLotGoes x)) _ _ s;refine wpAny_noted ?_;rw[compTurn_list];refine wpAny_bind (wpAny_standAt (wpAny_bind (wpAny_mono (turn n s hI) (fun r s₁ h₁=> ?_) fun _ _ h'=>h'.elim)));cases r with
 |none=>exact wpAny_pure h₁
 |some v=>
  refine wpAny_bind (wpAny_mono h₁ (fun _ s₁' h₁'=> ?_) fun _ _ h'=>h'.elim);refine wpAny_bind (wpAny_mono h₁' (fun _ s₂ h₂=>wpAny_bind (wpAny_mono h₂ (fun ok s₃ h₃=> ?_) fun _ _ h'=>h'.elim)) fun _ _ h'=>h'.elim);cases ok with
  |false=>exact wpAny_pure ⟨rfl,h₃⟩
  |true=>
   exact wpAny_bind (wpAny_bind (wpAny_mono h₃ (fun x s₄ h₄=>wpAny_bind (wpAny_mono h₄ (fun _ s₅ h₅=>wpAny_pure (wpAny_pure ⟨rfl,h₅⟩)) fun _ _ h'=>h'.elim)) fun _ _ h'=>h'.elim))
end
structure CA where
 cl:List (Str×Addr)
 C:Addr
 s:Shared
 H:Hp
 fp:List Addr
def Cx.comp(X:Cx)(scope:Scope)(N:List Str)(a:CA):Cx:=
 {X with N:=N,s₀:=a.s,H₀:=a.H,env:=compEnvC scope a.cl a.C X.env,outer:=X.stack,ex:=a.fp,fn:=fun _=>false,pn:= [],xe:=NoE}
theorem zou{X:Cx}{scope:Scope}{N:List Str}{a:CA}:(X.comp scope N a).K=X.K:=rfl
theorem zkL{X:Cx}:Lv X (fun _ _ _ _=>False):=⟨fun _ _ _ _ _ _ _ _ _ _ q=>q.elim⟩
def zeU(outer:List (Str×NameKind))(oN:List Str)(inner:List (Str×NameKind))(N:List Str)(n:Nat)(js:List Nat):Bool:=
 N.length==n+js.length &&
 (inner.all fun p=>p.2 != .cell && (p.2 != .local||inner.lookup p.1==some .local) && (p.2 != .free||(inner.lookup p.1==some .free && (outer.lookup p.1==some .cell||outer.lookup p.1==some .free)))) &&
 (List.range js.length).all fun k=>match js[k]?,N[n+k]? with
  |some j,some x=>oN[j]? ==some x && (outer.lookup x==some .cell||outer.lookup x==some .free) && inner.lookup x==some .free
  |_,_=>false
def zc4(σ:St)(n:Nat)(js:List Nat):St:=List.replicate n none++js.map fun j=>(σ[j]?).join
def Sub(σ τ:St):Prop:=σ.length=τ.length∧ ∀(i:Nat) v,σ[i]? =some (some v)→τ[i]? =some (some v)
theorem zmT:Sub [] []=True:=eq_true ⟨rfl,fun i v h=>by simp at h⟩
theorem zkM{σ τ:St}{x:Option V}:Sub (none::σ) (x::τ)=Sub σ τ:=by
 refine propext ⟨fun h=>⟨by simpa using h.1,fun i v e=>by simpa using h.2 (i+1) v (by simpa using e)⟩,fun h=>⟨by simpa using h.1,fun i v e=> ?_⟩⟩;cases i with
 |zero=>simp at e
 |succ i=>simpa using h.2 i v (by simpa using e)
theorem zkN{σ τ:St}{x:V}:Sub (some x::σ) (some x::τ)=Sub σ τ:=by
 refine propext ⟨fun h=>⟨by simpa using h.1,fun i v e=>by simpa using h.2 (i+1) v (by simpa using e)⟩,fun h=>⟨by simpa using h.1,fun i v e=> ?_⟩⟩;cases i with
 |zero=>simpa using e
 |succ i=>simpa using h.2 i v (by simpa using e)
theorem zh6{scope:Scope}{env:Env}(h: ∀p∈scope.names,p.2=NameKind.free→ ∃c,env.cells.lookup p.1=some c):
  ∃cl,closureFor scope env=pure cl∧(∀x c,cl.lookup x=some c→env.cells.lookup x=some c)∧ ∀p∈scope.names,p.2=NameKind.free→ ∃c,cl.lookup p.1=some c:=by
 have go: ∀(names:List (Str×NameKind)) (acc:List (Str×Addr)),(∀p∈names,p.2=NameKind.free→ ∃c,env.cells.lookup p.1=some c)→(∀x c,acc.lookup x=some c→env.cells.lookup x=some c)→
   ∃cl,(forIn names acc (fun x r=>match x with|(name,kind)=>if (kind==NameKind.free)=true then do let c←cellOf env name;pure (ForInStep.yield ((name,c)::r)) else pure (ForInStep.yield r)):Sem (List (Str×Addr)))=pure cl∧
    (∀x c,cl.lookup x=some c→env.cells.lookup x=some c)∧(∀p∈names,p.2=NameKind.free→ ∃c,cl.lookup p.1=some c)∧ ∀x,(∃c,acc.lookup x=some c)→ ∃c,cl.lookup x=some c:=by
  intro names;induction names with
  |nil=>intro acc _ ha;exact⟨acc,rfl,ha,fun p hp=>absurd hp (by simp),fun _ q=>q⟩
  |cons p r ih=>
   intro acc hp ha;obtain⟨nm,k⟩:=p;by_cases hk:k=NameKind.free
   ·subst hk;obtain⟨c,hc⟩:=hp (nm, .free) List.mem_cons_self rfl;have ec:cellOf env nm=pure c:=by unfold cellOf;rw[hc]
    have ha': ∀x c',((nm,c)::acc).lookup x=some c'→env.cells.lookup x=some c':=fun x c' e=>by
     rw[List.lookup_cons] at e;cases z:x==nm with
     |true=>rw[z] at e;cases e;rw[eq_of_beq z];exact hc
     |false=>rw[z] at e;exact ha x c' e
    obtain⟨cl,e,q1,q2,q3⟩:=ih ((nm,c)::acc) (fun p hp'=>hp p (List.mem_cons_of_mem _ hp')) ha';refine⟨cl,?_,q1,fun p hp' hf=> ?_,fun x hx=>q3 x ?_⟩
    ·rw[List.forIn_cons];simp only[beq_self_eq_true,if_true,ec];exact e
    ·rcases List.mem_cons.mp hp' with rfl|hp'
     ·exact q3 nm ⟨c,by rw[List.lookup_cons,beq_self_eq_true]⟩
     ·exact q2 p hp' hf
    ·rw[List.lookup_cons];cases z:x==nm with
     |true=>exact⟨c,rfl⟩
     |false=>exact hx
   ·obtain⟨cl,e,q1,q2,q3⟩:=ih acc (fun p hp'=>hp p (List.mem_cons_of_mem _ hp')) ha;refine⟨cl,?_,q1,fun p hp' hf=> ?_,q3⟩
    ·rw[List.forIn_cons];have z:(k==NameKind.free)=false:=by simpa using hk
     simp only[z,Bool.false_eq_true,if_false];exact e
    ·rcases List.mem_cons.mp hp' with rfl|hp'
     ·exact absurd hf hk
     ·exact q2 p hp' hf
 obtain⟨cl,e,q1,q2,_⟩:=go scope.names [] h (fun x c e=>by simp at e);refine⟨cl,?_,q1,q2⟩;unfold closureFor;simp only[pure_bind,bind_pure];exact e
theorem zcB{outer:List (Str×NameKind)}{oN:List Str}{inner:List (Str×NameKind)}{N:List Str}{n:Nat}{js:List Nat}(h:zeU outer oN inner N n js=true):
  N.length=n+js.length∧(∀p∈inner,p.2≠NameKind.cell)∧(∀p∈inner,p.2=NameKind.local→inner.lookup p.1=some .local)∧
  (∀p∈inner,p.2=NameKind.free→inner.lookup p.1=some .free∧(outer.lookup p.1=some .cell∨outer.lookup p.1=some .free))∧
  ∀k j x,js[k]? =some j→N[n+k]? =some x→oN[j]? =some x∧(outer.lookup x=some .cell∨outer.lookup x=some .free)∧inner.lookup x=some .free:=by
 unfold zeU at h;simp only[Bool.and_eq_true,beq_iff_eq,List.all_eq_true,List.mem_range] at h;obtain⟨⟨h1,h2⟩,h3⟩:=h;refine⟨h1,fun p hp=>by simpa using (h2 p hp).1.1,fun p hp e=> ?_,fun p hp e=> ?_,fun k j x e1 e2=> ?_⟩
 ·have z:=(h2 p hp).1.2;rw[e] at z;simpa using z
 ·have z:=(h2 p hp).2;rw[e] at z;simpa using z
 ·have z:=h3 k (List.getElem?_eq_some_iff.mp e1).1;rw[e1,e2] at z;simpa [and_assoc] using z
theorem zc5{scope:Scope}{env:Env}{x:Str}:(relabel scope env).names.lookup x=(scope.names.lookup x).map (fun k=>if (k==NameKind.free && env.scope.kind== .function && env.kindOf x==some .cell)=true then NameKind.cell else k):=by
 show (scope.names.map fun(n,k)=>if (k==NameKind.free && env.scope.kind== .function && env.kindOf n==some .cell)=true then (n,NameKind.cell) else (n,k)).lookup x=_;induction scope.names with
 |nil=>rfl
 |cons p r ih=>
  obtain⟨nm,k⟩:=p;rw[List.map_cons];dsimp only;cases z:x==nm with
  |true=>
   obtain rfl:=eq_of_beq z;by_cases c:(k==NameKind.free && env.scope.kind== .function && env.kindOf x==some .cell)=true
   ·simp only[c,if_true,List.lookup_cons,z,Option.map_some]
   ·rw[if_neg c];simp only[List.lookup_cons,z,Option.map_some,if_neg c]
  |false=>
   by_cases c:(k==NameKind.free && env.scope.kind== .function && env.kindOf nm==some .cell)=true
   ·rw[if_pos c];simp only[List.lookup_cons,z];exact ih
   ·rw[if_neg c];simp only[List.lookup_cons,z];exact ih
section
variable {X:Cx} {scope:Scope} {N:List Str} {n:Nat} {js:List Nat} {pins:List (Addr×Obj)} {σ:St} {H:Hp} {s₃:Shared} {cl:List (Str×Addr)} {fp:List Addr}
theorem zkO(cap:zeU X.env.scope.names X.N scope.names N n js=true)(hkind:scope.kind= .function)(I:Inv X pins σ H s₃)(hc1: ∀x c,cl.lookup x=some c→X.env.cells.lookup x=some c)
  (hc2: ∀p∈scope.names,p.2=NameKind.free→ ∃c,cl.lookup p.1=some c) (hf: ∀b∈fp,zex X pins H b) (hlt: ∀b∈fp,b<s₃.heap.objs.size) {h₁:Heap} {t:Nat} {m:Str→Option Value}
  (hns:h₁.Ns s₃.heap.objs.size m) (hk: ∀b o,s₃.heap.get? b=some o→h₁.get? b=some o):
  Inv (X.comp scope N ⟨cl,s₃.heap.objs.size,s₃,H,fp⟩) [] (zc4 σ n js) H {s₃ with heap:=h₁,toks:=t}:=by
 obtain⟨k1,k2,k3,k4,k5⟩:=zcB cap;have kf: ∀x,((relabel scope X.env).names.lookup x=some .cell∨(relabel scope X.env).names.lookup x=some .free)→scope.names.lookup x=some .free:=fun x h=>by
  rw[zc5] at h;cases e:scope.names.lookup x with
  |none=>rw[e] at h;simp at h
  |some k=>
   rw[e,Option.map_some] at h;cases k with
   |free=>rfl
   |cell=>exact absurd rfl (k2 (x, .cell) (PySem.mem_of_lookup e))
   | «local» =>simp at h
   |_=>simp at h
 have bf: ∀x,scope.names.lookup x=some .free→(relabel scope X.env).names.lookup x=some .cell∨(relabel scope X.env).names.lookup x=some .free:=fun x h=>by
  rw[zc5,h,Option.map_some];split
  ·exact .inl rfl
  ·exact .inr rfl
 have isC: ∀c v,s₃.heap.IsCell c v→h₁.IsCell c v:=fun c v ⟨o,ho,r⟩=>⟨o,hk _ _ ho,r⟩
 refine⟨⟨I.ok.mod,hkind,I.ok.glob,I.ok.blt,Nat.le_refl _,fun x y c e1 e2=>I.ok.inj x y c (hc1 x c e1) (hc1 y c e2),fun x h=>hc2 (x, .free) (PySem.mem_of_lookup (kf x h)) rfl,fun x c h=>absurd h Bool.false_ne_true,I.ok.hd,I.ok.frames, .inl rfl,
   fun b hb=>⟨Nat.ne_of_lt (hlt b hb),fun x c e=>(hf b hb).2.2.2.2.1 x c (hc1 x c e)⟩,I.bs,Nat.le_trans I.ok.bsz I.sz,fun b o e hb=> ?_,fun b hb hz=> ?_,I.stack,I.stkFree⟩,
  rfl,I.bare,Un.kept hk,⟨m,hns,fun i x v e1 e2 e3=> ?_⟩,fun x c e=> ?_,I.hok.fresh (Nat.le_refl _),fun x c e=>I.freeC x c (hc1 x c e),fun p hp=>absurd hp (by simp [Cx.comp]),I.hok.kept hk,?_⟩
 ·rcases (hf b hb).2.2.2.1 with z|z
  ·exact I.ok.noex b o e z
  ·exact absurd (Nat.lt_of_lt_of_le (Heap.lt_size e) (Nat.le_trans I.ok.bsz z)) (Nat.lt_irrefl _)
 ·rcases List.mem_cons.mp (I.stkSub b hz) with z|z
  ·exact(hf b hb).2.1 z
  ·exact(hf b hb).2.2.1 z
 ·have e2':(zc4 σ n js)[i]? =some (some v):=e2;unfold zc4 at e2';by_cases hi:i<n
  ·rw[List.getElem?_append_left (by simpa using hi),List.getElem?_replicate,if_pos hi] at e2';cases e2'
  ·rw[List.getElem?_append_right (by simpa using hi),List.length_replicate,List.getElem?_map] at e2';cases ej:js[i - n]? with
   |none=>rw[ej] at e2';cases e2'
   |some j=>
    rw[ej,Option.map_some] at e2';have e4:(σ[j]?).join=some v:=Option.some.inj e2';have e5:σ[j]? =some (some v):=by
     cases q:σ[j]? with
     |none=>rw[q] at e4;cases e4
     |some w=>rw[q] at e4;rw[show w=some v from e4]
    have e1':N[n+(i - n)]? =some x:=by rw[show n+(i - n)=i by omega];exact e1
    obtain⟨c1,c2,c3⟩:=k5 (i - n) j x ej e1';obtain⟨m',hn',hl'⟩:=I.loc;obtain⟨u,ru,lk⟩:=hl' j x v c1 e5 (.inr c2);refine⟨u,ru,?_⟩;rcases lk with⟨hk',_⟩|⟨_,c,hc,hcell⟩
    ·have hk'':X.env.scope.names.lookup x=some .local:=hk';rcases c2 with c2|c2<;>(rw[hk''] at c2;cases c2)
    ·obtain⟨c',hc'⟩:=hc2 (x, .free) (PySem.mem_of_lookup c3) rfl
     have:=hc1 x c' hc';rw[hc] at this;cases this;exact .inr ⟨bf x c3,c,hc',isC _ _ hcell⟩
 ·obtain⟨v,z⟩:=I.cell x c (hc1 x c e);exact⟨v,isC _ _ z⟩
 ·show (zc4 σ n js).length=N.length;unfold zc4;rw[List.length_append,List.length_replicate,List.length_map,k1]
end
def PIf(X:Cx)(ifs:List Expr)(t:TT):Prop:=
 ∀(pins:List (Addr×Obj)) (s:Shared) (σ:St) (H:Hp) (Q:Bool→Hp→Prop),Inv X pins σ H s→t σ H Q→
  wpAny (model X.prog X.w) X.A (forIn ifs true fun c r=>if r=true then do let ok←isTrue c X.env (eval c X.env);pure (ForInStep.yield ok) else pure (ForInStep.yield r)) (TP X pins σ Q) X.xe s
def zov:TT:=fun _ H Q=>Q true H
theorem zdi{X:Cx}:PIf X [] zov:=fun _ _ _ H _ I h=>wpAny_tests_nil ⟨H,I,h⟩
theorem zeB{X:Cx}{c:Expr}{t:TT}(hc:PT X c t):PIf X [c] t:=fun pins s σ H Q I h=>wpAny_tests_one (hc pins s σ H Q I h)
def ziU(J:It)(σ0:St)(g:TG)(tc:TT)(te:TE)(l:Addr)(Q:VK)(H1:Hp):Prop:=
 ∃W:Nat→Nat→List V→Hp→Prop,(∃m,W 0 m [] (upd H1 l (.lst [])))∧ ∀i m xs H,W i m xs H→H l=some (.lst xs)∧xs.length<sizeLine∧
  ((J.stop i H∧Q (.ref l) H)∨(J.go i H∧ ∀x H',J.yld i H x H'→g x σ0 H' fun σ2 H2=>Sub σ0 σ2∧tc σ2 H2 fun b H3=>
   if b=true then te σ2 H3 fun v H4=>H4 l=some (.lst xs)∧ ∃m',m'<m∧W (i+1) m' (xs++ [v]) (upd H4 l (.lst (xs++ [v]))) else∃m',m'<m∧W (i+1) m' xs H3))
section
variable {X:Cx} {tg elt iter:Expr} {ifs:List Expr} {scope:Scope} {pos:Pos} {N:List Str} {n:Nat} {js:List Nat} {g:CA→TG} {tc:CA→TT} {te:CA→TE}
theorem zfZ{pins:List (Addr×Obj)}{σ:St}{H₁:Hp}{s₂:Shared}{E:Value→Shared→Prop}(cap:zeU X.env.scope.names X.N scope.names N n js=true)(hkind:scope.kind= .function)(hcalm:X.calm=true)
  (hg: ∀a,PG (X.comp scope N a) tg (g a)) (hc: ∀a,PIf (X.comp scope N a) ifs (tc a)) (he: ∀a,PE (X.comp scope N a) elt (te a))
  (I:Inv X pins σ H₁ s₂) {it:Addr} {fp:List Addr} {tn:Nat→Heap→Prop} {J:It} (T:Turn X.prog X.w X.K tg J fp it tn) (h0:tn 0 s₂.heap) (hf: ∀b∈fp,zex X pins H₁ b)
  {cl:List (Str×Addr)} (hc1: ∀x c,cl.lookup x=some c→X.env.cells.lookup x=some c) (hc2: ∀p∈scope.names,p.2=NameKind.free→ ∃c,cl.lookup p.1=some c)
  {Q:VK} (hq: ∀l,H₁ l=none→ ∀a,ziU J (zc4 σ n js) (g a) (tc a) (te a) l Q H₁)
  {RR:Value→Addr→Result→Shared→Prop}
  (hRR: ∀l C H' s' m,Inv X pins σ H' s'→s'.heap.Ns C m→H' C=none→C≠X.env.locals→X.s₀.heap.objs.size≤C→(∀x c,X.env.cells.lookup x=some c→c≠C)→(∀p∈X.pn++pins,p.1≠C)→C∉X.fs→Q (.ref l) H'→RR (.ref l) C (.ok .next) s'):
  wpAny (model X.prog X.w) X.A (newList []) (fun acc s₃=>wpAny (model X.prog X.w) X.A (newFunctionEnv scope X.env.globals cl [] X.env.qual none .none (some X.env)) (fun cenv s₄=>
   codeAny (model X.prog X.w) X.A (.compStart (.ListComp elt [⟨tg,iter,ifs,0⟩] scope pos) 0 (.ref it) acc {cenv with scope:=relabel scope X.env}) (RR acc cenv.locals) s₄) E s₃) E s₂:=by
 obtain⟨k1,k2,k3,k4,k5⟩:=zcB cap;refine wpAny_newObj_type (wpAny_newFunctionEnv k2 (by intro y hy;simp at hy) (fun h₁ hns₁ hsb₁=> ?_) hkind);dsimp only at hns₁ hsb₁ ⊢;obtain⟨s3,hs3⟩: ∃s3:Shared,s3={s₂ with heap:=s₂.heap.push {cls:= .type "list",dict:=none,data:= .seq ([]:List Value).toArray} }:=⟨_,rfl⟩
 have eh:s₂.heap.push {cls:= .type "list",dict:=none,data:= .seq ([]:List Value).toArray}=s3.heap:=by rw[hs3]
 rw[eh] at hns₁ hsb₁ ⊢;have kp3: ∀b o,s₂.heap.get? b=some o→s3.heap.get? b=some o:=fun b o e=>by rw[←eh];exact Heap.get?_push_of_some _ e
 have hl0:H₁ s₂.heap.objs.size=none:=I.hok.fresh (Nat.le_refl _);have I3:Inv X pins σ (upd H₁ s₂.heap.objs.size (.lst [])) s3:=by
  rw[hs3];exact I.laid (t':=s₂.toks) (fun b u e=>Heap.get?_push_of_some _ e) (Nat.le_refl _) ⟨Nat.zero_le _, [],0, .nil,Heap.get?_push_size _ rfl⟩
 have fpo: ∀b∈fp,∃o,s₂.heap.get? b=some o:=fun b hb=>let ⟨o,e,_⟩:=T.obj _ _ h0 b hb;⟨o,e⟩;have fpl: ∀b∈fp,b≠s₂.heap.objs.size:=fun b hb z=>let ⟨o,e⟩:=fpo b hb;Nat.lt_irrefl _ (z ▸ Heap.lt_size e);have hf3: ∀b∈fp,zex X pins (upd H₁ s₂.heap.objs.size (.lst [])) b:=fun b hb=>⟨by rw[zal (fpl b hb)];exact(hf b hb).1,(hf b hb).2⟩
 have hlt3: ∀b∈fp,b<s3.heap.objs.size:=fun b hb=>let ⟨o,e⟩:=fpo b hb;Heap.lt_size (kp3 b o e);have kp1: ∀b o,s3.heap.get? b=some o→h₁.get? b=some o:=fun b o e=>hsb₁.extBut b o (Nat.ne_of_lt (Heap.lt_size e)) (Heap.get?_push_of_some _ e);have IC:=zkO (t:=s3.toks) cap hkind I3 hc1 hc2 hf3 hlt3 hns₁ kp1;have hCl:X.env.locals<s3.heap.objs.size:=I3.lt;obtain⟨a,ha⟩: ∃a:CA,a=⟨cl,s3.heap.objs.size,s3,upd H₁ s₂.heap.objs.size (.lst []),fp⟩:=⟨_,rfl⟩
 rw[←ha] at IC;have aC:a.C=s3.heap.objs.size:=by rw[ha]
 obtain⟨W,⟨m0,w0⟩,turn⟩:=hq _ hl0 a;have tn1:tn 0 h₁:=T.keep _ _ _ h0 fun b _ o e=>kp1 b o (kp3 b o e);have stat: ∀{H':Hp},(∀b∈fp,H' b=none)→ ∀b∈fp,zex (X.comp scope N a) [] H' b:=fun {H'} hn b hb=>
  ⟨hn b hb,by show b≠a.C;rw[aC];exact Nat.ne_of_lt (hlt3 b hb),fun hz=>by
    rcases List.mem_cons.mp (I3.stkSub b hz) with z|z
    ·exact(hf b hb).2.1 z
    ·exact(hf b hb).2.2.1 z, .inl (by show b∈a.fp;rw[ha];exact hb),fun x c e=>(hf b hb).2.2.2.2.1 x c (hc1 x c (by rw[ha] at e;exact e)),fun p hp=>absurd hp (by simp [Cx.comp])⟩
 have loop: ∀s4:Shared,s4={s3 with heap:=h₁,toks:=s3.toks}→
   codeAny (model X.prog X.w) X.A (.compLoop (.ListComp elt [⟨tg,iter,ifs,0⟩] scope pos) 0 (.ref it) (.ref s₂.heap.objs.size) (X.comp scope N a).env) (RR (.ref s₂.heap.objs.size) s3.heap.objs.size) s4:=by
  rintro s4 rfl;refine zhc (fun k s'=> ∃i xs H',Inv (X.comp scope N a) [] (zc4 σ n js) H' s'∧tn i s'.heap∧(∀b∈fp,H' b=none)∧W i k xs H') ?_ m0 ⟨0, [],_,IC,tn1,fun b hb=>(hf3 b hb).1,w0⟩;rintro k s5 ⟨i,xs,H5,I5,t5,f5,w5⟩;obtain⟨hl5,hz5,alt⟩:=turn i k xs H5 w5;rcases alt with⟨stop,qn⟩|⟨go,step⟩
  ·refine thn (T.done (X.comp scope N a) rfl rfl rfl hcalm i [] s5 _ H5 NoE I5 (stat f5) t5 stop) fun r s6 ⟨hr,I6⟩=> ?_;subst hr;obtain⟨m6,hn6,_⟩:=I6.loc;have hn6':s6.heap.Ns s3.heap.objs.size m6:=by rw[←aC];exact hn6
   have u6:Un (frs X.stack) fp (upd H₁ s₂.heap.objs.size (.lst [])) H5 s3.heap s6.heap:=by
    have z:=I6.base;rw[ha] at z;exact z
   have os6:s6.os=s3.os:=by
    have z:=I6.os;rw[ha] at z;exact z
   have I7:Inv X pins σ H5 s6:=I3.call' os6 u6 I6.hok I6.bare fun b hb=>⟨(hf b hb).2.2.2.1,(hf b hb).2.1,(hf b hb).2.2.2.2.1,(hf b hb).2.2.2.2.2⟩
   refine hRR _ _ H5 s6 m6 I7 hn6' (by have z:=I6.free;rw[show (X.comp scope N a).env.locals=s3.heap.objs.size from aC] at z;exact z) (Nat.ne_of_gt hCl) I3.sz (fun x c e z=> ?_) (fun p hp z=> ?_) (I3.nofs (Nat.le_refl _)) qn
   ·obtain⟨v,q⟩:=I3.cell x c e;exact Nat.lt_irrefl _ (z ▸ q.lt)
   ·exact Nat.lt_irrefl _ (z ▸ Heap.lt_size (I3.pin p hp).1)
  ·refine thn (T.item (X.comp scope N a) rfl rfl rfl hcalm i [] s5 _ H5 NoE I5 (stat f5) t5 go) fun r s6 ⟨u,hr,h6⟩=> ?_;subst hr;refine thn h6 fun _ s7 ⟨x,H7,I7,r7,y7,t7,f7⟩=> ?_;have I7':=I7.pinned (stat f7) (T.obj _ _ t7);rw[List.nil_append] at I7';refine thn (hg a _ s7 _ H7 x u _ I7' r7 (step x H7 y7)) fun _ s8 ⟨σ8,H8,I8,sub8,q8⟩=> ?_;refine thn (hc a _ s8 σ8 H8 _ I8 q8) fun ok s9 ⟨H9,I9,q9⟩=> ?_;have back: ∀{σ':St} {H':Hp} {s':Shared},Inv (X.comp scope N a) (zeK fp s7.heap) σ' H' s'→Sub (zc4 σ n js) σ'→Inv (X.comp scope N a) [] (zc4 σ n js) H' s'∧tn (i+1) s'.heap∧ ∀b∈fp,H' b=none:=fun {σ' H' s'} I' sb=>by
    refine⟨(I'.pins_of fun p hp=>absurd hp (by simp)).weak sb.1 sb.2,T.keep _ _ _ t7 fun b hb o e=>(I'.pin (b,o) (List.mem_append_right _ (zcP hb e))).1,fun b hb=> ?_⟩;obtain⟨o,e,d⟩:=T.obj _ _ t7 b hb;exact(I'.pin (b,o) (List.mem_append_right _ (zcP hb e))).2.1
   cases ok with
   |false=>
    obtain⟨m',lt,w'⟩:=q9;obtain⟨b1,b2,b3⟩:=back I9 sub8;exact⟨m',lt,i+1,xs,H9,b1,b2,b3,w'⟩
   |true=>
    refine thn (he a _ s9 σ8 H9 _ I9 q9) fun y s10 ⟨v,H10,I10,r10,hl10,m',lt,w'⟩=> ?_;refine thn (za8 (X:=X.comp scope N a) _ s10 σ8 H10 (.ref s₂.heap.objs.size) [v] _ [y] (fun _ H'=>H'=upd H10 s₂.heap.objs.size (.lst (xs++ [v]))) I10 rfl (.cons r10 .nil) ⟨_,xs,v,rfl,rfl,hl10,hz5,rfl⟩) fun _ s11 ⟨_,H11,I11,_,e11⟩=> ?_;subst e11;obtain⟨b1,b2,b3⟩:=back I11 sub8;exact⟨m',lt,i+1,_,_,b1,b2,b3,w'⟩
 have eE:{newEnv scope s3.heap.objs.size X.env.globals cl X.env.qual none Value.none (some X.env) builtinsNs with scope:=relabel scope X.env}=(X.comp scope N a).env:=by rw[ha];rfl
 have lp:=loop _ rfl;rw[←eE] at lp;have sf:=T.self X.A 0 {s3 with heap:=h₁,toks:=s3.toks} (fun it' s'=>codeAny (model X.prog X.w) X.A (.compLoop (.ListComp elt [⟨tg,iter,ifs,0⟩] scope pos) 0 it' (.ref s₂.heap.objs.size) {newEnv scope s3.heap.objs.size X.env.globals cl X.env.qual none Value.none (some X.env) builtinsNs with scope:=relabel scope X.env}) (RR (.ref s₂.heap.objs.size) s3.heap.objs.size) s')
  (notedBy (model X.prog X.w) X.A {newEnv scope s3.heap.objs.size X.env.globals cl X.env.qual none Value.none (some X.env) builtinsNs with scope:=relabel scope X.env} fun x s'=>RR (.ref s₂.heap.objs.size) s3.heap.objs.size (.error x) s') tn1 lp
 have fin:=codeAny_compStart_list lp sf;rw[hs3] at fin ⊢;exact fin
def zdP(n:Nat)(js:List Nat)(wi:TI)(g:CA→TG)(tc:CA→TT)(te:CA→TE):TE:=fun σ H Q=>wi σ H fun J H1=> ∀l,H1 l=none→ ∀a:CA,ziU J (zc4 σ n js) (g a) (tc a) (te a) l Q H1
theorem zdQ{pins:List (Addr×Obj)}{σ:St}{H:Hp}{s:Shared}(cap:zeU X.env.scope.names X.N scope.names N n js=true)(I:Inv X pins σ H s):
  ∃cl,closureFor scope X.env=pure cl∧(∀x c,cl.lookup x=some c→X.env.cells.lookup x=some c)∧ ∀p∈scope.names,p.2=NameKind.free→ ∃c,cl.lookup p.1=some c:=
 zh6 fun p hp e=>I.ok.has p.1 ((zcB cap).2.2.2.1 p hp e).2
theorem zcS{wi:TI}(cap:zeU X.env.scope.names X.N scope.names N n js=true)(hkind:scope.kind= .function)(hcalm:X.calm=true)(hi:PI X tg iter wi)
  (hg: ∀a,PG (X.comp scope N a) tg (g a)) (hc: ∀a,PIf (X.comp scope N a) ifs (tc a)) (he: ∀a,PE (X.comp scope N a) elt (te a))
  (hs: ∀x,foldedSetIterable iter X.env x=pure x:=by intro _;rfl):PE X (.ListComp elt [⟨tg,iter,ifs,0⟩] scope pos) (zdP n js wi g tc te):=by
 intro pins s σ H Q I h;obtain⟨cl,hclos,hc1,hc2⟩:=zdQ cap I;rw[eval_ListComp];refine wpAny_comprehension_free (use:=none) rfl hs hclos hkind (zcB cap).2.2.1 (thn (hi pins s σ H _ I h) fun v s1 h1=>thn h1 fun itv s2 h2=> ?_);obtain⟨it,fp,tn,J,H2,rfl,I2,T,st2,f2,q⟩:=h2;refine zfZ (RR:=fun acc C=>compPost (model X.prog X.w) X.A X.xe none (EP X pins σ Q) acc C) cap hkind hcalm hg hc he I2 T st2 f2 hc1 hc2 q ?_;intro l C H' s' m I' hn hC hL hs0 hcell hpin hfs hq;exact⟨m,hn,fun h' hsb=>⟨.ref l,H',I'.turned (t':=s'.toks) (fun b o hb e=>(hsb.2 b hb).trans e) hC hL (.inr hs0) hcell hpin,rfl,hq⟩⟩
theorem zgF{wi:TI}{i:Nat}{y:Str}{py spos:Pos}(hN:X.N.Nodup)(hi:X.N[i]? =some y)(hy:X.env.scope.names.lookup y=some .local)(cap:zeU X.env.scope.names X.N scope.names N n js=true)(hkind:scope.kind= .function)(hcalm:X.calm=true)(hw:PI X tg iter wi)
  (hg: ∀a,PG (X.comp scope N a) tg (g a)) (hc: ∀a,PIf (X.comp scope N a) ifs (tc a)) (he: ∀a,PE (X.comp scope N a) elt (te a))
  (hsw:swapsWith (.ListComp elt [⟨tg,iter,ifs,0⟩] scope pos) (some (.Name y py)) spos.line X.env=pure true:=by rfl)
  (hs: ∀x,foldedSetIterable iter X.env x=pure x:=by intro _;rfl):PS X (.Assign [.Name y py] (.ListComp elt [⟨tg,iter,ifs,0⟩] scope pos) spos) (zkm (zdP n js wi g tc te) (zdL i)):=by
 intro pins s σ H D I h;obtain⟨cl,hclos,hc1,hc2⟩:=zdQ cap I;rw[exec_Assign_Name_used _ _ _ _ hsw];refine wpAny_bind (wpAny_standAt (wpAny_bind ?_));show wpAny _ X.A (do let _←comprehension (.ListComp elt [⟨tg,iter,ifs,0⟩] scope pos) scope X.env _ (newList []) false (eval iter X.env) (some (assign (.Name y py) X.env))) _ _ s;refine wpAny_bind (wpAny_mono (wpAny_comprehension_free (use:=some (assign (.Name y py) X.env)) (Q:=fun _ s'=>SP X pins D .next s') rfl hs hclos hkind (zcB cap).2.2.1
  (thn (hw pins s σ H _ I h) fun v s1 h1=>thn h1 fun itv s2 h2=> ?_)) (fun _ s' hq=>wpAny_pure (wpAny_pure hq)) fun _ _ e=>e)
 obtain⟨it,fp,tn,J,H2,rfl,I2,T,st2,f2,q⟩:=h2;refine zfZ (Q:=fun x H1=>D.nx (σ.set i (some x)) H1) (RR:=fun acc C=>compPost (model X.prog X.w) X.A X.xe (some (assign (.Name y py) X.env)) (fun _ s'=>SP X pins D .next s') acc C) cap hkind hcalm hg hc he I2 T st2 f2 hc1 hc2 q ?_;intro l C H' s' m I' hn hC hL hs0 hcell hpin hfs hq;show wpAny _ X.A (assign (.Name y py) X.env (.ref l)) _ _ _;refine wpAny_assign_Name (zfQ I' hN hi (.inl hy) (v:= .ref l) rfl (fun s3 I3 hsb=> ?_) (.inr hy));obtain⟨b,hsb,hb⟩:=hsb;have nb:C≠b:=by
  rcases hb with rfl|hb
  ·exact hL
  ·exact fun z=>hcell y b hb z.symm
 refine⟨m,hn.sameBut hsb nb,fun h' hsb'=> ?_⟩;exact⟨σ.set i (some (.ref l)),H',I3.turned (t':=s3.toks) (fun c o hc e=>(hsb'.2 c hc).trans e) hC hL (.inr hs0) hcell hpin,hq⟩
end
structure Lists (J:It) (H1:Hp) (ys:List V):Prop where
 go: ∀i H,zam H1 H→i<ys.length→J.go i H
 stop: ∀H,zam H1 H→J.stop ys.length H
 yld: ∀i H x H',zam H1 H→J.yld i H x H'→i<ys.length→H'=H∧ys[i]? =some x
theorem zbY{K:Fg}{H1:Hp}{a:Addr}{ys:List V}(h:SqL K H1 a ys):Lists (Itl K a) H1 ys where
 go:=fun i H sm hi=>⟨ys,ys[i],sm.seq h,List.getElem?_eq_getElem hi⟩
 stop:=fun H sm=>⟨ys,sm.seq h,Nat.le_refl _⟩
 yld:=fun i H x H' sm ⟨e,y⟩ _=>⟨e,y ys (sm.seq h)⟩
def rng(lo:Int)(n:Nat):List V:=(List.range n).map fun(i:Nat)=>V.int (lo+i)
theorem zb8(lo:Int)(n:Nat):(rng lo n).length=n:=by unfold rng;rw[List.length_map,List.length_range]
theorem zgG{lo:Int}{n i:Nat}(h:i<n):(rng lo n)[i]? =some (.int (lo+i)):=by
 unfold rng;rw[List.getElem?_map,List.getElem?_range h];rfl
theorem zf0(lo:Int)(n:Nat)(H1:Hp):Lists (Itr lo n) H1 (rng lo n) where
 go:=fun i H _ hi=>by rw[zb8] at hi;exact hi
 stop:=fun H _=>by rw[zb8];exact Nat.le_refl _
 yld:=fun i H x H' _ ⟨e,y⟩ hi=>⟨e,by rw[zb8] at hi;rw[zgG hi,y]⟩
end L2
namespace L2
open PySem PySem.Spec PyProof.Rows
def Sm(i:Int):Prop:=i.natAbs<2 ^ 3000
theorem Sm.bits{i:Int}(h:Sm i):Builtin.Int.intBits i≤2 ^ 20:=by
 unfold Builtin.Int.intBits;by_cases z:i.natAbs=0
 ·obtain rfl:i=0:=by omega
  decide
 ·have q:i.natAbs.log2<3000:=(Nat.log2_lt z).mpr h;have e:(2:Nat) ^ 20=1048576:=by decide
  split<;>omega
theorem Sm.log{i:Int}(h:Sm i):i.natAbs.log2<9000:=by
 by_cases z:i.natAbs=0
 ·rw[z];decide
 ·have q:i.natAbs.log2<3000:=(Nat.log2_lt z).mpr h;omega
theorem Sm.pow10{i:Int}{k:Nat}(hk:k≤700)(h:i.natAbs≤10 ^ k):Sm i:=by
 refine Nat.lt_of_le_of_lt h ?_;refine Nat.lt_of_le_of_lt (Nat.pow_le_pow_left (show 10≤2 ^ 4 by decide) k) ?_;rw[←Nat.pow_mul];exact Nat.pow_lt_pow_right (by decide) (by omega)
section
variable {X:Cx}
theorem zmU:OpR X (binaryOp .Mult) (rI (fun i j=>zjA i j∨(Sm i∧Sm j)) fun i j=> .int (i*j)):=opI fun _ _ _ _ _ _ _ hc q=>mul_int q (by
 rcases hc with hc|⟨h1,h2⟩
 ·exact hc.ok
 ·exact IntMulOk.of_bits h1.bits h2.bits)
theorem zkP:OpR X (binaryOp .FloorDiv) (rI (fun _ j=>0<j∧Sm j) fun i j=> .int (i / j)):=opI fun i j _ _ _ _ _ hc q=>by
 have h1:(0:Int)<j:=hc.1;exact floordiv_int (by omega) (by rw[Int.fdiv_eq_ediv_of_nonneg i (by omega)];exact q) (.inl (PyProof.noPylong_of_log2 hc.2.log))
theorem zkQ:bootBuiltins "sum"=some (.builtin "sum"):=by decide+kernel
theorem zdj:bootBuiltins "sorted"=some (.builtin "sorted"):=by decide+kernel
theorem zc6(ns:List Int): ∀k,k≤ns.length→PySem.preSum (fun i=>ns.getD i 0) k=(ns.take k).sum
 |0,_=>rfl
 |k+1,h=>by
  show PySem.preSum (fun i=>ns.getD i 0) k+ns.getD k 0=_;rw[zc6 ns k (by omega),List.take_add_one,List.sum_append,List.getD_eq_getElem?_getD,List.getElem?_eq_getElem (by omega)];simp
theorem zkR(hc:X.calm=true):zbK X (.builtin "sum") (fun xs H Q=> ∃(p:Addr) (ns:List Int),xs= [.ref p]∧SqL X.K H p (ns.map V.int)∧Q (.int ns.sum) H):=by
 intro pins s σ H xs us Q I r h;obtain⟨p,ns,rfl,hq,q⟩:=h;obtain⟨u,rfl,ru⟩:=zc2 r;obtain rfl:u=Value.ref p:=ru;obtain⟨its,rv,pl,hz⟩:=I.list hq;have hl:ns.length=its.length:=by rw[←rv.length,List.length_map]
 obtain⟨o0,n0,e0,_⟩:=id pl;have ne:p≠s.heap.objs.size:=Nat.ne_of_lt (Heap.lt_size e0);refine call_sum_walkG (wpAny_pyIter_list pl.isList ?_);refine⟨s.heap.objs.size,_,_,_,_,_,fun i=>ns.getD i 0,rfl,Walks.list (show X.A.in1.handled=none from I.ok.hd hc) s.heap.objs.size p ne its.toArray,⟨⟨_,Heap.get?_push_size _ rfl,rfl,rfl⟩,?_⟩,?_,?_,fun h' tk t' hk=> ?_⟩
 ·exact pl.isList.at fun o e=>Heap.get?_push_of_some _ e
 ·intro b hb;have hb':b=s.heap.objs.size∨b=p:=by simpa using hb
  show b<(s.heap.push _).objs.size;rw[Heap.size_push];rcases hb' with rfl|rfl
  ·exact Nat.lt_succ_self _
  ·exact Nat.lt_succ_of_lt (Heap.lt_size e0)
 ·intro i v hv;have hi:its[i]? =some v:=by simpa using hv
  obtain⟨hlt,_⟩:=List.getElem?_eq_some_iff.mp hi;have hb:(ns.map V.int)[i]? =some (.int ns[i]):=by rw[List.getElem?_map,List.getElem?_eq_getElem (by omega)];rfl
  obtain⟨u',e',t,rfl⟩:=rv.get hb;rw[hi] at e';cases e';have z:ns.getD i 0=ns[i]:=by rw[List.getD_eq_getElem?_getD,List.getElem?_eq_getElem (by omega)];rfl
  exact⟨t,by show Value.int ns[i] t=Value.int (ns.getD i 0) t;rw[z]⟩
 ·have e:PySem.preSum (fun i=>ns.getD i 0) its.toArray.size=ns.sum:=by rw[List.size_toArray,←hl,zc6 ns _ (Nat.le_refl _),List.take_length]
  rw[e];refine⟨.int _,H,I.kept (t':=tk) fun b o hb=>hk b o (fun z=> ?_) (Heap.get?_push_of_some _ hb),⟨_,rfl⟩,q⟩;have z':b=s.heap.objs.size:=by simpa using z
  exact absurd (z' ▸ Heap.lt_size hb) (Nat.lt_irrefl _)
end
inductive D where
 |non
 |bl (b:Bool)
 |int (i:Int)
 |str (cs:List Nat)
 |tup (ds:List D)
 |lst (ds:List D)
def all2(f:D→V→Prop):List D→List V→Prop
 | [], []=>True
 |d::ds,x::xs=>f d x∧all2 f ds xs
 |_,_=>False
def Dp(K:Fg)(H:Hp):Nat→D→V→Prop
 |_, .non,v=>v= .non
 |_, .bl b,v=>v= .bl b
 |_, .int i,v=>v= .int i
 |_, .str cs,v=>v= .str (SL cs)
 |n+1, .tup ds,v=> ∃a xs,v= .ref a∧SqT K H a xs∧all2 (Dp K H n) ds xs
 |n+1, .lst ds,v=> ∃a xs,v= .ref a∧SqL K H a xs∧all2 (Dp K H n) ds xs
 |0, .tup _,_=>False
 |0, .lst _,_=>False
def zcC(f:D→D→Bool):List D→List D→Bool
 | [], []=>true
 |a::r,b::t=>f a b && zcC f r t
 |_,_=>false
def eqb:Nat→D→D→Bool
 |_, .non, .non=>true
 |_, .bl a, .bl b=>a==b
 |_, .bl a, .int b=>(if a then 1 else 0)==b
 |_, .int a, .bl b=>a==(if b then 1 else 0)
 |_, .int a, .int b=>a==b
 |_, .str a, .str b=>a==b
 |n+1, .tup a, .tup b=>zcC (eqb n) a b
 |n+1, .lst a, .lst b=>zcC (eqb n) a b
 |_,_,_=>false
def zdR:D→Bool
 | .tup _=>true
 | .lst _=>true
 |_=>false
def zbo:Nat→D→D→Prop
 |n+1, .tup a, .tup b=> ∀(j:Nat) (x y:D),a[j]? =some x→b[j]? =some y→zbo n x y
 |n+1, .lst a, .lst b=> ∀(j:Nat) (x y:D),a[j]? =some x→b[j]? =some y→zbo n x y
 |_,a,b=>zdR a=false∧zdR b=false
theorem zbc{f:D→V→Prop}: ∀{ds:List D} {xs:List V},all2 f ds xs→ds.length=xs.length
 | [], [],_=>rfl
 |_::_,_::_,h=>by rw[List.length_cons,List.length_cons,zbc h.2]
 | [],_::_,h=>h.elim
 |_::_, [],h=>h.elim
theorem zcD{f:D→V→Prop}: ∀{ds:List D} {xs:List V} {j:Nat} {d:D} {x:V},all2 f ds xs→ds[j]? =some d→xs[j]? =some x→f d x
 | [], [],_,_,_,_,h,_=>by simp at h
 |a::r,b::t,0,d,x,h,h1,h2=>by
  simp at h1 h2;rw[←h1,←h2];exact h.1
 |a::r,b::t,j+1,d,x,h,h1,h2=>zcD h.2 (by simpa using h1) (by simpa using h2)
 | [],_::_,_,_,_,h,_,_=>h.elim
 |_::_, [],_,_,_,h,_,_=>h.elim
theorem zdB{f:D→D→Bool}: ∀{ds:List D},(∀d∈ds,f d d=true)→zcC f ds ds=true
 | [],_=>rfl
 |d::r,h=>by
  unfold zcC;rw[h d List.mem_cons_self,zdB fun x hx=>h x (List.mem_cons_of_mem _ hx)];rfl
theorem zhd{f:D→V→Prop}{ds:List D}{xs:List V}(h:all2 f ds xs){d:D}(hd:d∈ds): ∃x,f d x:=by
 obtain⟨j,hj,rfl⟩:=List.getElem_of_mem hd;have hl:=zbc h;exact⟨xs[j],zcD h (List.getElem?_eq_getElem hj) (List.getElem?_eq_getElem (by omega))⟩
theorem zeV{K:Fg}{H:Hp}: ∀{n:Nat} {d:D} {v:V},Dp K H n d v→eqb n d d=true
 |_, .non,_,_=>by unfold eqb;rfl
 |_, .bl _,_,_=>by unfold eqb;simp
 |_, .int _,_,_=>by unfold eqb;simp
 |_, .str _,_,_=>by unfold eqb;simp
 |n+1, .tup ds,v,h=>by
  unfold Dp at h;obtain⟨a,xs,e,hq,hs⟩:=h;unfold eqb;exact zdB fun d hd=>let ⟨x,hx⟩:=zhd hs hd;zeV hx
 |n+1, .lst ds,v,h=>by
  unfold Dp at h;obtain⟨a,xs,e,hq,hs⟩:=h;unfold eqb;exact zdB fun d hd=>let ⟨x,hx⟩:=zhd hs hd;zeV hx
 |0, .tup _,_,h=>by unfold Dp at h;exact h.elim
 |0, .lst _,_,h=>by unfold Dp at h;exact h.elim
def sc:D→Option V
 | .non=>some .non
 | .bl b=>some (.bl b)
 | .int i=>some (.int i)
 | .str cs=>some (.str (SL cs))
 |_=>none
theorem Dp.sc{K:Fg}{H:Hp}{n:Nat}{d:D}{v x:V}(h:sc d=some x):Dp K H n d v=(v=x):=by
 cases d with
 |non=>cases h;unfold Dp;rfl
 |bl b=>cases h;unfold Dp;rfl
 |int i=>cases h;unfold Dp;rfl
 |str cs=>cases h;unfold Dp;rfl
 |tup ds=>cases h
 |lst ds=>cases h
theorem Dp.flat{K:Fg}{H:Hp}{d:D}{v:V}(h:Dp K H 0 d v): ∃x,L2.sc d=some x:=by
 cases d with
 |tup ds=>unfold Dp at h;exact h.elim
 |lst ds=>unfold Dp at h;exact h.elim
 |_=>exact⟨_,rfl⟩
theorem Dp.isRef{K:Fg}{H:Hp}{n:Nat}{d:D}{v:V}(h:L2.sc d=none)(p:Dp K H n d v): ∃a,v= .ref a:=by
 cases d with
 |tup ds=>
  cases n with
  |zero=>unfold Dp at p;exact p.elim
  |succ n=>unfold Dp at p;obtain⟨a,_,e,_⟩:=p;exact⟨a,e⟩
 |lst ds=>
  cases n with
  |zero=>unfold Dp at p;exact p.elim
  |succ n=>unfold Dp at p;obtain⟨a,_,e,_⟩:=p;exact⟨a,e⟩
 |non=>cases h
 |bl _=>cases h
 |int _=>cases h
 |str _=>cases h
theorem sc_ref{d:D}{x:V}{a:Addr}(h:sc d=some x):x≠ .ref a:=by
 cases d<;>cases h<;>(intro z;cases z)
theorem sc_flat{d:D}{x:V}(h:sc d=some x):zdv x=true:=by
 cases d<;>cases h<;>rfl
theorem sc_inj{d e:D}{x:V}(h:sc d=some x)(g:sc e=some x):d=e:=by
 cases d<;>cases h<;>cases e<;>first
  |rfl
  |(cases g;rfl)
  |cases g
  |(have z:=V.str.inj (Option.some.inj g)
    rw[zcR] at z;rw[z])
theorem zkS{n:Nat}{d e:D}{x:V}(h:sc d=some x)(g:sc e=none): ¬zbo n d e:=by
 intro c;cases n<;>cases d<;>cases h<;>cases e<;>first
  |(unfold zbo at c;obtain⟨_,z⟩:=c;cases z;done)
  |(cases g;done)
theorem zkT{n:Nat}{d e:D}{x:V}(h:sc d=none)(g:sc e=some x): ¬zbo n d e:=by
 intro c;cases n<;>cases e<;>cases g<;>cases d<;>first
  |(unfold zbo at c;obtain⟨z,_⟩:=c;cases z;done)
  |(cases h;done)
theorem zow(a b:List Nat):(SL a==SL b)=(a==b):=by
 rw[Bool.eq_iff_iff,beq_iff_eq,beq_iff_eq,zcR]
theorem zkU{n:Nat}{d e:D}{x y:V}(h:sc d=some x)(g:sc e=some y):eqb n d e=eqV x y:=by
 cases d<;>cases h<;>cases e<;>cases g<;>(unfold eqb eqV)<;>first
  |rfl
  |exact(zow _ _).symm
section
variable {X:Cx} {pins:List (Addr×Obj)} {σ:St} {H:Hp} {s:Shared}
theorem zhe(I:Inv X pins σ H s){a:Addr}{xs ys:List V}(h:SqT X.K H a xs)(g:SqL X.K H a ys):False:=by
 obtain⟨i1,_,⟨o1,e1,c1,_⟩,_⟩:=I.tuple h;obtain⟨i2,_,⟨o2,n2,e2,c2,_⟩,_⟩:=I.list g;rw[e1] at e2;cases e2;rw[c1] at c2;revert c2
 simp
theorem zeW{f g:D→V→Prop}: ∀{ds es:List D} {xs:List V},(∀d∈ds,∀e x,f d x→g e x→d=e)→all2 f ds xs→all2 g es xs→ds=es
 | [], [], [],_,_,_=>rfl
 |d::r,e::t,x::z,h,p,q=>by rw[h d List.mem_cons_self e x p.1 q.1,zeW (fun d hd=>h d (List.mem_cons_of_mem _ hd)) p.2 q.2]
 | [],_::_, [],_,_,q=>q.elim
 | [],_::_,_::_,_,p,_=>p.elim
 |_::_, [], [],_,p,_=>p.elim
 |_::_, [],_::_,_,_,q=>q.elim
 |_::_,_::_, [],_,p,_=>p.elim
 | [], [],_::_,_,p,_=>p.elim
theorem Dp.det(I:Inv X pins σ H s): ∀{n:Nat} {d e:D} {v:V},Dp X.K H n d v→Dp X.K H n e v→d=e:=by
 intro n;induction n with
 |zero=>
  intro d e v p q;obtain⟨x,hx⟩:=Dp.flat p;obtain⟨y,hy⟩:=Dp.flat q;rw[Dp.sc hx] at p;rw[Dp.sc hy] at q;exact sc_inj hx (by rw[hy,←q,p])
 |succ n ih=>
  intro d e v p q;cases hx:L2.sc d with
  |some x=>
   rw[Dp.sc hx] at p;cases hy:L2.sc e with
   |some y=>
    rw[Dp.sc hy] at q;exact sc_inj hx (by rw[hy,←q,p])
   |none=>
    obtain⟨a,e2⟩:=Dp.isRef hy q;exact absurd (p.symm.trans e2) (sc_ref hx)
  |none=>
   cases hy:L2.sc e with
   |some y=>
    rw[Dp.sc hy] at q;obtain⟨a,e2⟩:=Dp.isRef hx p;exact absurd (q.symm.trans e2) (sc_ref hy)
   |none=>
    cases d with
    |tup ds=>
     unfold Dp at p;obtain⟨a,xs,rfl,h1,p⟩:=p;cases e with
     |tup es=>
      unfold Dp at q;obtain⟨b,ys,eb,h2,q⟩:=q;cases eb;have exy:=I.tuple_inj h1 h2;subst exy;exact congrArg D.tup (zeW (f:=Dp X.K H n) (g:=Dp X.K H n) (fun d _ e x p q=>ih p q) p q)
     |lst es=>
      unfold Dp at q;obtain⟨b,ys,eb,h2,q⟩:=q;cases eb;exact(zhe I h1 h2).elim
     |non=>cases hy
     |bl _=>cases hy
     |int _=>cases hy
     |str _=>cases hy
    |lst ds=>
     unfold Dp at p;obtain⟨a,xs,rfl,h1,p⟩:=p;cases e with
     |lst es=>
      unfold Dp at q;obtain⟨b,ys,eb,h2,q⟩:=q;cases eb;have exy:=I.list_inj h1 h2;subst exy;exact congrArg D.lst (zeW (f:=Dp X.K H n) (g:=Dp X.K H n) (fun d _ e x p q=>ih p q) p q)
     |tup es=>
      unfold Dp at q;obtain⟨b,ys,eb,h2,q⟩:=q;cases eb;exact(zhe I h2 h1).elim
     |non=>cases hy
     |bl _=>cases hy
     |int _=>cases hy
     |str _=>cases hy
    |non=>cases hx
    |bl _=>cases hx
    |int _=>cases hx
    |str _=>cases hx
theorem zcT{n:Nat}: ∀(ds es:List D),((List.range (min ds.length es.length)).all (fun j=>eqb n (ds.getD j .non) (es.getD j .non)) && ds.length==es.length)=zcC (eqb n) ds es:=by
 intro ds es;rw[Bool.eq_iff_iff,Bool.and_eq_true,List.all_eq_true,beq_iff_eq];induction ds generalizing es with
 |nil=>
  cases es with
  |nil=>simp [zcC]
  |cons e t=>simp [zcC]
 |cons d r ih=>
  cases es with
  |nil=>simp [zcC]
  |cons e t=>
   unfold zcC;rw[Bool.and_eq_true,←ih t];constructor
   ·rintro⟨h,hl⟩;refine⟨by simpa using h 0 (List.mem_range.mpr (by simp)),fun j hj=> ?_,by simpa using hl⟩
    have:=h (j+1) (List.mem_range.mpr (by rw[List.length_cons,List.length_cons];have:=List.mem_range.mp hj;omega));simpa using this
   ·rintro⟨h0,h,hl⟩;refine⟨fun j hj=> ?_,by simpa using hl⟩;cases j with
    |zero=>simpa using h0
    |succ j=>
     have hj':=List.mem_range.mp hj;rw[List.length_cons,List.length_cons] at hj';simpa using h j (List.mem_range.mpr (by omega))
theorem zcq{n:Nat}{ds:List D}{xs:List V}{its:List Value}(h:all2 (Dp X.K H n) ds xs)(r:zaI xs its)(j:Nat)(hj:j<its.toArray.size): ∃x,ds[j]? =some (ds.getD j .non)∧Dp X.K H n (ds.getD j .non) x∧zaC x its.toArray[j]:=by
 have hl:=zbc h;have hr:=r.length;have hj':j<its.length:=by simpa using hj
 have e1:ds[j]? =some (ds.getD j .non):=by
  rw[List.getD_eq_getElem?_getD,List.getElem?_eq_getElem (by omega)];rfl
 have e2:xs[j]? =some xs[j]:=List.getElem?_eq_getElem (by omega);obtain⟨u,eu,ru⟩:=r.get e2;refine⟨xs[j],e1,zcD h e1 e2,?_⟩;rw[List.getElem?_eq_getElem hj'] at eu;rw[List.getElem_toArray];rw[Option.some.inj eu];exact ru
theorem zec(I:Inv X pins σ H s): ∀{n:Nat} {d e:D} {v w:V} {u u':Value} {A:Around},zbo n d e→Dp X.K H n d v→Dp X.K H n e w→zaC v u→zaC w u'→A.units+n<cLine→SeqAt.EqAt A s u u' (eqb n d e):=by
 intro n;induction n with
 |zero=>
  intro d e v w u u' A c p q rv rw' hu;obtain⟨x,hx⟩:=Dp.flat p;obtain⟨y,hy⟩:=Dp.flat q;rw[Dp.sc hx] at p;rw[Dp.sc hy] at q;subst p q;rw[zkU hx hy];exact zh4 rv rw' (sc_flat hx) (sc_flat hy)
 |succ n ih=>
  intro d e v w u u' A c p q rv rw' hu;cases hx:L2.sc d with
  |some x=>
   cases hy:L2.sc e with
   |some y=>
    rw[Dp.sc hx] at p;rw[Dp.sc hy] at q;subst p q;rw[zkU hx hy];exact zh4 rv rw' (sc_flat hx) (sc_flat hy)
   |none=>exact absurd c (zkS hx hy)
  |none=>
   cases hy:L2.sc e with
   |some y=>exact absurd c (zkT hx hy)
   |none=>
    by_cases same:v=w
    ·subst same;have ed:=Dp.det I p q;subst ed;rw[zeV p];have eu:u=u':=by
      obtain⟨a,rfl⟩:=Dp.isRef hx p;cases rv;cases rw';rfl
     subst eu;exact SeqAt.EqAt.same _
    ·cases d with
     |tup ds=>
      cases e with
      |tup es=>
       unfold Dp at p q;obtain⟨a,xs,rfl,h1,p⟩:=p;obtain⟨b,ys,rfl,h2,q⟩:=q;cases rv;cases rw';obtain⟨i1,r1,t1,_⟩:=I.tuple h1;obtain⟨i2,r2,t2,_⟩:=I.tuple h2;have l1:=zbc p;have l2:=zbc q;have l3:=r1.length;have l4:=r2.length;refine SeqAt.EqAt.of_refs (fun z=>same (by rw[z])) ?_;have fin:=SeqAt.RcAt.tuples (A:=A) (e:=fun j=>eqb n (ds.getD j .non) (es.getD j .non)) t1 t2 (by omega) (fun j j1 j2=> ?_)
       ·rw[List.size_toArray,List.size_toArray,show i1.length=ds.length by omega,show i2.length=es.length by omega,zcT] at fin;unfold eqb;exact fin
       ·obtain⟨x,g1,d1,f1⟩:=zcq p r1 j j1;obtain⟨y,g2,d2,f2⟩:=zcq q r2 j j2;exact ih (c j _ _ g1 g2) d1 d2 f1 f2 (by show A.units+1+n<cLine;omega)
      |lst es=>exact absurd c (by unfold zbo;simp [zdR])
      |non=>cases hy
      |bl _=>cases hy
      |int _=>cases hy
      |str _=>cases hy
     |lst ds=>
      cases e with
      |lst es=>
       unfold Dp at p q;obtain⟨a,xs,rfl,h1,p⟩:=p;obtain⟨b,ys,rfl,h2,q⟩:=q;cases rv;cases rw';obtain⟨i1,r1,t1,_⟩:=I.list h1;obtain⟨i2,r2,t2,_⟩:=I.list h2;have l1:=zbc p;have l2:=zbc q;have l3:=r1.length;have l4:=r2.length;refine SeqAt.EqAt.of_refs (fun z=>same (by rw[z])) ?_;have r0:=zcT (n:=n) ds es;unfold eqb;by_cases hs:i1.length=i2.length
       ·have fin:=SeqAt.RcAt.lists (A:=A) (e:=fun j=>eqb n (ds.getD j .non) (es.getD j .non)) t1.isList t2.isList (by simpa using hs) (by omega) (fun j j1 j2=> ?_)
        ·have e1:ds.length=es.length:=by omega
         rw[←e1,Nat.min_self,beq_self_eq_true,Bool.and_true] at r0;rw[List.size_toArray,show i1.length=ds.length by omega,r0] at fin;exact fin
        ·obtain⟨x,g1,d1,f1⟩:=zcq p r1 j j1;obtain⟨y,g2,d2,f2⟩:=zcq q r2 j j2;exact ih (c j _ _ g1 g2) d1 d2 f1 f2 (by show A.units+1+n<cLine;omega)
       ·have fin:=SeqAt.RcAt.lists_lengths (A:=A) t1.isList t2.isList (by simpa using hs) (by omega);have z:(ds.length==es.length)=false:=by
         rw[beq_eq_false_iff_ne];omega
        rw[z,Bool.and_false] at r0;rw[←r0];exact fin
      |tup es=>exact absurd c (by unfold zbo;simp [zdR])
      |non=>cases hy
      |bl _=>cases hy
      |int _=>cases hy
      |str _=>cases hy
     |non=>cases hx
     |bl _=>cases hx
     |int _=>cases hx
     |str _=>cases hx
theorem zjG(I:Inv X pins σ H s){n:Nat}{d e:D}{v w:V}{u u':Value}{A:Around}(c:zbo (n+1) d e)(p:Dp X.K H (n+1) d v)(q:Dp X.K H (n+1) e w)(hx:sc d=none)(hy:sc e=none)(rv:zaC v u)(rw':zaC w u')(hu:A.units+(n+1)<cLine):
  SeqAt.RcAt A s u u' (eqb (n+1) d e)∧SeqAt.RcNeAt A s u u' (!eqb (n+1) d e):=by
 cases d with
 |tup ds=>
  cases e with
  |tup es=>
   unfold Dp at p q;obtain⟨a,xs,rfl,h1,p⟩:=p;obtain⟨b,ys,rfl,h2,q⟩:=q;cases rv;cases rw';obtain⟨i1,r1,t1,_⟩:=I.tuple h1;obtain⟨i2,r2,t2,_⟩:=I.tuple h2;have l1:=zbc p;have l2:=zbc q;have l3:=r1.length;have l4:=r2.length;have el: ∀j (j1:j<i1.toArray.size) (j2:j<i2.toArray.size),SeqAt.EqAt A.in1 s i1.toArray[j] i2.toArray[j] (eqb n (ds.getD j .non) (es.getD j .non)):=fun j j1 j2=>by
    obtain⟨x,g1,d1,f1⟩:=zcq p r1 j j1;obtain⟨y,g2,d2,f2⟩:=zcq q r2 j j2;exact zec I (c j _ _ g1 g2) d1 d2 f1 f2 (by show A.units+1+n<cLine;omega)
   have f1:=SeqAt.RcAt.tuples (A:=A) (e:=fun j=>eqb n (ds.getD j .non) (es.getD j .non)) t1 t2 (by omega) el;have f2:=SeqAt.RcNeAt.tuples (A:=A) (e:=fun j=>eqb n (ds.getD j .non) (es.getD j .non)) t1 t2 (by omega) el;rw[List.size_toArray,List.size_toArray,show i1.length=ds.length by omega,show i2.length=es.length by omega,zcT] at f1 f2;unfold eqb;exact⟨f1,f2⟩
  |lst es=>exact absurd c (by unfold zbo;simp [zdR])
  |non=>cases hy
  |bl _=>cases hy
  |int _=>cases hy
  |str _=>cases hy
 |lst ds=>
  cases e with
  |lst es=>
   unfold Dp at p q;obtain⟨a,xs,rfl,h1,p⟩:=p;obtain⟨b,ys,rfl,h2,q⟩:=q;cases rv;cases rw';obtain⟨i1,r1,t1,_⟩:=I.list h1;obtain⟨i2,r2,t2,_⟩:=I.list h2;have l1:=zbc p;have l2:=zbc q;have l3:=r1.length;have l4:=r2.length;have el: ∀j (j1:j<i1.toArray.size) (j2:j<i2.toArray.size),SeqAt.EqAt A.in1 s i1.toArray[j] i2.toArray[j] (eqb n (ds.getD j .non) (es.getD j .non)):=fun j j1 j2=>by
    obtain⟨x,g1,d1,f1⟩:=zcq p r1 j j1;obtain⟨y,g2,d2,f2⟩:=zcq q r2 j j2;exact zec I (c j _ _ g1 g2) d1 d2 f1 f2 (by show A.units+1+n<cLine;omega)
   have r0:=zcT (n:=n) ds es;unfold eqb;by_cases hs:i1.length=i2.length
   ·have f1:=SeqAt.RcAt.lists (A:=A) (e:=fun j=>eqb n (ds.getD j .non) (es.getD j .non)) t1.isList t2.isList (by simpa using hs) (by omega) el;have f2:=SeqAt.RcNeAt.lists (A:=A) (e:=fun j=>eqb n (ds.getD j .non) (es.getD j .non)) t1.isList t2.isList (by simpa using hs) (by omega) el;have e1:ds.length=es.length:=by omega
    rw[←e1,Nat.min_self,beq_self_eq_true,Bool.and_true] at r0;rw[List.size_toArray,show i1.length=ds.length by omega,r0] at f1 f2;exact⟨f1,f2⟩
   ·have f1:=SeqAt.RcAt.lists_lengths (A:=A) t1.isList t2.isList (by simpa using hs) (by omega);have f2:=SeqAt.RcNeAt.lists_lengths (A:=A) t1.isList t2.isList (by simpa using hs) (by omega);have z:(ds.length==es.length)=false:=by
     rw[beq_eq_false_iff_ne];omega
    rw[z,Bool.and_false] at r0;rw[←r0];exact⟨f1,f2⟩
  |tup es=>exact absurd c (by unfold zbo;simp [zdR])
  |non=>cases hy
  |bl _=>cases hy
  |int _=>cases hy
  |str _=>cases hy
 |non=>cases hx
 |bl _=>cases hx
 |int _=>cases hx
 |str _=>cases hx
end
section
variable {X:Cx}
def zqT(K:Fg)(neg:Bool):R2:=fun x y H Q=> ∃n d e,Dp K H (n+1) d x∧Dp K H (n+1) e y∧sc d=none∧sc e=none∧n≤50∧zbo (n+1) d e∧Q (.bl (if neg then !eqb (n+1) d e else eqb (n+1) d e)) H
theorem zkV{k:Nat}(hr:Room k X.A):OpR X (compareOp .NotEq) (zqT X.K true):=by
 intro pins s σ H x y v u Q I rx ry h;obtain⟨n,d,e,p,q,hx,hy,hn,c,hq⟩:=h;have hu:=hr.units;exact(zjG I (A:=X.A) c p q hx hy rx ry (by omega)).2 X.prog X.w _ _ ⟨.bl _,H,I,rfl,hq⟩
end
theorem zed{K:Fg}{H:Hp}{n:Nat}{a:Addr}{ds:List D}{xs:List V}(h:SqT K H a xs)(q:all2 (Dp K H n) ds xs):Dp K H (n+1) (.tup ds) (.ref a):=by
 unfold Dp;exact⟨a,xs,rfl,h,q⟩
theorem zkW{K:Fg}{H:Hp}{n:Nat}{a:Addr}{ds:List D}{xs:List V}(h:SqL K H a xs)(q:all2 (Dp K H n) ds xs):Dp K H (n+1) (.lst ds) (.ref a):=by
 unfold Dp;exact⟨a,xs,rfl,h,q⟩
theorem zb6{K:Fg}{H:Hp}{n:Nat}{i:Int}:Dp K H n (.int i) (.int i):=by unfold Dp;rfl
theorem zcf{K:Fg}{H:Hp}{n:Nat}{cs:List Nat}:Dp K H n (.str cs) (.str (SL cs)):=by unfold Dp;rfl
theorem zox{K:Fg}{H:Hp}{n:Nat}:Dp K H n .non .non:=by unfold Dp;rfl
theorem zf1{K:Fg}{H:Hp}{n:Nat}: ∀is:List Int,all2 (Dp K H n) (is.map D.int) (is.map V.int)
 | []=>trivial
 |_::r=>⟨zb6,zf1 r⟩
end L2
namespace L2
open PySem PySem.Spec PyProof.Rows
def New(H:Hp)(o:HO)(Q:VK):Prop:= ∀p H',H p=none→zam H H'→H' p=some o→Q (.ref p) H'
theorem New.at{H:Hp}{o:HO}{Q:VK}(h:New H o Q){p:Addr}(hp:H p=none):Q (.ref p) (upd H p o):=h p _ hp (zbN hp o) zao
section
variable {X:Cx} {es:List Expr} {t:TA} {pos:Pos}
def zkX(t:TA):TE:=fun σ H Q=>t σ H fun xs H1=>xs.length≤sizeLine∧New H1 (.tup xs) Q
def zkY(t:TA):TE:=fun σ H Q=>t σ H fun xs H1=>xs.length≤sizeLine∧New H1 (.lst xs) Q
theorem zmV{x1}(h:PA X es t):PE X (.Tuple es x1 pos) (zkX t):=by
 intro pins s σ H Q I hq;refine wpAny_Tuple_spliced (thn (h pos pins s σ H _ I hq) fun us s1 ⟨xs,H1,I1,r,z,q⟩=>⟨by rw[←r.length];exact z,?_⟩);have hf:H1 s1.heap.objs.size=none:=I1.hok.fresh (Nat.le_refl _);refine⟨.ref s1.heap.objs.size,upd H1 s1.heap.objs.size (.tup xs),I1.laid (t':=s1.toks) (fun b u e=>Heap.get?_push_of_some _ e) (Nat.le_refl _) ?_,rfl,q.at hf⟩;exact⟨z,us,r,⟨_,Heap.get?_push_size _ rfl,rfl,_,rfl⟩⟩
theorem zmW(h:PA X es t):PE X (.List es pos) (zkY t):=by
 intro pins s σ H Q I hq;refine wpAny_List_spliced (thn (h pos pins s σ H _ I hq) fun us s1 ⟨xs,H1,I1,r,z,q⟩=>⟨by rw[←r.length];exact z,?_⟩);have hf:H1 s1.heap.objs.size=none:=I1.hok.fresh (Nat.le_refl _);refine⟨.ref s1.heap.objs.size,upd H1 s1.heap.objs.size (.lst xs),I1.laid (t':=s1.toks) (fun b u e=>Heap.get?_push_of_some _ e) (Nat.le_refl _) ?_,rfl,q.at hf⟩;exact⟨z,us,0,r,Heap.get?_push_size _ rfl⟩
theorem OpR.imp{f:Value→Value→Sem Value}{r r':R2}(h:OpR X f r)(i: ∀x y H Q,r' x y H Q→r x y H Q):OpR X f r':=fun pins s σ H x y v u Q I rx ry q=>h pins s σ H x y v u Q I rx ry (i _ _ _ _ q)
theorem zbK.imp{f:Value}{r r':List V→Hp→VK→Prop}(h:zbK X f r)(i: ∀xs H Q,r' xs H Q→r xs H Q):zbK X f r':=fun pins s σ H xs us Q I rx q=>h pins s σ H xs us Q I rx (i _ _ _ q)
def zqe:R2:=fun x y H Q=> ∃p q xs ys,x= .ref p∧y= .ref q∧H p=some (.lst xs)∧H q=some (.lst ys)∧xs.length+ys.length≤sizeLine∧New H (.lst (xs++ys)) Q
theorem ziV:OpR X (binaryOp .Add) zqe:=zop.imp fun _ _ _ _ ⟨p,q,xs,ys,e1,e2,h1,h2,hz,hq⟩=>⟨p,q,xs,ys,e1,e2,h1,h2,hz,fun _ hp=>hq.at hp⟩
end
end L2
namespace L2
open PySem PySem.Spec PyProof.Rows
theorem zbj{n:Nat}(h:n≤1000):n<sizeLine:=Nat.lt_of_le_of_lt h (by decide)
theorem zbz{n:Nat}(h:n≤1000):n≤sizeLine:=Nat.le_of_lt (zbj h)
end L2
namespace L2
open PySem PySem.Spec PyProof.Rows
end L2
namespace L2
open PySem PySem.Spec PyProof.Rows
def zqf(g:TG)(tb:TS)(D:Ends)(σ:St)(J:It)(H1:Hp):Prop:= ∃W:Nat→Nat→St→Hp→Prop,(∃m,W 0 m σ H1)∧ ∀i m σ H,W i m σ H→
 (J.stop i H∧D.nx σ H)∨(J.go i H∧ ∃N:St→Hp→Prop,(∀σ' H',N σ' H'→ ∃m',m'<m∧W (i+1) m' σ' H')∧ ∀x H',J.yld i H x H'→g x σ H' fun σ2 H2=>tb {D with nx:=N,ct:=N,bk:=D.nx} σ2 H2)
theorem zbE{wi:TI}{g:TG}{tb:TS}{D:Ends}{σ:St}{H:Hp}(k: ∀R:It→Hp→Prop,(∀J H1,zqf g tb D σ J H1→R J H1)→wi σ H R):zp1 wi g tb D σ H:=k _ fun _ _ h=>h
section
variable {X:Cx} {pins:List (Addr×Obj)} {σ:St} {H:Hp} {s:Shared} {h':Heap} {ch:List Addr} {t':Nat}
theorem Inv.turnedL(I:Inv X pins σ H s)(hf: ∀b∈ch,zex X pins H b)(k: ∀b o,b∉ch→s.heap.get? b=some o→h'.get? b=some o):Inv X pins σ H {s with heap:=h',toks:=t'}:=by
 have nit: ∀b u,H b=some u→b∉ch:=fun b u e z=>by rw[(hf b z).1] at e;cases e
 refine I.step (g':=s.gens) (d':=s.drawn) (ch:=ch) (fun b hb=> ?_) (fun b o _ _ hc e _=>k b o hc e) (fun b o _ _ hc e _=>⟨o.slots,k b o hc e⟩) (fun _ _ _ _ n=>n)
  (fun b o hc e=>⟨o,k b o hc e⟩) (fun _ _ e=>e) (fun _ _ _ e=>e) (fun b ps e=>⟨#[],by rw[e];simp⟩) (fun m hm=> ?_) (fun b u e=> ?_) I.bare
 ·obtain⟨_,f1,_,f3,f4,f5⟩:=hf b hb;exact⟨f3,f1,f4,f5⟩
 ·obtain⟨o,es,ep,ho,r⟩:=hm;exact⟨o,es,ep,k _ o (fun z=>(hf _ z).2.1 rfl) ho,r⟩
 ·refine(I.hok b u e).stay (fun c v hc q=>k c v ?_ q) (fun _ q=>q) fun _ _ q=>q;rcases hc with z|z
  ·rw[z];exact nit b u e
  ·exact nit c _ z
theorem Inv.laidL{a:Addr}{o:HO}(I:Inv X pins σ H s)(hf: ∀b∈ch,zex X pins H b)(k: ∀b o,b∉ch→s.heap.get? b=some o→h'.get? b=some o)(hp:s.heap.objs.size≤a)(new:zbh X.prog X.w (upd H a o) h' a o):
  Inv X pins σ (upd H a o) {s with heap:=h',toks:=t'}:=by
 have hn:=I.hok.fresh hp;have nit: ∀b u,H b=some u→b∉ch:=fun b u e z=>by rw[(hf b z).1] at e;cases e
 refine I.step (g':=s.gens) (d':=s.drawn) (ch:=ch) (fun b hb=> ?_) (fun b o _ _ hc e _=>k b o hc e) (fun b o _ _ hc e _=>⟨o.slots,k b o hc e⟩)
  (fun b u _ e n=>by rw[zal (Nat.ne_of_lt (Nat.lt_of_lt_of_le (Heap.lt_size e) hp))];exact n)
  (fun b o hc e=>⟨o,k b o hc e⟩) (fun b xs e=>by rw[zal (zaD e hn)];exact e) (fun b o u e=>by rw[zal (zaD e hn)];exact e) (fun b ps e=>⟨#[],by rw[zal (zaD e hn),e];simp⟩) (fun m hm=> ?_) (fun b u e=> ?_) I.bare
 ·obtain⟨_,f1,_,f3,f4,f5⟩:=hf b hb;exact⟨f3,f1,f4,f5⟩
 ·obtain⟨o,es,ep,ho,r⟩:=hm;exact⟨o,es,ep,k _ o (fun z=>(hf _ z).2.1 rfl) ho,r⟩
 ·by_cases hb:b=a
  ·subst hb;rw[zao] at e;cases e;exact new
  ·rw[zal hb] at e;refine(I.hok b u e).stay (fun c v hc q=>k c v ?_ q) (fun c q=>by rw[zal (zaD q hn)];exact q) fun c xs q=>by rw[zal (zaD q hn)];exact q
   rcases hc with z|z
   ·rw[z];exact nit b u e
   ·exact nit c _ z
end
section
variable {X:Cx}
end
section
variable {X:Cx} {Ek:St→XK} {k:Nat} {f:Addr} {fd:FuncData} {ps ks:List Str} {sp:Sp} {x:Str} {p pos:Pos} {e:Expr} {es:List Expr} {kws:List Keyword} {t tk:TA} {g:List Value→List Value→List Value} {gV:List V→List V→List V}
end
structure FunD (K:Fg) (x qual:Str) (st:Stmt) (f:Addr) (fd:FuncData):Prop where
 ex: ∃(dV oc:Value) (od:Option Addr) (kV doc pm:Value) (an:Option Addr) (cdv ct:Value) (osl:Array (Option Value)),
  fd=PySem.W.fnOf x qual (zcQ st) (zcp st) (zak st) dV kV doc pm an cdv ct∧K.lookup f=some ⟨oc,od, .func fd,osl⟩∧PySem.W.codeIn K cdv qual=true
 kp:PySem.W.keepIn K (.ref f)=true
end L2
namespace Parts
variable {A s:Int}
end Parts
namespace L2
open PySem
section
variable {env:Env} {es:List Expr} {p:Pos}
theorem zaf{c:Const}{j:Nat}:starEach (.Constant c j p::es) env=(false,eval (.Constant c j p) env)::starEach es env:=rfl
theorem zab{x:Str}:starEach (.Name x p::es) env=(false,eval (.Name x p) env)::starEach es env:=rfl
theorem zan{a b:Expr}{o:Operator}:starEach (.BinOp a o b p::es) env=(false,eval (.BinOp a o b p) env)::starEach es env:=rfl
theorem zh7{xs:List Expr}{k}:starEach (.Tuple xs k p::es) env=(false,eval (.Tuple xs k p) env)::starEach es env:=rfl
theorem zar{a b:Expr}:starEach (.Subscript a b p::es) env=(false,eval (.Subscript a b p) env)::starEach es env:=rfl
theorem zaF{f:Expr}{xs:List Expr}{ks:List Keyword}:starEach (.Call f xs ks p::es) env=(false,eval (.Call f xs ks p) env)::starEach es env:=rfl
end
end L2
namespace L2
open PySem PySem.Spec PyProof.Rows
def PSt(X:Cx)(st:Stmt)(t:TS):Prop:=
 ∀(pins:List (Addr×Obj)) (s:Shared) (σ:St) (H:Hp) (D:Ends),0<s.toks→Inv X pins σ H s→t D σ H→wpAny (model X.prog X.w) X.A (exec st X.env) (SP X pins D) X.xe s
def PTt(X:Cx)(e:Expr)(t:TT):Prop:=
 ∀(pins:List (Addr×Obj)) (s:Shared) (σ:St) (H:Hp) (Q:Bool→Hp→Prop),0<s.toks→Inv X pins σ H s→t σ H Q→wpAny (model X.prog X.w) X.A (isTrue e X.env (eval e X.env)) (TP X pins σ Q) X.xe s
def PWt(X:Cx)(e:Expr)(t:TT):Prop:=
 ∀(whole:Sem Value) (pins:List (Addr×Obj)) (s:Shared) (σ:St) (H:Hp) (Q:Bool→Hp→Prop),0<s.toks→Inv X pins σ H s→t σ H Q→wpAny (model X.prog X.w) X.A (isTrue e X.env whole) (TP X pins σ Q) X.xe s
section
variable {X:Cx} {st:Stmt} {sts rest:List Stmt} {e a b:Expr} {es:List Expr} {u v:TS} {te ta tb to:TE} {tc tA tB':TT} {tl:TA} {pos:Pos}
theorem PE.t(h:PE X e te):PEt X e te:=fun pins s σ H Q _ I q=>h pins s σ H Q I q
theorem PA.t(h:PA X es tl):PAt X es tl:=fun ps pins s σ H Q _ I q=>h ps pins s σ H Q I q
theorem PS.t(h:PS X st u):PSt X st u:=fun pins s σ H D _ I q=>h pins s σ H D I q
theorem PSs.t(h:PSs X sts u):zqS X sts u:=fun pins s σ H D _ I q=>h pins s σ H D I q
theorem PT.t(h:PT X e tc):PTt X e tc:=fun pins s σ H Q _ I q=>h pins s σ H Q I q
theorem PW.t(h:PW X e tc):PWt X e tc:=fun wh pins s σ H Q _ I q=>h wh pins s σ H Q I q
end
section
variable {X:Cx} {st:Stmt} {rest:List Stmt} {e a:Expr} {t u:TS} {te ta:TE} {pos cp:Pos}
end
structure FnOkT (P:Program) (w:World) (K:Fg) (mg:Str→Option Value) (base:Heap) (CX:CXT) (k:Nat) (f:Addr) (fd:FuncData) (ps:List Str) (sp:Sp):Prop where
 len: ∀vs H Q E,sp vs H Q E→vs.length=ps.length
 run: ∀(A:Around) (outer:List Env) (s:Shared) (H:Hp) (args:Args) (us:List Value) (vs:List V) (Q:VK) (E:XK),0<s.toks→Room k A→Env0 P w K mg base A outer s H→BindsTo s fd args (ps.zip us)→zaI vs us→sp vs H Q E→
  codeAny (model P w) A (.call (.ref f) args) (CR CX outer P w H s Q E) s
section
variable {P:Program} {w:World} {K:Fg} {mg:Str→Option Value} {base:Heap} {x qual:Str} {st:Stmt} {f:Addr} {fd:FuncData} {N ps:List Str} {k:Nat} {sp:Sp}
end
section
variable {X:Cx} {Ek:St→XK} {k:Nat} {f:Addr} {fd:FuncData} {ps ks:List Str} {sp:Sp} {x:Str} {p pos:Pos} {e:Expr} {es:List Expr} {kws:List Keyword} {t tk:TA} {g:List Value→List Value→List Value} {gV:List V→List V→List V} {dvs:List V} {ds:List Value}
end
section
variable {X:Cx} {body suite:List Stmt} {b₀:Stmt} {n xn:Str} {i:Nat} {C:Addr} {tb:(St→XK)→TS} {ts:TS} {np hpos pos:Pos}
end
end L2
namespace L2
open PySem PySem.Spec PyProof.Rows
section
variable {X:Cx}
theorem zhf: ∀(n:Nat) (a:Array Nat) (cs:List Nat),((List.replicate n cs.toArray).foldl (· ++ ·) a).toList=a.toList++(List.replicate n cs).flatten
 |0,a,cs=>by simp
 |n+1,a,cs=>by
  rw[List.replicate_succ,List.foldl_cons,zhf n,List.replicate_succ,List.flatten_cons];simp
theorem zoy(cs:List Nat){k:Nat}:Txt.mul (SL cs) (k:Int)=SL (List.replicate k cs).flatten:=by
 unfold Txt.mul;by_cases h1:(k:Int)<1
 ·obtain rfl:k=0:=by omega
  rw[if_pos h1];rfl
 rw[if_neg h1];by_cases h2:((k:Int)==1||(SL cs).length==0)=true
 ·rw[if_pos h2];rcases Bool.or_eq_true _ _ ▸ h2 with z|z
  ·have:k=1:=by have:=eq_of_beq z;omega
   subst this;simp
  ·have z':cs.length=0:=by rw[zeb] at z;exact eq_of_beq z
   have:cs= []:=List.length_eq_zero_iff.mp z';subst this;congr 1;simp
 ·rw[if_neg h2];refine(zqc _).trans (congrArg SL ?_)
  have:=zhf k #[] cs;rw[show (#[]:Array Nat).toList= [] from rfl,List.nil_append] at this;exact this
theorem zhg:OpR X (binaryOp .Mult) (fun x y H Q=> ∃cs k,x= .str (SL cs)∧y= .int ((k:Nat):Int)∧cs.length≤1000∧k≤1000∧Q (.str (SL (List.replicate k cs).flatten)) H):=by
 intro pins s σ H x y v u Q I rx ry h;obtain⟨cs,k,rfl,rfl,h1,h2,q⟩:=h;obtain⟨t,rfl⟩:=rx;obtain⟨t',rfl⟩:=ry;have hm:cs.length*k≤1000*1000:=Nat.mul_le_mul h1 h2;refine SB.mul ⟨?_,fun a b=> ?_,fun a b=> ?_⟩ fun t' k'=> ?_
 ·rw[Bool.or_eq_false_iff];constructor<;>refine decide_eq_false ?_<;>omega
 ·rw[zeb]
  have:0<k:=by omega
  have e:((2:Int) ^ 63 - 1) / k≥1000:=by
   refine Int.le_ediv_of_mul_le (by omega) ?_;omega
  omega
 ·rw[zeb,Int.toNat_natCast];unfold Builtin.Str.tooLong;refine decide_eq_false ?_;rw[sizeLine_eq];omega
 ·rw[zoy];exact⟨.str _,H,I.tok _,⟨_,rfl⟩,q⟩
end
end L2
namespace L2
open PySem PySem.NumText
theorem zaX{c A B:Prop}[Decidable c](h1:c→A)(h2: ¬c→B):if c then A else B:=by
 by_cases h:c
 ·rw[if_pos h];exact h1 h
 ·rw[if_neg h];exact h2 h
end L2
namespace L2
open PySem PySem.Spec PyProof.Rows
section
variable {κ:Type} [DecidableEq κ]
def zbF(kvs:List (κ×V))(k:κ):Option V:=(kvs.find? fun kv=>decide (kv.1=k)).map (·.2)
def zbS(kvs:List (κ×V))(k:κ)(v:V):List (κ×V):=
 if (kvs.any fun kv=>decide (kv.1=k))=true then kvs.map (fun kv=>if kv.1=k then (kv.1,v) else kv) else kvs++ [(k,v)]
def zep(kvs:List (κ×V))(k:κ):List (κ×V):=kvs.filter fun kv=>decide (kv.1≠k)
theorem zbd{p:κ×V}{r:List (κ×V)}{k:κ}(e:p.1=k):zbF (p::r) k=some p.2:=by simp [zbF,List.find?_cons,e]
theorem zbe{p:κ×V}{r:List (κ×V)}{k:κ}(e: ¬p.1=k):zbF (p::r) k=zbF r k:=by simp [zbF,List.find?_cons,e]
theorem zc7(k:κ): ∀kvs:List (κ×V),(kvs.any fun kv=>decide (kv.1=k))=(zbF kvs k).isSome
 | []=>rfl
 |p::r=>by
  rw[List.any_cons];by_cases e:p.1=k
  ·simp only[zbd e,decide_eq_true e,Bool.true_or,Option.isSome_some]
  ·rw[zbe e,decide_eq_false e,Bool.false_or];exact zc7 k r
theorem zhh(k j:κ)(y:V): ∀kvs:List (κ×V),zbF (kvs.map fun kv=>if kv.1=k then (kv.1,y) else kv) j=(zbF kvs j).map fun x=>if j=k then y else x
 | []=>rfl
 |p::r=>by
  have ih:=zhh k j y r;rw[List.map_cons];by_cases h:p.1=k
  ·rw[if_pos h];by_cases e:p.1=j
   ·rw[zbd (p:=(p.1,y)) e,zbd e,Option.map_some,if_pos (e.symm.trans h)]
   ·rw[zbe (p:=(p.1,y)) e,zbe e,ih]
  ·rw[if_neg h];by_cases e:p.1=j
   ·rw[zbd (p:=p) e,zbd e,Option.map_some,if_neg (fun z=>h (e.trans z))]
   ·rw[zbe (p:=p) e,zbe e,ih]
theorem zf2(k j:κ)(y:V): ∀kvs:List (κ×V),zbF kvs k=none→zbF (kvs++ [(k,y)]) j=if j=k then some y else zbF kvs j
 | [],_=>by
  by_cases e:k=j
  ·rw[if_pos e.symm];exact zbd (p:=(k,y)) e
  ·rw[if_neg (fun z=>e z.symm)];exact zbe (p:=(k,y)) e
 |p::r,hn=>by
  rw[List.cons_append];have hk: ¬p.1=k:=fun z=>by rw[zbd z] at hn;cases hn
  rw[zbe hk] at hn;have ih:=zf2 k j y r hn;by_cases e:p.1=j
  ·rw[zbd e,zbd e,if_neg (fun z=>hk (e.trans z))]
  ·rw[zbe e,zbe e,ih]
theorem zkZ(kvs:List (κ×V))(k j:κ)(y:V):zbF (zbS kvs k y) j=if j=k then some y else zbF kvs j:=by
 unfold zbS;by_cases a:(kvs.any fun kv=>decide (kv.1=k))=true
 ·rw[if_pos a,zhh];rw[zc7] at a;by_cases e:j=k
  ·obtain⟨x,hx⟩:=Option.isSome_iff_exists.mp a;rw[if_pos e,e,hx,Option.map_some,if_pos rfl]
  ·rw[if_neg e];cases zbF kvs j with
   |none=>rfl
   |some x=>rw[Option.map_some,if_neg e]
 ·rw[if_neg a];refine zf2 k j y kvs ?_;rw[zc7] at a;cases q:zbF kvs k with
  |none=>rfl
  |some x=>rw[q] at a;exact(a rfl).elim
theorem zeq(kvs:List (κ×V))(k:κ)(v:V):(zbS kvs k v).length≤kvs.length+1:=by
 unfold zbS;split
 ·rw[List.length_map];omega
 ·rw[List.length_append,List.length_cons,List.length_nil];omega
theorem zk0{kvs:List (κ×V)}{k:κ}(v:V)(h:zbF kvs k=none):zbS kvs k v=kvs++ [(k,v)]:=by
 unfold zbS;rw[zc7,h];exact if_neg (by decide)
theorem zcN.isSome_eq{o:Option V}{u:Option Value}(r:zcN o u):o.isSome=u.isSome:=by
 cases o with
 |none=>cases u with
  |none=>rfl
  |some _=>exact(show False from r).elim
 |some _=>cases u with
  |none=>exact(show False from r).elim
  |some _=>rfl
theorem zcN.getD{o:Option V}{u:Option Value}{d:V}{d':Value}(r:zcN o u)(rd:zaC d d'):zaC (o.getD d) (u.getD d'):=by
 cases o with
 |none=>cases u with
  |none=>exact rd
  |some _=>exact(show False from r).elim
 |some _=>cases u with
  |none=>exact(show False from r).elim
  |some _=>exact r
theorem KV.val{kvs:List (κ×V)}{vs:List (κ×Value)}(r:KV kvs vs)(k:κ):zcN (zbF kvs k) (valueAt vs k):=by
 unfold KV at r;induction r with
 |nil=>exact True.intro
 | @cons p q ps qs h t ih=>
  obtain⟨h1,h2⟩:=h;by_cases e:p.1=k
  ·have e':q.1=k:=h1.symm.trans e;have b:valueAt (q::qs) k=some q.2:=by simp [valueAt,List.find?_cons,e']
   rw[zbd e,b];exact h2
  ·have e': ¬q.1=k:=fun z=>e (h1.trans z);have b:valueAt (q::qs) k=valueAt qs k:=by simp [valueAt,List.find?_cons,e']
   rw[zbe e,b];exact ih
theorem KV.any{kvs:List (κ×V)}{vs:List (κ×Value)}(r:KV kvs vs)(k:κ):(kvs.any fun kv=>decide (kv.1=k))=vs.any fun kv=>decide (kv.1=k):=by
 unfold KV at r;induction r with
 |nil=>rfl
 |cons h t ih=>rw[List.any_cons,List.any_cons,ih,h.1]
theorem KV.repl{kvs:List (κ×V)}{vs:List (κ×Value)}(r:KV kvs vs)(k:κ){y:V}{u:Value}(ry:zaC y u):
  KV (kvs.map fun kv=>if kv.1=k then (kv.1,y) else kv) (vs.map fun kv=>if kv.1=k then (kv.1,u) else kv):=by
 unfold KV at r ⊢;induction r with
 |nil=>exact .nil
 | @cons p q ps qs h t ih=>
  rw[List.map_cons,List.map_cons];refine .cons ?_ ih;obtain⟨h1,h2⟩:=h;by_cases e:p.1=k
  ·rw[if_pos e,if_pos (h1.symm.trans e)];exact⟨h1,ry⟩
  ·rw[if_neg e,if_neg (fun z=>e (h1.trans z))];exact⟨h1,h2⟩
theorem KV.put{kvs:List (κ×V)}{vs:List (κ×Value)}(r:KV kvs vs)(k:κ){y:V}{u:Value}(ry:zaC y u):KV (zbS kvs k y) (stored vs k u):=by
 unfold zbS stored;rw[r.any k];by_cases e:(vs.any fun kv=>decide (kv.1=k))=true
 ·rw[if_pos e,if_pos e];exact r.repl k ry
 ·rw[if_neg e,if_neg e];exact Paired.snoc r ⟨rfl,ry⟩
theorem KV.drop{kvs:List (κ×V)}{vs:List (κ×Value)}(r:KV kvs vs)(k:κ):KV (zep kvs k) (without vs k):=by
 unfold KV at r ⊢;unfold zep without;induction r with
 |nil=>exact .nil
 | @cons p q ps qs h t ih=>
  obtain⟨h1,h2⟩:=h;rw[List.filter_cons,List.filter_cons];by_cases e:p.1=k
  ·have a: ¬decide (p.1≠k)=true:=by simp [e]
   have b: ¬decide (q.1≠k)=true:=by simp [h1.symm.trans e]
   rw[if_neg a,if_neg b];exact ih
  ·have e': ¬q.1=k:=fun z=>e (h1.trans z);have a:decide (p.1≠k)=true:=by simp [e]
   have b:decide (q.1≠k)=true:=by simp [e']
   rw[if_pos a,if_pos b];exact .cons ⟨h1,h2⟩ ih
theorem KV.length{kvs:List (κ×V)}{vs:List (κ×Value)}(r:KV kvs vs):kvs.length=vs.length:=Paired.length r
theorem zk1(kvs:List (κ×V))(k:κ):(zep kvs k).length≤kvs.length:=List.length_filter_le _ _
end
theorem zer{P:Program}{w:World}{k:Key}{u:Value}(r:zaC (kV k) u):(zaW P w).is k u=true:=by
 cases k with
 |inl i=>obtain⟨t,e⟩:=(show∃t,u=Value.int i t from r);subst e;exact zg4 P w i t
 |inr x=>obtain⟨t,e⟩:=(show∃t,u=Value.str x t from r);subst e;exact zg5 P w x t
theorem zf3{P:Program}{w:World}: ∀{ks:List Key} {us:List Value},zaI (ks.map kV) us→ItemsAre (zaW P w) ks us
 | [],_,r=>by rw[List.map_nil] at r;cases r;exact .nil
 |k::ks,_,r=>by
  rw[List.map_cons] at r;cases r with
  |cons h t=>exact .cons (zer h) (zf3 t)
abbrev KT(H:Hp):List (List Key×V)→List (List Key×Addr×Value)→Prop:=Paired fun p q=>p.1=q.1∧H q.2.1=some (.tup (p.1.map kV))∧zaC p.2 q.2.2
theorem KT.val{H:Hp}{kvs:List (List Key×V)}{xs:List (List Key×Addr×Value)}(r:KT H kvs xs)(k:List Key):zcN (zbF kvs k) ((atKey xs k).map (·.2)):=by
 induction r with
 |nil=>exact True.intro
 | @cons p q ps qs h t ih=>
  obtain⟨h1,_,h2⟩:=h;by_cases e:p.1=k
  ·have e':q.1=k:=h1.symm.trans e;have b:atKey (q::qs) k=some q.2:=by simp [atKey,List.find?_cons,e']
   rw[zbd e,b];exact h2
  ·have e': ¬q.1=k:=fun z=>e (h1.trans z);have b:atKey (q::qs) k=atKey qs k:=by simp [atKey,List.find?_cons,e']
   rw[zbe e,b];exact ih
theorem KT.repl{H:Hp}{kvs:List (List Key×V)}{xs:List (List Key×Addr×Value)}(r:KT H kvs xs)(k:List Key){y:V}{u:Value}(ry:zaC y u):
  KT H (kvs.map fun kv=>if kv.1=k then (kv.1,y) else kv) (xs.map (putAt k u)):=by
 induction r with
 |nil=>exact .nil
 | @cons p q ps qs h t ih=>
  rw[List.map_cons,List.map_cons];refine .cons ?_ ih;obtain⟨h1,h2,h3⟩:=h;unfold putAt;by_cases e:p.1=k
  ·rw[if_pos e,if_pos (h1.symm.trans e)];exact⟨h1,h2,ry⟩
  ·rw[if_neg e,if_neg (fun z=>e (h1.trans z))];exact⟨h1,h2,h3⟩
theorem KT.put{H:Hp}{kvs:List (List Key×V)}{xs:List (List Key×Addr×Value)}(r:KT H kvs xs)(k:List Key){b:Addr}{y:V}{u:Value}(hb:H b=some (.tup (k.map kV)))(ry:zaC y u):
  KT H (zbS kvs k y) (storedH xs k b u):=by
 have e:(kvs.any fun kv=>decide (kv.1=k))=(atKey xs k).isSome:=by
  rw[zc7,(r.val k).isSome_eq,Option.isSome_map]
 unfold zbS storedH;rw[e];by_cases q:(atKey xs k).isSome=true
 ·rw[if_pos q,if_pos q];exact r.repl k ry
 ·rw[if_neg q,if_neg q];exact Paired.snoc r ⟨rfl,hb,ry⟩
theorem KT.keeps{H H':Hp}{kvs:List (List Key×V)}{xs:List (List Key×Addr×Value)}(r:KT H kvs xs)(ht: ∀b ys,H b=some (.tup ys)→H' b=some (.tup ys)):KT H' kvs xs:=
 Paired.mapP r fun _ _ z=>⟨z.1,ht _ _ z.2.1,z.2.2⟩
section
variable {P:Program} {w:World} {H:Hp} {h:Heap} {a:Addr}
theorem znK{u:HO}(ok:HOk P w H h)(e:Rd H a u):zbh P w H h a u:=e.ok ok
theorem zeX{kvs:List (Key×V)}(ok:HOk P w H h)(e:Rd H a (.dK kvs)):kvs.length≤sizeLine∧(a==sysModules)=false∧ ∃vs,KV kvs vs∧h.DictOf (zaW P w) a vs:=
 show zbh P w H h a (.dK kvs) from znK ok e
theorem zk2{kvs:List (Key×V)}(ok:HOk P w H h)(e:H a=some (.dK kvs)):kvs.length≤sizeLine∧(a==sysModules)=false∧ ∃vs,KV kvs vs∧h.DictOf (zaW P w) a vs:=zeX ok (.inl e)
theorem zeY{ks:List Key}(ok:HOk P w H h)(e:H a=some (.tup (ks.map kV))):(tupleKind (zaW P w)).is h ks a:=by
 obtain⟨_,its,r,o,h1,h2,n,h3⟩:=(show zbh P w H h a (.tup (ks.map kV)) from ok a _ e)
 exact⟨o,its.toArray,n,h1,h2,h3,by simpa using zf3 r⟩
theorem zf4{kvs:List (List Key×V)}(ok:HOk P w H h)(e:Rd H a (.dT kvs)):kvs.length≤sizeLine∧(a==sysModules)=false∧
  ∃xs,KT H kvs xs∧h.DictOfH (tupleKind (zaW P w)) a xs:=by
 obtain⟨z,y,xs,r,o,es,ep,h1,h2,h3,h4,h5⟩:=(show zbh P w H h a (.dT kvs) from znK ok e)
 refine⟨z,y,xs,r,o,es,ep,h1,h2,h3,h4,fun x hx=> ?_,h5⟩;have all: ∀{l:List (List Key×V)} {m:List (List Key×Addr×Value)},KT H l m→ ∀x∈m,(tupleKind (zaW P w)).is h x.1 x.2.1:=by
  intro l m q;induction q with
  |nil=>intro x hx;exact nomatch hx
  | @cons p q ps qs hq t ih=>
   intro x hx;rcases List.mem_cons.mp hx with e|hx
   ·subst e;exact zeY ok (by rw[←hq.1];exact hq.2.1)
   ·exact ih x hx
 exact all r x hx
theorem zqg{kvs:List (List Key×V)}(ok:HOk P w H h)(e:H a=some (.dT kvs)):kvs.length≤sizeLine∧(a==sysModules)=false∧
  ∃xs,KT H kvs xs∧h.DictOfH (tupleKind (zaW P w)) a xs:=zf4 ok (.inl e)
end
def zc8(H:Hp)(a:Addr)(y:V)(r:Option V):Prop:=
 (∃kvs k,Rd H a (.dK kvs)∧y=kV k∧r=zbF kvs k)∨ ∃kvs k b,Rd H a (.dT kvs)∧y= .ref b∧H b=some (.tup (k.map kV))∧r=zbF kvs k
def zeZ(H:Hp)(a:Addr)(y v:V)(H':Hp):Prop:=
 (∃kvs k,H a=some (.dK kvs)∧y=kV k∧kvs.length<sizeLine∧H'=upd H a (.dK (zbS kvs k v)))∨
 ∃kvs k b,H a=some (.dT kvs)∧y= .ref b∧H b=some (.tup (k.map kV))∧kvs.length<sizeLine∧H'=upd H a (.dT (zbS kvs k v))
theorem zc8.k{H:Hp}{a:Addr}{kvs:List (Key×V)}{k:Key}(e:H a=some (.dK kvs)):zc8 H a (kV k) (zbF kvs k):= .inl ⟨kvs,k, .inl e,rfl,rfl⟩
theorem zc8.t{H:Hp}{a b:Addr}{kvs:List (List Key×V)}{k:List Key}(e:H a=some (.dT kvs))(eb:H b=some (.tup (k.map kV))):zc8 H a (.ref b) (zbF kvs k):= .inr ⟨kvs,k,b, .inl e,rfl,eb,rfl⟩
theorem zeZ.k{H:Hp}{a:Addr}{kvs:List (Key×V)}{k:Key}{v:V}(e:H a=some (.dK kvs))(hl:kvs.length<sizeLine):zeZ H a (kV k) v (upd H a (.dK (zbS kvs k v))):= .inl ⟨kvs,k,e,rfl,hl,rfl⟩
theorem zeZ.t{H:Hp}{a b:Addr}{kvs:List (List Key×V)}{k:List Key}{v:V}(e:H a=some (.dT kvs))(eb:H b=some (.tup (k.map kV)))(hl:kvs.length<sizeLine):
  zeZ H a (.ref b) v (upd H a (.dT (zbS kvs k v))):= .inr ⟨kvs,k,b,e,rfl,eb,hl,rfl⟩
section
variable {X:Cx} {pins:List (Addr×Obj)} {σ:St} {H:Hp} {s:Shared} {a:Addr} {y v:V} {u r:Value} {o:Option V} {A:Around} {E:Value→Shared→Prop}
theorem Inv.big(I:Inv X pins σ H s):sysModules<s.heap.objs.size:=by
 have h:mainGlobals<s.heap.objs.size:=(I.mod.glob.keeps I.bk).lt;exact Nat.lt_trans (by decide) h
theorem zjH{Q:Value→Shared→Prop}(hu:A.units+1<cLine)(I:Inv X pins σ H s)(g:zc8 H a y (some v))(ry:zaC y u)(h: ∀w' s',Inv X pins σ H s'→zaC v w'→Q w' s'):
  wpAny (model X.prog X.w) A (getItem (.ref a) u) Q E s:=by
 rcases g with⟨kvs,k,e,ey,l⟩|⟨kvs,k,b,e,ey,eb,l⟩
 ·subst ey;obtain⟨z,hd,vs,rel,dd⟩:=zeX I.hok e;obtain⟨w',hw,rw'⟩:=zcN.some_of (v:=v) (o:=valueAt vs k) (by rw[l];exact rel.val k);exact wpAny_getItem_of (zer ry) dd.mapOf hw (h w' _ (I.tok _) rw')
 ·subst ey;cases (show u=Value.ref b from ry);obtain⟨z,hd,xs,rel,dd⟩:=zf4 I.hok e;obtain⟨w',hw,rw'⟩:=zcN.some_of (v:=v) (o:=(atKey xs k).map (·.2)) (by rw[l];exact rel.val k);obtain⟨p,hp,hp2⟩:=Option.map_eq_some_iff.mp hw;refine wpAny_getItem_heap (tupleKind_room_in1 hu) (zeY I.hok eb) dd hp ?_;rw[hp2];exact h w' _ (I.tok _) rw'
theorem zqU{Q:Value→Shared→Prop}(hu:A.units+1<cLine)(I:Inv X pins σ H s)(g:zc8 H a y o)(ry:zaC y u)(h: ∀s',Inv X pins σ H s'→Q (.bool o.isSome) s'):
  wpAny (model X.prog X.w) A (compareOp .In u (.ref a)) Q E s:=by
 rcases g with⟨kvs,k,e,ey,l⟩|⟨kvs,k,b,e,ey,eb,l⟩
 ·subst ey;obtain⟨z,hd,vs,rel,dd⟩:=zeX I.hok e;refine wpAny_in_of (zer ry) hd dd.mapOf ?_;rw[←(rel.val k).isSome_eq,←l];exact h _ (I.tok _)
 ·subst ey;cases (show u=Value.ref b from ry);obtain⟨z,hd,xs,rel,dd⟩:=zf4 I.hok e;refine wpAny_in_heap (tupleKind_room_in1 hu) (zeY I.hok eb) hd dd ?_;have q:=(rel.val k).isSome_eq;rw[Option.isSome_map] at q;rw[←q,←l];exact h _ (I.tok _)
theorem zgH{h':Heap}{t':Nat}{ob:HO}(I:Inv X pins σ H s)(mu:Mut (H a))(hs:Heap.SameBut a s.heap h')(he: ∃q,h'.get? a=some q)(new:zbh X.prog X.w (upd H a ob) h' a ob):
  Inv X pins σ (upd H a ob) {s with heap:=h',toks:=t'}:=
 I.write (x:=a) (e:=a) mu (.inl rfl) (fun b q hb z=>(hs.2 b hb).trans z) he new
theorem zk3{P:Program}{w:World}{H':Hp}{h':Heap}{kvs:List (Key×V)}{vs:List (Key×Value)}(z:kvs.length≤sizeLine)(hd:(a==sysModules)=false)(rel:KV kvs vs)(dd:h'.DictOf (zaW P w) a vs):
  zbh P w H' h' a (.dK kvs):=⟨z,hd,vs,rel,dd⟩
theorem zjI{H':Hp}{Q:Unit→Shared→Prop}(hu:A.units+1<cLine)(I:Inv X pins σ H s)(g:zeZ H a y v H')(ry:zaC y u)(rv:zaC v r)(h: ∀s',Inv X pins σ H' s'→Q () s'):
  wpAny (model X.prog X.w) A (setItem (.ref a) u r) Q E s:=by
 rcases g with⟨kvs,k,e,ey,l,eH⟩|⟨kvs,k,b,e,ey,eb,l,eH⟩
 ·subst ey eH;obtain⟨z,hd,vs,rel,dd⟩:=zk2 I.hok e;have hz:vs.length≤sizeLine:=by rw[←rel.length];exact z
  have hl:(zbS kvs k v).length≤sizeLine:=by have:=zeq kvs k v;omega
  refine wpAny_setItem_pairs (hsz:=hz) (zer ry) dd fun h' dd' hs=>h _ ?_;have he: ∃q,h'.get? a=some q:=let ⟨q,_,_,hq,_⟩:=dd';⟨q,hq⟩;exact zgH I (by rw[e];exact True.intro) hs he (zk3 hl hd (rel.put k rv) dd')
 ·subst ey eH;cases (show u=Value.ref b from ry);obtain⟨z,hd,xs,rel,dd⟩:=zqg I.hok e;have hz:xs.length≤sizeLine:=by rw[←Paired.length rel];exact z
  have hl:(zbS kvs k v).length≤sizeLine:=by have:=zeq kvs k v;omega
  refine wpAny_setItem_heap (hsz:=hz) (tupleKind_room_in1 hu) (zeY I.hok eb) dd fun h' dd' hs=>h _ ?_;obtain⟨q,es,ep,hq,h2,h3,h4,_,h5⟩:=dd';refine zgH I (by rw[e];exact True.intro) hs ⟨q,hq⟩ ⟨hl,hd,_,(rel.put k eb rv).keeps fun c ys ec=> ?_,q,es,ep,hq,h2,h3,h4,h5⟩;rw[zal (zpU ec e (fun z=>nomatch z))];exact ec
end
section
variable {X:Cx} {pins:List (Addr×Obj)} {σ:St} {H:Hp} {s:Shared} {a:Addr} {kvs:List (Key×V)} {k:Key} {u:Value} {A:Around} {E:Value→Shared→Prop}
theorem zqh{v:V}{more:List Value}{Q:Value→Shared→Prop}(I:Inv X pins σ H s)(e:H a=some (.dK kvs))(ry:zaC (kV k) u)(l:zbF kvs k=some v)(hm:more= []∨ ∃x,more= [x])
  (h: ∀w' s',Inv X pins σ (upd H a (.dK (zep kvs k))) s'→zaC v w'→Q w' s'):wpAny (model X.prog X.w) A (call (.builtin "dict.pop") (.ref a::u::more)) Q E s:=by
 obtain⟨z,hd,vs,rel,dd⟩:=zk2 I.hok e;obtain⟨w',hw,rw'⟩:=zcN.some_of (v:=v) (o:=valueAt vs k) (by rw[←l];exact rel.val k);have hp:(keyPart u).isSome=true:=by
  cases k with
  |inl i=>obtain⟨t,q⟩:=(show∃t,u=Value.int i t from ry);subst q;rfl
  |inr x=>obtain⟨t,q⟩:=(show∃t,u=Value.str x t from ry);subst q;rfl
 have ha:argsOk "dict.pop" ⟨.ref a::u::more, []⟩:=by
  rcases hm with q|⟨x,q⟩
  ·subst q;exact PySem.F.args_dict_pop_2 _ _
  ·subst q;exact PySem.F.args_dict_pop_3 _ _ _
 refine call_meetsIn PySem.F.slot_dict_pop dd.typeIs PySem.F.entry_dict_pop ha (meets_dict_pop_there (zaW X.prog X.w) a (zer ry) more hm hp)
  ⟨vs,w',dd,by rw[←rel.length];exact z,hw,fun h' dd' hs=>h w' _ ?_ rw'⟩
 have he: ∃q,h'.get? a=some q:=let ⟨q,_,_,hq,_⟩:=dd';⟨q,hq⟩;exact zgH I (by rw[e];exact True.intro) hs he (zk3 (Nat.le_trans (zk1 kvs k) z) hd (rel.drop k) dd')
theorem zqi{Q:Value→Shared→Prop}(I:Inv X pins σ H s)(e:Rd H a (.dK kvs))(h: ∀t s',Inv X pins σ H s'→Q (.int kvs.length t) s'):wpAny (model X.prog X.w) A (call (.builtin "len") [.ref a]) Q E s:=by
 obtain⟨z,hd,vs,rel,dd⟩:=zeX I.hok e;refine call_len_dict hd dd (by rw[←rel.length];rw[sizeLine_eq] at z;omega) ?_;rw[←rel.length];exact h _ _ (I.tok _)
end
def zoz(i:Expr):Prop:= ∀ov iv,subscripted i false ov iv=operate [ov,iv] (getItem ov iv)
theorem ziW{prog:Program}{w:World}{A:Around}{E:Value→Shared→Prop}{s:Shared}{env:Env}{value slice:Expr}{pos:Pos}{T id:String}{Q:Value→Shared→Prop}
  (hl:typeLookup (.type T) "__getitem__"=pure (some (.builtin id))) (hs:zoz slice)
  (h:wpAny (model prog w) A (eval value env) (fun o s₁=>wpAny (model prog w) A (eval slice env) (fun i s₂=>s₂.TypeIs o T∧wpAny (model prog w) A (getItem o i) Q E s₂) E s₁) E s):
  wpAny (model prog w) A (eval (.Subscript value slice pos) env) Q E s:=by
 refine Subscript_ (wpAny_mono h (fun o s₁ h₁=>wpAny_mono h₁ (fun i s₂ h₂=> ?_) fun _ _ x=>x) fun _ _ x=>x);obtain⟨hT,h₂⟩:=h₂;unfold subscriptTail;refine wpAny_bind ?_;rw[getitemInPython_of_ne hT.not_modules];refine wpAny_bind (wpAny_specialOf hT hl ?_);have fin:wpAny (model prog w) A (subscripted slice false o i) (fun r s₃=>wpAny (model prog w) A (letTemporaryGo value o r>>=fun _=>pure r) Q E s₃) E s₂:=by
  rw[hs o i];exact wpAny_operating (wpAny_mono h₂ (fun r s₃ h₃=>wpAny_bind (wpAny_letTemporaryGo (wpAny_pure h₃))) fun _ _ x=>x)
 first
  |exact wpAny_pure (wpAny_bind fin)
  |exact wpAny_bind (wpAny_pure (wpAny_bind fin))
  |exact wpAny_bind fin
theorem zhi{X:Cx}{pins:List (Addr×Obj)}{σ:St}{H:Hp}{s:Shared}{a:Addr}{y:V}{o:Option V}(I:Inv X pins σ H s)(g:zc8 H a y o):s.TypeIs (.ref a) "dict":=by
 rcases g with⟨kvs,k,e,_,_⟩|⟨kvs,k,b,e,_,_,_⟩
 ·obtain⟨_,_,vs,_,dd⟩:=zeX I.hok e;exact dd.typeIs
 ·obtain⟨_,_,xs,_,dd⟩:=zf4 I.hok e;exact dd.typeIs
def znL(td ty:TE):TE:=fun σ H Q=>td σ H fun x H1=>ty σ H1 fun y H2=> ∃a v,x= .ref a∧zc8 H2 a y (some v)∧Q v H2
def zoA(ty td:TE):TE:=fun σ H Q=>ty σ H fun y H1=>td σ H1 fun x H2=> ∃a o,x= .ref a∧zc8 H2 a y o∧Q (.bl o.isSome) H2
def zk4(td ty tv:TE):TS:=fun D σ H=>tv σ H fun v H1=>td σ H1 fun x H2=>ty σ H2 fun y H3=> ∃a H4,x= .ref a∧zeZ H3 a y v H4∧D.nx σ H4
section
variable {X:Cx} {o i e value:Expr} {pos pos' tpos:Pos} {td ty tv:TE}
theorem zmX(hu:X.A.units+1<cLine)(ho:PE X o td)(hi:PE X i ty)(hs:zoz i):PE X (.Subscript o i pos) (znL td ty):=by
 intro pins s σ H Q I h;refine ziW PySem.F.slot_dict_getitem.lookup hs (thn (ho pins s σ H _ I h) fun u s1 ⟨x,H1,I1,rx,q1⟩=>thn (hi pins s1 σ H1 _ I1 q1) fun iv s2 ⟨y,H2,I2,ry,a,v,ex,g,q2⟩=> ?_);subst ex;obtain rfl:u=Value.ref a:=rx;exact⟨zhi I2 g,zjH hu I2 g ry fun w' s3 I3 rw'=>⟨v,H2,I3,rw',q2⟩⟩
theorem zk5(hu:X.A.units+1<cLine)(hi:PE X i ty)(ho:PE X o td):PC X .In i o (zoA ty td):=by
 intro pins s σ H Q I h;refine thn (hi pins s σ H _ I h) fun iv s1 ⟨y,H1,I1,ry,q1⟩=>thn (ho pins s1 σ H1 _ I1 q1) fun u s2 ⟨x,H2,I2,rx,a,ov,ex,g,q2⟩=> ?_;subst ex;obtain rfl:u=Value.ref a:=rx;exact zqU hu I2 g ry fun s3 I3=>⟨.bl ov.isSome,H2,I3,rfl,q2⟩
theorem zdS(hu:X.A.units+1<cLine)(ho:PE X o td)(hi:PE X i ty)(hv:PE X value tv)(hs:swapsWith value (some (.Subscript o i pos')) pos.line X.env=pure false):
  PS X (.Assign [.Subscript o i pos'] value pos) (zk4 td ty tv):=by
 intro pins s σ H D I h;refine wpAny_Assign_Subscript (thn (hv pins s σ H _ I h) fun r s1 ⟨v,H1,I1,rv,q1⟩=>thn (ho pins s1 σ H1 _ I1 q1) fun u s2 ⟨x,H2,I2,rx,q2⟩=>thn (hi pins s2 σ H2 _ I2 q2) fun iv s3 ⟨y,H3,I3,ry,a,H4,ex,g,q3⟩=> ?_) hs;subst ex;obtain rfl:u=Value.ref a:=rx;exact zjI hu I3 g ry rv fun s4 I4=>⟨σ,H4,I4,q3⟩
end
theorem zk6{P:Program}{w:World}{H:Hp}(h:Heap)(hb:sysModules<h.objs.size):zbh P w H (h.push {cls:= .type "dict",data:= .dict #[]}) h.objs.size (.dK []):=
 ⟨Nat.zero_le _,beq_eq_false_iff_ne.mpr (Ne.symm (Nat.ne_of_lt hb)), [], .nil,Heap.DictOf.new h⟩
def zoB:TE:=fun _ H Q=> ∀p,H p=none→Q (.ref p) (upd H p (.dK []))
section
variable {X:Cx} {pos:Pos}
theorem zk7:PE X (.Dict [] [] pos) zoB:=fun pins s σ H Q I h=>
 wpAny_Dict_empty ⟨.ref s.heap.objs.size,_,I.laid (a:=s.heap.objs.size) (o:= .dK []) (t':=s.toks) (fun _ _ q=>Heap.get?_push_of_some _ q) (Nat.le_refl _) (zk6 s.heap I.big),rfl,h _ (I.hok.fresh (Nat.le_refl _))⟩
end
def zoC(kvs more:List (Key×V)):List (Key×V):=more.foldl (fun acc kv=>zbS acc kv.1 kv.2) kvs
theorem KV.merge: ∀{more:List (Key×V)} {rs:List (Key×Value)} {kvs:List (Key×V)} {vs:List (Key×Value)},KV more rs→KV kvs vs→KV (zoC kvs more) (merged vs rs):=by
 intro more rs kvs vs r;unfold KV at r;induction r generalizing kvs vs with
 |nil=>intro q;exact q
 | @cons p q ps qs h t ih=>
  intro r0;have e:KV (zbS kvs p.1 p.2) (stored vs q.1 q.2):=by
   have:=r0.put p.1 h.2;rw[←h.1];exact this
  exact ih e
structure M1 (X:Cx) (o:Expr) (m:Str) (apos:Pos) (e:Expr) (cpos:Pos):Prop where
 base:attributeBase o m X.env (eval o X.env)=eval o X.env
 few:((backTo cpos (starEach [e] X.env)).all (fun x=> !x.1) && (backToKw cpos (keywordEach [] X.env)).all (fun x=>x.1.isSome)
  && decide (([e]:List Expr).length+([]:List Keyword).length+(if ([]:List Keyword).isEmpty then 0 else 1)<30))=true
 line:(apos.endLine==cpos.line)=true
 trees:backTo cpos (starEach [e] X.env)= [(false,eval e X.env)]
structure M2 (X:Cx) (o:Expr) (m:Str) (apos:Pos) (e f:Expr) (cpos:Pos):Prop where
 base:attributeBase o m X.env (eval o X.env)=eval o X.env
 few:((backTo cpos (starEach [e,f] X.env)).all (fun x=> !x.1) && (backToKw cpos (keywordEach [] X.env)).all (fun x=>x.1.isSome)
  && decide (([e,f]:List Expr).length+([]:List Keyword).length+(if ([]:List Keyword).isEmpty then 0 else 1)<30))=true
 line:(apos.endLine==cpos.line)=true
 trees:backTo cpos (starEach [e,f] X.env)= [(false,eval e X.env),(false,eval f X.env)]
def IsD(H:Hp)(a:Addr):Prop:=(∃kvs,Rd H a (.dK kvs))∨ ∃kvs,Rd H a (.dT kvs)
theorem zk8{X:Cx}{pins:List (Addr×Obj)}{σ:St}{H:Hp}{s:Shared}{a:Addr}(I:Inv X pins σ H s)(d:IsD H a):
  s.TypeIs (.ref a) "dict"∧(∀b,Value.ref a= .ref b→ ∃ob,s.heap.get? b=some ob∧ob.dict=none)∧(a==sysModules)=false:=by
 rcases d with⟨kvs,e⟩|⟨kvs,e⟩
 ·obtain⟨_,hd,vs,_,dd⟩:=zeX I.hok e;refine⟨dd.typeIs,fun b q=> ?_,hd⟩;cases q;obtain⟨ob,_,_,h1,h2,_⟩:=dd;exact⟨ob,h1,h2.2.1⟩
 ·obtain⟨_,hd,xs,_,dd⟩:=zf4 I.hok e;refine⟨dd.typeIs,fun b q=> ?_,hd⟩;cases q;obtain⟨ob,_,_,h1,h2,_⟩:=dd;exact⟨ob,h1,h2.2.1⟩
section
variable {X:Cx} {pins:List (Addr×Obj)} {σ:St} {H:Hp} {s:Shared} {a:Addr} {y d:V} {u r:Value} {o:Option V} {A:Around} {E:Value→Shared→Prop}
theorem zoD{Q:Value→Shared→Prop}(hu:A.units+1<cLine)(I:Inv X pins σ H s)(g:zc8 H a y o)(ry:zaC y u)(rd:zaC d r)(h: ∀w' s',Inv X pins σ H s'→zaC (o.getD d) w'→Q w' s'):
  wpAny (model X.prog X.w) A (call (.builtin "dict.get") [.ref a,u,r]) Q E s:=by
 rcases g with⟨kvs,k,e,ey,l⟩|⟨kvs,k,b,e,ey,eb,l⟩
 ·subst ey;obtain⟨z,hd,vs,rel,dd⟩:=zeX I.hok e;refine call_meetsIn PySem.F.slot_dict_get dd.typeIs PySem.F.entry_dict_get (PySem.F.args_dict_get_3 _ _ _) (meets_dict_get_default (zaW X.prog X.w) a (zer ry) hd r) ⟨_,dd.mapOf,h _ _ (I.tok _) ?_⟩;rw[l];exact(rel.val k).getD rd
 ·subst ey;cases (show u=Value.ref b from ry);obtain⟨z,hd,xs,rel,dd⟩:=zf4 I.hok e;refine call_meetsIn PySem.F.slot_dict_get dd.typeIs PySem.F.entry_dict_get (PySem.F.args_dict_get_3 _ _ _) (meetsH_dict_get_default (tupleKind (zaW X.prog X.w)) a b hd r) ⟨tupleKind_room_in1 hu,k,xs,zeY I.hok eb,dd,h _ _ (I.tok _) ?_⟩;rw[l];exact(rel.val k).getD rd
end
def zk9(td ty tx:TE):TE:=fun σ H Q=>td σ H fun x H1=> ∃a,x= .ref a∧IsD H1 a∧ty σ H1 fun y H2=>tx σ H2 fun z H3=> ∃o,zc8 H3 a y o∧Q (o.getD z) H3
def zla(td ty:TE):TE:=fun σ H Q=>td σ H fun x H1=> ∃a,x= .ref a∧IsD H1 a∧ty σ H1 fun y H2=> ∃kvs k v,H2 a=some (.dK kvs)∧y=kV k∧zbF kvs k=some v∧Q v (upd H2 a (.dK (zep kvs k)))
section
variable {X:Cx} {o e f:Expr} {apos cpos:Pos} {td ty tx:TE}
theorem ze0(hu:X.A.units+1<cLine)(ho:PE X o td)(he:PE X e ty)(hf:PE X f tx)(m:M2 X o "get" apos e f cpos):PE X (.Call (.Attribute o "get" apos) [e,f] [] cpos) (zk9 td ty tx):=by
 intro pins s σ H Q I h;refine wpAny_Call_method m.base m.few m.line PySem.F.plainAttrs_dict PySem.F.slot_dict_get PySem.F.type_dict_get (thn (ho pins s σ H _ I h) fun u s1 ⟨x,H1,I1,rx,a,ex,d,q1⟩=> ?_);subst ex;obtain rfl:u=Value.ref a:=rx;obtain⟨t1,t2,_⟩:=zk8 I1 d;refine⟨t1,t2,?_⟩;rw[m.trees];refine Calls.callWith_builtin rfl (Calls.evalArgs_plain (Calls.spliced_cons (thn (he pins s1 σ H1 _ I1 q1) fun iv s2 ⟨y,H2,I2,ry,q2⟩=>
  Calls.spliced_cons (thn (hf pins s2 σ H2 _ I2 q2) fun fv s3 ⟨z,H3,I3,rz,ov,g,q3⟩=>Calls.spliced_nil ?_))))
 exact zoD hu I3 g ry rz fun w' s4 I4 rw'=>⟨_,H3,I4,rw',q3⟩
theorem zlb(ho:PE X o td)(he:PE X e ty)(m:M1 X o "pop" apos e cpos):PE X (.Call (.Attribute o "pop" apos) [e] [] cpos) (zla td ty):=by
 intro pins s σ H Q I h;refine wpAny_Call_method m.base m.few m.line PySem.F.plainAttrs_dict PySem.F.slot_dict_pop PySem.F.type_dict_pop (thn (ho pins s σ H _ I h) fun u s1 ⟨x,H1,I1,rx,a,ex,d,q1⟩=> ?_);subst ex;obtain rfl:u=Value.ref a:=rx;obtain⟨t1,t2,_⟩:=zk8 I1 d;refine⟨t1,t2,?_⟩;rw[m.trees];refine Calls.callWith_builtin rfl (Calls.evalArgs_plain (Calls.spliced_cons (thn (he pins s1 σ H1 _ I1 q1) fun iv s2 ⟨y,H2,I2,ry,kvs,k,v,ea,ey,l,q2⟩=>Calls.spliced_nil ?_)));subst ey;exact zqh I2 ea ry l (.inl rfl) fun w' s3 I3 rw'=>⟨v,_,I3,rw',q2⟩
end
end L2
namespace L2
open PySem PySem.Spec PyProof.Rows
def zlc:TE:=fun _ H Q=>New H (.dK []) Q
theorem zdT{X:Cx}{pos:Pos}:PE X (.Dict [] [] pos) zlc:=fun pins s σ H Q I h=>zk7 pins s σ H Q I fun p hp=>h.at hp
def sv:D→V
 | .int i=> .int i
 | .str cs=> .str (SL cs)
 |_=> .non
end L2
namespace L2
open PySem PySem.Spec PyProof.Rows
theorem zb9{J:It}{H1:Hp}{ys:List V}{σ0:St}{g:TG}{tc:TT}{te:TE}{l:Addr}{Q:VK}(Pv:Nat→List V→Hp→Prop)(L:Lists J H1 ys)(hl:H1 l=none)(hz:ys.length<sizeLine)
  (h0: ∀H,zam H1 H→Pv 0 [] H)
  (hs: ∀i x xs H (K1:VK) (K0:Hp→Prop),ys[i]? =some x→zam H1 H→Pv i xs H→H l=some (.lst xs)→
   (∀v H4,zam H H4→(∀H5,(∀b o,b≠l→H4 b=some o→H5 b=some o)→Pv (i+1) (xs++ [v]) H5)→K1 v H4)→(∀H3,zam H H3→Pv (i+1) xs H3→K0 H3)→
   g x σ0 H fun σ2 H2=>Sub σ0 σ2∧tc σ2 H2 fun b H3=>if b=true then te σ2 H3 K1 else K0 H3)
  (hd: ∀xs H,zam H1 H→Pv ys.length xs H→xs.length≤ys.length→H l=some (.lst xs)→Q (.ref l) H):ziU J σ0 g tc te l Q H1:=by
 refine⟨fun i m xs H=>i≤ys.length∧m=ys.length - i∧zam H1 H∧Pv i xs H∧xs.length≤i∧H l=some (.lst xs),⟨ys.length,Nat.zero_le _,by omega,zbN hl _,h0 _ (zbN hl _),Nat.le_refl _,zao⟩,?_⟩;rintro i m xs H ⟨hi,rfl,sm,pv,hx,e⟩;refine⟨e,Nat.lt_of_le_of_lt hx (by omega),?_⟩;by_cases hlt:i<ys.length
 ·refine .inr ⟨L.go i H sm hlt,fun x H' y=> ?_⟩;obtain⟨rfl,hx'⟩:=L.yld i H x H' sm y hlt;refine hs i x xs H' _ _ hx' sm pv e (fun v H4 s4 p4=> ?_) (fun H3 s3 p3=> ?_)
  ·exact⟨s4 _ _ e,ys.length - (i+1),by omega,hlt,rfl,zdO (sm.trans s4) hl,p4 _ fun b o hb q=>by rw[zal hb];exact q,by rw[List.length_append];simp only[List.length_cons,List.length_nil];omega,zao⟩
  ·exact⟨ys.length - (i+1),by omega,hlt,rfl,sm.trans s3,p3,by omega,s3 _ _ e⟩
 ·have ei:i=ys.length:=by omega
  subst ei;exact .inl ⟨L.stop H sm,hd xs H sm pv hx e⟩
end L2
namespace L2
open PySem PySem.Spec PyProof.Rows
abbrev azL:List Nat:= [97,98,99,100,101,102,103,104,105,106,107,108,109,110,111,112,113,114,115,116,117,118,119,120,121,122]
theorem zqj{r:Int}(h0:0≤r)(h1:r<26):atI azL r=some (97+r.toNat):=by
 obtain⟨n,rfl⟩:=Int.eq_ofNat_of_zero_le h0
 have: ∀n:Nat,n<26→atI azL (n:Int)=some (97+n):=by decide
 exact this n (by omega)
abbrev Pl:=List Nat×Int×Int
def plD(x:Pl):List D:= [.str x.1, .int x.2.1, .int x.2.2]
def zjJ(K:Fg)(H:Hp)(z:V×Pl):Prop:= ∃p,z.1= .ref p∧SqT K H p [.str (SL z.2.1), .int z.2.2.1, .int z.2.2.2]
def zdw(K:Fg)(H:Hp)(zs:List (V×Pl)):Prop:= ∀z∈zs,zjJ K H z
theorem zjJ.same{K:Fg}{H H':Hp}{z:V×Pl}(h:zjJ K H z)(s:zam H H'):zjJ K H' z:=let ⟨p,e,q⟩:=h;⟨p,e,s.sqT q⟩
theorem zdw.same{K:Fg}{H H':Hp}{zs:List (V×Pl)}(h:zdw K H zs)(s:zam H H'):zdw K H' zs:=fun z hz=>(h z hz).same s
theorem zdw.all2{K:Fg}{H:Hp}: ∀{zs:List (V×Pl)},zdw K H zs→all2 (Dp K H 1) ((zs.map fun z=>plD z.2).map D.tup) (zs.map (·.1))
 | [],_=>trivial
 |z::r,h=>by
  refine⟨?_,zdw.all2 fun y hy=>h y (List.mem_cons_of_mem _ hy)⟩;obtain⟨p,e,q⟩:=h z List.mem_cons_self;show Dp K H 1 (D.tup (plD z.2)) z.1;rw[e];exact zed q ⟨zcf,zb6,zb6,trivial⟩
theorem zhj(w:List Nat): ∀ws:List (List Nat),inV (.str (SL w)) (ws.map fun x=>V.str (SL x))=decide (w∈ws)
 | []=>rfl
 |x::r=>by
  have ih:=zhj w r;unfold inV at ih ⊢;rw[List.map_cons,List.any_cons,ih];show ((SL x==SL w)||decide (w∈r))=decide (w∈x::r);have e:(SL x==SL w)=decide (x=w):=by
   rw[Bool.eq_iff_iff,beq_iff_eq,decide_eq_true_eq,zcR]
  rw[e,Bool.eq_iff_iff,Bool.or_eq_true,decide_eq_true_eq,decide_eq_true_eq,decide_eq_true_eq,List.mem_cons];constructor
  ·rintro(h|h)
   ·exact .inl h.symm
   ·exact .inr h
  ·rintro(h|h)
   ·exact .inl h.symm
   ·exact .inr h
theorem zmY{K:Fg}{H H':Hp}{p l:Addr}{xs ys:List V}(h:SqT K H p xs)(e:H l=some (.lst ys))(k: ∀b o,b≠l→H b=some o→H' b=some o):SqT K H' p xs:=by
 rcases h with(h|⟨ob,h⟩)|h
 ·have np:p≠l:=fun z=>by rw[z,e] at h;cases h
  exact .inl (.inl (k _ _ np h))
 ·have np:p≠l:=fun z=>by rw[z,e] at h;cases h
  exact .inl (.inr ⟨ob,k _ _ np h⟩)
 ·exact .inr h
end L2
namespace L2
open PySem PySem.Spec PyProof.Rows
def Ite(K:Fg)(a:Addr):It:=
 ⟨fun i H=> ∃xs x,SqL K H a xs∧xs[i]? =some x,
  fun i H v H'=> ∃p,v= .ref p∧H p=none∧zam H H'∧ ∃x,H' p=some (.tup [.int i,x])∧ ∀xs,SqL K H a xs→xs[i]? =some x,
  fun i H=> ∃xs,SqL K H a xs∧xs.length≤i⟩
theorem zjK{P:Program}{w:World}{K:Fg}{es:List Expr}{n:Nat}{ps:Pos}(e it l:Addr)(hne:e≠it):
  Turn P w K (.Tuple es n ps) (Ite K l) [e,it] e (fun i h=>(∃old,IsEnum h e it i old)∧h.IsListIter it l i) where
 mem:=by simp
 obj:=fun i h st b hb=>by
  obtain⟨⟨old,he⟩,⟨o1,e1,_,d1⟩⟩:=st;have hb':b=e∨b=it:=by simpa using hb
  rcases hb' with rfl|rfl
  ·exact⟨_,he,fun v q=>by
    have q':Data.fields _=Data.cell v:=q;cases q'⟩
  ·exact⟨_,e1,fun v q=>by rw[d1] at q;cases q⟩
 keep:=fun i h h' st k=>by
  obtain⟨⟨old,he⟩,h1⟩:=st;exact⟨⟨old,k e (by simp) _ he⟩,h1.at fun o e=>k it (by simp) o e⟩
 item:=by
  intro X hP hw hK hc i pins s σ H E I hf st hg;subst hP hw hK;obtain⟨xs,x,hx,ex⟩:=hg;obtain⟨⟨old,he⟩,h1⟩:=st;obtain⟨us,rv,p,_⟩:=I.list hx;obtain⟨u,hu,ru⟩:=rv.get ex;refine wpAny_pyNext_enum_item he h1 p.isList (x:=u) (by simpa using hu) hne fun h' a1 a2 a3 a4 hk=> ?_;refine⟨_,rfl,wpAny_letOwnedTupleGo_enum (s:={s with heap:=h',toks:=s.toks+1}) a1 fun h2' hz' sb=> ?_⟩;have lt: ∀{c o},s.heap.get? c=some o→s.heap.objs.size≠c:=fun e=>Nat.ne_of_gt (Heap.lt_size e);have hp:=I.hok.fresh (Nat.le_refl s.heap.objs.size);have pr:=sb.extBut _ _ (lt he) a3;have I1:Inv X pins σ (upd H s.heap.objs.size (.tup [.int i,x])) {s with heap:=h2',toks:=s.toks+1}:=by
   refine I.laidL (ch:= [e,it]) (t':=s.toks+1) (fun b hb=>hf b hb) (fun b o hb e'=> ?_) (Nat.le_refl _) ⟨zbz (by simp), [.int i s.toks,u], .cons ⟨_,rfl⟩ (.cons ru .nil),⟨_,pr,rfl,_,rfl⟩⟩;have hb': ¬(b=e∨b=it):=fun q=>hb (by simpa using q);exact sb.extBut _ _ (fun q=>hb' (.inl q)) (hk b o (fun q=>hb' (.inl q)) (fun q=>hb' (.inr q)) e')
  refine⟨.ref s.heap.objs.size,_,I1,rfl,⟨_,rfl,hp,zbN hp _,x,zao,fun ws hw=> ?_⟩,⟨⟨_,hz'⟩,a2.extBut sb.extBut hne.symm⟩,fun b hb=> ?_⟩
  ·rw[I.list_inj hw hx];exact ex
  ·have hb':b=e∨b=it:=by simpa using hb
   have hs: ∃o,s.heap.get? b=some o:=by
    rcases hb' with rfl|rfl
    ·exact⟨_,he⟩
    ·exact⟨_,h1.choose_spec.1⟩
   obtain⟨o,e⟩:=hs;rw[zal (lt e).symm];exact(hf b hb).1
 done:=by
  intro X hP hw hK hc i pins s σ H E I hf st hg;subst hP hw hK;obtain⟨xs,hx,hl⟩:=hg;obtain⟨⟨old,he⟩,h1⟩:=st;obtain⟨us,rv,p,_⟩:=I.list hx;have e1:=rv.length;refine wpAny_pyNext_enum_end (I.ok.hd hc) he h1 p.isList (by simp;omega) fun h' hk=>⟨rfl,?_⟩
  refine I.turnedL (ch:= [it]) (t':=s.toks) (fun b hb=>hf b ?_) (fun b o hb e=> ?_)
  ·have hb':b=it:=by simpa using hb
   simp [hb']
  ·exact hk b o (fun q=>hb (by simpa using q)) e
 self:=fun _ _ _ _ _ st h=>wpAny_pyIter_enum st.1.choose_spec h
def zb5(K:Fg)(ta:TA):TI:=fun σ H R=>ta σ H fun vs H1=> ∃a,vs= [.ref a]∧(∃xs,SqL K H1 a xs)∧R (Ite K a) H1
theorem zdU{X:Cx}{es:List Expr}{n:Nat}{ps:Pos}{a:Expr}{ta:TA}{p pos:Pos}(hg:Gl X "enumerate")(hm:X.mg "enumerate"=none)(ha:PA X [a] ta)(hs:starEach [a] X.env= [(false,eval a X.env)]:=by rfl):
  PI X (.Tuple es n ps) (.Call (.Name "enumerate" p) [a] [] pos) (zb5 X.K ta):=by
 intro pins s σ H R I h;refine Call_ (zd6 I hg hm boot_enumerate (PyProof.Rows.callWith_type1 (thn (ha pos pins s σ H _ I h) fun us s1 ⟨vs,H1,I1,r1,q1⟩=> ?_) (by rw[hs];rfl) (by rfl)));obtain⟨i,e,⟨xs,hx⟩,q⟩:=q1;subst e;cases r1 with
 |cons r rr=>
  cases rr;cases r;obtain⟨us,rv,pl,_⟩:=I1.list hx;refine call_enumerate_list pl.isList fun h' hz hi1 hsz hk=>wpAny_pyIter_enum hz ?_;refine⟨_, [s1.heap.objs.size+1,s1.heap.objs.size],_,_,H1,rfl,I1.kept (t':=s1.toks) hk,zjK _ _ _ (Nat.succ_ne_self _),⟨⟨_,hz⟩,hi1⟩,fun b hb=> ?_,q⟩;have hb':b=s1.heap.objs.size+1∨b=s1.heap.objs.size:=by simpa using hb
  have le:s1.heap.objs.size≤b:=by
   rcases hb' with rfl|rfl
   ·exact Nat.le_add_right _ _
   ·exact Nat.le_refl _
  exact I1.fpOk le (I1.hok.fresh le)
theorem zdV{K:Fg}{a:Addr}{xs:List V}{j k:Nat}{tb:TS}{D:Ends}{σ:St}{H:Hp}(Pv:Nat→St→Hp→Prop)(h0:Pv 0 σ H)(hl: ∀i σ H,i≤xs.length→Pv i σ H→SqL K H a xs)
  (hp: ∀i σ H H',Pv i σ H→zam H H'→Pv i σ H')
  (hs: ∀i x σ H,xs[i]? =some x→Pv i σ H→tb {D with nx:=Pv (i+1),ct:=Pv (i+1),bk:=D.nx} ((σ.set j (some (.int i))).set k (some x)) H) (hd: ∀σ H,Pv xs.length σ H→D.nx σ H):
  zqf (zn7 K 2 (zeI (zdL j) (zeI (zdL k) zkl))) tb D σ (Ite K a) H:=by
 refine⟨fun i m σ H=>m=xs.length - i∧i≤xs.length∧Pv i σ H,⟨xs.length,by simp,Nat.zero_le _,h0⟩,?_⟩;rintro i m σ H ⟨rfl,hi,p⟩;have q1:=hl i σ H hi p;by_cases hlt:i<xs.length
 ·refine .inr ⟨⟨xs,xs[i],q1,by simp [hlt]⟩,Pv (i+1),fun σ' H' p'=>⟨xs.length - (i+1),by omega,rfl,hlt,p'⟩,fun v H' yl=> ?_⟩;obtain⟨pp,rfl,_,sm,x,e,ex⟩:=yl;exact⟨pp, [.int i,x],rfl,SqT.of e,rfl, .int i, [x],rfl,x, [],rfl,rfl,hs i x σ H' (ex xs q1) (hp i σ H H' p sm)⟩
 ·have e:i=xs.length:=by omega
  subst e;exact .inl ⟨⟨xs,q1,Nat.le_refl _⟩,hd σ H p⟩
theorem zf5: ∀(ns:List Int) (j:Nat),(ns.eraseIdx j).map V.int=(ns.map V.int).eraseIdx j
 | [],_=>rfl
 |_::_,0=>rfl
 |x::r,j+1=>congrArg (V.int x:: ·) (zf5 r j)
end L2
namespace L2
open PySem
inductive Ch where
 |plan (d:Int) (nm:List Nat)
 |seats (d n:Int)
 |word (w:Nat) (d:Int)
 |undo (k:Int)
 |grant (a:Int)
 |back
def zcZ:Nat→List Nat
 |0=> [104,111,108,100]
 |1=> [103,111]
 |2=> [115,116,111,112]
 |_=> [108,97,115,116]
def chD:Ch→List D
 | .plan d nm=> [.str [112,108,97,110], .int d, .str nm]
 | .seats d n=> [.str [115,101,97,116,115], .int d, .int n]
 | .word w d=> [.str (zcZ w), .int d]
 | .undo k=> [.str [117,110,100,111], .int k]
 | .grant a=> [.str [103,114,97,110,116], .int a]
 | .back=> [.str [98,97,99,107]]
theorem zdW{c:Prop}[Decidable c]{a b:Prop}(h:c)(x:a):if c then a else b:=by rw[if_pos h];exact x
theorem za0{c:Prop}[Decidable c]{a b:Prop}(h: ¬c)(x:b):if c then a else b:=by rw[if_neg h];exact x
theorem zbg{a b:List Nat}(h:a≠b): ¬V.str (SL a)=V.str (SL b):=fun z=>h (by rw[V.str.injEq,zcR] at z;exact z)
theorem zam.put{H H':Hp}{a:Addr}(s:zam H H')(n:H a=none)(o:HO):zam H (upd H' a o):=fun b u e=>by
 rw[zal (zaD e n)];exact s b u e
abbrev En:=V×Addr×Int×Ch
def zcg:Ch→Bool
 | .plan _ _=>true
 | .seats _ _=>true
 | .word _ _=>true
 |_=>false
def zcr(n:Nat)(L:List Int):Ch→List Int
 | .undo k=>L.erase k
 | .grant _=>L
 | .back=>L
 |_=>L++ [(n:Int)]
def ze1(cs:List Ch)(s:Nat×List Int):Nat×List Int:=cs.foldl (fun s c=>(s.1+1,zcr s.1 s.2 c)) s
def zaU(cs:List Ch):List Int:=(ze1 cs (0, [])).2
theorem ze2(P:Nat→List Int→Prop)(hs: ∀n L c,P n L→P (n+1) (zcr n L c)): ∀(cs:List Ch) (s:Nat×List Int),P s.1 s.2→P (ze1 cs s).1 (ze1 cs s).2
 | [],_,h=>h
 |c::r,s,h=>ze2 P hs r (s.1+1,zcr s.1 s.2 c) (hs _ _ _ h)
theorem zdk: ∀(cs:List Ch) (s:Nat×List Int),(ze1 cs s).1=s.1+cs.length
 | [],_=>rfl
 |c::r,s=>by
  show (ze1 r (s.1+1,_)).1=_;rw[zdk r,List.length_cons];omega
theorem zdC(cs:List Ch)(c:Ch):zaU (cs++ [c])=zcr cs.length (zaU cs) c:=by
 unfold zaU ze1;rw[List.foldl_append];show zcr (ze1 cs (0, [])).1 _ c=_;rw[zdk];show zcr (0+cs.length) _ c=_;rw[Nat.zero_add]
theorem zch(cs:List Ch):(zaU cs).Nodup∧ ∀k∈zaU cs,0≤k∧k<cs.length:=by
 have h:=ze2 (fun n L=>L.Nodup∧ ∀k∈L,0≤k∧k<(n:Int)) (fun n L c ⟨h1,h2⟩=>by
  have old: ∀k∈L,0≤k∧k<((n+1:Nat):Int):=fun k hk=>⟨(h2 k hk).1,by have:=(h2 k hk).2;omega⟩
  have new:(L++ [(n:Int)]).Nodup∧ ∀k∈L++ [(n:Int)],0≤k∧k<((n+1:Nat):Int):=by
   refine⟨List.nodup_append.mpr ⟨h1,List.nodup_cons.mpr ⟨fun z=>(nomatch z),List.nodup_nil⟩,fun a ha b hb e=> ?_⟩,fun k hk=> ?_⟩
   ·rw[List.mem_singleton.mp hb] at e
    have:=(h2 a ha).2;omega
   ·rcases List.mem_append.mp hk with z|z
    ·exact old k z
    ·rw[List.mem_singleton.mp z];omega
  cases c with
  |plan=>exact new
  |seats=>exact new
  |word=>exact new
  |undo k=>exact⟨h1.erase k,fun k' hk=>old k' (List.mem_of_mem_erase hk)⟩
  |grant=>exact⟨h1,old⟩
  |back=>exact⟨h1,old⟩) cs (0, []) ⟨List.nodup_nil,fun k hk=>(nomatch hk)⟩
 refine⟨h.1,fun k hk=> ?_⟩
 have:=h.2 k hk;rw[zdk] at this;have e:(0,([]:List Int)).1+cs.length=cs.length:=Nat.zero_add _;rw[e] at this;exact this
theorem zee(cs:List Ch):(zaU cs).length≤cs.length:=by
 have h:=ze2 (fun n L=>L.length≤n) (fun n L c h=>by
  cases c with
  |plan=>show (L++ [(n:Int)]).length≤n+1;rw[List.length_append,List.length_singleton];omega
  |seats=>show (L++ [(n:Int)]).length≤n+1;rw[List.length_append,List.length_singleton];omega
  |word=>show (L++ [(n:Int)]).length≤n+1;rw[List.length_append,List.length_singleton];omega
  |undo k=>exact Nat.le_trans (Nat.le_trans (List.length_erase_le ..) h) (Nat.le_succ n)
  |grant=>exact Nat.le_succ_of_le h
  |back=>exact Nat.le_succ_of_le h) cs (0, []) (Nat.le_refl 0)
 rw[zdk] at h;have e:(0,([]:List Int)).1+cs.length=cs.length:=Nat.zero_add _;rw[e] at h;exact h
def kvG(g:Int→V)(L:List Int):List (Key×V):=L.map fun k=>((Sum.inl k:Key),g k)
theorem zh8(g:Int→V)(x:Int): ∀L:List Int,zbF (kvG g L) (Sum.inl x)=if x∈L then some (g x) else none
 | []=>rfl
 |k::r=>by
  unfold kvG;rw[List.map_cons];by_cases e:k=x
  ·subst e;rw[zbd rfl,if_pos List.mem_cons_self]
  ·rw[zbe (by intro z;exact e (Sum.inl.inj z))];have ih:=zh8 g x r;unfold kvG at ih;rw[ih];by_cases h:x∈r
   ·rw[if_pos h,if_pos (List.mem_cons_of_mem _ h)]
   ·rw[if_neg h,if_neg (fun z=>(List.mem_cons.mp z).elim (fun q=>e q.symm) h)]
theorem zoE(g:Int→V){x:Int}{L:List Int}(h:x∉L):zbS (kvG g L) (Sum.inl x) (g x)=kvG g (L++ [x]):=by
 rw[zk0 _ (by rw[zh8,if_neg h])];unfold kvG;rw[List.map_append];rfl
theorem ziX(g:Int→V)(x:Int): ∀{L:List Int},L.Nodup→zep (kvG g L) (Sum.inl x)=kvG g (L.erase x)
 | [],_=>rfl
 |k::r,h=>by
  obtain⟨h1,h2⟩:=List.nodup_cons.mp h;have ih:=ziX g x h2;unfold kvG zep at ih ⊢;rw[List.map_cons,List.filter_cons];by_cases e:k=x
  ·subst e;rw[if_neg (by simp),List.erase_cons_head,ih,List.erase_of_not_mem h1]
  ·rw[if_pos (by simpa using e),List.erase_cons_tail (by simpa using e),List.map_cons,ih]
def zqV(K:Fg)(H:Hp)(z:En):Prop:= ∃p,z.1= .ref p∧SqT K H p [.int z.2.2.1, .ref z.2.1]∧SqT K H z.2.1 ((chD z.2.2.2).map sv)
def zbp(K:Fg)(H:Hp)(zs:List En):Prop:= ∀z∈zs,zqV K H z
theorem zbp.same{K:Fg}{H H':Hp}{zs:List En}(h:zbp K H zs)(s:zam H H'):zbp K H' zs:=fun z hz=>
 let ⟨p,e,q1,q2⟩:=h z hz;⟨p,e,s.sqT q1,s.sqT q2⟩
theorem zbp.take{K:Fg}{H:Hp}{zs:List En}(h:zbp K H zs)(n:Nat):zbp K H (zs.take n):=fun z hz=>h z (List.mem_of_mem_take hz)
def enD(z:En):D:= .tup [.int z.2.2.1, .tup (chD z.2.2.2)]
def zmZ(nms:List (List Nat))(f e:Int)(L:List Int):Ch→Prop
 | .plan d nm=>f≤d∧d<e∧nm∈nms
 | .seats d n=>f≤d∧d<e∧0≤n∧n≤1000000
 | .word w d=>w<4∧f≤d∧d<e
 | .undo k=>k∈L
 | .grant a=>1≤a∧a<10 ^ 30
 | .back=>True
def chs(zs:List En):List Ch:=zs.map fun z=>z.2.2.2
theorem zc9(zs:List En)(n:Nat):chs (zs.take n)=(chs zs).take n:=List.map_take
theorem zcs(zs:List En):(chs zs).length=zs.length:=List.length_map ..
def zct(nms:List (List Nat))(f e:Int)(zs:List En):Prop:= ∀i z,zs[i]? =some z→f≤z.2.2.1∧z.2.2.1<e∧(∀y∈zs.take i,y.2.2.1≤z.2.2.1)∧zmZ nms f e (zaU (chs (zs.take i))) z.2.2.2
theorem zh9{zs:List En}{i:Nat}{z:En}(h:zs[i]? =some z):zaU (chs (zs.take (i+1)))=zcr i (zaU (chs (zs.take i))) z.2.2.2:=by
 have hi:=(List.getElem?_eq_some_iff.mp h).1;have e:chs (zs.take (i+1))=chs (zs.take i)++ [z.2.2.2]:=by
  unfold chs;rw[List.take_add_one,h,List.map_append];rfl
 rw[e,zdC,zcs,List.length_take,Nat.min_eq_left (by omega)]
theorem zct.nil{nms:List (List Nat)}{f e:Int}:zct nms f e []:=fun i z h=>by rw[List.getElem?_nil] at h;cases h
theorem zct.snoc{nms:List (List Nat)}{f e:Int}{zs:List En}{z:En}(h:zct nms f e zs)(h1:f≤z.2.2.1)(h2:z.2.2.1<e)(h3: ∀y∈zs,y.2.2.1≤z.2.2.1)(h4:zmZ nms f e (zaU (chs zs)) z.2.2.2):zct nms f e (zs++ [z]):=fun i y hy=>by
 by_cases hi:i<zs.length
 ·rw[List.getElem?_append_left hi] at hy;rw[List.take_append_of_le_length (by omega)];exact h i y hy
 ·rw[List.getElem?_append_right (by omega)] at hy;have e0:i=zs.length:=by
   have:=(List.getElem?_eq_some_iff.mp hy).1;rw[List.length_singleton] at this;omega
  subst e0;rw[Nat.sub_self] at hy;cases hy;rw[List.take_append_of_le_length (Nat.le_refl _),List.take_length];exact⟨h1,h2,h3,h4⟩
theorem zhk{K:Fg}{H H':Hp}{p l m:Addr}{xs ys ws:List V}(h:SqT K H p xs)(e:H l=some (.lst ys))(e2:H m=some (.lst ws))(k: ∀b o,b≠l→b≠m→H b=some o→H' b=some o):SqT K H' p xs:=by
 rcases h with(h|⟨ob,h⟩)|h
 ·exact .inl (.inl (k _ _ (fun z=>by rw[z,e] at h;cases h) (fun z=>by rw[z,e2] at h;cases h) h))
 ·exact .inl (.inr ⟨ob,k _ _ (fun z=>by rw[z,e] at h;cases h) (fun z=>by rw[z,e2] at h;cases h) h⟩)
 ·exact .inr h
structure EnInv (K:Fg) (H0 H:Hp) (le ll:Addr) (nms:List (List Nat)) (f e:Int) (zs:List En):Prop where
 same:zam H0 H
 n1:H0 le=none
 n2:H0 ll=none
 ne:le≠ll
 e1:H le=some (.lst (zs.map (·.1)))
 e2:H ll=some (.lst ((zaU (chs zs)).map V.int))
 at':zbp K H zs
 ok:zct nms f e zs
def chW:Ch→List Nat
 | .plan _ _=> [112,108,97,110]
 | .seats _ _=> [115,101,97,116,115]
 | .word w _=>zcZ w
 | .undo _=> [117,110,100,111]
 | .grant _=> [103,114,97,110,116]
 | .back=> [98,97,99,107]
theorem zhl(c:Ch): ∃r,(chD c).map sv= .str (SL (chW c))::r:=by
 cases c<;>exact⟨_,rfl⟩
theorem zld{K:Fg}{H:Hp}{n:Nat}(c:Ch):all2 (Dp K H n) (chD c) ((chD c).map sv):=by
 cases c with
 |plan d nm=>exact⟨zcf,zb6,zcf,trivial⟩
 |seats d m=>exact⟨zcf,zb6,zb6,trivial⟩
 |word w d=>exact⟨zcf,zb6,trivial⟩
 |undo k=>exact⟨zcf,zb6,trivial⟩
 |grant a=>exact⟨zcf,zb6,trivial⟩
 |back=>exact⟨zcf,trivial⟩
theorem zbp.all2{K:Fg}{H:Hp}: ∀{zs:List En},zbp K H zs→all2 (Dp K H 2) (zs.map enD) (zs.map (·.1))
 | [],_=>trivial
 |z::r,h=>by
  obtain⟨p,e,q1,q2⟩:=h z List.mem_cons_self;refine⟨?_,zbp.all2 fun y hy=>h y (List.mem_cons_of_mem _ hy)⟩;show Dp K H 2 (enD z) z.1;rw[e];exact zed q1 ⟨zb6,zed q2 (zld _),trivial⟩
end L2
namespace L2
open PySem PySem.Spec PyProof.Rows
section
variable {X:Cx} {pins:List (Addr×Obj)} {σ:St} {H H':Hp} {s:Shared} {h':Heap} {t':Nat}
theorem Inv.laidAll(I:Inv X pins σ H s)(k: ∀b o,s.heap.get? b=some o→h'.get? b=some o)(ext: ∀b u,H b=some u→H' b=some u)(new: ∀b u,H' b=some u→H b=none→s.heap.objs.size≤b∧zbh X.prog X.w H' h' b u):
  Inv X pins σ H' {s with heap:=h',toks:=t'}:=by
 refine I.step (g':=s.gens) (d':=s.drawn) (ch:= []) (fun b hb=>(nomatch hb)) (fun b o _ _ hc e _=>k b o e) (fun b o _ _ hc e _=>⟨o.slots,k b o e⟩)
  (fun b u _ e n=> ?_)
  (fun b o hc e=>⟨o,k b o e⟩) (fun b xs e=>ext _ _ e) (fun b o u e=>ext _ _ e) (fun b ps e=>⟨#[],by rw[ext _ _ e];simp⟩) (fun m hm=> ?_) (fun b u e=> ?_) I.bare
 ·rcases q:H' b with _|v
  ·rfl
  ·exact absurd (Heap.lt_size e) (Nat.not_lt.mpr (new b v q n).1)
 ·obtain⟨o,es,ep,ho,r⟩:=hm;exact⟨o,es,ep,k _ o ho,r⟩
 ·rcases q:H b with _|v
  ·exact(new b u e q).2
  ·have e2:=ext b v q;rw[e] at e2;cases e2;exact(I.hok b u q).stay (fun c v hc q=>k c v q) (fun c q=>ext _ _ q) fun c xs q=>ext _ _ q
end
def zbH:List Addr→List (Key×V)→Hp→Hp
 |a::as,kv::kvs,H=>upd (zbH as kvs H) a (.tup [kV kv.1,kv.2])
 |_,_,H=>H
theorem ze3{H:Hp}{b:Addr}: ∀{as:List Addr} {kvs:List (Key×V)},b∉as→zbH as kvs H b=H b
 | [],_,_=>by unfold zbH;rfl
 |_::_, [],_=>by unfold zbH;rfl
 |a::as,kv::kvs,h=>by
  unfold zbH;rw[zal (fun z=>h (by rw[z];exact List.mem_cons_self)),ze3 fun z=>h (List.mem_cons_of_mem _ z)]
theorem zf6{H:Hp}: ∀{as:List Addr} {kvs:List (Key×V)} {i:Nat} {p:Addr} {kv:Key×V},as.Pairwise (· < ·)→as[i]? =some p→kvs[i]? =some kv→zbH as kvs H p=some (.tup [kV kv.1,kv.2])
 |a::as,kv::kvs,0,_,_,_,h1,h2=>by
  cases h1;cases h2;unfold zbH;exact zao
 |a::as,kv::kvs,i+1,p,kv',hp,h1,h2=>by
  obtain⟨q1,q2⟩:=List.pairwise_cons.mp hp;have h1':as[i]? =some p:=by simpa using h1
  unfold zbH;rw[zal (Nat.ne_of_gt (q1 p (List.mem_of_getElem? h1')))];exact zf6 q2 h1' (by simpa using h2)
theorem zf7{H:Hp}{b:Addr}{u:HO}: ∀{as:List Addr} {kvs:List (Key×V)},as.Pairwise (· < ·)→zbH as kvs H b=some u→H b=some u∨ ∃(i:Nat) (kv:Key×V),as[i]? =some b∧kvs[i]? =some kv∧u= .tup [kV kv.1,kv.2]
 | [],_,_,h=>by unfold zbH at h;exact .inl h
 |_::_, [],_,h=>by unfold zbH at h;exact .inl h
 |a::as,kv::kvs,hp,h=>by
  unfold zbH at h;by_cases e:b=a
  ·subst e;rw[zao] at h;exact .inr ⟨0,kv,rfl,rfl,(Option.some.inj h).symm⟩
  ·rw[zal e] at h;rcases zf7 (List.pairwise_cons.mp hp).2 h with q|⟨i,kv',q1,q2,q3⟩
   ·exact .inl q
   ·exact .inr ⟨i+1,kv',by simpa using q1,by simpa using q2,q3⟩
theorem zm0{kvs:List (Key×V)}{vs:List (Key×Value)}(h:KV kvs vs): ∀{i:Nat} {kv:Key×V} {k:Key} {y:Value},kvs[i]? =some kv→vs[i]? =some (k,y)→kv.1=k∧zaC kv.2 y:=by
 unfold KV at h;induction h with
 |nil=>intro i kv k y h1;rw[List.getElem?_nil] at h1;cases h1
 |cons r t ih=>
  intro i kv k y h1 h2;cases i with
  |zero=>cases h1;cases h2;exact r
  |succ i=>exact ih (i:=i) (by simpa using h1) (by simpa using h2)
theorem ze4: ∀as:List Addr,zaI (as.map V.ref) (as.map Value.ref)
 | []=> .nil
 |_::r=> .cons rfl (ze4 r)
def zle(td:TE):TE:=fun σ H Q=>td σ H fun x H1=> ∃a kvs,x= .ref a∧H1 a=some (.dK kvs)∧ ∀l H2 (as:List Addr),H1 l=none→zam H1 H2→as.length=kvs.length→(∀(i:Nat) (kv:Key×V) (p:Addr),kvs[i]? =some kv→as[i]? =some p→H2 p=some (.tup [kV kv.1,kv.2]))→H2 l=some (.lst (as.map V.ref))→Q (.ref l) H2
theorem zgI{X:Cx}{o:Expr}{td:TE}{p pos ap cp:Pos}(hc:X.calm=true)(hg:Gl X "list")(hm:X.mg "list"=none)(ho:PE X o td)(hb:attributeBase o "items" X.env (eval o X.env)=eval o X.env)(hline:(ap.endLine==cp.line)=true):
  PE X (.Call (.Name "list" p) [.Call (.Attribute o "items" ap) [] [] cp] [] pos) (zle td):=by
 intro pins s σ H Q I h;refine wpAny_Call_Name_kw (zd6 I hg hm zmN ?_ (by decide) (by decide));refine PyProof.Rows.callWith_type1 ?_ zaF rfl;show wpAny _ _ (spliced ((false,eval (.Call (.Attribute o "items" ap) [] [] cp) X.env)::backTo pos (starEach [] X.env))) _ _ s;refine Calls.spliced_cons ?_;refine wpAny_Call_method (T:="dict") (id:="dict.items") hb rfl hline PySem.F.plainAttrs_dict PySem.F.slot_dict_items PySem.F.type_dict_items (thn (ho pins s σ H _ I h) fun u s1 ⟨x,H1,I1,rx,a,kvs,ex,ea,q⟩=> ?_);subst ex;obtain rfl:u=Value.ref a:=rx;obtain⟨z,hd,vs,rel,dd⟩:=zk2 I1.hok ea;refine⟨dd.typeIs,dd.mapOf.noDict,?_⟩;show wpAny _ _ (callWith cp (.builtin "dict.items") [.ref a] [] []) _ _ s1;refine method_meetsIn PySem.F.slot_dict_items PySem.F.entry_dict_items rfl (PySem.evalArgs_none ⟨rfl,dd.typeIs,PySem.F.args_dict_items_1 _,_,meets_dict_items _ a hd,⟨vs,dd⟩,?_⟩);refine Calls.spliced_nil ?_;obtain⟨ep,hat⟩:=dd.dictAt;have kp0: ∀b o,s1.heap.get? b=some o→(s1.heap.push {cls:= .type "dict_items",data:= .fields #[.ref a]}).get? b=some o:=fun b o e=>Heap.get?_push_of_some _ e;refine PySem.W.kdx_call (knd:=zaW X.prog X.w) (kvs:=vs) (ep:=ep) (I.ok.hd hc) ⟨_,Heap.get?_push_size _ rfl,rfl,rfl⟩ (hat.at' fun o e=>Heap.get?_push_of_some _ e) (by rw[←rel.length];exact z) fun h' tk acc c as hk hS hl hG hacc=> ?_;obtain⟨l,hl0⟩: ∃l,l=s1.heap.objs.size+1:=⟨_,rfl⟩
 have el:(s1.heap.push {cls:= .type "dict_items",data:= .fields #[.ref a]}).objs.size=l:=by rw[Heap.size_push,hl0]
 replace hS:h'.get? l=some {cls:= .type "list",dict:=none,data:= .seq acc c,slots:= #[]}:=by rw[←el];exact hS
 replace hG:PySem.W.KdxG (zaW X.prog X.w) vs l h' as:=by rw[←el];exact hG
 have kp: ∀b o,s1.heap.get? b=some o→h'.get? b=some o:=fun b o e=>hk b o (kp0 b o e);have lkv:as.length=kvs.length:=hl.trans (show kvs.length=vs.length from rel.length).symm;have la:l∉as:=fun m=>Nat.lt_irrefl _ (hG.above l m);have fresh: ∀b,s1.heap.objs.size≤b→H1 b=none:=fun b hb=>I1.hok.fresh hb;have ext: ∀b u,H1 b=some u→upd (zbH as kvs H1) l (.lst (as.map V.ref)) b=some u:=fun b u e=>by
  have b1:b≠l:=fun z=>by rw[z,fresh l (by omega)] at e;cases e
  have b2:b∉as:=fun m=>by rw[fresh b (Nat.le_of_lt (Nat.lt_trans (hl0 ▸ Nat.lt_succ_self _) (hG.above b m)))] at e;cases e
  rw[zal b1,ze3 b2];exact e
 have new: ∀b u,upd (zbH as kvs H1) l (.lst (as.map V.ref)) b=some u→H1 b=none→s1.heap.objs.size≤b∧zbh X.prog X.w (upd (zbH as kvs H1) l (.lst (as.map V.ref))) h' b u:=fun b u e n=>by
  by_cases b1:b=l
  ·subst b1;rw[zao] at e;cases e;refine⟨by omega,show zbh X.prog X.w _ h' _ (.lst (as.map V.ref)) from⟨by rw[List.length_map,lkv];exact z,as.map Value.ref,c,ze4 as,?_⟩⟩;rw[←hacc,Array.toArray_toList];exact hS
  ·rw[zal b1] at e;rcases zf7 hG.rise e with e1|⟨i,kv,q1,q2,rfl⟩
   ·rw[n] at e1;cases e1
   ·obtain⟨key,k,x,v1,v2,v3⟩:=hG.pairs i b q1;obtain⟨r1,r2⟩:=zm0 rel q2 v1;have rk:zaC (kV kv.1) key:=by
     rw[r1];rcases za7 v2 with⟨j,t,rfl,ej⟩|⟨y,t,rfl,ej⟩
     ·rw[ej];exact⟨t,rfl⟩
     ·rw[ej];exact⟨t,rfl⟩
    refine⟨Nat.le_of_lt (Nat.lt_trans (hl0 ▸ Nat.lt_succ_self _) (hG.above b (List.mem_of_getElem? q1))),show zbh X.prog X.w _ h' _ (.tup [kV kv.1,kv.2]) from⟨zbz (by simp), [key,x], .cons rk (.cons r2 .nil),⟨_,v3,rfl,_,rfl⟩⟩⟩
 have ev:(s1.heap.push {cls:= .type "dict_items",data:= .fields #[.ref a]}).objs.size=l:=el;show EP X pins σ Q (Value.ref (s1.heap.push {cls:= .type "dict_items",data:= .fields #[.ref a]}).objs.size) {s1 with heap:=h',toks:=tk};rw[ev];exact⟨.ref l,_,I1.laidAll (t':=tk) kp ext new,rfl,q l _ as (fresh l (by omega)) ext lkv (fun i kv p' h1 h2=>by rw[zal (fun z=>la (by rw[←z];exact List.mem_of_getElem? h2))];exact zf6 hG.rise h2 h1) zao⟩
end L2
namespace L2
open PySem
def enL(mo:Int)(z:En):Bool:=decide (z.2.2.1≤mo)
def mOf(zs:List En)(mo:Int):Nat:=(zs.filter (enL mo)).length
theorem ze5(mo:Int): ∀{zs:List En},zs.Pairwise (fun a b=>a.2.2.1≤b.2.2.1)→zs.filter (enL mo)=zs.take (mOf zs mo)∧ ∀(j:Nat) (z:En),zs[j]? =some z→(z.2.2.1≤mo↔j<mOf zs mo)
 | [],_=>⟨rfl,fun j z h=>by rw[List.getElem?_nil] at h;cases h⟩
 |z::r,h=>by
  obtain⟨h1,h2⟩:=List.pairwise_cons.mp h;obtain⟨e,ih⟩:=ze5 mo h2;unfold mOf at e ih ⊢;by_cases q:z.2.2.1≤mo
  ·rw[List.filter_cons_of_pos (show enL mo z=true from decide_eq_true q),List.length_cons];refine⟨by rw[List.take_succ_cons,←e],fun j y hy=> ?_⟩;cases j with
   |zero=>cases hy;exact⟨fun _=>Nat.succ_pos _,fun _=>q⟩
   |succ j=>
    have:=ih j y (by simpa using hy);rw[this];omega
  ·rw[List.filter_cons_of_neg (show¬enL mo z=true from by unfold enL;simpa using q)];have nil:r.filter (enL mo)= []:=by
    rw[List.filter_eq_nil_iff];intro y hy
    have:=h1 y hy;unfold enL;simp only[decide_eq_true_eq];omega
   rw[nil];refine⟨rfl,fun j y hy=>⟨fun le=> ?_,fun z0=>absurd z0 (Nat.not_lt_zero _)⟩⟩;cases j with
   |zero=>cases hy;exact absurd le q
   |succ j=>
    have:=h1 y (List.mem_of_getElem? (show r[j]? =some y by simpa using hy));omega
theorem zct.pair{nms:List (List Nat)}{f e:Int}{zs:List En}(h:zct nms f e zs):zs.Pairwise (fun a b=>a.2.2.1≤b.2.2.1):=by
 rw[List.pairwise_iff_getElem];intro i j hi hj lt;refine(h j zs[j] (List.getElem?_eq_getElem hj)).2.2.1 zs[i] ?_;rw[List.mem_take_iff_getElem];exact⟨i,by omega,rfl⟩
def za4:List Ch→List Int
 | []=> []
 | .undo k::r=>k::za4 r
 |_::r=>za4 r
theorem zes: ∀a b:List Ch,za4 (a++b)=za4 a++za4 b
 | [],_=>rfl
 |c::r,b=>by
  have ih:=zes r b;cases c with
  |undo k=>show k::za4 (r++b)=k::za4 r++za4 b;rw[ih];rfl
  |plan=>exact ih
  |seats=>exact ih
  |word=>exact ih
  |grant=>exact ih
  |back=>exact ih
def zdX(o:Option Ch):Bool:=(o.map zcg).getD false
def zhm(cs:List Ch)(gs:List Int)(n:Nat):List Int:=((List.range n).filter (fun j:Nat=>zdX cs[j]? && !decide ((j:Int)∈gs))).map fun j:Nat=>(j:Int)
theorem zlf(cs:List Ch)(gs:List Int)(n:Nat):zhm cs gs (n+1)=zhm cs gs n++(if (zdX cs[n]? && !decide ((n:Int)∈gs))=true then [(n:Int)] else []):=by
 unfold zhm;rw[List.range_succ,List.filter_append,List.map_append];congr 1;by_cases h:(zdX cs[n]? && !decide ((n:Int)∈gs))=true
 ·rw[if_pos h,List.filter_cons];exact congrArg (List.map _) (if_pos h)
 ·rw[if_neg h,List.filter_cons];exact congrArg (List.map _) (if_neg h)
def zci(cs:List Ch):Prop:= ∀(i:Nat) (k:Int),cs[i]? =some (.undo k)→k∈zaU (cs.take i)
theorem zci.take{cs:List Ch}(h:zci cs)(n:Nat):zci (cs.take n):=fun i k hi=>by
 rw[List.getElem?_take] at hi;split at hi
 ·rw[List.take_take,Nat.min_eq_left (by omega)];exact h i k hi
 ·cases hi
theorem zf8(cs:List Ch)(ok:zci cs): ∀n,n≤cs.length→zaU (cs.take n)=zhm cs (za4 (cs.take n)) n∧ ∀k∈za4 (cs.take n),k<n
 |0,_=>by
  rw[List.take_zero];exact⟨rfl,fun k h=>(nomatch h)⟩
 |n+1,h=>by
  obtain⟨ih,lt⟩:=zf8 cs ok n (by omega);obtain⟨c,hc⟩: ∃c,cs[n]? =some c:=⟨cs[n],List.getElem?_eq_getElem (by omega)⟩
  have et:cs.take (n+1)=cs.take n++ [c]:=by rw[List.take_add_one,hc];rfl
  have ln:(cs.take n).length=n:=by rw[List.length_take];omega
  have sn:zaU (cs.take (n+1))=zcr n (zaU (cs.take n)) c:=by rw[et,zdC,ln]
  have gn:za4 (cs.take (n+1))=za4 (cs.take n)++za4 [c]:=by rw[et,zes]
  rw[sn,gn,zlf,hc];have nin:(n:Int)∉za4 (cs.take n):=fun z=>by have:=lt _ z;omega
  have up: ∀k∈za4 (cs.take n),k<((n+1:Nat):Int):=fun k hk=>by have:=lt k hk;omega
  have term:zcg c=true→za4 [c]= []→zcr n (zaU (cs.take n)) c=zaU (cs.take n)++ [(n:Int)]→zcr n (zaU (cs.take n)) c=zhm cs (za4 (cs.take n)++za4 [c]) n++(if (zdX (some c) && !decide ((n:Int)∈za4 (cs.take n)++za4 [c]))=true then [(n:Int)] else [])∧ ∀k∈za4 (cs.take n)++za4 [c],k<((n+1:Nat):Int):=fun h1 h2 h3=>by
   rw[h2,List.append_nil,h3,ih];refine⟨?_,up⟩;rw[if_pos (by show (zcg c && !decide _)=true;rw[h1,decide_eq_false nin];rfl)]
  have other:zcg c=false→za4 [c]= []→zcr n (zaU (cs.take n)) c=zaU (cs.take n)→zcr n (zaU (cs.take n)) c=zhm cs (za4 (cs.take n)++za4 [c]) n++(if (zdX (some c) && !decide ((n:Int)∈za4 (cs.take n)++za4 [c]))=true then [(n:Int)] else [])∧ ∀k∈za4 (cs.take n)++za4 [c],k<((n+1:Nat):Int):=fun h1 h2 h3=>by
   rw[h2,List.append_nil,h3,ih];refine⟨?_,up⟩;rw[if_neg (by show¬(zcg c && _)=true;rw[h1,Bool.false_and];exact Bool.false_ne_true),List.append_nil]
  cases c with
  |plan=>exact term rfl rfl rfl
  |seats=>exact term rfl rfl rfl
  |word=>exact term rfl rfl rfl
  |grant=>exact other rfl rfl rfl
  |back=>exact other rfl rfl rfl
  |undo k=>
   have hk:=ok n k hc;have nd:=(zch (cs.take n)).1;have kb:=(zch (cs.take n)).2 k hk;rw[ln] at kb;refine⟨?_,fun k' hk'=> ?_⟩
   ·rw[if_neg (by show¬(false && _)=true;rw[Bool.false_and];exact Bool.false_ne_true),List.append_nil];show (zaU (cs.take n)).erase k=_;rw[nd.erase_eq_filter,ih];unfold zhm;rw[List.filter_map,List.filter_filter];congr 1;refine List.filter_congr fun j _=> ?_;show ((j:Int) !=k && (zdX cs[j]? && !decide ((j:Int)∈za4 (cs.take n))))=(zdX cs[j]? && !decide ((j:Int)∈za4 (cs.take n)++ [k]));have e1:decide ((j:Int)∈za4 (cs.take n)++ [k])=(decide ((j:Int)∈za4 (cs.take n))||decide ((j:Int)=k)):=by
     rw[Bool.eq_iff_iff,decide_eq_true_eq,Bool.or_eq_true,decide_eq_true_eq,decide_eq_true_eq,List.mem_append,List.mem_singleton]
    rw[e1];have e2:((j:Int) !=k)= !decide ((j:Int)=k):=by
     rw[bne,Bool.beq_eq_decide_eq]
    rw[e2];cases zdX cs[j]? <;>cases decide ((j:Int)∈za4 (cs.take n))<;>cases decide ((j:Int)=k)<;>rfl
   ·rcases List.mem_append.mp hk' with q|q
    ·exact up _ q
    ·have:k'=k:=List.mem_singleton.mp q;omega
end L2
namespace L2.So
open PySem PySem.W PyProof.Rows
def Ev(n:Nat)(r:Nat→Int){α:Type}:KasT α→(α→Prop)→Prop
 | .ret a,Q=>Q a
 | .ask i j k,Q=>(i<n∧j<n∧i≠j)∧Ev n r (k (decide (r i<r j))) Q
theorem Ev.bind{n:Nat}{r:Nat→Int}{α β:Type}{f:α→KasT β}{Q:β→Prop}: ∀{t:KasT α},Ev n r t (fun a=>Ev n r (f a) Q)→Ev n r (t.bind f) Q
 | .ret _,h=>h
 | .ask _ _ k,h=>⟨h.1,Ev.bind (t:=k _) h.2⟩
theorem Ev.mono{n:Nat}{r:Nat→Int}{α:Type}{Q Q':α→Prop}(hq: ∀a,Q a→Q' a): ∀{t:KasT α},Ev n r t Q→Ev n r t Q'
 | .ret a,h=>hq a h
 | .ask _ _ k,h=>⟨h.1,Ev.mono hq (t:=k _) h.2⟩
theorem Ev.wp{n:Nat}{r:Nat→Int}{α:Type}{cmp:Nat→Nat→(Bool→Shared→Prop)→Shared→Prop}{s:Shared}(hc: ∀i j C,i<n→j<n→i≠j→C (decide (r i<r j)) s→cmp i j C s){Q:α→Prop}{G:α→Shared→Prop}(hq: ∀a,Q a→G a s): ∀{t:KasT α},Ev n r t Q→t.kasWp cmp G s
 | .ret a,h=>hq a h
 | .ask i j k,h=>hc i j _ h.1.1 h.1.2.1 h.1.2.2 (Ev.wp hc hq (t:=k _) h.2)
theorem Ev.yes{n:Nat}{r:Nat→Int}{α:Type}{i j:Nat}{k:Bool→KasT α}{Q:α→Prop}(hi:i<n)(hj:j<n)(h:r i<r j)(e:Ev n r (k true) Q):Ev n r (.ask i j k) Q:=⟨⟨hi,hj,fun z=>by rw[z] at h;omega⟩,by rw[decide_eq_true h];exact e⟩
theorem Ev.no{n:Nat}{r:Nat→Int}{α:Type}{i j:Nat}{k:Bool→KasT α}{Q:α→Prop}(hi:i<n)(hj:j<n)(hn:i≠j)(h: ¬r i<r j)(e:Ev n r (k false) Q):Ev n r (.ask i j k) Q:=⟨⟨hi,hj,hn⟩,by rw[decide_eq_false h];exact e⟩
def fv(r:Nat→Int)(p:Array Nat)(k:Nat):Int:=r (p.getD k 0)
def Ok(n:Nat)(p:Array Nat):Prop:=p.Perm (List.range n).toArray
def Up(r:Nat→Int)(p:Array Nat)(m:Nat):Prop:= ∀i j,i<j→j<m→fv r p i<fv r p j
def Dn(r:Nat→Int)(p:Array Nat)(m:Nat):Prop:= ∀i j,i<j→j<m→fv r p j<fv r p i
theorem Ok.size{n:Nat}{p:Array Nat}(h:Ok n p):p.size=n:=by
 have:=h.size_eq;simpa using this
theorem Ok.lt{n:Nat}{p:Array Nat}(h:Ok n p){k:Nat}(hk:k<n):p.getD k 0<n:=by
 have hs:=h.size;have e:p.getD k 0=p[k]:=by simp [Array.getD,hs,hk]
 have m:p[k]∈p:=Array.getElem_mem _;rw[e]
 have:=(h.mem_iff).mp m;simpa using this
theorem Ok.ne{n:Nat}{p:Array Nat}(h:Ok n p){i j:Nat}(hij:i<j)(hj:j<n):p.getD i 0≠p.getD j 0:=by
 have hs:=h.size;have e1:p.getD i 0=p.toList[i]'(by simp;omega):=by simp [Array.getD,hs,show i<n by omega]
 have e2:p.getD j 0=p.toList[j]'(by simp;omega):=by simp [Array.getD,hs,hj]
 have nd:p.toList.Nodup:=(h.toList.nodup_iff).mpr (by simpa using List.nodup_range);rw[e1,e2];exact List.pairwise_iff_getElem.mp nd i j _ _ hij
def Inj(n:Nat)(r:Nat→Int):Prop:= ∀i j,i<n→j<n→i≠j→r i≠r j
theorem Ok.fne{n:Nat}{r:Nat→Int}(hr:Inj n r){p:Array Nat}(h:Ok n p){i j:Nat}(hij:i<j)(hj:j<n):fv r p i≠fv r p j:=hr _ _ (h.lt (by omega)) (h.lt hj) (h.ne hij hj)
theorem Up.one{r:Nat→Int}{p:Array Nat}{m:Nat}(h:Up r p m)(h1:1≤m)(hl:fv r p (m - 1)<fv r p m):Up r p (m+1):=fun i j hij hj=>by
 by_cases e:j=m
 ·subst e;by_cases e2:i=j - 1
  ·rw[e2];exact hl
  ·exact Int.lt_trans (h i (j - 1) (by omega) (by omega)) hl
 ·exact h i j hij (by omega)
theorem Dn.one{r:Nat→Int}{p:Array Nat}{m:Nat}(h:Dn r p m)(h1:1≤m)(hl:fv r p m<fv r p (m - 1)):Dn r p (m+1):=fun i j hij hj=>by
 by_cases e:j=m
 ·subst e;by_cases e2:i=j - 1
  ·rw[e2];exact hl
  ·exact Int.lt_trans hl (h i (j - 1) (by omega) (by omega))
 ·exact h i j hij (by omega)
section
variable {n:Nat} {r:Nat→Int} (hr:Inj n r)
include hr
theorem zoF{p:Array Nat}(ho:Ok n p): ∀(f m:Nat),m+f=n→1≤m→Up r p m→Ev n r (kas_asc p f m) (fun x=>1≤x∧m≤x∧x≤n∧Up r p x∧(x=n∨fv r p x<fv r p (x - 1)))
 |0,m,hm,h1,hu=>⟨h1,Nat.le_refl _,by omega,hu, .inl (by omega)⟩
 |f+1,m,hm,h1,hu=>by
  unfold kas_asc;by_cases c:fv r p m<fv r p (m - 1)
  ·refine Ev.yes (ho.lt (by omega)) (ho.lt (by omega)) c ?_;rw[if_pos rfl];exact⟨h1,Nat.le_refl _,by omega,hu, .inr c⟩
  ·refine Ev.no (ho.lt (by omega)) (ho.lt (by omega)) (ho.ne (by omega) (by omega)).symm c ?_;rw[if_neg (by decide)]
   have:=ho.fne hr (i:=m - 1) (j:=m) (by omega) (by omega);exact(zoF ho f (m+1) (by omega) (by omega) (hu.one h1 (by omega))).mono fun x h=>⟨h.1,by omega,h.2.2⟩
theorem znM{p:Array Nat}(ho:Ok n p): ∀(f m:Nat),m+f=n→1≤m→Dn r p m→Ev n r (kas_desc f p m 0) (fun x=>x.1=p∧x.2.2=0∧m≤x.2.1∧x.2.1≤n∧Dn r p x.2.1)
 |0,m,hm,h1,hu=>⟨rfl,rfl,Nat.le_refl _,by show m≤n;omega,hu⟩
 |f+1,m,hm,h1,hu=>by
  unfold kas_desc;by_cases c:fv r p m<fv r p (m - 1)
  ·refine Ev.yes (ho.lt (by omega)) (ho.lt (by omega)) c ?_;rw[if_pos rfl,if_neg (by decide)];exact(znM ho f (m+1) (by omega) (by omega) (hu.one h1 c)).mono fun x h=>⟨h.1,h.2.1,by omega,h.2.2.2⟩
  ·have:=ho.fne hr (i:=m - 1) (j:=m) (by omega) (by omega);refine Ev.no (ho.lt (by omega)) (ho.lt (by omega)) (ho.ne (by omega) (by omega)).symm c ?_;rw[if_neg (by decide)];refine Ev.yes (ho.lt (by omega)) (ho.lt (by omega)) (show fv r p (m - 1)<fv r p m by omega) ?_;rw[if_pos rfl];exact⟨rfl,rfl,Nat.le_refl _,by show m≤n;omega,hu⟩
theorem zlg{p:Array Nat}(ho:Ok n p)(i j:Nat):Ok n (kas_rev p i j):=(mirror_perm p i j _).trans ho
theorem zlh{p:Array Nat}(ho:Ok n p){m:Nat}(hm:m≤n){k:Nat}(hk:k<m):fv r (kas_rev p 0 m) k=fv r p (m - 1 - k):=by
 have e:=getElem?_mirror_all (xs:=p) (i:=0) (j:=m) (by rw[ho.size];exact hm) k;rw[if_pos ⟨by omega,hk⟩] at e;unfold fv kas_rev;rw[Array.getD_eq_getD_getElem?,Array.getD_eq_getD_getElem?,e,Nat.zero_add]
theorem zqk{p:Array Nat}(ho:Ok n p){m:Nat}(h1:1≤m)(hm:m≤n)(hd:Dn r p m):Ev n r (kas_tail3 m n p) (fun x=>1≤x.1∧x.1≤n∧Ok n x.2∧Up r x.2 x.1):=by
 unfold kas_tail3;refine Ev.bind ((zoF hr (zlg hr ho 0 m) (n - m) m (by omega) h1 fun i j hij hj=> ?_).mono fun x h=>⟨h.1,h.2.2.1,zlg hr ho 0 m,h.2.2.2.1⟩);rw[zlh hr ho hm (by omega),zlh hr ho hm hj];exact hd _ _ (by omega) (by omega)
theorem zoG{p:Array Nat}(ho:Ok n p)(h1:1≤n):Ev n r (kas_count n p) (fun x=>1≤x.1∧x.1≤n∧Ok n x.2∧Up r x.2 x.1):=by
 unfold kas_count;refine Ev.bind ((zoF hr ho (n - 1) 1 (by omega) (Nat.le_refl _) fun i j hij hj=>by omega).mono fun x h=> ?_);obtain⟨a1,_,a2,hu,hx⟩:=h;by_cases e:x=n
 ·rw[if_pos (by simp [e])];exact⟨a1,a2,ho,hu⟩
 rw[if_neg (by simp [e])];by_cases e1:x>1
 ·rw[if_pos e1];refine Ev.yes (ho.lt (by omega)) (ho.lt (by omega)) (hu 0 (x - 1) (by omega) (by omega)) ?_;rw[if_pos rfl];exact⟨a1,a2,ho,hu⟩
 rw[if_neg e1];obtain rfl:x=1:=by omega
 have c:fv r p 1<fv r p 0:=hx.resolve_left e;unfold kas_descPart;refine Ev.bind ((znM hr ho (n - 2) 2 (by omega) (by omega) fun i j hij hj=> ?_).mono fun y h=> ?_)
 ·obtain rfl:i=0:=by omega
  obtain rfl:j=1:=by omega
  exact c
 ·obtain⟨y1,y2,y3⟩:=y;obtain⟨b1,b2,b3,b4,b5⟩:=h;dsimp only at b1 b2 b3 b4 b5 ⊢;subst b1 b2;rw[if_neg (by decide)];exact zqk hr ho (by omega) b4 b5
theorem zia{p:Array Nat}(ho:Ok n p){k:Nat}(hk:k<n)(hu:Up r p k): ∀(f a b:Nat),b - a≤f→a≤b→b≤k→(∀i,i<a→fv r p i<fv r p k)→(∀i,b≤i→i<k→fv r p k<fv r p i)→Ev n r (kas_place p k f a b) (fun l=>l≤k∧(∀i,i<l→fv r p i<fv r p k)∧ ∀i,l≤i→i<k→fv r p k<fv r p i)
 |0,a,b,hf,ab,bk,h1,h2=>by
  obtain rfl:a=b:=by omega
  exact⟨bk,h1,h2⟩
 |f+1,a,b,hf,ab,bk,h1,h2=>by
  unfold kas_place;by_cases e:a≥b
  ·rw[if_pos e];obtain rfl:a=b:=by omega
   exact⟨bk,h1,h2⟩
  rw[if_neg e];by_cases c:fv r p k<fv r p ((a+b) / 2)
  ·refine Ev.yes (ho.lt hk) (ho.lt (by omega)) c ?_;rw[if_pos rfl];refine zia ho hk hu f a ((a+b) / 2) (by omega) (by omega) (by omega) h1 fun i hi ik=> ?_;by_cases z:i=(a+b) / 2
   ·rw[z];exact c
   ·exact Int.lt_trans c (hu _ _ (by omega) ik)
  ·refine Ev.no (ho.lt hk) (ho.lt (by omega)) (ho.ne (by omega) hk).symm c ?_;rw[if_neg (by decide)]
   have:=ho.fne hr (i:=(a+b) / 2) (j:=k) (by omega) hk;refine zia ho hk hu f ((a+b) / 2+1) b (by omega) (by omega) bk (fun i hi=> ?_) h2;by_cases z:i=(a+b) / 2
   ·rw[z];omega
   ·exact Int.lt_trans (hu i ((a+b) / 2) (by omega) (by omega)) (by omega)
theorem zql: ∀(f k:Nat) {p:Array Nat},Ok n p→k+f=n→Up r p k→Ev n r (kas_bin f p k) (fun q=>Ok n q∧Up r q n)
 |0,k,p,ho,hk,hu=>⟨ho,by
  obtain rfl:k=n:=by omega
  exact hu⟩
 |f+1,k,p,ho,hk,hu=>by
  unfold kas_bin;refine Ev.bind ((zia hr ho (by omega) hu k 0 k (by omega) (by omega) (Nat.le_refl _) (fun i hi=>by omega) fun i h1 h2=>by omega).mono fun l h=> ?_);obtain⟨lk,h1,h2⟩:=h;have ho':Ok n (bubble p k (k - l)):=(bubble_perm p k _).trans ho;refine zql f (k+1) ho' (by omega) fun i j hij hj=> ?_;have at_: ∀x,fv r (bubble p k (k - l)) x=if x=l then fv r p k else if l<x∧x≤k then fv r p (x - 1) else fv r p x:=fun x=>by
   have e:=getElem?_bubble (xs:=p) (src:=k) (by rw[ho.size];omega) (k - l) (by omega) x;rw[show k - (k - l)=l by omega] at e;unfold fv;rw[Array.getD_eq_getD_getElem?,e];by_cases z1:x=l
   ·rw[if_pos z1,if_pos z1,Array.getD_eq_getD_getElem?]
   ·rw[if_neg z1,if_neg z1];by_cases z2:l<x∧x≤k
    ·rw[if_pos z2,if_pos z2,Array.getD_eq_getD_getElem?]
    ·rw[if_neg z2,if_neg z2,Array.getD_eq_getD_getElem?]
  rw[at_,at_];by_cases z1:i=l
  ·rw[if_pos z1,if_neg (by omega),if_pos (by omega)];exact h2 _ (by omega) (by omega)
  ·rw[if_neg z1];by_cases z2:l<i
   ·rw[if_pos (by omega),if_neg (by omega),if_pos (by omega)];exact hu _ _ (by omega) (by omega)
   ·rw[if_neg (by omega)];by_cases z3:j=l
    ·rw[if_pos z3];exact h1 i (by omega)
    ·rw[if_neg z3];by_cases z4:l<j
     ·rw[if_pos (by omega)];exact hu _ _ (by omega) (by omega)
     ·rw[if_neg (by omega)];exact hu _ _ hij (by omega)
theorem zqm(h1:1≤n):Ev n r (kas_sort n) (fun p=>Ok n p∧Up r p n):=by
 unfold kas_sort;refine Ev.bind ((zoG hr (Array.Perm.refl _) h1).mono fun x h=> ?_);obtain⟨a1,a2,ho,hu⟩:=h;by_cases e:x.1<n
 ·rw[if_pos e,Nat.max_eq_left a1];exact zql hr (n - x.1) x.1 ho (by omega) hu
 ·rw[if_neg e];obtain e2:x.1=n:=by omega
  rw[e2] at hu;exact⟨ho,hu⟩
end
end L2.So
namespace L2.So
open PySem PySem.W PySem.Calls PyProof.Rows
def Tr(h:Heap)(v:Value)(a b c:Int):Prop:= ∃ad o xs k t1 t2 t3 rest,v= .ref ad∧h.get? ad=some o∧o.cls= .type "tuple"∧o.data= .seq xs k∧xs.toList= .int a t1:: .int b t2:: .int c t3::rest
theorem Tr.keep{h h':Heap}{v:Value}{a b c:Int}(k: ∀b o,h.get? b=some o→h'.get? b=some o):Tr h v a b c→Tr h' v a b c
 |⟨ad,o,xs,n,t1,t2,t3,rest,e1,e2,r⟩=>⟨ad,o,xs,n,t1,t2,t3,rest,e1,k _ _ e2,r⟩
section
variable {prog:Program} {w:World} {A:Around} {E:Value→Shared→Prop} {s:Shared}
theorem zib{b fin:Bool}{Q:Bool→Shared→Prop}{x y:Int}{t u:Tok}{r:List (Value×Value)}{i:Nat}(h1:x=y→KatLex prog w A b fin Q r (i+1) s)(h2:x≠y→wpAny (model prog w) A (oneLt' (b && i==0) (.int x t) (.int y u)) Q (fun _ _=>False) s):KatLex prog w A b fin Q ((.int x t, .int y u)::r) i s:=by
 refine kat_cons (wpAny_eqBool_int (kat_go (fun e=>kat_yes (h1 (by simpa using e))) fun e=>kat_no (h2 (by simpa using e))))
theorem zqn{v v':Value}{a b c a' b' c':Int}{Q:Bool→Shared→Prop}{R R':Int}(h:Tr s.heap v a b c)(h':Tr s.heap v' a' b' c')(hc:c≠c')(hR:R<R'↔a<a'∨a=a'∧(b<b'∨b=b'∧c<c'))(q:Q (decide (R<R')) s):wpAny (model prog w) A (keyLt' (tuples' true) v v') Q E s:=by
 obtain⟨ad,o,xs,n,t1,t2,t3,rest,rfl,e2,_,e4,e5⟩:=h;obtain⟨ad',o',xs',n',u1,u2,u3,rest',rfl,f2,_,f4,f5⟩:=h';refine kat_lt e2 e4 f2 f4 ?_;rw[e5,f5];refine zib (fun z1=>zib (fun z2=>zib (fun z3=>absurd z3 hc) fun z3=> ?_) fun z2=> ?_) fun z1=> ?_
 ·refine kat_one _ _ (PyProof.Rows.lt_int (show Q (decide (c<c')) s from ?_));rw[show (decide (c<c'))=decide (R<R') from decide_eq_decide.mpr (by rw[hR];omega)];exact q
 ·refine kat_one _ _ (PyProof.Rows.lt_int (show Q (decide (b<b')) s from ?_));rw[show (decide (b<b'))=decide (R<R') from decide_eq_decide.mpr (by rw[hR];omega)];exact q
 ·refine oneLt_int ?_;rw[show (decide (a<a'))=decide (R<R') from decide_eq_decide.mpr (by rw[hR];omega)];exact q
end
end L2.So
namespace L2.So
open PySem PySem.W PySem.Calls PyProof.Rows
section
variable {prog:Program} {w:World} {A:Around} {E:Value→Shared→Prop} {s:Shared} {vs:List Value} {r:Nat→Int} {ka kb kc:Nat→Int}
structure Keys (h:Heap) (vs:List Value) (r ka kb kc:Nat→Int):Prop where
 tup: ∀i,i<vs.length→Tr h (vs.getD i Value.none) (ka i) (kb i) (kc i)
 num: ∀i j,i<vs.length→j<vs.length→i≠j→kc i≠kc j
 rank: ∀i j,i<vs.length→j<vs.length→(r i<r j↔ka i<ka j∨ka i=ka j∧(kb i<kb j∨kb i=kb j∧kc i<kc j))
theorem Keys.keep{h h':Heap}(k: ∀b o,h.get? b=some o→h'.get? b=some o)(H:Keys h vs r ka kb kc):Keys h' vs r ka kb kc:=⟨fun i hi=>(H.tup i hi).keep k,H.num,H.rank⟩
theorem Keys.inj{h:Heap}(H:Keys h vs r ka kb kc):Inj vs.length r:=fun i j hi hj hn e=>by
 have:=H.num i j hi hj hn;have h1:=H.rank i j hi hj;have h2:=H.rank j i hj hi;rcases Int.lt_trichotomy (kc i) (kc j) with z|z|z
 ·omega
 ·exact this z
 ·omega
theorem ziY{h:Heap}{ka kb kc:Nat→Int}: ∀(vs:List Value) (o:Nat),(∀i,i<vs.length→Tr h (vs.getD i Value.none) (ka (o+i)) (kb (o+i)) (kc (o+i)))→ ∃fs,KatTups h vs fs∧fs.length=vs.length∧ ∀v∈fs,∃x t,v=Value.int x t
 | [],_,_=>⟨[],trivial,rfl,fun _ hv=>nomatch hv⟩
 |v::vs,o,H=>by
  obtain⟨fs,h1,h2,h3⟩:=ziY (ka:=ka) (kb:=kb) (kc:=kc) vs (o+1) fun i hi=>by
   have:=H (i+1) (by rw[List.length_cons];omega);rwa[List.getD_cons_succ,show o+(i+1)=o+1+i by omega] at this
  obtain⟨ad,ob,xs,k,t1,t2,t3,rest,e1,e2,e3,e4,e5⟩:=H 0 (by rw[List.length_cons];omega);rw[List.getD_cons_zero] at e1;subst e1;refine⟨.int (ka (o+0)) t1::fs,KatTups.cons e2 e3 e4 ?_ h1,by rw[List.length_cons,List.length_cons,h2],fun v hv=> ?_⟩
  ·rw[←Array.getElem?_toList,e5];rfl
  ·rcases List.mem_cons.mp hv with rfl|hv
   ·exact⟨_,_,rfl⟩
   ·exact h3 v hv
theorem zic{a:Addr}{n:Nat}{P:PySem.Fin→Shared→Prop}(ho:s.heap.get? a=some (seqObj "list" vs.toArray n))(hK:Keys s.heap vs r ka kb kc)(hna: ∀i,i<vs.length→vs.getD i Value.none≠ .ref a)(h2:2≤vs.length)(h64:vs.length<64)
  (h: ∀p:Array Nat,Ok vs.length p→Up r p vs.length→P (.done (.ret .none)) {s with heap:=sortedHeap s.heap a vs (List.toArray (p.toList.map fun i=>vs.getD i Value.none))}):wpAny (model prog w) A (Builtin.«list.sort» ⟨[.ref a], []⟩) P E s:=by
 have ha:a<s.heap.objs.size:=Heap.lt_size ho;obtain⟨e1,g1⟩: ∃e1,(s.heap.update a (Obj.mapSeq fun _=>(#[]:Array Value))).get? a=some (seqObj "list" #[] e1):=⟨_,get?_update_seq ho fun _=> #[]⟩
 obtain⟨h3,hh3⟩: ∃h3,h3=((s.heap.update a (Obj.mapSeq fun _=>(#[]:Array Value))).push (seqObj "tuple" vs.toArray 0)).push (seqObj "list" #[] 0):=⟨_,rfl⟩
 have g3:h3.get? a=some (seqObj "list" #[] e1):=by rw[hh3];exact Heap.get?_push_of_some _ (Heap.get?_push_of_some _ g1)
 have K3:Keys h3 vs r ka kb kc:=⟨fun i hi=>by
  obtain⟨ad,o,xs,k,t1,t2,t3,rest,q1,q2,q3⟩:=hK.tup i hi;refine⟨ad,o,xs,k,t1,t2,t3,rest,q1,?_,q3⟩;rw[hh3];refine Heap.get?_push_of_some _ (Heap.get?_push_of_some _ ?_);rw[Heap.get?_update_ne _ _ _ _ fun z=>hna i hi (by rw[q1,z])];exact q2,hK.num,hK.rank⟩
 rw[list_sort_plain];refine wpAny_bind (listItems_at ho rfl (wpAny_bind (listUpdate_at ho rfl ?_ (by rw[List.size_toArray,sizeLine_eq];omega) (Nat.zero_le _))));refine wpAny_bind (seqEpoch_at g1 rfl (wpAny_bind (wpAny_newTuple ?_ (by show vs.length≤_;rw[sizeLine_eq];omega))));refine wpAny_bind (wpAny_newList (wpAny_holding ?_) (Nat.zero_le _));show wpAny (model prog w) A _ P E {s with heap:=((s.heap.update a (Obj.mapSeq fun _=> #[])).push (seqObj "tuple" vs.toArray 0)).push (seqObj "list" #[] 0)};rw[←hh3];dsimp only;have n2: ¬vs.toArray.size<2:=by rw[List.size_toArray];omega
 rw[if_neg n2,if_neg n2];obtain⟨fs,f1,f2,f3⟩:=ziY (ka:=ka) (kb:=kb) (kc:=kc) vs 0 (fun i hi=>by rw[Nat.zero_add];exact K3.tup i hi);refine wpAny_bind (kat_kind (s:={s with heap:=h3}) (T:= .type "int") f1 (by omega) (fun v hv=> ?_) (by decide) ?_)
 ·obtain⟨x,t,rfl⟩:=f3 v hv;exact .now
 refine wpAny_bind (wpAny_mono (kat_run (Q:=fun st' s'=> ∃p:Array Nat,Ok vs.length p∧Up r p vs.length∧arrOf st'=p.map (kas_item (vs.toArray.zip vs.toArray))∧failedOf st'=none∧s'={s with heap:=h3})
  (G:=fun p s'=>Ok vs.length p∧Up r p vs.length∧s'={s with heap:=h3}) rfl h2 h64 (fun p st' s' a1 a2 a3 a4=>⟨p,a4.1,a4.2.1,a2,a3,a4.2.2⟩) (Ev.wp (fun i j C hi hj hn q=> ?_) (fun p q=>⟨q.1,q.2,rfl⟩) (zqm K3.inj (by omega)))) ?_ fun _ _ e=>e)
 ·exact zqn (K3.tup i hi) (K3.tup j hj) (K3.num i j hi hj hn) (K3.rank i j hi hj) q
 rintro⟨⟨⟩,st'⟩ s' ⟨p,a1,a2,a3,a4,rfl⟩;dsimp only;have hout:=kat_snds rfl a3;have hsz:(List.toArray (p.toList.map fun i=>vs.getD i Value.none)).size=vs.length:=by rw[List.size_toArray,List.length_map,Array.length_toList,a1.size]
 rw[hout];refine wpAny_bind (seqEpoch_at g3 rfl (wpAny_bind (listUpdate_at g3 rfl ?_ (Nat.zero_le _) (Nat.le_trans (Nat.le_of_eq hsz) (by rw[sizeLine_eq];omega)))));rw[a4];simp only[bne_self_eq_false,Bool.false_eq_true,if_false];refine wpAny_pure ?_
 have:=h p a1 a2;unfold sortedHeap at this;rw[←hh3] at this;exact this
theorem sorted_tups{l:Addr}{Q:Value→Shared→Prop}(hl:s.heap.IsList l vs.toArray)(hK:Keys s.heap vs r ka kb kc)(h2:2≤vs.length)(h64:vs.length<64)
  (h: ∀p:Array Nat,Ok vs.length p→Up r p vs.length→Q (.ref (s.heap.objs.size+1)) {s with heap:=sortedAll s.heap vs (List.toArray (p.toList.map fun i=>vs.getD i Value.none))}):wpAny (model prog w) A (call (.builtin "sorted") [.ref l]) Q E s:=by
 obtain⟨h2',hh2⟩: ∃h2',h2'=((s.heap.push (seqObj "list" #[] 0)).update s.heap.objs.size (Obj.mapSeq (· ++vs.toArray))).push (seqObj "list" vs.toArray 0):=⟨_,rfl⟩
 have hsz:((s.heap.push (seqObj "list" #[] 0)).update s.heap.objs.size (Obj.mapSeq (· ++vs.toArray))).objs.size=s.heap.objs.size+1:=by rw[Heap.size_update];exact size_push' ..
 have g2:h2'.get? (s.heap.objs.size+1)=some (seqObj "list" vs.toArray 0):=by rw[hh2,←hsz];exact Heap.get?_push_size _ rfl
 have keep: ∀b o,s.heap.get? b=some o→h2'.get? b=some o:=fun b o q=>by
  have hlt:b<s.heap.objs.size:=Heap.lt_size q;rw[hh2];refine Heap.get?_push_of_some _ ?_;rw[Heap.get?_update_ne _ _ _ _ (Nat.ne_of_lt hlt)];exact Heap.get?_push_of_some _ q
 refine Calls.call_function_entry kind_sorted plain_sorted entry_sorted (args_sorted1 _) ?_;unfold Builtin.«sorted»;refine wpAny_bind (m:=checkCount "sorted" 1 1 _) (wpAny_pure (wpAny_bind (collect_list hl (wpAny_bind (wpAny_newList ?_ (by rw[sizeLine_eq];omega))) (by rw[sizeLine_eq];omega))));show wpAny _ _ _ _ _ {s with heap:=((s.heap.push (seqObj "list" #[] 0)).update s.heap.objs.size (Obj.mapSeq (· ++vs.toArray))).push _};rw[hsz,←hh2];refine wpAny_bind (wpAny_holding (wpAny_call_entry slot_list_sort ⟨_,g2,rfl⟩ entry_list_sort (zic (s:={s with heap:=h2'}) g2 (hK.keep keep) (fun i hi z=> ?_) h2 h64 fun p a1 a2=>⟨_,rfl,wpAny_pure ⟨_,rfl,?_⟩⟩) (args_list_sort _)))
 ·obtain⟨ad,o,xs,k,t1,t2,t3,rest,q1,q2,q3⟩:=hK.tup i hi;rw[z] at q1;cases q1;exact absurd (Heap.lt_size q2) (Nat.not_lt.mpr (Nat.le_succ _))
 ·have:=h p a1 a2;unfold sortedAll at this;rw[←hh2] at this;exact this
end
end L2.So
namespace L2
open PySem PySem.Spec PyProof.Rows
abbrev Tz:=Addr×Int×Int×Int
def rkT(z:Tz):Int:=(z.2.1*4000000+z.2.2.1)*64+z.2.2.2
def zli(z:Tz):Prop:=(0≤z.2.1∧z.2.1<4000000)∧(0≤z.2.2.1∧z.2.2.1<4000000)∧0≤z.2.2.2∧z.2.2.2<64
theorem zf9: ∀as:List Addr,zaI (as.map V.ref) (as.map Value.ref)
 | []=> .nil
 |_::r=> .cons rfl (zf9 r)
theorem zdD: ∀{zs:List Tz} {its:List Value},zaI (zs.map fun z=>V.ref z.1) its→its=zs.map fun z=>Value.ref z.1
 | [],_,h=>by cases h;rfl
 |z::zs,_,h=>by
  cases h with
  |cons r t=>
   rw[zdD t];rw[show _=Value.ref z.1 from r];rfl
theorem zdE{x:V}{xs:List V}{its:List Value}(h:zaI (x::xs) its): ∃u us,its=u::us∧zaC x u∧zaI xs us:=by
 cases h with
 |cons r t=>exact⟨_,_,rfl,r,t⟩
theorem zga{α:Type}{l:List α}{i:Nat}{d:α}(h:i<l.length):l.getD i d∈l:=by
 rw[List.getD_eq_getElem?_getD,List.getElem?_eq_getElem h];exact List.getElem_mem h
theorem zid{α:Type}(d:α)(l:List α):(List.range l.length).map (fun i=>l.getD i d)=l:=by
 refine List.ext_getElem (by simp) fun i h1 h2=> ?_;simp [List.getD_eq_getElem?_getD,List.getElem?_eq_getElem h2]
theorem zgJ{X:Cx}:zbK X (.builtin "sorted") (fun xs H Q=> ∃(p:Addr) (zs:List Tz),xs= [.ref p]∧H p=some (.lst (zs.map fun z=>V.ref z.1))∧2≤zs.length∧zs.length<64∧(∀z∈zs,zli z∧ ∃r,H z.1=some (.tup (.int z.2.1:: .int z.2.2.1:: .int z.2.2.2::r)))∧zs.Pairwise (fun x y=>x.2.2.2≠y.2.2.2)∧ ∀ws:List Tz,ws.Perm zs→ws.Pairwise (fun x y=>x.2.1≤y.2.1∧rkT x<rkT y)→New H (.lst (ws.map fun z=>V.ref z.1)) Q):=by
 intro pins s σ H xs us Q I r h;obtain⟨p,zs,rfl,hp,h2,h64,hz,hn,q⟩:=h;obtain⟨u,rfl,ru⟩:=zc2 r;obtain rfl:u=Value.ref p:=ru;obtain⟨hln,its,n,rv,pl⟩:=I.hok _ _ hp;have ei:its=zs.map fun z=>Value.ref z.1:=by
  have:=zdD rv;exact this
 subst ei;have hl:(zs.map fun z=>Value.ref z.1).length=zs.length:=List.length_map ..;have gz: ∀i,i<zs.length→(zs.map fun z=>Value.ref z.1).getD i Value.none=Value.ref (zs.getD i (0,0,0,0)).1:=fun i hi=>by
  rw[List.getD_eq_getElem?_getD,List.getElem?_map,List.getD_eq_getElem?_getD,List.getElem?_eq_getElem hi];rfl
 have inb: ∀i,i<zs.length→zli (zs.getD i (0,0,0,0)):=fun i hi=>(hz _ (zga hi)).1;have hK:So.Keys s.heap (zs.map fun z=>Value.ref z.1) (fun i=>((zs.getD i (0,0,0,0)).2.1*4000000+(zs.getD i (0,0,0,0)).2.2.1)*64+(zs.getD i (0,0,0,0)).2.2.2) (fun i=>(zs.getD i (0,0,0,0)).2.1) (fun i=>(zs.getD i (0,0,0,0)).2.2.1) (fun i=>(zs.getD i (0,0,0,0)).2.2.2):=by
  refine⟨fun i hi=> ?_,fun i j hi hj hij=> ?_,fun i j hi hj=> ?_⟩
  ·rw[hl] at hi;rw[gz i hi];obtain⟨_,rest,e⟩:=hz _ (zga (d:=(0,0,0,0)) hi);obtain⟨_,ts,tv,o,e1,e2,k,e3⟩:=I.hok _ _ e;obtain⟨x1,ts1,rfl,⟨t1,rfl⟩,tv1⟩:=zdE tv;obtain⟨x2,ts2,rfl,⟨t2,rfl⟩,tv2⟩:=zdE tv1;obtain⟨x3,ts3,rfl,⟨t3,rfl⟩,tv3⟩:=zdE tv2;exact⟨_,o,_,k,t1,t2,t3,ts3,rfl,e1,e2,e3,rfl⟩
  ·rw[hl] at hi hj;show (zs.getD i (0,0,0,0)).2.2.2≠(zs.getD j (0,0,0,0)).2.2.2;rw[List.getD_eq_getElem?_getD,List.getD_eq_getElem?_getD,List.getElem?_eq_getElem hi,List.getElem?_eq_getElem hj];rcases Nat.lt_or_gt_of_ne hij with z|z
   ·exact List.pairwise_iff_getElem.mp hn i j hi hj z
   ·exact(List.pairwise_iff_getElem.mp hn j i hj hi z).symm
  ·rw[hl] at hi hj;have b1:=inb i hi;have b2:=inb j hj;unfold zli at b1 b2;generalize zs.getD i (0,0,0,0)=u at b1 ⊢;generalize zs.getD j (0,0,0,0)=v at b2 ⊢;omega
 refine So.sorted_tups ⟨_,pl,rfl,_,rfl⟩ hK (by rw[hl];exact h2) (by rw[hl];exact h64) fun pm a1 a2=> ?_;rw[hl] at a1 a2;obtain⟨ws,hw⟩: ∃ws,ws=pm.toList.map fun i=>zs.getD i (0,0,0,0):=⟨_,rfl⟩
 have pz:pm.toList.length=zs.length:=by rw[Array.length_toList,a1.size]
 have inp: ∀i∈pm.toList,i<zs.length:=fun i hi=>by
  have:=a1.toList.mem_iff.mp hi;simpa using this
 have ew:(pm.toList.map fun i=>(zs.map fun z=>Value.ref z.1).getD i Value.none)=ws.map fun z=>Value.ref z.1:=by
  rw[hw,List.map_map];exact List.map_congr_left fun i hi=>gz i (inp i hi)
 rw[ew];have wp:ws.Perm zs:=by
  have:=(a1.toList.map fun i=>zs.getD i (0,0,0,0))
  rw[←hw] at this;rw[show (List.range zs.length).toArray.toList=List.range zs.length from rfl,zid] at this;exact this
 have wl:ws.length=zs.length:=wp.length_eq;have wo:ws.Pairwise (fun x y=>x.2.1≤y.2.1∧rkT x<rkT y):=by
  rw[hw,List.pairwise_map,List.pairwise_iff_getElem];intro i j hi hj hij;have e:=a2 i j hij (by omega);unfold So.fv at e;have g: ∀(k:Nat) (hk:k<pm.toList.length),pm.getD k 0=pm.toList[k]:=fun k hk=>by
   have:k<pm.size:=by simpa using hk
   simp [Array.getD,this]
  rw[g i hi,g j hj] at e;dsimp only at e;have b1:=inb _ (inp _ (List.getElem_mem hi));have b2:=inb _ (inp _ (List.getElem_mem hj));unfold zli at b1 b2;unfold rkT;generalize zs.getD pm.toList[i] (0,0,0,0)=u at e b1 ⊢;generalize zs.getD pm.toList[j] (0,0,0,0)=v at e b2 ⊢;omega
 obtain⟨ep,at_⟩:=sortedAll_at s.heap (zs.map fun z=>Value.ref z.1) (List.toArray (ws.map fun z=>Value.ref z.1));have hf:H (s.heap.objs.size+1)=none:=I.hok.fresh (Nat.le_succ _);refine⟨.ref (s.heap.objs.size+1),upd H (s.heap.objs.size+1) (.lst (ws.map fun z=>V.ref z.1)),I.laid (t':=s.toks) (fun b u e=>sortedAll_old e) (Nat.le_succ _) ?_,rfl,(q ws wp wo).at hf⟩;refine⟨by rw[List.length_map,wl];rw[List.length_map] at hln;exact hln,ws.map fun z=>Value.ref z.1,ep,?_,at_⟩
 have:=zf9 (ws.map (·.1));rw[List.map_map,List.map_map] at this;exact this
end L2
namespace L2
open PySem PySem.Spec PyProof.Rows
def zm1(w:World):List DictEntry→List (Str×V)→Prop
 | [], []=>True
 |e::es,kv::r=>(∃t,e.key= .str kv.1 t)∧e.hash=PyData.keyHash w.params kv.1∧zaC kv.2 e.val∧zm1 w es r
 |_,_=>False
theorem znN(P:Program){w:World}: ∀{es:List DictEntry} {kvs:List (Str×V)},zm1 w es kvs→ ∃vs:List (Key×Value),vs.map (·.1)=kvs.map (fun kv=>Sum.inr kv.1)∧(∀e∈es,∃k,(zaW P w).is k e.key=true∧e.hash=(zaW P w).hash k)∧Pairs (zaW P w) es vs∧ ∀k v,kvs.lookup k=some v→ ∃u,valueAt vs (Sum.inr k)=some u∧zaC v u
 | [], [],_=>⟨[],rfl,(fun _ h=>nomatch h), .nil,(fun _ _ h=>nomatch h)⟩
 |e::es,kv::r,h=>by
  obtain⟨⟨t,h1⟩,h2,h3,h4⟩:=h;obtain⟨vs,a1,a2,a3,a4⟩:=znN P h4;have ki:(zaW P w).is (Sum.inr kv.1) e.key=true:=by rw[h1];exact zer (k:=Sum.inr kv.1) ⟨t,rfl⟩
  refine⟨(Sum.inr kv.1,e.val)::vs,by rw[List.map_cons,List.map_cons,a1],fun x hx=> ?_, .cons ki rfl a3,fun k v hk=> ?_⟩
  ·rcases List.mem_cons.mp hx with rfl|hx
   ·exact⟨Sum.inr kv.1,ki,h2⟩
   ·exact a2 x hx
  ·obtain⟨kn,kd⟩:=kv;rw[List.lookup_cons] at hk;by_cases z:k=kn
   ·subst z;rw[beq_self_eq_true] at hk;cases hk;exact⟨e.val,by unfold valueAt;rw[List.find?_cons_of_pos (by simp)];rfl,h3⟩
   ·rw[beq_false_of_ne z] at hk;obtain⟨u,b1,b2⟩:=a4 k v hk;refine⟨u,?_,b2⟩;unfold valueAt at b1 ⊢;rw[List.find?_cons_of_neg (by simp only[decide_eq_true_eq];exact fun q=>z (Sum.inr.inj q).symm)];exact b1
 | [],_::_,h=>h.elim
 |_::_, [],h=>h.elim
def tDc(kvs:List (Str×V))(ty:TE):TE:=fun σ H Q=>ty σ H fun y H1=> ∃k v,y= .str k∧kvs.lookup k=some v∧Q v H1
def zqo(w:World)(K:Fg)(mg:Str→Option Value)(x:Str)(kvs:List (Str×V)):Prop:= ∃(a:Addr) (es:Array DictEntry) (ep:Nat),mg x=some (.ref a)∧K.lookup a=some ⟨.type "dict",none, .dict es ep, #[]⟩∧zm1 w es.toList kvs∧(kvs.map (·.1)).Nodup
theorem zlj{X:Cx}{x:Str}{i:Expr}{ty:TE}{kvs:List (Str×V)}{p pos:Pos}(hg:Gl X x)(hc:zqo X.w X.K X.mg x kvs)(hi:PE X i ty)(hs:zoz i)(hd:(x==("__debug__":Str))=false:=by decide):PE X (.Subscript (.Name x p) i pos) (tDc kvs ty):=by
 obtain⟨a,es,ep,hm,hl,he,hn⟩:=hc;intro pins s σ H Q I h;refine ziW PySem.F.slot_dict_getitem.lookup hs (zdK I hg hm (thn (hi pins s σ H _ I h) fun iv s2 ⟨y,H2,I2,ry,k,v,ey,hk,q2⟩=> ?_) hd);subst ey;have ha:=I2.kIn a _ hl;obtain⟨vs,a1,a2,a3,a4⟩:=znN X.prog he;obtain⟨u,b1,b2⟩:=a4 k v hk;have nd:(vs.map (·.1)).Nodup:=by
  rw[a1,show (kvs.map fun kv=>(Sum.inr kv.1:Key))=(kvs.map (·.1)).map Sum.inr by rw[List.map_map];rfl];exact hn.map _ fun _ _ h q=>h (Sum.inr.inj q)
 have dd:s2.heap.DictOf (zaW X.prog X.w) a vs:=⟨_,es,ep,ha,⟨rfl,rfl,rfl⟩,rfl,fun e he=>a2 e (Array.mem_toList_iff.mpr he),a3,nd⟩
 exact⟨dd.typeIs,wpAny_getItem_of (zer (k:=Sum.inr k) ry) dd.mapOf b1 ⟨v,H2,I2.tok _,b2,q2⟩⟩
end L2
namespace L2.So
open PySem PySem.W PySem.Calls PyProof.Rows
section
variable {prog:Program} {w:World} {A:Around} {E:Value→Shared→Prop} {s:Shared} {vs:List Value}
theorem zhn{a:Addr}{n:Nat}{P:PySem.Fin→Shared→Prop}(ho:s.heap.get? a=some (seqObj "list" vs.toArray n))(h2:vs.length<2)(h:P (.done (.ret .none)) {s with heap:=sortedHeap s.heap a vs vs.toArray}):wpAny (model prog w) A (Builtin.«list.sort» ⟨[.ref a], []⟩) P E s:=by
 obtain⟨e1,g1⟩: ∃e1,(s.heap.update a (Obj.mapSeq fun _=>(#[]:Array Value))).get? a=some (seqObj "list" #[] e1):=⟨_,get?_update_seq ho fun _=> #[]⟩
 obtain⟨h3,hh3⟩: ∃h3,h3=((s.heap.update a (Obj.mapSeq fun _=>(#[]:Array Value))).push (seqObj "tuple" vs.toArray 0)).push (seqObj "list" #[] 0):=⟨_,rfl⟩
 have g3:h3.get? a=some (seqObj "list" #[] e1):=by rw[hh3];exact Heap.get?_push_of_some _ (Heap.get?_push_of_some _ g1)
 rw[list_sort_plain];refine wpAny_bind (listItems_at ho rfl (wpAny_bind (listUpdate_at ho rfl ?_ (by rw[List.size_toArray,sizeLine_eq];omega) (Nat.zero_le _))));refine wpAny_bind (seqEpoch_at g1 rfl (wpAny_bind (wpAny_newTuple ?_ (by show vs.length≤_;rw[sizeLine_eq];omega))));refine wpAny_bind (wpAny_newList (wpAny_holding ?_) (Nat.zero_le _));show wpAny (model prog w) A _ P E {s with heap:=((s.heap.update a (Obj.mapSeq fun _=> #[])).push (seqObj "tuple" vs.toArray 0)).push (seqObj "list" #[] 0)};rw[←hh3];dsimp only;have n2:vs.toArray.size<2:=by rw[List.size_toArray];omega
 rw[if_pos n2,if_pos n2];refine wpAny_bind (wpAny_pure ?_);rw[StateT.run_pure];refine wpAny_bind (wpAny_pure ?_);dsimp only;have eo:(arrOf (SortSt.mk' general' (vs.toArray.zip vs.toArray) #[] 7 none)).map (·.2)=vs.toArray:=by
  show (vs.toArray.zip vs.toArray).map (·.2)=vs.toArray;rw[Array.map_snd_zip (Nat.le_refl _)]
 rw[eo];refine wpAny_bind (seqEpoch_at g3 rfl (wpAny_bind (listUpdate_at g3 rfl ?_ (Nat.zero_le _) (by rw[List.size_toArray,sizeLine_eq];omega))));simp only[bne_self_eq_false,Bool.false_eq_true,if_false];refine wpAny_pure ?_;unfold sortedHeap at h;rw[←hh3] at h;exact h
theorem sorted_short{l:Addr}{Q:Value→Shared→Prop}(hl:s.heap.IsList l vs.toArray)(h2:vs.length<2)(h:Q (.ref (s.heap.objs.size+1)) {s with heap:=sortedAll s.heap vs vs.toArray}):wpAny (model prog w) A (call (.builtin "sorted") [.ref l]) Q E s:=by
 obtain⟨h2',hh2⟩: ∃h2',h2'=((s.heap.push (seqObj "list" #[] 0)).update s.heap.objs.size (Obj.mapSeq (· ++vs.toArray))).push (seqObj "list" vs.toArray 0):=⟨_,rfl⟩
 have hsz:((s.heap.push (seqObj "list" #[] 0)).update s.heap.objs.size (Obj.mapSeq (· ++vs.toArray))).objs.size=s.heap.objs.size+1:=by rw[Heap.size_update];exact size_push' ..
 have g2:h2'.get? (s.heap.objs.size+1)=some (seqObj "list" vs.toArray 0):=by rw[hh2,←hsz];exact Heap.get?_push_size _ rfl
 refine Calls.call_function_entry kind_sorted plain_sorted entry_sorted (args_sorted1 _) ?_;unfold Builtin.«sorted»;refine wpAny_bind (m:=checkCount "sorted" 1 1 _) (wpAny_pure (wpAny_bind (collect_list hl (wpAny_bind (wpAny_newList ?_ (by rw[sizeLine_eq];omega))) (by rw[sizeLine_eq];omega))));show wpAny _ _ _ _ _ {s with heap:=((s.heap.push (seqObj "list" #[] 0)).update s.heap.objs.size (Obj.mapSeq (· ++vs.toArray))).push _};rw[hsz,←hh2];refine wpAny_bind (wpAny_holding (wpAny_call_entry slot_list_sort ⟨_,g2,rfl⟩ entry_list_sort (zhn (s:={s with heap:=h2'}) g2 h2 ⟨_,rfl,wpAny_pure ⟨_,rfl,?_⟩⟩) (args_list_sort _)));unfold sortedAll at h;rw[←hh2] at h;exact h
end
end L2.So
namespace L2
open PySem PySem.Spec PyProof.Rows
theorem zgK{X:Cx}:zbK X (.builtin "sorted") (fun xs H Q=> ∃(p:Addr) (zs:List Tz),xs= [.ref p]∧H p=some (.lst (zs.map fun z=>V.ref z.1))∧zs.length<64∧(∀z∈zs,zli z∧ ∃r,H z.1=some (.tup (.int z.2.1:: .int z.2.2.1:: .int z.2.2.2::r)))∧zs.Pairwise (fun x y=>x.2.2.2≠y.2.2.2)∧ ∀ws:List Tz,ws.Perm zs→ws.Pairwise (fun x y=>x.2.1≤y.2.1∧rkT x<rkT y)→New H (.lst (ws.map fun z=>V.ref z.1)) Q):=by
 intro pins s σ H xs us Q I r h;obtain⟨p,zs,rfl,hp,h64,hz,hn,q⟩:=h;by_cases h2:2≤zs.length
 ·exact zgJ pins s σ H _ us Q I r ⟨p,zs,rfl,hp,h2,h64,hz,hn,q⟩
 obtain⟨u,rfl,ru⟩:=zc2 r;obtain rfl:u=Value.ref p:=ru;obtain⟨hln,its,n,rv,pl⟩:=I.hok _ _ hp;have ei:its=zs.map fun z=>Value.ref z.1:=zdD rv;subst ei;refine So.sorted_short ⟨_,pl,rfl,_,rfl⟩ (by rw[List.length_map];omega) ?_;obtain⟨ep,at_⟩:=sortedAll_at s.heap (zs.map fun z=>Value.ref z.1) (List.toArray (zs.map fun z=>Value.ref z.1));have hf:H (s.heap.objs.size+1)=none:=I.hok.fresh (Nat.le_succ _);have so:zs.Pairwise (fun x y=>x.2.1≤y.2.1∧rkT x<rkT y):=by
  match zs,h2 with
  | [],_=>exact .nil
  | [z],_=>exact List.pairwise_singleton ..
  |_::_::r,h=>exact absurd (by rw[List.length_cons,List.length_cons];omega) h
 exact⟨.ref (s.heap.objs.size+1),upd H (s.heap.objs.size+1) (.lst (zs.map fun z=>V.ref z.1)),I.laid (t':=s.toks) (fun b u e=>sortedAll_old e) (Nat.le_succ _) ⟨hln,zs.map fun z=>Value.ref z.1,ep,rv,at_⟩,rfl,(q zs (.refl _) so).at hf⟩
end L2
namespace L2
open PySem PySem.Spec PyProof.Rows
section
variable {prog:Program} {w:World} {A:Around} {E:Value→Shared→Prop} {s:Shared}
end
end L2
namespace L2
open PySem PySem.Spec PyProof.Rows
end L2
namespace L2
open PySem PySem.Spec PyProof.Rows
theorem zcU: ∀{zs:List Int} {us:List Value},zaI (zs.map V.int) us→IntsAre us zs
 | [], [],_=> .nil
 |_::_,_::_, .cons ⟨_,e⟩ t=>by subst e;exact .cons _ _ (zcU t)
theorem zcV: ∀{us:List Value} {zs:List Int},IntsAre us zs→zaI (zs.map V.int) us
 | [], [],_=> .nil
 |_::_,_::_,h=>by
  cases h with
  |cons a b c=>exact .cons ⟨_,rfl⟩ (zcV (by assumption))
theorem zgL{X:Cx}:zbK X (.builtin "sorted") (fun xs H Q=> ∃(p:Addr) (zs:List Int),xs= [.ref p]∧H p=some (.lst (zs.map V.int))∧zs.length<64∧ ∀ws:List Int,ws.Perm zs→ws.Pairwise (· ≤ ·)→New H (.lst (ws.map V.int)) Q):=by
 intro pins s σ H xs us Q I r h;obtain⟨p,zs,rfl,hp,h64,q⟩:=h;obtain⟨u,rfl,ru⟩:=zc2 r;obtain rfl:u=Value.ref p:=ru;obtain⟨hln,its,n,rv,pl⟩:=I.hok _ _ hp;have il:its.length=zs.length:=by rw[←rv.length,List.length_map]
 refine sorted_ints ⟨_,pl,rfl,_,rfl⟩ (zcU rv) (by rw[il];exact h64) fun out ns' a1 a2 a3=> ?_;obtain⟨ep,at_⟩:=sortedAll_at s.heap its out;have hf:H (s.heap.objs.size+1)=none:=I.hok.fresh (Nat.le_succ _);refine⟨.ref (s.heap.objs.size+1),upd H (s.heap.objs.size+1) (.lst (ns'.map V.int)),I.laid (t':=s.toks) (fun b u e=>sortedAll_old e) (Nat.le_succ _) ?_,rfl,(q ns' a2 a3).at hf⟩;exact⟨by rw[List.length_map,a2.length_eq];rw[List.length_map] at hln;exact hln,out.toList,ep,zcV a1,by rw[Array.toArray_toList];exact at_⟩
end L2
namespace L2.Tm
open PySem PyProof.Rows
abbrev AK:=Array Keyed
structure TB (a₀:AK) (st:SortSt):Prop where
 pm:(arrOf st).Perm a₀
 kd:kindOf st=oneType'
 fl:failedOf st=none
def Sg(xs:AK)(lo hi:Nat):Prop:= ∀i j,lo≤i→i≤j→j<hi→K xs i≤K xs j
def Dg(xs:AK)(lo hi:Nat):Prop:= ∀i j,lo≤i→i≤j→j<hi→K xs j≤K xs i
def Off(lo hi:Nat)(xs ys:AK):Prop:= ∀k,k<lo∨hi≤k→K xs k=K ys k
theorem Off.refl{lo hi:Nat}{xs:AK}:Off lo hi xs xs:=fun _ _=>rfl
theorem Off.wide{lo hi lo' hi':Nat}{xs ys:AK}(h:Off lo hi xs ys)(a:lo'≤lo)(b:hi≤hi'):Off lo' hi' xs ys:=fun k q=>h k (by omega)
theorem Sg.one{xs:AK}{lo hi:Nat}(h:hi≤lo+1):Sg xs lo hi:=fun i j a b c=>by
 obtain rfl:i=j:=by omega
 exact Int.le_refl _
theorem Sg.next{xs:AK}{lo x:Nat}(h:Sg xs lo x)(q:K xs (x - 1)≤K xs x):Sg xs lo (x+1):=fun i j a b c=>by
 by_cases e:j<x
 ·exact h i j a b e
 obtain rfl:j=x:=by omega
 by_cases e2:i=j
 ·rw[e2];exact Int.le_refl _
 exact Int.le_trans (h i (j - 1) a (by omega) (by omega)) q
theorem Dg.next{xs:AK}{lo x:Nat}(h:Dg xs lo x)(q:K xs x≤K xs (x - 1)):Dg xs lo (x+1):=fun i j a b c=>by
 by_cases e:j<x
 ·exact h i j a b e
 obtain rfl:j=x:=by omega
 by_cases e2:i=j
 ·rw[e2];exact Int.le_refl _
 exact Int.le_trans q (h i (j - 1) a (by omega) (by omega))
theorem Sg.off{xs ys:AK}{lo hi a b:Nat}(h:Sg ys a b)(o:Off lo hi xs ys)(d:b≤lo∨hi≤a):Sg xs a b:=fun i j p q r=>by
 rw[o i (by omega),o j (by omega)];exact h i j p q r
theorem TB.size{a₀:AK}{st:SortSt}(h:TB a₀ st):(arrOf st).size=a₀.size:=h.pm.size_eq
theorem TB.set{a₀:AK}{st:SortSt}(h:TB a₀ st){xs:AK}(hp:xs.Perm (arrOf st)):TB a₀ (setArr st xs):=⟨hp.trans h.pm,h.kd,h.fl⟩
theorem int_at{xs:AK}(h0:IntKeys xs){i:Nat}(hi:i<xs.size): ∃p t,xs[i]? =some p∧p.1= .int (K xs i) t:=by
 have e:xs[i]? =some xs[i]:=getElem?_pos _ i hi;obtain⟨n,t,hn⟩:=h0 xs[i] (by simp);refine⟨_,t,e,?_⟩;unfold K;rw[e];show xs[i].1= .int (numOf xs[i].1) t;rw[hn];rfl
theorem zgM{xs ys:AK}(h:IntKeys ys)(p:xs.Perm ys):IntKeys xs:=fun q hq=>h q ((Array.perm_iff_toList_perm.mp p).mem_iff.mp hq)
section
variable {prog:Program} {w:World} {A:Around} {E:Value→Shared→Prop} {s:Shared} {a₀:AK}
theorem ltP{st:SortSt}{x y:Keyed}{a b:Int}{t u:Tok}{Q:Option Bool→SortSt→Prop}(hk:kindOf st=oneType')(hx:x.1= .int a t)(hy:y.1= .int b u)(h:Q (some (decide (a<b))) st):wpS (model prog w) A E s (lt' x y) Q st:=by
 rw[lt'_eq];refine wpS_bind (wpS_get ?_);rw[hk,keyLt'_oneType,hx,hy];exact wpS_bind (wpS_lift (wpAny_attempt (oneLt_int ⟨rfl,wpS_pure h⟩)))
theorem zbt{st:SortSt}{xs:AK}{i:Nat}{p:Keyed}{Q:Keyed→SortSt→Prop}(e:xs[i]? =some p)(h:Q p st):wpS (model prog w) A E s (elem' xs i) Q st:=by
 rw[elem'_eq,e];exact wpS_pure h
theorem ltT{st:SortSt}{i j:Nat}{Q:Option Bool→SortSt→Prop}(hB:TB a₀ st)(h0:IntKeys a₀)(hi:i<a₀.size)(hj:j<a₀.size)(h:Q (some (decide (K (arrOf st) i<K (arrOf st) j))) st):wpS (model prog w) A E s (ltAt' i j) Q st:=by
 obtain⟨p,t,e1,e2⟩:=int_at (zgM h0 hB.pm) (by rw[hB.size];exact hi);obtain⟨q,u,e3,e4⟩:=int_at (zgM h0 hB.pm) (by rw[hB.size];exact hj);rw[ltAt'_eq];exact wpS_bind (wpS_get (wpS_bind (zbt e1 (wpS_bind (zbt e3 (ltP hB.kd e2 e4 h))))))
theorem zm2{st:SortSt}{i j:Nat}{Q:Unit→SortSt→Prop}(h:Q () (setArr st (mirror (arrOf st) i j ((j - i) / 2)))):wpS (model prog w) A E s (reverseSlice' i j) Q st:=by
 rw[reverseSlice'_eq];exact wpS_modify h
theorem zoH{st:SortSt}{lo n ok:Nat}{Q:Bool→SortSt→Prop}(h0:IntKeys a₀)(hn:lo+n≤a₀.size)(hok:ok≤n)(hB:TB a₀ st)(hs:Sg (arrOf st) lo (lo+ok))
  (h: ∀st',TB a₀ st'→pendingOf st'=pendingOf st→Sg (arrOf st') lo (lo+n)→Off lo (lo+n) (arrOf st') (arrOf st)→Q true st'):wpS (model prog w) A E s (binarySort' lo n ok) Q st:=by
 rw[binarySort'_eq];refine wpS_bind (wpS_mono (wpS_forRange (I:=fun k c st'=>c=(none,())∧TB a₀ st'∧pendingOf st'=pendingOf st∧Sg (arrOf st') lo (lo+min k n)∧Off lo (lo+n) (arrOf st') (arrOf st)) (Q:=fun c st'=>c=(none,())∧TB a₀ st'∧pendingOf st'=pendingOf st∧Sg (arrOf st') lo (lo+n)∧Off lo (lo+n) (arrOf st') (arrOf st)) ?step ?fin ?init) ?post)
 case post=>exact fun c st' ⟨e,hB',hp,hs',ho⟩=>by subst e;exact wpS_pure (h st' hB' hp hs' ho)
 case init=>
  refine⟨rfl,hB,rfl,?_,Off.refl⟩;by_cases z:ok=0
  ·exact Sg.one (by omega)
  ·rw[show min (max ok 1) n=ok by omega];exact hs
 case fin=>exact fun c st' ⟨e,hB',hp,hs',ho⟩=>⟨e,hB',hp,by rwa[show min (max (max ok 1) n) n=n by omega] at hs',ho⟩
 case step=>
  intro k c st' hak hkn ⟨e,hB',hp,hs',ho⟩;subst e;rw[show min k n=k by omega] at hs';refine wpS_bind (wpS_mono (wpS_forRange (I:=fun x c st''=>st''=st'∧ ∃l r,c=(none,l,r)∧l≤r∧r≤k∧r - l≤k - x∧(∀i,i<l→K (arrOf st') (lo+i)≤K (arrOf st') (lo+k))∧(∀i,r≤i→i<k→K (arrOf st') (lo+k)≤K (arrOf st') (lo+i)))
   (Q:=fun c st''=>st''=st'∧ ∃l r,c=(none,l,r)∧l≤k∧(∀i,i<l→K (arrOf st') (lo+i)≤K (arrOf st') (lo+k))∧(∀i,l≤i→i<k→K (arrOf st') (lo+k)≤K (arrOf st') (lo+i))) ?istep ?ifin ?iinit) ?ipost)
  case iinit=>exact⟨rfl,0,k,rfl,by omega,by omega,by omega,fun i hi=>by omega,fun i h1 h2=>by omega⟩
  case ifin=>
   intro c st'' ⟨e1,l,r,e2,hlr,hrk,hm,hlo,hhi⟩;obtain rfl:l=r:=by omega
   exact⟨e1,l,l,e2,hrk,hlo,hhi⟩
  case istep=>
   intro x c st'' _ hxk ⟨e1,l,r,e2,hlr,hrk,hm,hlo,hhi⟩;subst e1 e2;dsimp only;by_cases hge:l≥r
   ·rw[if_pos hge];obtain rfl:l=r:=by omega
    exact wpS_pure ⟨rfl,l,l,rfl,hrk,hlo,hhi⟩
   ·rw[if_neg hge];refine wpS_bind (ltT hB' h0 (by omega) (by omega) ?_);by_cases hless:K (arrOf st'') (lo+k)<K (arrOf st'') (lo+(l+r) / 2)
    ·simp only[hless,decide_true,if_true];exact wpS_pure ⟨rfl,l,(l+r) / 2,rfl,by omega,by omega,by omega,hlo,fun i h1 h2=>Int.le_trans (Int.le_of_lt hless) (hs' _ _ (by omega) (by omega) (by omega))⟩
    ·simp only[hless,decide_false,Bool.false_eq_true,if_false];exact wpS_pure ⟨rfl,(l+r) / 2+1,r,rfl,by omega,by omega,by omega,fun i h1=>Int.le_trans (hs' (lo+i) (lo+(l+r) / 2) (by omega) (by omega) (by omega)) (Int.not_lt.mp hless),hhi⟩
  case ipost=>
   intro c st'' ⟨e1,l,r,e2,hlk,hlo,hhi⟩;subst e1 e2;show wpS _ _ _ _ (do moveDown' (lo+k) (lo+l);pure (ForInStep.yield (none,()))) _ _;rw[moveDown'_eq];have hks:lo+k<(arrOf st'').size:=by rw[hB'.size];omega
   have kb: ∀q,K (bubble (arrOf st'') (lo+k) (lo+k - (lo+l))) q=if q=lo+l then K (arrOf st'') (lo+k) else if lo+l<q∧q≤lo+k then K (arrOf st'') (q - 1) else K (arrOf st'') q:=fun q=>by
    rw[K_bubble hks (by omega),show lo+k - (lo+k - (lo+l))=lo+l by omega]
   refine wpS_bind (wpS_modify (wpS_pure ⟨rfl,hB'.set (bubble_perm _ _ _),hp,?_,fun q hq=> ?_⟩))
   ·rw[show min (k+1) n=k+1 by omega];intro i j hi hij hj;show K (bubble (arrOf st'') _ _) i≤K (bubble (arrOf st'') _ _) j;rw[kb,kb];have lo': ∀z,lo≤z→z<lo+l→K (arrOf st'') z≤K (arrOf st'') (lo+k):=fun z a b=>by have:=hlo (z - lo) (by omega);rwa[show lo+(z - lo)=z by omega] at this
    have hi': ∀z,lo+l≤z→z<lo+k→K (arrOf st'') (lo+k)≤K (arrOf st'') z:=fun z a b=>by have:=hhi (z - lo) (by omega) (by omega);rwa[show lo+(z - lo)=z by omega] at this
    repeat' split
    all_goals first
     |(exfalso;omega)
     |exact Int.le_refl _
     |exact lo' _ (by omega) (by omega)
     |exact hi' _ (by omega) (by omega)
     |exact hs' _ _ (by omega) (by omega) (by omega)
   ·show K (bubble (arrOf st'') _ _) q=_;rw[kb,if_neg (by omega),if_neg (by omega)];exact ho q hq
end
end L2.Tm
namespace L2.Tm
open PySem PyProof.Rows
def rise(lo n nrem:Nat):StateT SortSt Sem (Option Nat):=do
 let mut m:=n
 for _ in [n:nrem] do
  let some smaller←ltAt' (lo+m) (lo+m - 1)|return none
  if smaller then break
  m:=m+1
 return some m
def zqp(lo n nrem:Nat):StateT SortSt Sem (Option Nat):=do
 rule "list.sort.descending-run"
 let mut m:=n+1
 let mut neq:=0
 for _ in [m:nrem] do
  let some smaller←ltAt' (lo+m) (lo+m - 1)|return none
  if smaller then
   if neq>0 then reverseSlice' (lo+m - (neq+1)) (lo+m)
   neq:=0
  else
   let some larger←ltAt' (lo+m - 1) (lo+m)|return none
   if larger then break
   neq:=neq+1
  m:=m+1
 if neq>0 then reverseSlice' (lo+m - (neq+1)) (lo+m)
 reverseSlice' lo (lo+m)
 rise lo m nrem
section
variable {prog:Program} {w:World} {A:Around} {E:Value→Shared→Prop} {s:Shared} {a₀:AK}
theorem zm3{st:SortSt}{lo n nrem:Nat}{Q:Option Nat→SortSt→Prop}(h0:IntKeys a₀)(hn:lo+nrem≤a₀.size)(h1:1≤n)(hnn:n≤nrem)(hB:TB a₀ st)(hs:Sg (arrOf st) lo (lo+n))
  (h: ∀m,n≤m→m≤nrem→Sg (arrOf st) lo (lo+m)→Q (some m) st):wpS (model prog w) A E s (rise lo n nrem) Q st:=by
 unfold rise;refine wpS_bind (wpS_mono (wpS_forRange (I:=fun x c st'=>st'=st∧c=(none,x)∧Sg (arrOf st) lo (lo+x)) (Q:=fun c st'=>st'=st∧ ∃m,c=(none,m)∧n≤m∧m≤nrem∧Sg (arrOf st) lo (lo+m)) ?step ?fin ⟨rfl,rfl,hs⟩) ?post)
 case post=>
  intro c st' ⟨e1,m,e2,a,b,g⟩;subst e1 e2;exact wpS_pure (h m a b g)
 case fin=>
  intro c st' ⟨e1,e2,g⟩;rw[show max n nrem=nrem by omega] at e2 g;exact⟨e1,nrem,e2,hnn,Nat.le_refl _,g⟩
 case step=>
  intro x c st' a b ⟨e1,e2,g⟩;subst e1 e2;dsimp only;refine wpS_bind (ltT hB h0 (by omega) (by omega) ?_);by_cases q:K (arrOf st') (lo+x)<K (arrOf st') (lo+x - 1)
  ·simp only[q,decide_true,if_true];exact wpS_pure ⟨rfl,x,rfl,a,by omega,g⟩
  ·simp only[q,decide_false,Bool.false_eq_true,if_false];exact wpS_pure ⟨rfl,rfl,g.next (Int.not_lt.mp q)⟩
theorem zef{xs:AK}{lo hi:Nat}(hj:hi≤xs.size)(he: ∀k,lo≤k→k<hi→K xs k=K xs (hi - 1))(k:Nat):K (mirror xs lo hi ((hi - lo) / 2)) k=K xs k:=K_mirror_equal hj he k
theorem ziZ{st:SortSt}{lo n nrem:Nat}{Q:Option Nat→SortSt→Prop}(h0:IntKeys a₀)(hn:lo+nrem≤a₀.size)(h1:1≤n)(hnn:n+1≤nrem)(hB:TB a₀ st)(hs:Dg (arrOf st) lo (lo+(n+1)))
  (h: ∀m st',1≤m→m≤nrem→TB a₀ st'→pendingOf st'=pendingOf st→Sg (arrOf st') lo (lo+m)→Off lo (lo+nrem) (arrOf st') (arrOf st)→Q (some m) st'):wpS (model prog w) A E s (zqp lo n nrem) Q st:=by
 unfold zqp;refine wpS_bind (wpS_lift (wpAny_rule ⟨rfl,?_⟩));refine wpS_bind (wpS_mono (wpS_forRange
  (I:=fun x c st'=> ∃neq,c=(none,x,neq)∧TB a₀ st'∧pendingOf st'=pendingOf st∧Off lo (lo+nrem) (arrOf st') (arrOf st)∧Dg (arrOf st') lo (lo+x)∧neq+1≤x∧ ∀i,lo+x - (neq+1)≤i→i<lo+x→K (arrOf st') i=K (arrOf st') (lo+x - 1))
  (Q:=fun c st'=> ∃m neq,c=(none,m,neq)∧n+1≤m∧m≤nrem∧TB a₀ st'∧pendingOf st'=pendingOf st∧Off lo (lo+nrem) (arrOf st') (arrOf st)∧Dg (arrOf st') lo (lo+m)∧neq+1≤m∧ ∀i,lo+m - (neq+1)≤i→i<lo+m→K (arrOf st') i=K (arrOf st') (lo+m - 1)) ?step ?fin ?init) ?post)
 case init=>exact⟨0,rfl,hB,rfl,Off.refl,hs,by omega,fun i a b=>by congr 1;omega⟩
 case fin=>
  intro c st' ⟨neq,e,r⟩;rw[show max (n+1) nrem=nrem by omega] at e r;exact⟨nrem,neq,e,hnn,Nat.le_refl _,r⟩
 case step=>
  intro x c st' a b ⟨neq,e,hB',hp,ho,hd,hq,he⟩;subst e;dsimp only;have hsz:lo+x≤(arrOf st').size:=by rw[hB'.size];omega
  refine wpS_bind (ltT hB' h0 (by omega) (by omega) ?_);by_cases q:K (arrOf st') (lo+x)<K (arrOf st') (lo+x - 1)
  ·simp only[q,decide_true,if_true];have d1:=hd.next (Int.le_of_lt q);by_cases z:neq>0
   ·rw[if_pos z];have km:=zef hsz he;refine wpS_bind (zm2 (wpS_pure ⟨0,rfl,hB'.set (mirror_perm _ _ _ _),hp,fun k g=> ?_,fun i j u v y=> ?_,by omega,fun i u v=>by congr 1;omega⟩))
    ·exact(km k).trans (ho k g)
    ·show K (mirror _ _ _ _) j≤K (mirror _ _ _ _) i;rw[km,km];exact d1 i j u v y
   ·rw[if_neg z];exact wpS_pure ⟨0,rfl,hB',hp,ho,d1,by omega,fun i u v=>by congr 1;omega⟩
  ·simp only[q,decide_false,Bool.false_eq_true,if_false];refine wpS_bind (ltT hB' h0 (by omega) (by omega) ?_);by_cases q2:K (arrOf st') (lo+x - 1)<K (arrOf st') (lo+x)
   ·simp only[q2,decide_true,if_true];exact wpS_pure ⟨x,neq,rfl,a,by omega,hB',hp,ho,hd,hq,he⟩
   ·simp only[q2,decide_false,Bool.false_eq_true,if_false];have ex:K (arrOf st') (lo+x)=K (arrOf st') (lo+x - 1):=by omega
    refine wpS_pure ⟨neq+1,rfl,hB',hp,ho,hd.next (Int.le_of_eq ex),by omega,fun i u v=> ?_⟩;rw[show lo+(x+1) - 1=lo+x by omega,ex];by_cases iq:i=lo+x
    ·rw[iq,ex]
    ·exact he i (by omega) (by omega)
 case post=>
  intro c st' ⟨m,neq,e,a,b,hB',hp,ho,hd,hq,he⟩;subst e;dsimp only;have hsz:lo+m≤(arrOf st').size:=by rw[hB'.size];omega
  have last: ∀st2:SortSt,TB a₀ st2→pendingOf st2=pendingOf st→Off lo (lo+nrem) (arrOf st2) (arrOf st)→Dg (arrOf st2) lo (lo+m)→wpS (model prog w) A E s (do reverseSlice' lo (lo+m);rise lo m nrem) Q st2:=by
   intro st2 hB2 hp2 ho2 hd2;have sz2:lo+m≤(arrOf st2).size:=by rw[hB2.size];omega
   have hB3:=hB2.set (mirror_perm (arrOf st2) lo (lo+m) ((lo+m - lo) / 2));refine wpS_bind (zm2 (zm3 h0 hn (by omega) b hB3 (fun i j u v y=> ?_) fun m' u v g=>h m' _ (by omega) v hB3 hp2 g fun k z=> ?_))
   ·show K (mirror _ _ _ _) i≤K (mirror _ _ _ _) j;rw[K_mirror sz2,K_mirror sz2,if_pos (by omega),if_pos (by omega)];exact hd2 _ _ (by omega) (by omega) (by omega)
   ·show K (mirror _ _ _ _) k=_;rw[K_mirror sz2,if_neg (by omega)];exact ho2 k z
  by_cases z:neq>0
  ·rw[if_pos z];have km:=zef hsz he;refine wpS_bind (zm2 (last _ (hB'.set (mirror_perm _ _ _ _)) hp (fun k g=>(km k).trans (ho k g)) fun i j u v y=> ?_));show K (mirror _ _ _ _) j≤K (mirror _ _ _ _) i;rw[km,km];exact hd i j u v y
  ·rw[if_neg z];exact last _ hB' hp ho hd
theorem count{st:SortSt}{lo nrem:Nat}{Q:Option Nat→SortSt→Prop}(h0:IntKeys a₀)(hn:lo+nrem≤a₀.size)(h1:1≤nrem)(hB:TB a₀ st)
  (h: ∀m st',1≤m→m≤nrem→TB a₀ st'→pendingOf st'=pendingOf st→Sg (arrOf st') lo (lo+m)→Off lo (lo+nrem) (arrOf st') (arrOf st)→Q (some m) st'):wpS (model prog w) A E s (countRun' lo nrem) Q st:=by
 rw[countRun'_eq];refine wpS_bind (wpS_mono (wpS_forRange (I:=fun x c st'=>st'=st∧c=(none,x)∧Sg (arrOf st) lo (lo+x)) (Q:=fun c st'=>st'=st∧ ∃m,c=(none,m)∧1≤m∧m≤nrem∧Sg (arrOf st) lo (lo+m)∧(m=nrem∨K (arrOf st) (lo+m)<K (arrOf st) (lo+m - 1))) ?step ?fin ⟨rfl,rfl,Sg.one (by omega)⟩) ?post)
 case fin=>
  intro c st' ⟨e1,e2,g⟩;rw[show max 1 nrem=nrem by omega] at e2 g;exact⟨e1,nrem,e2,h1,Nat.le_refl _,g, .inl rfl⟩
 case step=>
  intro x c st' a b ⟨e1,e2,g⟩;subst e1 e2;dsimp only;refine wpS_bind (ltT hB h0 (by omega) (by omega) ?_);by_cases q:K (arrOf st') (lo+x)<K (arrOf st') (lo+x - 1)
  ·simp only[q,decide_true,if_true];exact wpS_pure ⟨rfl,x,rfl,a,by omega,g, .inr q⟩
  ·simp only[q,decide_false,Bool.false_eq_true,if_false];exact wpS_pure ⟨rfl,rfl,g.next (Int.not_lt.mp q)⟩
 case post=>
  intro c st' ⟨e1,n,e2,a,b,g,o⟩;subst e1 e2;dsimp only;by_cases z:n=nrem
  ·rw[if_pos (by simpa using z)];exact wpS_pure (h n _ a b hB rfl g Off.refl)
  rw[if_neg (by simpa using z)];have hlt:=o.resolve_left z;by_cases z1:n>1
  ·rw[if_pos z1];refine wpS_bind (ltT hB h0 (by omega) (by omega) ?_);by_cases q:K (arrOf st') lo<K (arrOf st') (lo+n - 1)
   ·simp only[q,decide_true,if_true];exact wpS_pure (h n _ a b hB rfl g Off.refl)
   ·simp only[q,decide_false,Bool.false_eq_true,if_false];have hsz:lo+n≤(arrOf st').size:=by rw[hB.size];omega
    have al: ∀k,lo≤k→k<lo+n→K (arrOf st') k=K (arrOf st') (lo+n - 1):=fun k u v=>by
     have a1:=g lo k (Nat.le_refl _) u v;have a2:=g k (lo+n - 1) u (by omega) (by omega);omega
    have km:=zef hsz al;refine wpS_bind (zm2 ?_);refine ziZ (n:=n) h0 hn a (by omega) (hB.set (mirror_perm _ _ _ _)) ?_ fun m st2 u v hB2 hp2 g2 o2=>h m st2 u v hB2 hp2 g2 fun k y=>(o2 k y).trans (km k);intro i j u v y;show K (mirror _ _ _ _) j≤K (mirror _ _ _ _) i;rw[km,km];by_cases jn:j<lo+n
    ·rw[al i (by omega) (by omega),al j (by omega) jn];exact Int.le_refl _
    ·obtain rfl:j=lo+n:=by omega
     by_cases iq:i=lo+n
     ·rw[iq];exact Int.le_refl _
     ·rw[al i u (by omega)];exact Int.le_of_lt hlt
  ·rw[if_neg z1];obtain rfl:n=1:=by omega
   refine ziZ (n:=1) h0 hn (Nat.le_refl _) (by omega) hB ?_ h;intro i j u v y;by_cases iq:i=j
   ·rw[iq];exact Int.le_refl _
   ·obtain rfl:i=lo:=by omega
    obtain rfl:j=i+1:=by omega
    exact Int.le_of_lt hlt
end
end L2.Tm
namespace L2.Tm
open PySem PyProof.Rows
def zcu:Bool→Keyed→AK→Nat→Nat→Nat→StateT SortSt Sem (Option Nat):=sortPriv% PySem.Builtin.gallop
def zdF(left:Bool)(key:Keyed)(arr:AK)(base i:Nat):StateT SortSt Sem (Option Bool):=do
 let x←elem' arr (base+i)
 if left then lt' x key else return (←lt' key x).map (!·)
theorem zie(left:Bool)(key:Keyed)(arr:AK)(base n hint:Nat):zcu left key arr base n hint=(do
 let mut lastofs:=0
 let mut ofs:=1
 let mut lo:=0
 let mut hi:=0
 let some right←zdF left key arr base hint|return none
 if right then
  let maxofs:=n - hint
  for _ in [0:n] do
   if ofs≥maxofs then break
   let some more←zdF left key arr base (hint+ofs)|return none
   if !more then break
   lastofs:=ofs
   ofs:=2*ofs+1
  lo:=hint+lastofs+1
  hi:=hint+min ofs maxofs
 else
  let maxofs:=hint+1
  for _ in [0:n] do
   if ofs≥maxofs then break
   let some found←zdF left key arr base (hint - ofs)|return none
   if found then break
   lastofs:=ofs
   ofs:=2*ofs+1
  lo:=hint+1 - min ofs maxofs
  hi:=hint - lastofs
 for _ in [0:n] do
  if lo≥hi then break
  let m:=lo+(hi - lo) / 2
  let some more←zdF left key arr base m|return none
  if more then lo:=m+1 else hi:=m
 return some hi):=rfl
def znO(left:Bool)(key:Keyed)(arr:AK)(base n lo0 hi0:Nat):StateT SortSt Sem (Option Nat):=do
 let mut lo:=lo0
 let mut hi:=hi0
 for _ in [0:n] do
  if lo≥hi then break
  let m:=lo+(hi - lo) / 2
  let some more←zdF left key arr base m|return none
  if more then lo:=m+1 else hi:=m
 return some hi
def Bf(left:Bool)(x k:Int):Prop:=if left=true then x<k else x≤k
theorem Bf.mono{left:Bool}{x y k:Int}(h:Bf left x k)(q:y≤x):Bf left y k:=by
 unfold Bf at*;split at h
 ·rw[if_pos ‹_›];omega
 ·rw[if_neg ‹_›];omega
theorem Bf.not{left:Bool}{x y k:Int}(h: ¬Bf left x k)(q:x≤y): ¬Bf left y k:=fun z=>h (z.mono q)
section
variable {prog:Program} {w:World} {A:Around} {E:Value→Shared→Prop} {s:Shared}
theorem zdl{st:SortSt}{left:Bool}{key:Keyed}{arr:AK}{base i:Nat}{kv:Int}{t:Tok}{Q:Option Bool→SortSt→Prop}(hk:kindOf st=oneType')(hI:IntKeys arr)(hkey:key.1= .int kv t)(hi:base+i<arr.size)
  (h1:Bf left (K arr (base+i)) kv→Q (some true) st) (h2: ¬Bf left (K arr (base+i)) kv→Q (some false) st):wpS (model prog w) A E s (zdF left key arr base i) Q st:=by
 obtain⟨p,u,e1,e2⟩:=int_at hI hi;unfold zdF;refine wpS_bind (zbt e1 ?_);unfold Bf at h1 h2;cases left with
 |true=>
  simp only[if_true] at h1 h2 ⊢;refine ltP hk e2 hkey ?_;by_cases z:K arr (base+i)<kv
  ·rw[decide_eq_true z];exact h1 z
  ·rw[decide_eq_false z];exact h2 z
 |false=>
  simp only[Bool.false_eq_true,if_false] at h1 h2 ⊢;refine wpS_bind (ltP hk hkey e2 (wpS_pure ?_));by_cases z:kv<K arr (base+i)
  ·rw[decide_eq_true z];exact h2 (by omega)
  ·rw[decide_eq_false z];exact h1 (by omega)
theorem zho{st:SortSt}{left:Bool}{key:Keyed}{arr:AK}{base n lo hi:Nat}{kv:Int}{t:Tok}{Q:Option Nat→SortSt→Prop}(hk:kindOf st=oneType')(hI:IntKeys arr)(hkey:key.1= .int kv t)(hb:base+n≤arr.size)(hS:Sg arr base (base+n))(hl:lo≤hi)(hh:hi≤n)
  (a1: ∀i,i<lo→Bf left (K arr (base+i)) kv) (a2: ∀i,hi≤i→i<n→ ¬Bf left (K arr (base+i)) kv)
  (h: ∀k,k≤n→(∀i,i<k→Bf left (K arr (base+i)) kv)→(∀i,k≤i→i<n→ ¬Bf left (K arr (base+i)) kv)→Q (some k) st):wpS (model prog w) A E s (znO left key arr base n lo hi) Q st:=by
 unfold znO;refine wpS_bind (wpS_mono (wpS_forRange (I:=fun x c st'=>st'=st∧ ∃l r,c=(none,l,r)∧l≤r∧r≤n∧r - l≤n - x∧(∀i,i<l→Bf left (K arr (base+i)) kv)∧(∀i,r≤i→i<n→ ¬Bf left (K arr (base+i)) kv))
  (Q:=fun c st'=>st'=st∧ ∃l r,c=(none,l,r)∧r≤l∧r≤n∧(∀i,i<l→Bf left (K arr (base+i)) kv)∧(∀i,r≤i→i<n→ ¬Bf left (K arr (base+i)) kv)) ?step ?fin ⟨rfl,lo,hi,rfl,hl,hh,by omega,a1,a2⟩) ?post)
 case fin=>exact fun c st' ⟨e1,l,r,e2,b1,b2,b3,b4,b5⟩=>⟨e1,l,r,e2,by omega,b2,b4,b5⟩
 case post=>
  intro c st' ⟨e1,l,r,e2,b1,b2,b4,b5⟩;subst e1 e2;exact wpS_pure (h r b2 (fun i hi=>b4 i (by omega)) b5)
 case step=>
  intro x c st' _ _ ⟨e1,l,r,e2,b1,b2,b3,b4,b5⟩;subst e1 e2;dsimp only;by_cases z:l≥r
  ·rw[if_pos z];exact wpS_pure ⟨rfl,l,r,rfl,z,b2,b4,b5⟩
  rw[if_neg z];refine wpS_bind (zdl hk hI hkey (by omega) (fun q=> ?_) fun q=> ?_)
  ·simp only[if_true];exact wpS_pure ⟨rfl,l+(r - l) / 2+1,r,rfl,by omega,b2,by omega,fun i hi=>q.mono (hS _ _ (by omega) (by omega) (by omega)),b5⟩
  ·simp only[Bool.false_eq_true,if_false];exact wpS_pure ⟨rfl,l,l+(r - l) / 2,rfl,by omega,by omega,by omega,b4,fun i u v=>Bf.not q (hS _ _ (by omega) (by omega) (by omega))⟩
theorem gallop{st:SortSt}{left:Bool}{key:Keyed}{arr:AK}{base n hint:Nat}{kv:Int}{t:Tok}{Q:Option Nat→SortSt→Prop}(hk:kindOf st=oneType')(hI:IntKeys arr)(hkey:key.1= .int kv t)(hb:base+n≤arr.size)(hh:hint<n)(hS:Sg arr base (base+n))
  (h: ∀k,k≤n→(∀i,i<k→Bf left (K arr (base+i)) kv)→(∀i,k≤i→i<n→ ¬Bf left (K arr (base+i)) kv)→Q (some k) st):wpS (model prog w) A E s (zcu left key arr base n hint) Q st:=by
 rw[zie];have mono: ∀{i j:Nat},i≤j→j<n→K arr (base+i)≤K arr (base+j):=fun a b=>hS _ _ (by omega) (by omega) (by omega);refine wpS_bind (zdl hk hI hkey (by omega) (fun q=> ?_) fun q=> ?_)
 ·simp only[if_true];refine wpS_bind (wpS_mono (wpS_forRange (I:=fun x c st'=>st'=st∧ ∃l o,c=(none,l,o)∧l<o∧hint+l<n∧Bf left (K arr (base+(hint+l))) kv∧x+1≤o)
   (Q:=fun c st'=>st'=st∧ ∃l o,c=(none,l,o)∧l<o∧hint+l<n∧Bf left (K arr (base+(hint+l))) kv∧(n - hint≤o∨ ¬Bf left (K arr (base+(hint+o))) kv)) ?step ?fin ⟨rfl,0,1,rfl,by omega,by omega,q,by omega⟩) ?post)
  case fin=>exact fun c st' ⟨e1,l,o,e2,b1,b2,b3,b4⟩=>⟨e1,l,o,e2,b1,b2,b3, .inl (by omega)⟩
  case step=>
   intro x c st' _ _ ⟨e1,l,o,e2,b1,b2,b3,b4⟩;subst e1 e2;dsimp only;by_cases z:o≥n - hint
   ·rw[if_pos z];exact wpS_pure ⟨rfl,l,o,rfl,b1,b2,b3, .inl z⟩
   rw[if_neg z];refine wpS_bind (zdl hk hI hkey (by omega) (fun q2=> ?_) fun q2=> ?_)
   ·simp only[Bool.not_true,Bool.false_eq_true,if_false];exact wpS_pure ⟨rfl,o,2*o+1,rfl,by omega,by omega,q2,by omega⟩
   ·simp only[Bool.not_false,if_true];exact wpS_pure ⟨rfl,l,o,rfl,b1,b2,b3, .inr q2⟩
  case post=>
   intro c st' ⟨e1,l,o,e2,b1,b2,b3,b4⟩;subst e1 e2;refine zho (lo:=hint+l+1) (hi:=hint+min o (n - hint)) hk hI hkey hb hS (by omega) (by omega) (fun i hi=>b3.mono (mono (by omega) (by omega))) (fun i u v=> ?_) h;rcases b4 with b|b
   ·omega
   ·exact Bf.not b (mono (by omega) v)
 ·simp only[Bool.false_eq_true,if_false];refine wpS_bind (wpS_mono (wpS_forRange (I:=fun x c st'=>st'=st∧ ∃l o,c=(none,l,o)∧l<o∧l≤hint∧ ¬Bf left (K arr (base+(hint - l))) kv∧x+1≤o)
   (Q:=fun c st'=>st'=st∧ ∃l o,c=(none,l,o)∧l<o∧l≤hint∧ ¬Bf left (K arr (base+(hint - l))) kv∧(hint+1≤o∨Bf left (K arr (base+(hint - o))) kv)) ?step2 ?fin2 ⟨rfl,0,1,rfl,by omega,by omega,q,by omega⟩) ?post2)
  case fin2=>exact fun c st' ⟨e1,l,o,e2,b1,b2,b3,b4⟩=>⟨e1,l,o,e2,b1,b2,b3, .inl (by omega)⟩
  case step2=>
   intro x c st' _ _ ⟨e1,l,o,e2,b1,b2,b3,b4⟩;subst e1 e2;dsimp only;by_cases z:o≥hint+1
   ·rw[if_pos z];exact wpS_pure ⟨rfl,l,o,rfl,b1,b2,b3, .inl z⟩
   rw[if_neg z];refine wpS_bind (zdl hk hI hkey (by omega) (fun q2=> ?_) fun q2=> ?_)
   ·simp only[if_true];exact wpS_pure ⟨rfl,l,o,rfl,b1,b2,b3, .inr q2⟩
   ·simp only[Bool.false_eq_true,if_false];exact wpS_pure ⟨rfl,o,2*o+1,rfl,by omega,by omega,q2,by omega⟩
  case post2=>
   intro c st' ⟨e1,l,o,e2,b1,b2,b3,b4⟩;subst e1 e2;refine zho (lo:=hint+1 - min o (hint+1)) (hi:=hint - l) hk hI hkey hb hS (by omega) (by omega) (fun i hi=> ?_) (fun i u v=>Bf.not b3 (mono u v)) h;rcases b4 with b|b
   ·omega
   ·exact b.mono (mono (by omega) (by omega))
end
end L2.Tm
namespace L2.Tm
open PySem PyProof.Rows
def ky(p:Keyed):Int:=numOf p.1
theorem zcj{xs:AK}{i:Nat}{p:Keyed}(e:xs[i]? =some p):ky p=K xs i:=by
 unfold K ky;rw[e]
structure MI (a b:AK) (o:List Keyed) (ia ib:Nat):Prop where
 la:ia≤a.size
 lb:ib≤b.size
 pm:o.Perm (a.toList.take ia++b.toList.take ib)
 so:o.Pairwise fun x y=>ky x≤ky y
 xa: ∀x∈o,∀i,ia≤i→i<a.size→ky x≤K a i
 xb: ∀x∈o,∀i,ib≤i→i<b.size→ky x≤K b i
def Mg(a b:AK)(r:List Keyed):Prop:=r.Perm (a.toList++b.toList)∧r.Pairwise fun x y=>ky x≤ky y
theorem zi0{o:List Keyed}{p:Keyed}(h:o.Pairwise fun x y=>ky x≤ky y)(q: ∀x∈o,ky x≤ky p):(o++ [p]).Pairwise fun x y=>ky x≤ky y:=
 List.pairwise_append.mpr ⟨h,List.pairwise_singleton _ _,fun x hx y hy=>by rw[List.mem_singleton.mp hy];exact q x hx⟩
theorem zgb{xs:AK}{i:Nat}{p:Keyed}(e:xs[i]? =some p):xs.toList.take (i+1)=xs.toList.take i++ [p]:=by
 rw[List.take_add_one,Array.getElem?_toList,e];rfl
theorem zda{xs:AK}{i:Nat}{p:Keyed}(e:xs[i]? =some p):i<xs.size:=(Array.getElem?_eq_some_iff.mp e).1
theorem MI.pushA{a b:AK}{o:List Keyed}{ia ib:Nat}{p:Keyed}(h:MI a b o ia ib)(sa:Sg a 0 a.size)(e:a[ia]? =some p)(q: ∀i,ib≤i→i<b.size→K a ia≤K b i):MI a b (o++ [p]) (ia+1) ib where
 la:=zda e
 lb:=h.lb
 pm:=by
  rw[zgb e,List.append_assoc];exact(h.pm.append_right [p]).trans (by rw[List.append_assoc];exact List.perm_append_comm.append_left _)
 so:=zi0 h.so fun x hx=>by rw[zcj e];exact h.xa x hx ia (Nat.le_refl _) (zda e)
 xa:=fun x hx i u v=>by
  rcases List.mem_append.mp hx with z|z
  ·exact h.xa x z i (by omega) v
  ·rw[List.mem_singleton.mp z,zcj e];exact sa _ _ (Nat.zero_le _) (by omega) v
 xb:=fun x hx i u v=>by
  rcases List.mem_append.mp hx with z|z
  ·exact h.xb x z i u v
  ·rw[List.mem_singleton.mp z,zcj e];exact q i u v
theorem MI.pushB{a b:AK}{o:List Keyed}{ia ib:Nat}{p:Keyed}(h:MI a b o ia ib)(sb:Sg b 0 b.size)(e:b[ib]? =some p)(q: ∀i,ia≤i→i<a.size→K b ib≤K a i):MI a b (o++ [p]) ia (ib+1) where
 la:=h.la
 lb:=zda e
 pm:=by
  rw[zgb e,←List.append_assoc];exact h.pm.append_right [p]
 so:=zi0 h.so fun x hx=>by rw[zcj e];exact h.xb x hx ib (Nat.le_refl _) (zda e)
 xb:=fun x hx i u v=>by
  rcases List.mem_append.mp hx with z|z
  ·exact h.xb x z i (by omega) v
  ·rw[List.mem_singleton.mp z,zcj e];exact sb _ _ (Nat.zero_le _) (by omega) v
 xa:=fun x hx i u v=>by
  rcases List.mem_append.mp hx with z|z
  ·exact h.xa x z i u v
  ·rw[List.mem_singleton.mp z,zcj e];exact q i u v
theorem zdm{xs:AK}{i k:Nat}(h:i+(k+1)≤xs.size): ∃p,xs[i+k]? =some p∧(xs.toList.drop i).take (k+1)=(xs.toList.drop i).take k++ [p]:=by
 have hi:i+k<xs.size:=by omega
 refine⟨xs[i+k],getElem?_pos xs (i+k) hi,?_⟩;rw[List.take_add_one,List.getElem?_drop,Array.getElem?_toList,getElem?_pos xs (i+k) hi];rfl
theorem MI.appA{a b:AK}(sa:Sg a 0 a.size){ib:Nat}: ∀(k:Nat) {o:List Keyed} {ia:Nat},MI a b o ia ib→ia+k≤a.size→(∀j i,j<k→ib≤i→i<b.size→K a (ia+j)≤K b i)→MI a b (o++(a.toList.drop ia).take k) (ia+k) ib
 |0,o,ia,h,_,_=>by rw[List.take_zero,List.append_nil];exact h
 |k+1,o,ia,h,l,q=>by
  obtain⟨p,e,z⟩:=zdm l;rw[z,←List.append_assoc];exact(MI.appA sa k h (by omega) fun j i u=>q j i (by omega)).pushA sa e fun i=>q k i (by omega)
theorem MI.appB{a b:AK}(sb:Sg b 0 b.size){ia:Nat}: ∀(k:Nat) {o:List Keyed} {ib:Nat},MI a b o ia ib→ib+k≤b.size→(∀j i,j<k→ia≤i→i<a.size→K b (ib+j)≤K a i)→MI a b (o++(b.toList.drop ib).take k) ia (ib+k)
 |0,o,ib,h,_,_=>by rw[List.take_zero,List.append_nil];exact h
 |k+1,o,ib,h,l,q=>by
  obtain⟨p,e,z⟩:=zdm l;rw[z,←List.append_assoc];exact(MI.appB sb k h (by omega) fun j i u=>q j i (by omega)).pushB sb e fun i=>q k i (by omega)
theorem MI.mg{a b:AK}{o:List Keyed}(h:MI a b o a.size b.size):Mg a b o:=
 ⟨h.pm.trans (by rw[List.take_of_length_le (by simp),List.take_of_length_le (by simp)]),h.so⟩
theorem zbn{xs:AK}{i j:Nat}:(xs.extract i j).toList=(xs.toList.drop i).take (j - i):=by
 rw[Array.toList_extract,List.extract_eq_take_drop]
theorem MI.done{a b o:AK}{ia ib:Nat}(sa:Sg a 0 a.size)(sb:Sg b 0 b.size)(h:MI a b o.toList ia ib)(z:ib=b.size∨ia=a.size):Mg a b (o++a.extract ia a.size++b.extract ib b.size).toList:=by
 rw[Array.toList_append,Array.toList_append,zbn,zbn];have h1:=h.appA sa (a.size - ia) (by have:=h.la;omega) (fun j i u v w=>by omega);rw[show ia+(a.size - ia)=a.size by have:=h.la;omega] at h1;have h2:=h1.appB sb (b.size - ib) (by have:=h.lb;omega) (fun j i u v w=>by omega);rw[show ib+(b.size - ib)=b.size by have:=h.lb;omega] at h2;exact h2.mg
theorem MI.last{a b o:AK}{ia ib:Nat}(sa:Sg a 0 a.size)(sb:Sg b 0 b.size)(h:MI a b o.toList ia ib)(z:ia+1=a.size)(g: ∀i,i<b.size→K b i≤K a (a.size - 1)):Mg a b (o++b.extract ib b.size++a.extract ia a.size).toList:=by
 rw[Array.toList_append,Array.toList_append,zbn,zbn];have h1:=h.appB sb (b.size - ib) (by have:=h.lb;omega) (fun j i u v w=>by
  obtain rfl:i=a.size - 1:=by omega
  exact g _ (by have:=h.lb;omega))
 rw[show ib+(b.size - ib)=b.size by have:=h.lb;omega] at h1;have h2:=h1.appA sa (a.size - ia) (by have:=h.la;omega) (fun j i u v w=>by omega);rw[show ia+(a.size - ia)=a.size by have:=h.la;omega] at h2;exact h2.mg
def zdb:Nat→StateT SortSt Sem Unit:=sortPriv% PySem.Builtin.setMinGallop
def ze6:AK→AK→StateT SortSt Sem AK:=sortPriv% PySem.Builtin.mergeLo
theorem zjL(g:Nat):zdb g=modify fun s=>SortSt.mk' (kindOf s) (arrOf s) (pendingOf s) g (failedOf s):=rfl
def zhp(a b out:AK)(ia ib:Nat):AK:=out++a.extract ia a.size++b.extract ib b.size
def fin2(a b out:AK)(ia ib:Nat):AK:=out++b.extract ib b.size++a.extract ia a.size
end L2.Tm
namespace L2.Tm
open PySem PyProof.Rows
abbrev GT:=Option AK×AK×Nat×Nat×Nat×Nat×Nat
abbrev IT:=Option AK×AK×Nat×Nat×Nat×Nat
abbrev OT:=Option AK×AK×Nat×Nat×Nat
section
variable (a b:AK)
noncomputable def lo4(mg ac bc ia:Nat)(out:AK)(ib:Nat):StateT SortSt Sem (ForInStep GT):=do
 let p←elem' a ia
 if (ia+1+1==a.size)=true then pure (ForInStep.done (some (fin2 a b (out.push p) (ia+1) ib),out.push p,ia+1,ib,mg,ac,bc))
 else if (decide (ac<7) && decide (bc<7))=true then pure (ForInStep.done (none,out.push p,ia+1,ib,mg,ac,bc))
 else pure (ForInStep.yield (none,out.push p,ia+1,ib,mg,ac,bc))
noncomputable def lo3(mg ac bc ib:Nat)(out:AK)(ia:Nat):StateT SortSt Sem (ForInStep GT):=do
 let q←elem' b ib
 if (ib+1==b.size)=true then pure (ForInStep.done (some (zhp a b (out.push q) ia (ib+1)),out.push q,ia,ib+1,mg,ac,bc))
 else do
  let p←elem' a ia
  let x←zcu true p b (ib+1) (b.size - (ib+1)) 0
  match x with
  |some k=>
   if k>0 then
    if (ib+1+k==b.size)=true then pure (ForInStep.done (some (zhp a b (out.push q++b.extract (ib+1) (ib+1+k)) ia (ib+1+k)),out.push q++b.extract (ib+1) (ib+1+k),ia,ib+1+k,mg,ac,k))
    else lo4 a b mg ac k ia (out.push q++b.extract (ib+1) (ib+1+k)) (ib+1+k)
   else lo4 a b mg ac k ia (out.push q) (ib+1)
  |_=>pure (ForInStep.done (some (zhp a b (out.push q) ia (ib+1)),out.push q,ia,ib+1,mg,ac,bc))
noncomputable def lo2(ia ib ac bc:Nat)(out:AK)(mg:Nat):StateT SortSt Sem (ForInStep GT):=do
 zdb mg
 let q←elem' b ib
 let x←zcu false q a ia (a.size - ia) 0
 match x with
 |some k=>
  if k>0 then
   if (ia+k+1==a.size)=true then pure (ForInStep.done (some (fin2 a b (out++a.extract ia (ia+k)) (ia+k) ib),out++a.extract ia (ia+k),ia+k,ib,mg,k,bc))
   else if (ia+k==a.size)=true then pure (ForInStep.done (some (zhp a b (out++a.extract ia (ia+k)) (ia+k) ib),out++a.extract ia (ia+k),ia+k,ib,mg,k,bc))
   else lo3 a b mg k bc ib (out++a.extract ia (ia+k)) (ia+k)
  else lo3 a b mg k bc ib out ia
 |_=>pure (ForInStep.done (some (zhp a b out ia ib),out,ia,ib,mg,ac,bc))
noncomputable def lo1(out:AK)(ia ib mg ac bc:Nat):StateT SortSt Sem (ForInStep GT):=if mg>1 then lo2 a b ia ib ac bc out (mg - 1) else lo2 a b ia ib ac bc out mg
noncomputable def loB(out:AK)(ia ib bc mg:Nat):StateT SortSt Sem (ForInStep IT):=do
 let q←elem' b ib
 if (ib+1==b.size)=true then pure (ForInStep.done (some (zhp a b (out.push q) ia (ib+1)),out.push q,ia,ib+1,0,bc+1))
 else if bc+1≥mg then pure (ForInStep.done (none,out.push q,ia,ib+1,0,bc+1))
 else pure (ForInStep.yield (none,out.push q,ia,ib+1,0,bc+1))
noncomputable def loA(out:AK)(ia ib ac mg:Nat):StateT SortSt Sem (ForInStep IT):=do
 let p←elem' a ia
 if (ia+1+1==a.size)=true then pure (ForInStep.done (some (fin2 a b (out.push p) (ia+1) ib),out.push p,ia+1,ib,ac+1,0))
 else if ac+1≥mg then pure (ForInStep.done (none,out.push p,ia+1,ib,ac+1,0))
 else pure (ForInStep.yield (none,out.push p,ia+1,ib,ac+1,0))
noncomputable def loI(mg:Nat)(out:AK)(ia ib ac bc:Nat):StateT SortSt Sem (ForInStep IT):=do
 let q←elem' b ib
 let p←elem' a ia
 let x←lt' q p
 match x with
 |some y=>if y=true then loB a b out ia ib bc mg else loA a b out ia ib ac mg
 |_=>pure (ForInStep.done (some (zhp a b out ia ib),out,ia,ib,ac,bc))
noncomputable def loE(r:Option AK)(out:AK)(ia ib mg:Nat):StateT SortSt Sem (ForInStep OT):=match r with
 |some r=>pure (ForInStep.done (some r,out,ia,ib,mg))
 |none=>do
  zdb (mg+1)
  pure (ForInStep.yield (none,out,ia,ib,mg+1))
noncomputable def loG(r:Option AK)(out:AK)(ia ib ac bc mg:Nat):StateT SortSt Sem (ForInStep OT):=match r with
 |some r=>pure (ForInStep.done (some r,out,ia,ib,mg))
 |none=>do
  rule "list.sort.gallop"
  let c←forIn [0:a.size+b.size] ((none,out,ia,ib,mg+1,ac,bc):GT) fun _ c=>lo1 a b c.2.1 c.2.2.1 c.2.2.2.1 c.2.2.2.2.1 c.2.2.2.2.2.1 c.2.2.2.2.2.2
  loE c.1 c.2.1 c.2.2.1 c.2.2.2.1 c.2.2.2.2.1
noncomputable def loO(out:AK)(ia ib mg:Nat):StateT SortSt Sem (ForInStep OT):=do
 let c←forIn [0:a.size+b.size] ((none,out,ia,ib,0,0):IT) fun _ c=>loI a b mg c.2.1 c.2.2.1 c.2.2.2.1 c.2.2.2.2.1 c.2.2.2.2.2
 loG a b c.1 c.2.1 c.2.2.1 c.2.2.2.1 c.2.2.2.2.1 c.2.2.2.2.2 mg
noncomputable def mlast(r:Option AK):StateT SortSt Sem AK:=match r with
 |some r=>pure r
 |none=>unsupported "internal:list.sort.merge-bound"
theorem zhq:ze6 a b=(do
  rule "list.sort.merge-lo"
  let p←elem' b 0
  if (1==b.size)=true then pure (zhp a b #[p] 0 1)
  else if (0+1==a.size)=true then pure (fin2 a b #[p] 0 1)
  else do
   let g←get
   let c←forIn [0:a.size+b.size] ((none, #[p],0,1,gallopOf g):OT) fun _ c=>loO a b c.2.1 c.2.2.1 c.2.2.2.1 c.2.2.2.2
   mlast c.1):=by kernel_rfl
end
end L2.Tm
namespace L2.Tm
open PySem PyProof.Rows
def Sm(st st':SortSt):Prop:=kindOf st'=oneType'∧arrOf st'=arrOf st∧pendingOf st'=pendingOf st∧failedOf st'=failedOf st
section
variable {prog:Program} {w:World} {A:Around} {E:Value→Shared→Prop} {s:Shared}
theorem zi1{st:SortSt}{g:Nat}{Q:Unit→SortSt→Prop}(h: ∀st',(∀st0,Sm st0 st→Sm st0 st')→Q () st'):wpS (model prog w) A E s (zdb g) Q st:=by
 rw[zjL];exact wpS_modify (h _ fun st0 z=>z)
theorem MI.pA{a b out:AK}{ia ib:Nat}{p:Keyed}(h:MI a b out.toList ia ib)(sa:Sg a 0 a.size)(e:a[ia]? =some p)(q: ∀i,ib≤i→i<b.size→K a ia≤K b i):MI a b (out.push p).toList (ia+1) ib:=by
 rw[Array.toList_push];exact h.pushA sa e q
theorem MI.pB{a b out:AK}{ia ib:Nat}{p:Keyed}(h:MI a b out.toList ia ib)(sb:Sg b 0 b.size)(e:b[ib]? =some p)(q: ∀i,ia≤i→i<a.size→K b ib≤K a i):MI a b (out.push p).toList ia (ib+1):=by
 rw[Array.toList_push];exact h.pushB sb e q
theorem MI.eA{a b out:AK}{ia ib k:Nat}(h:MI a b out.toList ia ib)(sa:Sg a 0 a.size)(l:ia+k≤a.size)(q: ∀j i,j<k→ib≤i→i<b.size→K a (ia+j)≤K b i):MI a b (out++a.extract ia (ia+k)).toList (ia+k) ib:=by
 rw[Array.toList_append,zbn,Nat.add_sub_cancel_left];exact h.appA sa k l q
theorem MI.eB{a b out:AK}{ia ib k:Nat}(h:MI a b out.toList ia ib)(sb:Sg b 0 b.size)(l:ib+k≤b.size)(q: ∀j i,j<k→ia≤i→i<a.size→K b (ib+j)≤K a i):MI a b (out++b.extract ib (ib+k)).toList ia (ib+k):=by
 rw[Array.toList_append,zbn,Nat.add_sub_cancel_left];exact h.appB sb k l q
end
end L2.Tm
namespace L2.Tm
open PySem PyProof.Rows
def PG{α β γ ρ:Type}(st:SortSt)(G:AK→Prop)(L:α→β→γ→Prop)(r:ForInStep (Option AK×α×β×γ×ρ))(st':SortSt):Prop:=Sm st st'∧match r with
 | .done c=>(∃r z,c=(some r,z)∧G r)∨ ∃out ia ib z,c=(none,out,ia,ib,z)∧L out ia ib
 | .yield c=> ∃out ia ib z,c=(none,out,ia,ib,z)∧L out ia ib
def PoR{α β γ ρ:Type}(st:SortSt)(G:AK→Prop)(L:α→β→γ→Prop)(r:ForInStep (Option AK×α×β×γ×ρ))(st':SortSt):Prop:=Sm st st'∧match r with
 | .done c=> ∃r z,c=(some r,z)∧G r
 | .yield c=> ∃out ia ib z,c=(none,out,ia,ib,z)∧L out ia ib
section
variable {prog:Program} {w:World} {A:Around} {E:Value→Shared→Prop} {s:Shared} {a b:AK}
theorem PG.fin{α β γ ρ:Type}{st st':SortSt}{G:AK→Prop}{L:α→β→γ→Prop}{r:AK}{z:α×β×γ×ρ}(h:Sm st st')(g:G r):PG st G L (.done (some r,z)) st':=⟨h, .inl ⟨r,z,rfl,g⟩⟩
theorem PG.brk{α β γ ρ:Type}{st st':SortSt}{G:AK→Prop}{L:α→β→γ→Prop}{out:α}{ia:β}{ib:γ}{z:ρ}(h:Sm st st')(l:L out ia ib):PG st G L (.done (none,out,ia,ib,z)) st':=⟨h, .inr ⟨out,ia,ib,z,rfl,l⟩⟩
theorem PG.yld{α β γ ρ:Type}{st st':SortSt}{G:AK→Prop}{L:α→β→γ→Prop}{out:α}{ia:β}{ib:γ}{z:ρ}(h:Sm st st')(l:L out ia ib):PG st G L (.yield (none,out,ia,ib,z)) st':=⟨h,out,ia,ib,z,rfl,l⟩
theorem PoR.fin{α β γ ρ:Type}{st st':SortSt}{G:AK→Prop}{L:α→β→γ→Prop}{r:AK}{z:α×β×γ×ρ}(h:Sm st st')(g:G r):PoR st G L (.done (some r,z)) st':=⟨h,r,z,rfl,g⟩
theorem PoR.yld{α β γ ρ:Type}{st st':SortSt}{G:AK→Prop}{L:α→β→γ→Prop}{out:α}{ia:β}{ib:γ}{z:ρ}(h:Sm st st')(l:L out ia ib):PoR st G L (.yield (none,out,ia,ib,z)) st':=⟨h,out,ia,ib,z,rfl,l⟩
theorem zi2{α β γ ρ:Type}{f:Nat→(Option AK×α×β×γ×ρ)→StateT SortSt Sem (ForInStep (Option AK×α×β×γ×ρ))}{st:SortSt}{G:AK→Prop}(L:Nat→α→β→γ→Prop){Le:α→β→γ→Prop}{n:Nat}{Q:(Option AK×α×β×γ×ρ)→SortSt→Prop}
  (hm: ∀y out ia ib,L (y+1) out ia ib→Le out ia ib) (hn:0<n) (step: ∀y st' out ia ib z,Sm st st'→L y out ia ib→wpS (model prog w) A E s (f y (none,out,ia,ib,z)) (PG st G (L (y+1))) st')
  (p1: ∀st' r z,Sm st st'→G r→Q (some r,z) st') (p2: ∀st' out ia ib z,Sm st st'→Le out ia ib→Q (none,out,ia,ib,z) st')
  {st0:SortSt} {out:α} {ia:β} {ib:γ} {z:ρ} (s0:Sm st st0) (l:L 0 out ia ib):wpS (model prog w) A E s (forIn [0:n] (none,out,ia,ib,z) f) Q st0:=by
 refine wpS_forRange (I:=fun y c st'=>Sm st st'∧ ∃out ia ib z,c=(none,out,ia,ib,z)∧L y out ia ib) (fun y c st' _ _ ⟨s1,out,ia,ib,z,e,l⟩=> ?_) (fun c st' ⟨s1,out,ia,ib,z,e,l⟩=> ?_) ⟨s0,out,ia,ib,z,rfl,l⟩
 ·subst e;refine wpS_mono (step y st' out ia ib z s1 l) fun r st2 h=> ?_;cases r with
  |done c=>
   obtain⟨s2,h⟩:=h;rcases h with⟨r,z,rfl,g⟩|⟨o,i,j,z,rfl,l⟩
   ·exact p1 st2 r z s2 g
   ·exact p2 st2 o i j z s2 (hm _ _ _ _ l)
  |yield c=>exact h
 ·subst e;obtain⟨k,hk⟩: ∃k,max 0 n=k+1:=⟨n - 1,by omega⟩
  rw[hk] at l;exact p2 st' out ia ib z s1 (hm _ _ _ _ l)
theorem outer{α β γ:Type}{Q:AK→SortSt→Prop}{st st0:SortSt}{G:AK→Prop}{n:Nat}(L:Nat→α→β→γ→Prop){f:Nat→(Option AK×α×β×γ×Nat)→StateT SortSt Sem (ForInStep (Option AK×α×β×γ×Nat))}(h: ∀r st',G r→Sm st st'→Q r st')(no: ∀o i j,¬L n o i j)
  (step: ∀y st' out ia ib z,Sm st st'→L y out ia ib→wpS (model prog w) A E s (f y (none,out,ia,ib,z)) (PoR st G (L (y+1))) st') {out:α} {ia:β} {ib:γ} {z:Nat} (s0:Sm st st0) (l:L 0 out ia ib):
  wpS (model prog w) A E s (forIn [0:n] (none,out,ia,ib,z) f) (fun c st'=>wpS (model prog w) A E s (mlast c.1) Q st') st0:=by
 refine wpS_forRange (I:=fun y c st'=>Sm st st'∧ ∃out ia ib z,c=(none,out,ia,ib,z)∧L y out ia ib) (fun y c st' _ _ ⟨s1,out,ia,ib,z,e,l⟩=> ?_) (fun c st' ⟨s1,out,ia,ib,z,e,l⟩=>absurd (Nat.zero_max n ▸ l) (no out ia ib)) ⟨s0,out,ia,ib,z,rfl,l⟩;subst e;refine wpS_mono (step y st' out ia ib z s1 l) fun r st2 h2=> ?_;cases r with
 |done c=>
  obtain⟨s2,r,z,rfl,g⟩:=h2;exact wpS_pure (h r st2 g s2)
 |yield c=>exact h2
theorem ifB{α:Type}{M:Model}{m n:Nat}{x y:StateT SortSt Sem α}{Q:α→SortSt→Prop}{st:SortSt}(h1:m=n→wpS M A E s x Q st)(h2:m≠n→wpS M A E s y Q st):wpS M A E s (if (m==n)=true then x else y) Q st:=by
 by_cases h:m=n
 ·rw[if_pos (by rw[h];exact beq_self_eq_true n)];exact h1 h
 ·rw[if_neg (by rw[beq_iff_eq];exact h)];exact h2 h
theorem ifC{α:Type}{M:Model}{c:Prop}[Decidable c]{x y:StateT SortSt Sem α}{Q:α→SortSt→Prop}{st:SortSt}(h1:c→wpS M A E s x Q st)(h2: ¬c→wpS M A E s y Q st):wpS M A E s (if c then x else y) Q st:=by
 by_cases h:c
 ·rw[if_pos h];exact h1 h
 ·rw[if_neg h];exact h2 h
structure Rn2 (a b:AK):Prop where
 ha:IntKeys a
 hb:IntKeys b
 sa:Sg a 0 a.size
 sb:Sg b 0 b.size
def LI(a b:AK)(x:Nat)(out:AK)(ia ib:Nat):Prop:=MI a b out.toList ia ib∧ia+1<a.size∧ib<b.size∧x≤ia+ib
def Mt(a b r:AK):Prop:=Mg a b r.toList
variable {st st':SortSt} {out:AK} {ia ib x mg ac bc:Nat}
theorem zlk(R:Rn2 a b)(hl: ∀i,i<b.size→K b i≤K a (a.size - 1))(s1:Sm st st')(m:MI a b out.toList ia ib)(u:ia+1<a.size)(v:ib<b.size)(hx:x≤ia+ib)(g: ∀i,ib≤i→i<b.size→K a ia≤K b i):
  wpS (model prog w) A E s (lo4 a b mg ac bc ia out ib) (PG st (Mt a b) (LI a b x)) st':=by
 obtain⟨p,tp,ep,kp⟩:=int_at R.ha (i:=ia) (by omega);have m':=m.pA R.sa ep g;refine wpS_bind (zbt ep (ifB (fun z=>wpS_pure (PG.fin s1 (m'.last R.sa R.sb z hl))) fun z=> ?_));have l:LI a b x (out.push p) (ia+1) ib:=⟨m',by omega,v,by omega⟩
 exact ifC (fun _=>wpS_pure (PG.brk s1 l)) fun _=>wpS_pure (PG.yld s1 l)
theorem zll(R:Rn2 a b)(hl: ∀i,i<b.size→K b i≤K a (a.size - 1))(s1:Sm st st')(m:MI a b out.toList ia ib)(u:ia+1<a.size)(v:ib<b.size)(hx:x≤ia+ib)(g: ∀i,ia≤i→i<a.size→K b ib≤K a i):
  wpS (model prog w) A E s (lo3 a b mg ac bc ib out ia) (PG st (Mt a b) (LI a b x)) st':=by
 obtain⟨q,tq,eq,kq⟩:=int_at R.hb v;have m3:=m.pB R.sb eq g;refine wpS_bind (zbt eq (ifB (fun z=>wpS_pure (PG.fin s1 (m3.done R.sa R.sb (.inl z)))) fun z=> ?_));obtain⟨p,tp,ep,kp⟩:=int_at R.ha (i:=ia) (by omega);have v2:ib+1<b.size:=by omega
 refine wpS_bind (zbt ep (wpS_bind (gallop s1.1 R.hb kp (by omega) (by omega) (fun i j c d e=>R.sb i j (Nat.zero_le _) d (by omega)) fun k hk f1 f2=> ?_)));have g4: ∀i,ib+1+k≤i→i<b.size→K a ia≤K b i:=fun i c d=>by
  have:=f2 (i - (ib+1)) (by omega) (by omega);rw[show ib+1+(i - (ib+1))=i by omega] at this;exact Int.not_lt.mp this
 refine ifC (fun zk=> ?_) fun zk=> ?_
 ·have m4:=m3.eB (k:=k) R.sb (by omega) fun j i c d f=>Int.le_trans (Int.le_of_lt (show K b (ib+1+j)<K a ia from f1 j c)) (R.sa _ _ (Nat.zero_le _) d f);refine ifB (fun z=>wpS_pure (PG.fin s1 (m4.done R.sa R.sb (.inl z)))) fun z=> ?_;exact zlk R hl s1 m4 u (by omega) (by omega) g4
 ·obtain rfl:k=0:=by omega
  exact zlk R hl s1 m3 u v2 (by omega) g4
theorem zlm(R:Rn2 a b)(hl: ∀i,i<b.size→K b i≤K a (a.size - 1))(s0:Sm st st')(l:LI a b x out ia ib):
  wpS (model prog w) A E s (lo2 a b ia ib ac bc out mg) (PG st (Mt a b) (LI a b x)) st':=by
 obtain⟨m,u,v,hx⟩:=l;refine wpS_bind (zi1 fun st1 k1=> ?_);have s1:=k1 _ s0;obtain⟨q,tq,eq,kq⟩:=int_at R.hb v;refine wpS_bind (zbt eq (wpS_bind (gallop s1.1 R.ha kq (by omega) (by omega) (fun i j c d e=>R.sa i j (Nat.zero_le _) d (by omega)) fun k hk f1 f2=> ?_)));have g2: ∀i,ia+k≤i→i<a.size→K b ib≤K a i:=fun i c d=>by
  have:=f2 (i - ia) (by omega) (by omega);rw[show ia+(i - ia)=i by omega] at this;exact Int.le_of_lt (Int.not_le.mp this)
 refine ifC (fun zk=> ?_) fun zk=> ?_
 ·have m2:=m.eA (k:=k) R.sa (by omega) fun j i c d f=>Int.le_trans (show K a (ia+j)≤K b ib from f1 j c) (R.sb _ _ (Nat.zero_le _) d f);refine ifB (fun z=>wpS_pure (PG.fin s1 (m2.last R.sa R.sb z hl))) fun z=>ifB (fun z=>wpS_pure (PG.fin s1 (m2.done R.sa R.sb (.inr z)))) fun z'=> ?_;exact zll R hl s1 m2 (by omega) v (by omega) g2
 ·obtain rfl:k=0:=by omega
  exact zll R hl s1 m u v hx g2
theorem zoI(R:Rn2 a b)(hl: ∀i,i<b.size→K b i≤K a (a.size - 1))(s1:Sm st st')(l:LI a b x out ia ib):
  wpS (model prog w) A E s (loI a b mg out ia ib ac bc) (PG st (Mt a b) (LI a b (x+1))) st':=by
 obtain⟨m,u,v,hx⟩:=l;obtain⟨p,tp,ep,kp⟩:=int_at R.ha (i:=ia) (by omega);obtain⟨q,tq,eq,kq⟩:=int_at R.hb v;refine wpS_bind (zbt eq (wpS_bind (zbt ep (wpS_bind (ltP s1.1 kq kp ?_)))));refine ifC (fun z=> ?_) fun z=> ?_
 ·have z:=of_decide_eq_true z;have m':=m.pB R.sb eq fun i c d=>Int.le_trans (Int.le_of_lt z) (R.sa _ _ (Nat.zero_le _) c d);refine wpS_bind (zbt eq (ifB (fun z=>wpS_pure (PG.fin s1 (m'.done R.sa R.sb (.inl z)))) fun z3=> ?_));have l:LI a b (x+1) (out.push q) ia (ib+1):=⟨m',u,by omega,by omega⟩
  exact ifC (fun _=>wpS_pure (PG.brk s1 l)) fun _=>wpS_pure (PG.yld s1 l)
 ·have z: ¬K b ib<K a ia:=fun h=>z (decide_eq_true h);have m':=m.pA R.sa ep fun i c d=>Int.le_trans (Int.not_lt.mp z) (R.sb _ _ (Nat.zero_le _) c d);refine wpS_bind (zbt ep (ifB (fun z=>wpS_pure (PG.fin s1 (m'.last R.sa R.sb z hl))) fun z3=> ?_));have l:LI a b (x+1) (out.push p) (ia+1) ib:=⟨m',by omega,v,by omega⟩
  exact ifC (fun _=>wpS_pure (PG.brk s1 l)) fun _=>wpS_pure (PG.yld s1 l)
theorem zoJ{L:AK→Nat→Nat→Prop}{G:AK→Prop}(s1:Sm st st')(l:L out ia ib):wpS (model prog w) A E s (loE none out ia ib mg) (PoR st G L) st':=wpS_bind (m:=zdb (mg+1)) (zi1 fun st3 k3=>wpS_pure (PoR.yld (k3 _ s1) l))
theorem zoK(R:Rn2 a b)(hl: ∀i,i<b.size→K b i≤K a (a.size - 1))(s1:Sm st st')(l:LI a b x out ia ib):
  wpS (model prog w) A E s (loG a b none out ia ib ac bc mg) (PoR st (Mt a b) (LI a b x)) st':=by
 refine wpS_bind (wpS_lift (wpAny_rule ⟨rfl,wpS_bind (zi2 (G:=Mt a b) (fun _=>LI a b x) (Le:=LI a b x) (fun _ _ _ _ h=>h) (Nat.lt_of_lt_of_le (Nat.lt_of_le_of_lt (Nat.zero_le _) l.2.2.1) (Nat.le_add_left _ _)) (fun y st2 o i j z s2 l2=> ?_) (fun st2 r z s2 g=>wpS_pure (PoR.fin s2 g)) (fun st2 o i j z s2 l2=>zoJ s2 l2) s1 l)⟩));exact ifC (fun _=>zlm R hl s2 l2) fun _=>zlm R hl s2 l2
theorem zoL(R:Rn2 a b)(hl: ∀i,i<b.size→K b i≤K a (a.size - 1))(s1:Sm st st')(l:LI a b x out ia ib):
  wpS (model prog w) A E s (loO a b out ia ib mg) (PoR st (Mt a b) (LI a b (x+1))) st':=by
 refine wpS_bind (zi2 (G:=Mt a b) (fun y=>LI a b (x+y)) (Le:=LI a b (x+1)) (fun y o i j h=>⟨h.1,h.2.1,h.2.2.1,Nat.le_trans (Nat.add_le_add_left (Nat.le_add_left 1 y) x) h.2.2.2⟩) (Nat.lt_of_lt_of_le (Nat.lt_of_le_of_lt (Nat.zero_le _) l.2.2.1) (Nat.le_add_left _ _)) (fun y st2 o i j z s2 l2=> ?_) (fun st2 r z s2 g=>wpS_pure (PoR.fin s2 g)) (fun st2 o i j z s2 l2=>zoK R hl s2 l2) s1 l);exact zoI R hl s2 l2
theorem mergeLo{Q:AK→SortSt→Prop}(hk:kindOf st=oneType')(ha:IntKeys a)(hb:IntKeys b)(sa:Sg a 0 a.size)(sb:Sg b 0 b.size)(na:1≤a.size)(nb:1≤b.size)(h1:K b 0≤K a 0)(hl: ∀i,i<b.size→K b i≤K a (a.size - 1))
  (h: ∀r st',Mg a b r.toList→Sm st st'→Q r st'):wpS (model prog w) A E s (ze6 a b) Q st:=by
 rw[zhq];obtain⟨p0,t0,e0,k0⟩:=int_at hb (i:=0) (by omega);have m0:MI a b (#[]:AK).toList 0 0:=⟨Nat.zero_le _,Nat.zero_le _,by simp,List.Pairwise.nil,fun _ h=>by simp at h,fun _ h=>by simp at h⟩
 have m1:MI a b (#[p0]:AK).toList 0 1:=m0.pushB sb e0 fun i u v=>Int.le_trans h1 (sa _ _ (Nat.le_refl _) u v);have s0:Sm st st:=⟨hk,rfl,rfl,rfl⟩
 refine wpS_bind (wpS_lift (wpAny_rule ⟨rfl,wpS_bind (zbt e0 (ifB (fun z=>wpS_pure (h _ _ (m1.done sa sb (.inl z)) s0)) fun z1=>ifB (fun z=>wpS_pure (h _ _ (m1.last sa sb z hl) s0)) fun z2=>wpS_bind (wpS_get (wpS_bind ?_))))⟩));exact outer (G:=Mt a b) (fun x=>LI a b (x+1)) h (fun o i j l=>by obtain⟨_,u,v,z⟩:=l;omega) (fun y st2 o i j z s1 l=>zoL ⟨ha,hb,sa,sb⟩ hl s1 l) s0 ⟨m1,by omega,by omega,by omega⟩
end
end L2.Tm
namespace L2.Tm
open PySem PyProof.Rows
structure MH (a b:AK) (o:List Keyed) (na nb:Nat):Prop where
 la:na≤a.size
 lb:nb≤b.size
 pm:o.Perm (a.toList.drop na++b.toList.drop nb)
 so:o.Pairwise fun x y=>ky y≤ky x
 xa: ∀x∈o,∀i,i<na→K a i≤ky x
 xb: ∀x∈o,∀i,i<nb→K b i≤ky x
theorem zhr{o:List Keyed}{p:Keyed}(h:o.Pairwise fun x y=>ky y≤ky x)(q: ∀x∈o,ky p≤ky x):(o++ [p]).Pairwise fun x y=>ky y≤ky x:=
 List.pairwise_append.mpr ⟨h,List.pairwise_singleton _ _,fun x hx y hy=>by rw[List.mem_singleton.mp hy];exact q x hx⟩
theorem zhs{xs:AK}{n:Nat}{p:Keyed}(e:xs[n]? =some p):xs.toList.drop n=p::xs.toList.drop (n+1):=by
 have h:=zda e;rw[List.drop_eq_getElem_cons (by simpa using h)];congr 1;rw[getElem?_pos xs n h] at e;simpa using e
theorem MH.pushA{a b:AK}{o:List Keyed}{n nb:Nat}{p:Keyed}(h:MH a b o (n+1) nb)(sa:Sg a 0 a.size)(e:a[n]? =some p)(q: ∀i,i<nb→K b i≤K a n):MH a b (o++ [p]) n nb where
 la:=Nat.le_of_lt (zda e)
 lb:=h.lb
 pm:=by
  rw[zhs e];exact(h.pm.append_right [p]).trans List.perm_append_comm
 so:=zhr h.so fun x hx=>by rw[zcj e];exact h.xa x hx n (Nat.lt_succ_self _)
 xa:=fun x hx i u=>by
  rcases List.mem_append.mp hx with z|z
  ·exact h.xa x z i (by omega)
  ·rw[List.mem_singleton.mp z,zcj e];exact sa _ _ (Nat.zero_le _) (Nat.le_of_lt u) (zda e)
 xb:=fun x hx i u=>by
  rcases List.mem_append.mp hx with z|z
  ·exact h.xb x z i u
  ·rw[List.mem_singleton.mp z,zcj e];exact q i u
theorem MH.pushB{a b:AK}{o:List Keyed}{na n:Nat}{p:Keyed}(h:MH a b o na (n+1))(sb:Sg b 0 b.size)(e:b[n]? =some p)(q: ∀i,i<na→K a i≤K b n):MH a b (o++ [p]) na n where
 la:=h.la
 lb:=Nat.le_of_lt (zda e)
 pm:=by
  rw[zhs e];exact(h.pm.append_right [p]).trans (by rw[List.append_assoc];exact List.perm_append_comm.append_left _)
 so:=zhr h.so fun x hx=>by rw[zcj e];exact h.xb x hx n (Nat.lt_succ_self _)
 xb:=fun x hx i u=>by
  rcases List.mem_append.mp hx with z|z
  ·exact h.xb x z i (by omega)
  ·rw[List.mem_singleton.mp z,zcj e];exact sb _ _ (Nat.zero_le _) (Nat.le_of_lt u) (zda e)
 xa:=fun x hx i u=>by
  rcases List.mem_append.mp hx with z|z
  ·exact h.xa x z i u
  ·rw[List.mem_singleton.mp z,zcj e];exact q i u
theorem MH.appA{a b:AK}(sa:Sg a 0 a.size){nb t:Nat}: ∀(k:Nat) {o:List Keyed},MH a b o (t+k) nb→(∀j i,t≤j→j<t+k→i<nb→K b i≤K a j)→MH a b (o++((a.toList.drop t).take k).reverse) t nb
 |0,o,h,_=>by rw[List.take_zero,List.reverse_nil,List.append_nil];exact h
 |k+1,o,h,q=>by
  obtain⟨p,e,z⟩:=zdm (i:=t) (k:=k) h.la;rw[z,List.reverse_append,List.reverse_singleton,←List.append_assoc];exact(h.pushA (n:=t+k) sa e fun i u=>q _ i (by omega) (by omega) u).appA sa k fun j i c d f=>q j i c (by omega) f
theorem MH.appB{a b:AK}(sb:Sg b 0 b.size){na t:Nat}: ∀(k:Nat) {o:List Keyed},MH a b o na (t+k)→(∀j i,t≤j→j<t+k→i<na→K a i≤K b j)→MH a b (o++((b.toList.drop t).take k).reverse) na t
 |0,o,h,_=>by rw[List.take_zero,List.reverse_nil,List.append_nil];exact h
 |k+1,o,h,q=>by
  obtain⟨p,e,z⟩:=zdm (i:=t) (k:=k) h.lb;rw[z,List.reverse_append,List.reverse_singleton,←List.append_assoc];exact(h.pushB (n:=t+k) sb e fun i u=>q _ i (by omega) (by omega) u).appB sb k fun j i c d f=>q j i c (by omega) f
theorem MH.mg{a b:AK}{o:List Keyed}(h:MH a b o 0 0):Mg a b o.reverse:=
 ⟨(List.reverse_perm o).trans (by have:=h.pm;rwa[List.drop_zero,List.drop_zero] at this),List.pairwise_reverse.mpr h.so⟩
theorem MH.done{a b o:AK}{na nb:Nat}(sa:Sg a 0 a.size)(sb:Sg b 0 b.size)(h:MH a b o.toList na nb)(z:na=0∨nb=0):Mg a b (a.extract 0 na++b.extract 0 nb++o.reverse).toList:=by
 have h1:=(show MH a b o.toList na (0+nb) by rw[Nat.zero_add];exact h).appB sb nb (fun j i u v w=>by omega);have h2:=(show MH a b _ (0+na) 0 by rw[Nat.zero_add];exact h1).appA sa na (fun j i u v w=>by omega)
 have:=h2.mg;rw[List.reverse_append,List.reverse_append,List.reverse_reverse,List.reverse_reverse] at this;rw[Array.toList_append,Array.toList_append,zbn,zbn,Array.toList_reverse,List.append_assoc];exact this
theorem MH.first{a b o:AK}{na nb:Nat}(sa:Sg a 0 a.size)(sb:Sg b 0 b.size)(h:MH a b o.toList na nb)(z:nb=1)(g:K b 0≤K a 0):Mg a b (b.extract 0 nb++a.extract 0 na++o.reverse).toList:=by
 have h1:=(show MH a b o.toList (0+na) nb by rw[Nat.zero_add];exact h).appA sa na (fun j i u v w=>by
  obtain rfl:i=0:=by omega
  exact Int.le_trans g (sa _ _ (Nat.le_refl _) u (by have:=h.la;omega)))
 have h2:=(show MH a b _ 0 (0+nb) by rw[Nat.zero_add];exact h1).appB sb nb (fun j i u v w=>by omega)
 have:=h2.mg;rw[List.reverse_append,List.reverse_append,List.reverse_reverse,List.reverse_reverse] at this;rw[Array.toList_append,Array.toList_append,zbn,zbn,Array.toList_reverse,List.append_assoc];exact this
def ze7:AK→AK→StateT SortSt Sem AK:=sortPriv% PySem.Builtin.mergeHi
def zht(a b out:AK)(na nb:Nat):AK:=a.extract 0 na++b.extract 0 nb++out.reverse
def zm4(a b out:AK)(na nb:Nat):AK:=b.extract 0 nb++a.extract 0 na++out.reverse
section
variable (a b:AK)
abbrev GH:=Option AK×Nat×Nat×AK×Nat×Nat×Nat
abbrev IH:=Option AK×Nat×Nat×AK×Nat×Nat
abbrev OH:=Option AK×Nat×Nat×AK×Nat
noncomputable def hi4(mg ac bc na:Nat)(out:AK)(nb:Nat):StateT SortSt Sem (ForInStep GH):=do
 let p←elem' a (na - 1)
 if (na - 1==0)=true then pure (ForInStep.done (some (zht a b (out.push p) (na - 1) nb),na - 1,nb,out.push p,mg,ac,bc))
 else if (decide (ac<7) && decide (bc<7))=true then pure (ForInStep.done (none,na - 1,nb,out.push p,mg,ac,bc))
 else pure (ForInStep.yield (none,na - 1,nb,out.push p,mg,ac,bc))
noncomputable def hi3(mg ac bc nb:Nat)(out:AK)(na:Nat):StateT SortSt Sem (ForInStep GH):=do
 let q←elem' b (nb - 1)
 if (nb - 1==1)=true then pure (ForInStep.done (some (zm4 a b (out.push q) na (nb - 1)),na,nb - 1,out.push q,mg,ac,bc))
 else do
  let p←elem' a (na - 1)
  let x←zcu true p b 0 (nb - 1) (nb - 1 - 1)
  match x with
  |some t=>
   if nb - 1 - t>0 then
    if (t==1)=true then pure (ForInStep.done (some (zm4 a b (out.push q++(b.extract t (nb - 1)).reverse) na t),na,t,out.push q++(b.extract t (nb - 1)).reverse,mg,ac,nb - 1 - t))
    else if (t==0)=true then pure (ForInStep.done (some (zht a b (out.push q++(b.extract t (nb - 1)).reverse) na t),na,t,out.push q++(b.extract t (nb - 1)).reverse,mg,ac,nb - 1 - t))
    else hi4 a b mg ac (nb - 1 - t) na (out.push q++(b.extract t (nb - 1)).reverse) t
   else hi4 a b mg ac (nb - 1 - t) na (out.push q) (nb - 1)
  |_=>pure (ForInStep.done (some (zht a b (out.push q) na (nb - 1)),na,nb - 1,out.push q,mg,ac,bc))
noncomputable def hi2(na nb ac bc:Nat)(out:AK)(mg:Nat):StateT SortSt Sem (ForInStep GH):=do
 zdb mg
 let q←elem' b (nb - 1)
 let x←zcu false q a 0 na (na - 1)
 match x with
 |some t=>
  if na - t>0 then
   if (t==0)=true then pure (ForInStep.done (some (zht a b (out++(a.extract t na).reverse) t nb),t,nb,out++(a.extract t na).reverse,mg,na - t,bc))
   else hi3 a b mg (na - t) bc nb (out++(a.extract t na).reverse) t
  else hi3 a b mg (na - t) bc nb out na
 |_=>pure (ForInStep.done (some (zht a b out na nb),na,nb,out,mg,ac,bc))
noncomputable def hi1(na nb:Nat)(out:AK)(mg ac bc:Nat):StateT SortSt Sem (ForInStep GH):=if mg>1 then hi2 a b na nb ac bc out (mg - 1) else hi2 a b na nb ac bc out mg
noncomputable def hiA(na nb:Nat)(out:AK)(ac mg:Nat):StateT SortSt Sem (ForInStep IH):=do
 let p←elem' a (na - 1)
 if (na - 1==0)=true then pure (ForInStep.done (some (zht a b (out.push p) (na - 1) nb),na - 1,nb,out.push p,ac+1,0))
 else if ac+1≥mg then pure (ForInStep.done (none,na - 1,nb,out.push p,ac+1,0))
 else pure (ForInStep.yield (none,na - 1,nb,out.push p,ac+1,0))
noncomputable def hiB(na nb:Nat)(out:AK)(bc mg:Nat):StateT SortSt Sem (ForInStep IH):=do
 let q←elem' b (nb - 1)
 if (nb - 1==1)=true then pure (ForInStep.done (some (zm4 a b (out.push q) na (nb - 1)),na,nb - 1,out.push q,0,bc+1))
 else if bc+1≥mg then pure (ForInStep.done (none,na,nb - 1,out.push q,0,bc+1))
 else pure (ForInStep.yield (none,na,nb - 1,out.push q,0,bc+1))
noncomputable def hiI(mg na nb:Nat)(out:AK)(ac bc:Nat):StateT SortSt Sem (ForInStep IH):=do
 let q←elem' b (nb - 1)
 let p←elem' a (na - 1)
 let x←lt' q p
 match x with
 |some y=>if y=true then hiA a b na nb out ac mg else hiB a b na nb out bc mg
 |_=>pure (ForInStep.done (some (zht a b out na nb),na,nb,out,ac,bc))
noncomputable def hiE(r:Option AK)(na nb:Nat)(out:AK)(mg:Nat):StateT SortSt Sem (ForInStep OH):=match r with
 |some r=>pure (ForInStep.done (some r,na,nb,out,mg))
 |none=>do
  zdb (mg+1)
  pure (ForInStep.yield (none,na,nb,out,mg+1))
noncomputable def hiG(r:Option AK)(na nb:Nat)(out:AK)(ac bc mg:Nat):StateT SortSt Sem (ForInStep OH):=match r with
 |some r=>pure (ForInStep.done (some r,na,nb,out,mg))
 |none=>do
  rule "list.sort.gallop"
  let c←forIn [0:a.size+b.size] ((none,na,nb,out,mg+1,ac,bc):GH) fun _ c=>hi1 a b c.2.1 c.2.2.1 c.2.2.2.1 c.2.2.2.2.1 c.2.2.2.2.2.1 c.2.2.2.2.2.2
  hiE c.1 c.2.1 c.2.2.1 c.2.2.2.1 c.2.2.2.2.1
noncomputable def hiO(na nb:Nat)(out:AK)(mg:Nat):StateT SortSt Sem (ForInStep OH):=do
 let c←forIn [0:a.size+b.size] ((none,na,nb,out,0,0):IH) fun _ c=>hiI a b mg c.2.1 c.2.2.1 c.2.2.2.1 c.2.2.2.2.1 c.2.2.2.2.2
 hiG a b c.1 c.2.1 c.2.2.1 c.2.2.2.1 c.2.2.2.2.1 c.2.2.2.2.2 mg
theorem zhu:ze7 a b=(do
  rule "list.sort.merge-hi"
  let p←elem' a (a.size - 1)
  if (a.size - 1==0)=true then pure (zht a b #[p] (a.size - 1) b.size)
  else if (b.size==1)=true then pure (zm4 a b #[p] (a.size - 1) b.size)
  else do
   let g←get
   let c←forIn [0:a.size+b.size] ((none,a.size - 1,b.size, #[p],gallopOf g):OH) fun _ c=>hiO a b c.2.1 c.2.2.1 c.2.2.2.1 c.2.2.2.2
   mlast c.1):=by kernel_rfl
end
theorem MH.pA{a b out:AK}{na nb:Nat}{p:Keyed}(h:MH a b out.toList na nb)(sa:Sg a 0 a.size)(z:0<na)(e:a[na - 1]? =some p)(q: ∀i,i<nb→K b i≤K a (na - 1)):MH a b (out.push p).toList (na - 1) nb:=by
 rw[Array.toList_push];exact(show MH a b out.toList (na - 1+1) nb by rwa[show na - 1+1=na by omega]).pushA sa e q
theorem MH.pB{a b out:AK}{na nb:Nat}{p:Keyed}(h:MH a b out.toList na nb)(sb:Sg b 0 b.size)(z:0<nb)(e:b[nb - 1]? =some p)(q: ∀i,i<na→K a i≤K b (nb - 1)):MH a b (out.push p).toList na (nb - 1):=by
 rw[Array.toList_push];exact(show MH a b out.toList na (nb - 1+1) by rwa[show nb - 1+1=nb by omega]).pushB sb e q
theorem MH.eA{a b out:AK}{na nb t:Nat}(h:MH a b out.toList na nb)(sa:Sg a 0 a.size)(l:t≤na)(q: ∀j i,t≤j→j<na→i<nb→K b i≤K a j):MH a b (out++(a.extract t na).reverse).toList t nb:=by
 rw[Array.toList_append,Array.toList_reverse,zbn];exact(show MH a b out.toList (t+(na - t)) nb by rwa[show t+(na - t)=na by omega]).appA sa (na - t) fun j i u v=>q j i u (by omega)
theorem MH.eB{a b out:AK}{na nb t:Nat}(h:MH a b out.toList na nb)(sb:Sg b 0 b.size)(l:t≤nb)(q: ∀j i,t≤j→j<nb→i<na→K a i≤K b j):MH a b (out++(b.extract t nb).reverse).toList na t:=by
 rw[Array.toList_append,Array.toList_reverse,zbn];exact(show MH a b out.toList na (t+(nb - t)) by rwa[show t+(nb - t)=nb by omega]).appB sb (nb - t) fun j i u v=>q j i u (by omega)
section
variable {prog:Program} {w:World} {A:Around} {E:Value→Shared→Prop} {s:Shared} {a b:AK}
def HI(a b:AK)(x:Nat)(na nb:Nat)(out:AK):Prop:=MH a b out.toList na nb∧0<na∧1<nb∧x+na+nb≤a.size+b.size
variable {st st':SortSt} {out:AK} {na nb x mg ac bc:Nat}
theorem zln(R:Rn2 a b)(s1:Sm st st')(m:MH a b out.toList na nb)(u:0<na)(v:1<nb)(hx:x+na+nb≤a.size+b.size)(g: ∀j,j<nb→K b j≤K a (na - 1)):
  wpS (model prog w) A E s (hi4 a b mg ac bc na out nb) (PG st (Mt a b) (HI a b x)) st':=by
 obtain⟨p,tp,ep,kp⟩:=int_at R.ha (i:=na - 1) (by have:=m.la;omega);have m':=m.pA R.sa u ep g;refine wpS_bind (zbt ep (ifB (fun z=>wpS_pure (PG.fin s1 (m'.done R.sa R.sb (.inl z)))) fun z=> ?_));have l:HI a b x (na - 1) nb (out.push p):=⟨m',by omega,v,by omega⟩
 exact ifC (fun _=>wpS_pure (PG.brk s1 l)) fun _=>wpS_pure (PG.yld s1 l)
theorem zlo(R:Rn2 a b)(h1:K b 0≤K a 0)(s1:Sm st st')(m:MH a b out.toList na nb)(u:0<na)(v:1<nb)(hx:x+na+nb≤a.size+b.size)(g: ∀j,j<na→K a j≤K b (nb - 1)):
  wpS (model prog w) A E s (hi3 a b mg ac bc nb out na) (PG st (Mt a b) (HI a b x)) st':=by
 have ml:=m.la;have mb:=m.lb;obtain⟨q,tq,eq,kq⟩:=int_at R.hb (i:=nb - 1) (by omega);have m3:=m.pB R.sb (by omega) eq g;refine wpS_bind (zbt eq (ifB (fun z=>wpS_pure (PG.fin s1 (m3.first R.sa R.sb z h1))) fun z=> ?_));obtain⟨p,tp,ep,kp⟩:=int_at R.ha (i:=na - 1) (by omega);refine wpS_bind (zbt ep (wpS_bind (gallop s1.1 R.hb kp (by omega) (by omega) (fun i j c d e=>R.sb i j (Nat.zero_le _) d (by omega)) fun k hk f1 f2=> ?_)));have g3: ∀j,j<k→K b j≤K a (na - 1):=fun j c=>by
  have:=f1 j c;rw[Nat.zero_add] at this;exact Int.le_of_lt this
 refine ifC (fun zk=> ?_) fun zk=> ?_
 ·have m4:=m3.eB (t:=k) R.sb hk fun j i c d f=>Int.le_trans (R.sa i (na - 1) (Nat.zero_le _) (by omega) (by omega)) (by
   have:=f2 j c d;rw[Nat.zero_add] at this;exact Int.not_lt.mp this)
  refine ifB (fun z=>wpS_pure (PG.fin s1 (m4.first R.sa R.sb z h1))) fun z6=>ifB (fun z=>wpS_pure (PG.fin s1 (m4.done R.sa R.sb (.inr z)))) fun z8=> ?_;exact zln R s1 m4 u (by omega) (by omega) g3
 ·exact zln R s1 m3 u (by omega) (by omega) fun j c=>g3 j (by omega)
theorem zlp(R:Rn2 a b)(h1:K b 0≤K a 0)(s0:Sm st st')(l:HI a b x na nb out):
  wpS (model prog w) A E s (hi2 a b na nb ac bc out mg) (PG st (Mt a b) (HI a b x)) st':=by
 obtain⟨m,u,v,hx⟩:=l;have ml:=m.la;have mb:=m.lb;refine wpS_bind (zi1 fun st1 k1=> ?_);have s1:=k1 _ s0;obtain⟨q,tq,eq,kq⟩:=int_at R.hb (i:=nb - 1) (by omega);refine wpS_bind (zbt eq (wpS_bind (gallop s1.1 R.ha kq (by omega) (by omega) (fun i j c d e=>R.sa i j (Nat.zero_le _) d (by omega)) fun k hk f1 f2=> ?_)));have g1: ∀j,j<k→K a j≤K b (nb - 1):=fun j c=>by
  have:=f1 j c;rw[Nat.zero_add] at this;exact this
 refine ifC (fun zk=> ?_) fun zk=> ?_
 ·have m2:=m.eA (t:=k) R.sa hk fun j i c d f=>Int.le_trans (R.sb i (nb - 1) (Nat.zero_le _) (by omega) (by omega)) (by
   have:=f2 j c d;rw[Nat.zero_add] at this;exact Int.le_of_lt (Int.not_le.mp this))
  refine ifB (fun z=>wpS_pure (PG.fin s1 (m2.done R.sa R.sb (.inl z)))) fun z=> ?_;exact zlo R h1 s1 m2 (by omega) v (by omega) g1
 ·exact zlo R h1 s1 m u v hx fun j c=>g1 j (by omega)
theorem zoM(R:Rn2 a b)(h1:K b 0≤K a 0)(s1:Sm st st')(l:HI a b x na nb out):
  wpS (model prog w) A E s (hiI a b mg na nb out ac bc) (PG st (Mt a b) (HI a b (x+1))) st':=by
 obtain⟨m,u,v,hx⟩:=l;have ml:=m.la;have mb:=m.lb;obtain⟨p,tp,ep,kp⟩:=int_at R.ha (i:=na - 1) (by omega);obtain⟨q,tq,eq,kq⟩:=int_at R.hb (i:=nb - 1) (by omega);refine wpS_bind (zbt eq (wpS_bind (zbt ep (wpS_bind (ltP s1.1 kq kp ?_)))));refine ifC (fun z=> ?_) fun z=> ?_
 ·have z:=of_decide_eq_true z;have m':=m.pA R.sa u ep fun i c=>Int.le_trans (R.sb i (nb - 1) (Nat.zero_le _) (by omega) (by omega)) (Int.le_of_lt z);refine wpS_bind (zbt ep (ifB (fun z=>wpS_pure (PG.fin s1 (m'.done R.sa R.sb (.inl z)))) fun z3=> ?_));have l:HI a b (x+1) (na - 1) nb (out.push p):=⟨m',by omega,v,by omega⟩
  exact ifC (fun _=>wpS_pure (PG.brk s1 l)) fun _=>wpS_pure (PG.yld s1 l)
 ·have z: ¬K b (nb - 1)<K a (na - 1):=fun h=>z (decide_eq_true h);have m':=m.pB R.sb (by omega) eq fun i c=>Int.le_trans (R.sa i (na - 1) (Nat.zero_le _) (by omega) (by omega)) (Int.not_lt.mp z);refine wpS_bind (zbt eq (ifB (fun z=>wpS_pure (PG.fin s1 (m'.first R.sa R.sb z h1))) fun z3=> ?_));have l:HI a b (x+1) na (nb - 1) (out.push q):=⟨m',u,by omega,by omega⟩
  exact ifC (fun _=>wpS_pure (PG.brk s1 l)) fun _=>wpS_pure (PG.yld s1 l)
theorem zoN{L:Nat→Nat→AK→Prop}{G:AK→Prop}(s1:Sm st st')(l:L na nb out):wpS (model prog w) A E s (hiE none na nb out mg) (PoR st G L) st':=wpS_bind (m:=zdb (mg+1)) (zi1 fun st3 k3=>wpS_pure (PoR.yld (k3 _ s1) l))
theorem HI.pos(l:HI a b x na nb out):0<a.size+b.size:=by
 obtain⟨m,u,v,hx⟩:=l;omega
theorem zoO(R:Rn2 a b)(h1:K b 0≤K a 0)(s1:Sm st st')(l:HI a b x na nb out):
  wpS (model prog w) A E s (hiG a b none na nb out ac bc mg) (PoR st (Mt a b) (HI a b x)) st':=by
 refine wpS_bind (wpS_lift (wpAny_rule ⟨rfl,wpS_bind (zi2 (G:=Mt a b) (fun _=>HI a b x) (Le:=HI a b x) (fun _ _ _ _ h=>h) l.pos (fun y st2 o i j z s2 l2=> ?_) (fun st2 r z s2 g=>wpS_pure (PoR.fin s2 g)) (fun st2 o i j z s2 l2=>zoN s2 l2) s1 l)⟩));exact ifC (fun _=>zlp R h1 s2 l2) fun _=>zlp R h1 s2 l2
theorem zoP(R:Rn2 a b)(h1:K b 0≤K a 0)(s1:Sm st st')(l:HI a b x na nb out):
  wpS (model prog w) A E s (hiO a b na nb out mg) (PoR st (Mt a b) (HI a b (x+1))) st':=by
 refine wpS_bind (zi2 (G:=Mt a b) (fun y=>HI a b (x+y)) (Le:=HI a b (x+1)) (fun y o i j h=>⟨h.1,h.2.1,h.2.2.1,by have:=h.2.2.2;omega⟩) l.pos (fun y st2 o i j z s2 l2=> ?_) (fun st2 r z s2 g=>wpS_pure (PoR.fin s2 g)) (fun st2 o i j z s2 l2=>zoO R h1 s2 l2) s1 l);exact zoM R h1 s2 l2
theorem mergeHi{Q:AK→SortSt→Prop}(hk:kindOf st=oneType')(ha:IntKeys a)(hb:IntKeys b)(sa:Sg a 0 a.size)(sb:Sg b 0 b.size)(ya:1≤a.size)(yb:1≤b.size)(h1:K b 0≤K a 0)(hl: ∀i,i<b.size→K b i≤K a (a.size - 1))
  (h: ∀r st',Mg a b r.toList→Sm st st'→Q r st'):wpS (model prog w) A E s (ze7 a b) Q st:=by
 rw[zhu];obtain⟨p0,t0,e0,k0⟩:=int_at ha (i:=a.size - 1) (by omega);have m0:MH a b (#[]:AK).toList a.size b.size:=⟨Nat.le_refl _,Nat.le_refl _,by simp,List.Pairwise.nil,fun _ h=>by simp at h,fun _ h=>by simp at h⟩
 have m1:MH a b (#[p0]:AK).toList (a.size - 1) b.size:=m0.pA sa (by omega) e0 hl;have s0:Sm st st:=⟨hk,rfl,rfl,rfl⟩
 refine wpS_bind (wpS_lift (wpAny_rule ⟨rfl,wpS_bind (zbt e0 (ifB (fun z=>wpS_pure (h _ _ (m1.done sa sb (.inl z)) s0)) fun z1=>ifB (fun z=>wpS_pure (h _ _ (m1.first sa sb z h1) s0)) fun z2=>wpS_bind (wpS_get (wpS_bind ?_))))⟩));exact outer (G:=Mt a b) (fun x=>HI a b (x+1)) h (fun o i j l=>by obtain⟨_,u,v,z⟩:=l;omega) (fun y st2 o i j z s1 l=>zoP ⟨ha,hb,sa,sb⟩ h1 s1 l) s0 ⟨m1,by omega,by omega,by omega⟩
end
end L2.Tm
namespace L2.Tm
open PySem PyProof.Rows
theorem zqq{xs:AK}{s e i:Nat}(h:s+i<e)(he:e≤xs.size):K (xs.extract s e) i=K xs (s+i):=by
 refine K_congr ?_;rw[Array.getElem?_extract,if_pos (by omega)]
theorem zi3{xs:AK}{s e:Nat}(he:e≤xs.size):(xs.extract s e).size=e - s:=by
 rw[Array.size_extract];omega
theorem zi4{xs:AK}{s e:Nat}(h:IntKeys xs):IntKeys (xs.extract s e):=fun p hp=>h p (by
 rw[zbn] at hp;exact List.mem_of_mem_drop (List.mem_of_mem_take hp))
def put(xs:AK)(l:List Keyed)(s n:Nat):AK:=(l.zipIdx n).foldl (fun a (q:Keyed×Nat)=>a.setIfInBounds (s+q.2) q.1) xs
theorem zif(s:Nat): ∀(l:List Keyed) (n:Nat) (xs:AK),s+n+l.length≤xs.size→(put xs l s n).size=xs.size∧ ∀k:Nat,(put xs l s n)[k]? =if s+n≤k∧k<s+n+l.length then l[k - (s+n)]? else xs[k]?
 | [],n,xs,_=>⟨rfl,fun k=>by rw[List.length_nil,if_neg (by omega)];rfl⟩
 |p::l,n,xs,h=>by
  rw[List.length_cons] at h;have e:put xs (p::l) s n=put (xs.setIfInBounds (s+n) p) l s (n+1):=by
   unfold put;rw[List.zipIdx_cons,List.foldl_cons]
  obtain⟨i1,i2⟩:=zif s l (n+1) (xs.setIfInBounds (s+n) p) (by rw[Array.size_setIfInBounds];omega);rw[e];refine⟨by rw[i1,Array.size_setIfInBounds],fun k=> ?_⟩;rw[i2,List.length_cons,Array.getElem?_setIfInBounds];by_cases z:s+n=k
  ·subst z;rw[if_neg (by omega),if_pos rfl,if_pos (by omega),if_pos (by omega),Nat.sub_self];rfl
  ·rw[if_neg z];by_cases z2:s+(n+1)≤k∧k<s+(n+1)+l.length
   ·rw[if_pos z2,if_pos (by omega),show k - (s+n)=k - (s+(n+1))+1 by omega,List.getElem?_cons_succ]
   ·rw[if_neg z2,if_neg (by omega)]
theorem zlq{xs:AK}{l:List Keyed}{s:Nat}(h:s+l.length≤xs.size):(put xs l s 0).toList=xs.toList.take s++(l++xs.toList.drop (s+l.length)):=by
 obtain⟨h1,h2⟩:=zif s l 0 xs (by omega);refine List.ext_getElem? fun k=> ?_;rw[Array.getElem?_toList,h2];have lt:(xs.toList.take s).length=s:=by rw[List.length_take,Array.length_toList];omega
 rw[Nat.add_zero];by_cases z:k<s
 ·rw[if_neg (by omega),List.getElem?_append_left (by omega),List.getElem?_take,if_pos z,Array.getElem?_toList]
 ·rw[List.getElem?_append_right (by omega),lt];by_cases z2:k<s+l.length
  ·rw[if_pos (by omega),List.getElem?_append_left (by omega)]
  ·rw[if_neg (by omega),List.getElem?_append_right (by omega),List.getElem?_drop,Array.getElem?_toList];congr 1;omega
theorem zlr{xs r:AK}{s m e:Nat}(a:s≤m)(b:m≤e)(c:e≤xs.size)(h:r.toList.Perm ((xs.extract s m).toList++(xs.extract m e).toList)):(put xs r.toList s 0).Perm xs:=by
 have l:r.toList.length=e - s:=by rw[h.length_eq,List.length_append,Array.length_toList,Array.length_toList,zi3 (by omega),zi3 c];omega
 refine Array.perm_iff_toList_perm.mpr ?_;rw[zlq (by omega),l,show s+(e - s)=e by omega];have e1:xs.toList=xs.toList.take s++(((xs.extract s m).toList++(xs.extract m e).toList)++xs.toList.drop e):=by
  rw[zbn,zbn];have d1:xs.toList.drop m=(xs.toList.drop m).take (e - m)++xs.toList.drop e:=by
   rw[show xs.toList.drop e=(xs.toList.drop m).drop (e - m) by rw[List.drop_drop];congr 1;omega,List.take_append_drop]
  have d2:xs.toList.drop s=(xs.toList.drop s).take (m - s)++xs.toList.drop m:=by
   rw[show xs.toList.drop m=(xs.toList.drop s).drop (m - s) by rw[List.drop_drop];congr 1;omega,List.take_append_drop]
  rw[List.append_assoc,←d1,←d2,List.take_append_drop]
 conv=>rhs;rw[e1]
 exact(h.append_right _).append_left _
theorem zhv(i:Nat):mergeAt' i=(do
 let s←get
 let (some (sa,na,power),some (sb,nb,_)):=((pendingOf s)[i]?,(pendingOf s)[i+1]?)|unsupported "internal:list.sort.pending"
 set (setPending s (((pendingOf s).setIfInBounds i (sa,na+nb,power)).eraseIdxIfInBounds (i+1)))
 let some k←zcu false (←elem' (arrOf s) sb) (arrOf s) sa na 0|return false
 let (sa,na):=(sa+k,na - k)
 if na==0 then return true
 let some nb←zcu true (←elem' (arrOf s) (sa+na - 1)) (arrOf s) sb nb (nb - 1)|return false
 if nb==0 then return true
 let x:=(arrOf s).extract sa sb
 let y:=(arrOf s).extract sb (sb+nb)
 let merged←if na≤nb then ze6 x y else ze7 x y
 modify fun s=>setArr s (put (arrOf s) merged.toList sa 0)
 return (failedOf (←get)).isNone):=rfl
section
variable {prog:Program} {w:World} {A:Around} {E:Value→Shared→Prop} {s:Shared} {a₀:AK}
theorem zqW{σ:Type}{M:Model}{st st':σ}{Q:PUnit→σ→Prop}(h:Q ⟨⟩ st'):wpS M A E s (set st':StateT σ Sem PUnit) Q st:=by
 unfold wpS;rw[StateT.run_set];exact wpAny_pure ⟨rfl,h⟩
theorem zm5{st:SortSt}{i sa na pw sb nb pq:Nat}{Q:Bool→SortSt→Prop}(h0:IntKeys a₀)(hB:TB a₀ st)(e1:(pendingOf st)[i]? =some (sa,na,pw))(e2:(pendingOf st)[i+1]? =some (sb,nb,pq))(hs:sb=sa+na)(h1:1≤na)(h2:1≤nb)(hn:sb+nb≤a₀.size)(s1:Sg (arrOf st) sa sb)(s2:Sg (arrOf st) sb (sb+nb))
  (h: ∀st',TB a₀ st'→pendingOf st'=((pendingOf st).setIfInBounds i (sa,na+nb,pw)).eraseIdxIfInBounds (i+1)→Sg (arrOf st') sa (sb+nb)→Off sa (sb+nb) (arrOf st') (arrOf st)→Q true st'):wpS (model prog w) A E s (mergeAt' i) Q st:=by
 rw[zhv];refine wpS_bind (wpS_get ?_);simp only[e1,e2];refine wpS_bind (zqW ?_);have hI:=zgM h0 hB.pm;have hz:=hB.size;obtain⟨q,tq,eq,kq⟩:=int_at hI (i:=sb) (by omega);refine wpS_bind (zbt eq (wpS_bind (gallop (st:=setPending st _) hB.kd hI kq (by omega) h1 (by rw[←hs];exact s1) fun k hk f1 f2=> ?_)));dsimp only;generalize hx:arrOf st=xs at*;have g1: ∀i,sa≤i→i<sa+k→K xs i≤K xs sb:=fun i c d=>by
  have:=f1 (i - sa) (by omega);rw[show sa+(i - sa)=i by omega] at this;simpa only[Bf,Bool.false_eq_true,if_false] using this
 have g2: ∀i,sa+k≤i→i<sb→K xs sb≤K xs i:=fun i c d=>by
  have:=f2 (i - sa) (by omega) (by omega);rw[show sa+(i - sa)=i by omega] at this;simp only[Bf,Bool.false_eq_true,if_false] at this;omega
 have whole:(∀i j,sa≤i→i<sb→sb≤j→j<sb+nb→K xs i≤K xs j)→Sg xs sa (sb+nb):=fun g i j c d e=>by
  by_cases z1:j<sb
  ·exact s1 i j c d z1
  ·by_cases z2:i<sb
   ·exact g i j c z2 (by omega) e
   ·exact s2 i j (by omega) d e
 by_cases z:na - k=0
 ·rw[if_pos (by simpa using z)];refine wpS_pure (h _ ⟨hB.pm,hB.kd,hB.fl⟩ rfl ?_ ?_)
  ·show Sg (arrOf st) sa (sb+nb);rw[hx];exact whole fun i j c d e f=>Int.le_trans (g1 i c (by omega)) (s2 _ _ (Nat.le_refl _) e f)
  ·show Off _ _ (arrOf st) xs;rw[hx];exact Off.refl
 rw[if_neg (by simpa using z)];rw[show sa+k+(na - k) - 1=sb - 1 by omega];obtain⟨p,tp,ep,kp⟩:=int_at hI (i:=sb - 1) (by omega);refine wpS_bind (zbt ep (wpS_bind (gallop (st:=setPending st _) hB.kd hI kp (by omega) (by omega) s2 fun k' hk' f3 f4=> ?_)));dsimp only;have g3: ∀j,sb≤j→j<sb+k'→K xs j≤K xs (sb - 1):=fun j c d=>by
  have:=f3 (j - sb) (by omega);rw[show sb+(j - sb)=j by omega] at this;simp only[Bf,if_true] at this;omega
 have g4: ∀j,sb+k'≤j→j<sb+nb→K xs (sb - 1)≤K xs j:=fun j c d=>by
  have:=f4 (j - sb) (by omega) (by omega);rw[show sb+(j - sb)=j by omega] at this;simp only[Bf,if_true] at this;omega
 by_cases z2:k'=0
 ·rw[if_pos (by simpa using z2)];refine wpS_pure (h _ ⟨hB.pm,hB.kd,hB.fl⟩ rfl ?_ ?_)
  ·show Sg (arrOf st) sa (sb+nb);rw[hx];exact whole fun i j c d e f=>Int.le_trans (s1 i (sb - 1) c (by omega) (by omega)) (g4 j (by omega) f)
  ·show Off _ _ (arrOf st) xs;rw[hx];exact Off.refl
 rw[if_neg (by simpa using z2)];have zx:(xs.extract (sa+k) sb).size=sb - (sa+k):=zi3 (by omega);have zy:(xs.extract sb (sb+k')).size=k':=by rw[zi3 (by omega)];omega
 have kx: ∀i,i<sb - (sa+k)→K (xs.extract (sa+k) sb) i=K xs (sa+k+i):=fun i c=>zqq (by omega) (by omega);have kyy: ∀i,i<k'→K (xs.extract sb (sb+k')) i=K xs (sb+i):=fun i c=>zqq (by omega) (by omega);have sx:Sg (xs.extract (sa+k) sb) 0 (xs.extract (sa+k) sb).size:=fun i j c d e=>by
  rw[zx] at e;rw[kx i (by omega),kx j e];exact s1 _ _ (by omega) (by omega) (by omega)
 have sy:Sg (xs.extract sb (sb+k')) 0 (xs.extract sb (sb+k')).size:=fun i j c d e=>by
  rw[zy] at e;rw[kyy i (by omega),kyy j e];exact s2 _ _ (by omega) (by omega) (by omega)
 have m1:K (xs.extract sb (sb+k')) 0≤K (xs.extract (sa+k) sb) 0:=by
  rw[kyy 0 (by omega),kx 0 (by omega)];exact g2 _ (by omega) (by omega)
 have m2: ∀i,i<(xs.extract sb (sb+k')).size→K (xs.extract sb (sb+k')) i≤K (xs.extract (sa+k) sb) ((xs.extract (sa+k) sb).size - 1):=fun i c=>by
  rw[zy] at c;rw[kyy i c,zx,kx _ (by omega),show sa+k+(sb - (sa+k) - 1)=sb - 1 by omega];exact g3 _ (by omega) (by omega)
 obtain⟨pd,hpd⟩: ∃pd,pd=((pendingOf st).setIfInBounds i (sa,na+nb,pw)).eraseIdxIfInBounds (i+1):=⟨_,rfl⟩
 rw[←hpd] at h ⊢;have last: ∀(r:AK) (st':SortSt),Mg (xs.extract (sa+k) sb) (xs.extract sb (sb+k')) r.toList→Sm (setPending st pd) st'→wpS (model prog w) A E s (do modify fun s=>setArr s (put (arrOf s) r.toList (sa+k) 0);return (failedOf (←get)).isNone) Q st':=by
  intro r st' ⟨rp,rs⟩ ⟨c1,c2,c3,c4⟩;have c2':arrOf st'=xs:=c2.trans hx;refine wpS_bind (wpS_modify (wpS_bind (wpS_get ?_)));have pp:=zlr (xs:=xs) (r:=r) (s:=sa+k) (m:=sb) (e:=sb+k') (by omega) (by omega) (by omega) rp;have rl:r.toList.length=sb+k' - (sa+k):=by rw[rp.length_eq,List.length_append,Array.length_toList,Array.length_toList,zx,zy];omega
  have pa:=(zif (sa+k) r.toList 0 xs (by omega)).2;have fl':failedOf st'=none:=c4.trans hB.fl;show wpS _ _ _ _ (pure (failedOf st').isNone) Q _;rw[fl'];have kp1: ∀i,sa+k≤i→i<sb+k'→ ∃m∈r.toList,r.toList[i - (sa+k)]? =some m∧K (put xs r.toList (sa+k) 0) i=ky m:=fun i c d=>by
   have hi:i - (sa+k)<r.toList.length:=by omega
   refine⟨r.toList[i - (sa+k)],List.getElem_mem _,List.getElem?_eq_getElem hi,?_⟩
   have:=pa i;rw[Nat.add_zero,if_pos (by omega),List.getElem?_eq_getElem hi] at this;exact(zcj this).symm
  have kp2: ∀i,i<sa+k∨sb+k'≤i→K (put xs r.toList (sa+k) 0) i=K xs i:=fun i c=>K_congr (by
   have:=pa i;rwa[Nat.add_zero,if_neg (by omega)] at this)
  have mem: ∀m∈r.toList,∃j,ky m=K xs j∧((sa+k≤j∧j<sb)∨(sb≤j∧j<sb+k')):=fun m hm=>by
   rcases List.mem_append.mp (rp.mem_iff.mp hm) with v|v
   ·obtain⟨j,hj⟩:=List.mem_iff_getElem?.mp v;rw[Array.getElem?_toList] at hj
    have:=zda hj;exact⟨sa+k+j,by rw[zcj hj,kx j (by omega)], .inl (by omega)⟩
   ·obtain⟨j,hj⟩:=List.mem_iff_getElem?.mp v;rw[Array.getElem?_toList] at hj
    have:=zda hj;exact⟨sb+j,by rw[zcj hj,kyy j (by omega)], .inr (by omega)⟩
  refine wpS_pure (h _ ⟨?_,c1,fl'⟩ c3 ?_ ?_)
  ·show (put (arrOf st') r.toList (sa+k) 0).Perm a₀;rw[c2'];exact pp.trans (hx ▸ hB.pm)
  ·show Sg (put (arrOf st') r.toList (sa+k) 0) sa (sb+nb);rw[c2'];intro i j c d e;by_cases i1:i<sa+k
   ·rw[kp2 i (.inl i1)];by_cases j1:j<sa+k
    ·rw[kp2 j (.inl j1)];exact s1 i j c d (by omega)
    by_cases j2:j<sb+k'
    ·obtain⟨m,hm,_,em⟩:=kp1 j (by omega) j2;obtain⟨v,ev,r1⟩:=mem m hm;rw[em,ev];rcases r1 with r1|r1
     ·exact s1 i v c (by omega) (by omega)
     ·exact Int.le_trans (g1 i c i1) (s2 _ _ (Nat.le_refl _) (by omega) (by omega))
    ·rw[kp2 j (.inr (by omega))];exact Int.le_trans (g1 i c i1) (s2 _ _ (Nat.le_refl _) (by omega) e)
   by_cases i2:i<sb+k'
   ·obtain⟨m,hm,ei,em⟩:=kp1 i (by omega) i2;by_cases j2:j<sb+k'
    ·obtain⟨m',hm',ej,em'⟩:=kp1 j (by omega) j2;rw[em,em'];by_cases ij:i=j
     ·subst ij;rw[ei] at ej;cases ej;exact Int.le_refl _
     obtain⟨u1,u2⟩:=List.getElem?_eq_some_iff.mp ei;obtain⟨u3,u4⟩:=List.getElem?_eq_some_iff.mp ej
     have:=List.pairwise_iff_getElem.mp rs _ _ u1 u3 (by omega);rwa[u2,u4] at this
    ·obtain⟨v,ev,r1⟩:=mem m hm;rw[em,ev,kp2 j (.inr (by omega))];rcases r1 with r1|r1
     ·exact Int.le_trans (s1 v (sb - 1) (by omega) (by omega) (by omega)) (g4 j (by omega) e)
     ·exact s2 v j (by omega) (by omega) e
   ·rw[kp2 i (.inr (by omega)),kp2 j (.inr (by omega))];exact s2 i j (by omega) d e
  ·show Off sa (sb+nb) (put (arrOf st') r.toList (sa+k) 0) xs;rw[c2'];exact fun q c=>kp2 q (by omega)
 by_cases z3:na - k≤k'
 ·rw[if_pos z3];exact wpS_bind (mergeLo hB.kd (zi4 hI) (zi4 hI) sx sy (by omega) (by omega) m1 m2 last)
 ·rw[if_neg z3];exact wpS_bind (mergeHi hB.kd (zi4 hI) (zi4 hI) sx sy (by omega) (by omega) m1 m2 last)
end
end L2.Tm
namespace L2.Tm
open PySem PyProof.Rows
def Chn(xs:AK):Nat→List (Nat×Nat×Nat)→Nat→Prop
 |b, [],e=>b=e
 |b,z::r,e=>z.1=b∧1≤z.2.1∧Sg xs b (b+z.2.1)∧Chn xs (b+z.2.1) r e
theorem Chn.app{xs:AK}: ∀{l r:List (Nat×Nat×Nat)} {b e:Nat},Chn xs b (l++r) e↔ ∃m,Chn xs b l m∧Chn xs m r e
 | [],r,b,e=>⟨fun h=>⟨b,rfl,h⟩,fun⟨m,h1,h2⟩=>by cases h1;exact h2⟩
 |z::l,r,b,e=>by
  refine⟨fun⟨h1,h2,h3,h4⟩=> ?_,fun⟨m,⟨h1,h2,h3,h4⟩,h5⟩=>⟨h1,h2,h3,Chn.app.mpr ⟨m,h4,h5⟩⟩⟩;obtain⟨m,g1,g2⟩:=Chn.app.mp h4;exact⟨m,⟨h1,h2,h3,g1⟩,g2⟩
theorem Chn.le{xs:AK}: ∀{l:List (Nat×Nat×Nat)} {b e:Nat},Chn xs b l e→b+l.length≤e
 | [],b,e,h=>by cases h;exact Nat.le_refl _
 |z::l,b,e,⟨h1,h2,h3,h4⟩=>by have:=Chn.le h4;rw[List.length_cons];omega
theorem Chn.off{xs ys:AK}{lo hi:Nat}(o:Off lo hi ys xs): ∀{l:List (Nat×Nat×Nat)} {b e:Nat},Chn xs b l e→e≤lo∨hi≤b→Chn ys b l e
 | [],b,e,h,_=>h
 |z::l,b,e,⟨h1,h2,h3,h4⟩,d=>⟨h1,h2,h3.off o (by have:=Chn.le h4;omega),Chn.off o h4 (by omega)⟩
theorem Chn.modify{xs:AK}{pw:Nat}: ∀{l:List (Nat×Nat×Nat)} {i b e:Nat},Chn xs b l e→Chn xs b (l.modify i fun z=>(z.1,z.2.1,pw)) e
 | [],i,b,e,h=>by rw[List.modify_nil];exact h
 |z::l,0,b,e,h=>by rw[List.modify_zero_cons];exact h
 |z::l,i+1,b,e,⟨h1,h2,h3,h4⟩=>by rw[List.modify_succ_cons];exact⟨h1,h2,h3,Chn.modify h4⟩
section
variable {prog:Program} {w:World} {A:Around} {E:Value→Shared→Prop} {s:Shared} {a₀:AK}
theorem zls{α:Type}{l:List α}{i:Nat}(h:i+1<l.length): ∃l1 x y l2,l=l1++x::y::l2∧l1.length=i:=by
 refine⟨l.take i,l[i],l[i+1],l.drop (i+2),?_,by rw[List.length_take];omega⟩
 conv=>lhs;rw[←List.take_append_drop i l]
 rw[List.drop_eq_getElem_cons (by omega),List.drop_eq_getElem_cons h]
theorem zlt{st:SortSt}{i e:Nat}{Q:Bool→SortSt→Prop}(h0:IntKeys a₀)(hB:TB a₀ st)(hc:Chn (arrOf st) 0 (pendingOf st).toList e)(he:e≤a₀.size)(hi:i+1<(pendingOf st).size)
  (h: ∀st',TB a₀ st'→Chn (arrOf st') 0 (pendingOf st').toList e→(pendingOf st').size+1=(pendingOf st).size→Off 0 e (arrOf st') (arrOf st)→Q true st'):wpS (model prog w) A E s (mergeAt' i) Q st:=by
 obtain⟨l1,⟨sa,na,pw⟩,⟨sb,nb,pq⟩,l2,el,ll⟩:=zls (l:=(pendingOf st).toList) (i:=i) (by simpa using hi);have hc':=hc;rw[el] at hc';obtain⟨m,c1,b1,b2,b3,b4,b5,b6,c2⟩:=Chn.app.mp hc';simp only at b1 b2 b3 b4 b5 b6 c2;subst b1;have e1:(pendingOf st)[i]? =some (sa,na,pw):=by
  rw[←Array.getElem?_toList,el,List.getElem?_append_right (by omega),ll,Nat.sub_self];rfl
 have e2:(pendingOf st)[i+1]? =some (sb,nb,pq):=by
  rw[←Array.getElem?_toList,el,List.getElem?_append_right (by omega),ll,Nat.add_sub_cancel_left];rfl
 have c3:=Chn.le c2;subst b4;refine zm5 h0 hB e1 e2 rfl b2 b5 (by omega) b3 b6 fun st' hB' hp' sg of=> ?_;have ep:(pendingOf st').toList=l1++(sa,na+nb,pw)::l2:=by
  rw[hp',Array.toList_eraseIdxIfInBounds,Array.toList_setIfInBounds,el,List.set_append_right _ _ (by omega),ll,Nat.sub_self,List.set_cons_zero,List.eraseIdx_append_of_length_le (by omega),ll,Nat.add_sub_cancel_left];rfl
 have sz:=congrArg List.length el;have sz':=congrArg List.length ep;rw[List.length_append,List.length_cons,List.length_cons,Array.length_toList] at sz;rw[List.length_append,List.length_cons,Array.length_toList] at sz';refine h st' hB' ?_ (by omega) (of.wide (Nat.zero_le _) (by omega));rw[ep];exact Chn.app.mpr ⟨_,c1.off of (.inl (Nat.le_refl _)),rfl,by show 1≤na+nb;omega,by show Sg _ sa (sa+(na+nb));rw[←Nat.add_assoc];exact sg,by show Chn _ (sa+(na+nb)) l2 e;rw[←Nat.add_assoc];exact c2.off of (.inr (Nat.le_refl _))⟩
theorem runs{st:SortSt}{Q:Unit→SortSt→Prop}(h0:IntKeys a₀)(hB:TB a₀ st)(hp:pendingOf st= #[])(h2:2≤a₀.size)
  (h: ∀st',TB a₀ st'→SortedTo (arrOf st') a₀.size→Q () st'):wpS (model prog w) A E s sortRuns' Q st:=by
 rw[sortRuns'_eq];refine wpS_bind (wpS_get ?_);dsimp only;rw[hB.size];generalize minRun' a₀.size a₀.size 0=mr;refine wpS_bind (wpS_mono (wpS_forRange (I:=fun x c st'=> ∃lo,c=(none,lo)∧lo≤a₀.size∧(x≤lo∨a₀.size≤lo)∧TB a₀ st'∧Chn (arrOf st') 0 (pendingOf st').toList lo)
  (Q:=fun c st'=> ∃lo,c=(none,lo)∧TB a₀ st'∧Chn (arrOf st') 0 (pendingOf st').toList a₀.size) ?step ?fin ⟨0,rfl,Nat.zero_le _, .inl (Nat.le_refl _),hB,by rw[hp];rfl⟩) ?post)
 case fin=>
  intro c st' ⟨lo,e,l1,l2,b,g⟩;obtain rfl:lo=a₀.size:=by omega
  exact⟨_,e,b,g⟩
 case step=>
  intro x c st' _ hx ⟨lo,e,l1,l2,b,g⟩;subst e;dsimp only;by_cases z:lo≥a₀.size
  ·rw[if_pos z];obtain rfl:lo=a₀.size:=by omega
   exact wpS_pure ⟨_,rfl,b,g⟩
  rw[if_neg z];refine wpS_bind (count h0 (by omega) (by omega) b fun m st2 m1 m2 b2 p2 sg o2=> ?_);dsimp only;have g2:Chn (arrOf st2) 0 (pendingOf st2).toList lo:=by rw[p2];exact g.off o2 (.inl (Nat.le_refl _))
  by_cases zm:m<mr
  case' pos=>
   rw[if_pos zm];refine wpS_bind (wpS_lift (wpAny_rule ⟨rfl,?_⟩));refine wpS_bind (zoH h0 (by omega) (by omega) b2 sg fun st3 b3 p3 sg3 o3=> ?_);simp only[Bool.not_true,Bool.false_eq_true,if_false];replace g2:Chn (arrOf st3) 0 (pendingOf st3).toList lo:=by rw[p3];exact g2.off o3 (.inl (Nat.le_refl _))
   have n1:1≤min (a₀.size - lo) mr:=by omega
   have n2:lo+min (a₀.size - lo) mr≤a₀.size:=by omega
   generalize min (a₀.size - lo) mr=n at n1 n2 sg3 ⊢;clear o3 p3 b2 p2 sg o2;have b2:=b3;have sg:=sg3
  case' neg=>
   rw[if_neg zm];have n2:lo+m≤a₀.size:=by omega
   generalize m=n at m1 m2 zm sg n2 ⊢;have n1:=m1
  all_goals
   have fin: ∀st3:SortSt,TB a₀ st3→Chn (arrOf st3) 0 (pendingOf st3).toList lo→Sg (arrOf st3) lo (lo+n)→wpS (model prog w) A E s (do
     modify fun s=>setPending s ((pendingOf s).push (lo,n,0))
     return (ForInStep.yield ((none:Option Unit),lo+n)))
     (fun r st'=>match r with
      |ForInStep.done c'=> ∃lo,c'=(none,lo)∧TB a₀ st'∧Chn (arrOf st') 0 (pendingOf st').toList a₀.size
      |ForInStep.yield c'=> ∃lo,c'=(none,lo)∧lo≤a₀.size∧(x+1≤lo∨a₀.size≤lo)∧TB a₀ st'∧Chn (arrOf st') 0 (pendingOf st').toList lo) st3:=fun st3 b3 g3 s3=>by
    refine wpS_bind (wpS_modify (wpS_pure ⟨lo+n,rfl,n2,by omega,⟨b3.pm,b3.kd,b3.fl⟩,?_⟩));show Chn (arrOf st3) 0 ((pendingOf st3).push (lo,n,0)).toList (lo+n);rw[Array.toList_push];exact Chn.app.mpr ⟨lo,g3,rfl,n1,s3,rfl⟩
   refine wpS_bind (wpS_get ?_);generalize (pendingOf _).back? =bk;cases bk with
   |none=>exact fin _ b2 g2 sg
   |some z=>
    obtain⟨s1,m1,q1⟩:=z;dsimp only;generalize power' a₀.size (2*s1+m1) (2*s1+m1+m1+n) a₀.size=pw;refine wpS_bind (wpS_mono (wpS_forRange (I:=fun x c st'=>c=(none,())∧TB a₀ st'∧Chn (arrOf st') 0 (pendingOf st').toList lo∧Sg (arrOf st') lo (lo+n))
     (Q:=fun c st'=>c=(none,())∧TB a₀ st'∧Chn (arrOf st') 0 (pendingOf st').toList lo∧Sg (arrOf st') lo (lo+n)) ?istep (fun _ _ h=>h) ⟨rfl,b2,g2,sg⟩) ?ipost)
    case ipost=>
     intro c st3 ⟨e,b3,g3,s3⟩;subst e;dsimp only;refine wpS_bind (wpS_modify (fin _ ⟨b3.pm,b3.kd,b3.fl⟩ ?_ s3));show Chn (arrOf st3) 0 ((pendingOf st3).modify _ _).toList lo;rw[Array.toList_modify];exact g3.modify
    case istep=>
     intro y c st3 _ _ ⟨e,b3,g3,s3⟩;subst e;refine wpS_bind (wpS_get ?_);by_cases zp:(pendingOf st3).size>1
     ·rw[if_pos zp];obtain⟨z1,z2⟩: ∃z1,(pendingOf st3)[(pendingOf st3).size - 2]? =some z1:=⟨_,getElem?_pos (pendingOf st3) ((pendingOf st3).size - 2) (by omega)⟩
      rw[z2];obtain⟨u1,u2,older⟩:=z1;dsimp only;by_cases zo:older≤pw
      ·rw[if_pos zo];exact wpS_pure ⟨rfl,b3,g3,s3⟩
      rw[if_neg zo];refine wpS_bind (zlt h0 b3 g3 (by omega) (by omega) fun st4 b4 g4 _ o4=> ?_);simp only[Bool.not_true,Bool.false_eq_true,if_false];exact wpS_pure ⟨rfl,b4,g4,s3.off o4 (.inr (Nat.le_refl _))⟩
     ·rw[if_neg zp];exact wpS_pure ⟨rfl,b3,g3,s3⟩
 case post=>
  intro c st' ⟨lo,e,b,g⟩;subst e;dsimp only;have gl:=Chn.le g;rw[Array.length_toList] at gl;refine wpS_bind (wpS_mono (wpS_forRange (I:=fun x c st'=>c=(none,())∧TB a₀ st'∧Chn (arrOf st') 0 (pendingOf st').toList a₀.size∧((pendingOf st').size≤1∨(pendingOf st').size+x≤a₀.size))
   (Q:=fun c st'=>c=(none,())∧TB a₀ st'∧Chn (arrOf st') 0 (pendingOf st').toList a₀.size∧(pendingOf st').size≤1) ?fstep ?ffin ⟨rfl,b,g, .inr (by omega)⟩) ?fpost)
  case ffin=>exact fun c st' ⟨e,b,g,l⟩=>⟨e,b,g,by omega⟩
  case fstep=>
   intro x c st2 _ hx ⟨e,b2,g2,l⟩;subst e;refine wpS_bind (wpS_get ?_);by_cases zp:(pendingOf st2).size≤1
   ·rw[if_pos zp];exact wpS_pure ⟨rfl,b2,g2,zp⟩
   rw[if_neg zp];refine wpS_bind (zlt h0 b2 g2 (Nat.le_refl _) (by (repeat' split)<;>omega) fun st3 b3 g3 z3 _=> ?_);simp only[Bool.not_true,Bool.false_eq_true,if_false];exact wpS_pure ⟨rfl,b3,g3,by omega⟩
  case fpost=>
   intro c st2 ⟨e,b2,g2,l⟩;subst e;refine wpS_pure (h st2 b2 ?_);generalize hl:(pendingOf st2).toList=pl at g2;have ll:pl.length≤1:=by rw[←hl,Array.length_toList];exact l
   match pl,ll,g2 with
   | [],_,g=>have:0=a₀.size:=g;omega
   | [z],_,⟨_,_,sg,ee⟩=>
    have ee':0+z.2.1=a₀.size:=ee;rw[ee'] at sg;exact fun i j u v=>sg i j (Nat.zero_le _) u v
end
end L2.Tm
namespace L2.Se
open PySem PyProof.Rows
def Rs(xs:Array Nat):Prop:=xs.toList.Pairwise (· < ·)
theorem Rs.lt{xs:Array Nat}(h:Rs xs){i j:Nat}(hij:i<j)(hj:j<xs.size):xs[i]<xs[j]:=by
 have:=List.pairwise_iff_getElem.mp h i j (by simpa using Nat.lt_trans hij hj) (by simpa using hj) hij;simpa using this
theorem zgN{xs:Array Nat}{i d:Nat}(h:i<xs.size):xs.getD i d=xs[i]:=by
 rw[Array.getD_eq_getD_getElem?,getElem?_pos xs i h];rfl
theorem zgO{xs:Array Nat}(h:Rs xs)(j:Nat): ∀(fuel lo hi:Nat),lo≤hi→(hh:hi≤xs.size)→hi - lo≤fuel→(∀i,(_:i<lo)→(hi':i<xs.size)→xs[i]<j)→(∀i,hi≤i→(hi':i<xs.size)→j≤xs[i])→
  SetTable.below.go xs j fuel lo hi≤xs.size∧(∀i,i<SetTable.below.go xs j fuel lo hi→(hi':i<xs.size)→xs[i]<j)∧ ∀i,SetTable.below.go xs j fuel lo hi≤i→(hi':i<xs.size)→j≤xs[i]
 |0,lo,hi,a,b,c,d,e=>by
  obtain rfl:lo=hi:=by omega
  exact⟨b,d,e⟩
 |fuel+1,lo,hi,a,b,c,d,e=>by
  rw[SetTable.below.go];by_cases z:lo<hi
  ·rw[if_pos z];have hm:(lo+hi) / 2<xs.size:=by omega
   dsimp only;rw[zgN hm];by_cases q:xs[(lo+hi) / 2]<j
   ·rw[if_pos q];refine zgO h j fuel _ hi (by omega) b (by omega) (fun i u v=> ?_) e;by_cases k:i=(lo+hi) / 2
    ·subst k;exact q
    ·exact Nat.lt_trans (h.lt (show i<(lo+hi) / 2 by omega) hm) q
   ·rw[if_neg q];refine zgO h j fuel lo _ (by omega) (by omega) (by omega) d (fun i u v=> ?_);by_cases k:i=(lo+hi) / 2
    ·subst k;omega
    ·have:=h.lt (show (lo+hi) / 2<i by omega) v;omega
  ·rw[if_neg z];obtain rfl:lo=hi:=by omega
   exact⟨b,d,e⟩
theorem ze8{xs:Array Nat}(h:Rs xs)(j:Nat):SetTable.below xs j≤xs.size∧(∀i,i<SetTable.below xs j→(hi':i<xs.size)→xs[i]<j)∧ ∀i,SetTable.below xs j≤i→(hi':i<xs.size)→j≤xs[i]:=
 zgO h j _ 0 _ (Nat.zero_le _) (Nat.le_refl _) (Nat.le_refl _) (fun i u=>absurd u (Nat.not_lt_zero _)) fun i u v=>by omega
structure TG (L:Bool) (t:SetTable):Prop where
 led:t.led=L
 dum:t.dummies= #[]
 ris:t.plain=true→Rs t.place
theorem zhw{t:SetTable}(h:t.dummies= #[])(j:Nat):SetTable.has t.dummies j=false:=by
 unfold SetTable.has;rw[h];simp
theorem zig{t:SetTable}(h:t.dummies= #[])(j:Nat):t.slot j≠ .dummy:=by
 unfold SetTable.slot;rw[zhw h];dsimp only;split
 ·exact nofun
 ·simp
theorem ze9{t:SetTable}(h:t.dummies= #[]){hashAt:Nat→Int}{hs:Int}: ∀(fuel:Nat) (p:SetTable.Probe) {j:Nat} {d:Option Nat},p.dummy=none→SetTable.probe.go t hashAt hs fuel p=some (.empty j d)→d=none∧t.slot j= .empty
 |0,p,j,d,_,e=>by cases e
 |fuel+1,p,j,d,q,e=>by
  rw[SetTable.probe.go] at e;cases z:t.slot p.j with
  |empty=>
   rw[z] at e;cases e;exact⟨q,z⟩
  |dummy=>exact absurd z (zig h _)
  |live i=>
   rw[z] at e;dsimp only at e;split at e
   ·cases e
   ·refine ze9 h fuel _ ?_ e;unfold SetTable.advance;split
    ·exact q
    ·exact q
theorem zoQ{t:SetTable}{j:Nat}(h:Rs t.place)(z:t.slot j= .empty):Rs (SetTable.insertAt t.place (SetTable.below t.place j) j):=by
 obtain⟨b1,b2,b3⟩:=ze8 h j;generalize hb:SetTable.below t.place j=b at b1 b2 b3 ⊢;have ne: ∀(q:b<t.place.size),t.place[b]≠j:=fun q e=>by
  unfold SetTable.slot at z;rw[hb] at z;dsimp only at z;rw[if_pos (by rw[getElem?_pos t.place b q,e];simp)] at z;cases z
 unfold Rs;rw[SetTable.toList_insertAt];have h1:(t.place.toList.take b).Pairwise (· < ·):=List.Pairwise.sublist (List.take_sublist _ _) h;have h2:(t.place.toList.drop b).Pairwise (· < ·):=List.Pairwise.sublist (List.drop_sublist _ _) h;have t1: ∀x∈t.place.toList.take b,x<j:=fun x hx=>by
  obtain⟨i,hi⟩:=List.mem_iff_getElem?.mp hx;rw[List.getElem?_take] at hi;by_cases q:i<b
  ·rw[if_pos q,Array.getElem?_toList] at hi;obtain⟨u,v⟩:=Array.getElem?_eq_some_iff.mp hi;rw[←v];exact b2 i q u
  ·rw[if_neg q] at hi;cases hi
 have t2: ∀x∈t.place.toList.drop b,j<x:=fun x hx=>by
  obtain⟨i,hi⟩:=List.mem_iff_getElem?.mp hx;rw[List.getElem?_drop,Array.getElem?_toList] at hi;obtain⟨u,v⟩:=Array.getElem?_eq_some_iff.mp hi;rw[←v];have hb':b<t.place.size:=by omega
  have q1:=b3 b (Nat.le_refl _) hb';have q2:=ne hb';by_cases k:i=0
  ·subst k;simp only[Nat.add_zero];omega
  ·have:=h.lt (show b<b+i by omega) u;omega
 (try simp only[List.append_assoc,List.cons_append,List.nil_append])
 refine List.pairwise_append.mpr ⟨h1,List.pairwise_cons.mpr ⟨t2,h2⟩,fun x hx y hy=> ?_⟩;rcases List.mem_cons.mp hy with e|e
 ·rw[e];exact t1 x hx
 ·exact Nat.lt_trans (t1 x hx) (t2 y e)
theorem TG.stand{L:Bool}{t:SetTable}(h:TG L t)(n:Nat):TG L (t.standIn n):=⟨h.led,rfl,fun z=>by cases z⟩
theorem TG.lay{L:Bool}{t:SetTable}(h:TG L t)(es:Array (Int×Value))(hs:Int)(x:Value):TG L (layNew t es hs x).2.1:=by
 unfold layNew;cases e:t.freeSlot hs with
 |none=>exact h.stand _
 |some q=>
  obtain⟨slot,was⟩:=q;dsimp only;have hp:TG L (t.put slot).1:=by
   refine⟨h.led,?_,fun z=> ?_⟩
   ·show (if SetTable.has t.dummies slot=true then _ else t.dummies)= #[];rw[zhw h.dum,if_neg (by decide)];exact h.dum
   ·refine zoQ (h.ris z) ?_;unfold SetTable.freeSlot at e;split at e
    ·rename_i j d ej;have ej':SetTable.probe.go t (fun _=>hs+1) hs (10*SetTable.turns t.mask) (t.probeStart hs)=some (.empty j d):=ej;obtain⟨d0,sj⟩:=ze9 h.dum _ _ rfl ej';subst d0;cases e;exact sj
    ·cases e
  unfold SetTable.orStandIn;split
  ·exact hp
  ·exact hp.stand _
theorem TG.relay{L:Bool}{t:SetTable}(h:TG L t)(es:Array (Int×Value))(n:Nat):TG L (relayAll t es n).2.1:=by
 unfold relayAll;cases e:t.relaid (es.map (·.1)) n with
 |none=>exact h.stand _
 |some q=>
  obtain⟨t',order⟩:=q;dsimp only;have hp:TG L t':=by
   unfold SetTable.relaid SetTable.laid at e;obtain⟨owner,_,e2⟩:=Option.bind_eq_some_iff.mp e;cases e2;refine⟨h.led,rfl,fun _=> ?_⟩;show List.Pairwise _ _;rw[List.map_filterMap];refine List.Pairwise.filterMap (R:=(· < ·)) _ ?_ List.pairwise_lt_range;intro a a' haa b hb b' hb';simp only[Option.map_map,Option.map_eq_some_iff] at hb hb';obtain⟨_,_,rfl⟩:=hb;obtain⟨_,_,rfl⟩:=hb';exact haa
  split
  ·exact hp
  ·exact h.stand _
end L2.Se
namespace L2.Se
open PySem PyProof.Rows
abbrev setO(es:Array (Int×Value))(ep:Nat)(t:SetTable):Obj:={cls:= .type "set",dict:=none,data:= .set es ep t,slots:= #[]}
def EL(es:Array (Int×Value)):Prop:= ∀e∈es.toList,∃k tk,e=(hashInt k,Value.int k tk)
def nm(e:Int×Value):Int:=numOf e.2
structure SI (a:Addr) (L:Bool) (ks:List Int) (h:Heap):Prop where
 ex: ∃es ep t,h.get? a=some (setO es ep t)∧EL es∧(es.toList.map nm).Perm ks∧es.size<scanBound∧t.fits es.size=true∧TG L t
def dd(ks:List Int)(k:Int):List Int:=if k∈ks then ks else ks++ [k]
section
variable {prog:Program} {w:World} {A:Around} {E:Value→Shared→Prop} {s:Shared}
theorem zqr{es:Array (Int×Value)}(h:EL es):ElemsOf (intKind prog w) es.toList:=fun e he=>by
 obtain⟨k,tk,rfl⟩:=h e he;exact⟨⟨k,intKind_is _ _ _ _,rfl⟩,rfl⟩
theorem stored{a:Addr}{es:Array (Int×Value)}{ep:Nat}{t:SetTable}{h:Heap}(e:h.get? a=some (setO es ep t))(es':Array (Int×Value))(t':SetTable):(h.update a (Obj.putSet es' t')).get? a=some (setO es' (ep+1) t'):=
 Heap.get?_update_self (Obj.putSet es' t') e rfl
theorem zoR{a:Addr}{L:Bool}{ks:List Int}{k:Int}{tk:Tok}{Q:Bool→Shared→Prop}(hS:SI a L ks s.heap)(hr:ks.length+1<scanBound)
  (h: ∀b h',Heap.SameBut a s.heap h'→SI a L (dd ks k) h'→Q b {s with heap:=h'}):wpAny (model prog w) A (setAddHashed a (.int k tk) (hashInt k)) Q E s:=by
 obtain⟨es,ep,t,ho,el,pm,hb,hf,tg⟩:=hS.ex;have els:ElemsOf (intKind prog w) es.toList:=zqr el;have ez:es.size=ks.length:=by rw[←Array.length_toList,←pm.length_eq,List.length_map]
 unfold setAddHashed setAddHashedIn;refine wpAny_holding (wpAny_bind (wpAny_setState_of ho rfl hf ?_));dsimp only;rw[byScan_of (knd:=intKind prog w) rfl hb els];simp only[↓reduceIte];unfold setAddByScan;refine wpAny_bind (wpAny_bind (wpAny_rule (wpAny_bind (wpAny_setScan_of (knd:=intKind prog w) (k:=k) (intKind_is _ _ _ _) ho rfl hf els ?_))));have hin:k∈ks↔ ∃e∈es.toList,(intKind prog w).is k e.2=true:=by
  rw[←pm.mem_iff,List.mem_map];refine⟨fun⟨e,he,q⟩=> ?_,fun⟨e,he,q⟩=> ?_⟩
  ·obtain⟨k',tk',rfl⟩:=el e he;obtain rfl:k'=k:=q;exact⟨_,he,intKind_is _ _ _ _⟩
  ·obtain⟨k',tk',rfl⟩:=el e he;exact⟨_,he,((intKind prog w).inj _ _ _ q (intKind_is _ _ _ _)).symm⟩
 cases hr':List.findIdx? (fun e=>(intKind prog w).is k e.2) es.toList with
 |some j=>
  dsimp only;obtain⟨hj,hpj,_⟩:=List.findIdx?_eq_some_iff_getElem.mp hr';have hk:k∈ks:=hin.mpr ⟨_,List.getElem_mem hj,hpj⟩;refine wpAny_pure (wpAny_pure ?_)
  have:=h false s.heap (Heap.SameBut.refl a s.heap) (by unfold dd;rw[if_pos hk];exact hS);exact this
 |none=>
  dsimp only;have hk:k∉ks:=fun z=>by
   obtain⟨e,he,q⟩:=hin.mp z
   have:=List.findIdx?_eq_none_iff.mp hr' e he;rw[q] at this;cases this
  have hp:=layNew_perm t es (hashInt k) (.int k tk);have hl:=layNew_fits t es (hashInt k) (.int k tk);have hg:=tg.lay es (hashInt k) (.int k tk);have ehk:(intKind prog w).hash k=hashInt k:=rfl;generalize hL:layNew t es (hashInt k) (.int k tk)=R at hp hl hg ⊢;obtain⟨es1,t1,was,gave⟩:=R;dsimp only at hp hl hg ⊢;rw[Array.toList_push] at hp;have el1:EL es1:=fun e he=>by
   rcases List.mem_append.mp (hp.mem_iff.mp he) with z|z
   ·exact el e z
   ·rw[List.mem_singleton.mp z];exact⟨k,tk,rfl⟩
  have pm1:(es1.toList.map nm).Perm (dd ks k):=by
   unfold dd;rw[if_neg hk];refine(hp.map nm).trans ?_;rw[List.map_append];exact pm.append_right _
  have z1:es1.size=ks.length+1:=by
   rw[←Array.length_toList,hp.length_eq,List.length_append,Array.length_toList,ez];rfl
  have o1:=stored ho es1 t1;have fin: ∀g:Bool→Sem Unit,(∀(b:Bool) (s₁:Shared) (Q':Unit→Shared→Prop),Q' () s₁→wpAny (model prog w) A (g b) Q' E s₁)→wpAny (model prog w) A (do
    storeSet a es1 t1
    if (!was && t1.tooFull)=true then do
     g (relayAll t1 es1 (SetTable.grown es1.size)).2.2
     storeSet a (relayAll t1 es1 (SetTable.grown es1.size)).1 (relayAll t1 es1 (SetTable.grown es1.size)).2.1
     pure (some true)
    else pure (some true)) (fun r s'=>r=some true∧ ∃h',s'={s with heap:=h'}∧Heap.SameBut a s.heap h'∧SI a L (dd ks k) h') E s:=by
   intro g gw;refine wpAny_bind (wpAny_storeSet_of ho rfl ?_ (fits_of_scanBound (by omega)));have sb1:=Heap.SameBut.update s.heap a (Obj.putSet es1 t1);split
   ·have hp2:=relayAll_perm t1 es1 (SetTable.grown es1.size);have hf2:=relayAll_fits t1 es1 (SetTable.grown es1.size);have hg2:=hg.relay es1 (SetTable.grown es1.size);generalize relayAll t1 es1 (SetTable.grown es1.size)=R2 at hp2 hf2 hg2 ⊢;obtain⟨es2,t2,gave2⟩:=R2;dsimp only at hp2 hf2 hg2 ⊢;have z2:es2.size=es1.size:=by rw[←Array.length_toList,hp2.length_eq,Array.length_toList]
    refine wpAny_bind (gw _ _ _ (wpAny_bind (wpAny_storeSet_of o1 rfl (wpAny_pure ⟨rfl,_,rfl,sb1.trans (Heap.SameBut.update _ a _),⟨es2,_,t2,stored o1 es2 t2,fun e he=>el1 e (hp2.mem_iff.mp he),(hp2.map nm).trans pm1,by omega,hf2,hg2⟩⟩) (fits_of_scanBound (by omega)))))
   ·exact wpAny_pure ⟨rfl,_,rfl,sb1,⟨es1,_,t1,o1,el1,pm1,by omega,hl,hg⟩⟩
  have gw: ∀(b:Bool) (s₁:Shared) (Q':Unit→Shared→Prop),Q' () s₁→wpAny (model prog w) A (match b with|true=>rule "set.scan.the-table-gave-way"|false=>pure ()) Q' E s₁:=fun b s₁ Q' q=>by
   cases b
   ·exact wpAny_pure q
   ·exact wpAny_rule q
  refine wpAny_bind (gw _ _ _ ?_);have hbv:hashByValue 8 (Value.int k tk)=pure true:=hashByValue_scannable 8 rfl;split
  case' isTrue=>refine wpAny_bind ?_
  case' isTrue=>rw[hbv]
  case' isFalse=>refine wpAny_bind ?_
  all_goals
   refine wpAny_pure ?_;simp only[↓reduceIte];refine wpAny_mono (fin _ ?_) (fun r s' ⟨e1,h',e2,sb,si⟩=> ?_) fun _ _ e=>e
   ·intro b s₁ Q' q;cases b
    ·exact wpAny_pure q
    ·exact wpAny_rule q
   ·subst e1 e2;exact wpAny_pure (h true h' sb si)
end
end L2.Se
namespace L2.Se
open PySem PyProof.Rows
def ledOf(w:World):Bool:= !(w.params.followText "set-order")
section
variable {prog:Program} {w:World} {A:Around} {E:Value→Shared→Prop} {s:Shared}
theorem zm6(a:Value){Q₁:Value→Shared→Prop}(h:Q₁ (.ref s.heap.objs.size) {s with heap:=s.heap.push (setO #[] 0 (.fresh 0 0 (ledOf w)))}):
  codeAny (model prog w) A (.call (.builtin "set.__new__") ⟨[.type "set",a], []⟩) (wants Q₁ E) s:=by
 refine codeAny_of_tree ?_;show wpAny _ A.in1 (do checkBuiltinCall "set.__new__" ⟨[.type "set",a], []⟩;again (.builtin "set.__new__" ⟨[.type "set",a], []⟩)) _ _ s;have e1:=PySem.F.newCall_set_1 a;have q1:=plainId_quiet PySem.F.plain_set_new;refine wpAny_bind (wpAny_of_eq e1 (wpAny_pure ⟨q1 _,codeAny_builtin PySem.F.entry_set_new ?_⟩));rw[Around.under_plainId PySem.F.plain_set_new _];have sub:=PySem.sub_set_self;obtain⟨hp,g,d,tk,os⟩:=s;unfold Builtin.«set.__new__» Builtin.Frozenset.newClass;dsimp only;wp_walk
 refine wpAny_askSetting (wpAny_pure ?_);dsimp only;simp only[newObj];exact wpAny_bind (wpAny_alloc (wpAny_pure (wpAny_pure h)))
end
section
variable {prog:Program} {w:World} {A:Around} {R:Result→Shared→Prop} {I:Addr} {fp wr:List Addr} {G:Array GenState→Array GenState→Prop} {n:Nat} {P:Nat→Value→Prop} {St:Nat→Shared→Prop}
def metOf(val:Nat→Int)(i:Nat):List Int:=((List.range i).map val).foldl dd []
theorem met_succ(val:Nat→Int)(i:Nat):metOf val (i+1)=dd (metOf val i) (val i):=by
 unfold metOf;rw[List.range_succ,List.map_append,List.foldl_append];rfl
theorem zoS(ks:List Int)(k:Int):(dd ks k).length≤ks.length+1:=by
 unfold dd;split
 ·omega
 ·rw[List.length_append];exact Nat.le_refl _
theorem met_len(val:Nat→Int): ∀i,(metOf val i).length≤i
 |0=>Nat.le_refl _
 |i+1=>by
  have:=met_len val i
  have:=zoS (metOf val i) (val i);rw[met_succ];omega
theorem SI.at{a:Addr}{L:Bool}{ks:List Int}{h h':Heap}(x:SI a L ks h)(e: ∀o,h.get? a=some o→h'.get? a=some o):SI a L ks h':=by
 obtain⟨es,ep,t,ho,r⟩:=x.ex;exact⟨es,ep,t,e _ ho,r⟩
theorem zlu{L:Bool}(W:WalksS prog w A.in1 I fp wr G n P St)(S:Addr)(hSf:S∉fp)(val:Nat→Int)(hval: ∀i v,P i v→ ∃t,v= .int (val i) t)(hb:n+1<scanBound):
  ∀(k i:Nat) (s:Shared),n - i=k→i≤n→St i s→SI S L (metOf val i) s.heap→(∀s',Moved (S::wr) G s s'→SI S L (metOf val n) s'.heap→R (.ok (.ret .none)) s')→
   codeAny (model prog w) A (.builtin "set.update.loop" ⟨[.ref S, .ref I], []⟩) R s:=by
 have nw:S∉wr:=fun h=>hSf (W.sub _ h);have sub: ∀b∈wr,b∈S::wr:=fun b hb=>List.mem_cons_of_mem _ hb;intro k;induction k with
 |zero=>
  intro i s hk hi hst hS hR;obtain rfl:i=n:=by omega
  refine codeAny_builtin PyProof.Rows.F.entry_set_update_loop ?_;rw[Around.under_plainId PyProof.Rows.F.plain_set_update_loop _];show wpAny _ A.in1 (pyNext (.ref I)>>=_) _ _ s;exact wpAny_bind (W.done s _ _ hst fun s' hm=>wpAny_pure (hR s' (hm.mono sub) (hS.at fun o e=>hm.heap S o nw e)))
 |succ k ih=>
  intro i s hk hi hst hS hR;have hlt:i<n:=by omega
  refine codeAny_builtin PyProof.Rows.F.entry_set_update_loop ?_;rw[Around.under_plainId PyProof.Rows.F.plain_set_update_loop _];show wpAny _ A.in1 (pyNext (.ref I)>>=_) _ _ s;refine wpAny_bind (W.item i s _ _ hlt hst fun v s' hP hst' hm=> ?_);obtain⟨t,rfl⟩:=hval i v hP;have hS':=hS.at fun o e=>hm.heap S o nw e;show wpAny _ A.in1 (holding [Value.int (val i) t] (setAdd S (.int (val i) t))>>=_) _ _ s';refine wpAny_bind (wpAny_holding ?_);unfold setAdd;refine wpAny_holding (wpAny_bind ((intKind prog w).pyHash (k:=val i) (intKind_is _ _ _ _) ?_));have ml:=met_len val i;refine zoR (s:={s' with toks:=s'.toks+1}) hS' (by omega) fun b h' sb si=> ?_;rw[←met_succ] at si;refine wpAny_pure ⟨plainId_quiet PyProof.Rows.F.plain_set_update_loop _,ih (i+1) _ (by omega) hlt (W.frame _ s' _ _ hst' (Nat.le_succ _) fun b hb o e=> ?_) si fun s'' hm'' hS''=> ?_⟩
  ·rw[sb.2 b (fun h:b=S=>hSf (by rw[←h];exact hb))];exact e
  ·refine hR s'' (Moved.trans W.gtrans ((hm.mono sub).then_heap (Nat.le_succ _) fun b o hb e=> ?_) hm'') hS'';rw[sb.2 b (fun h:b=S=>hb (by rw[h];exact List.mem_cons_self))];exact e
end
section
variable {prog:Program} {w:World} {A:Around} {E:Value→Shared→Prop} {s:Shared}
theorem set_list{l:Addr}{its:Array Value}{ns:List Int}{Q:Value→Shared→Prop}(hh:A.handled=none)(hl:s.heap.IsList l its)(hi:IntsAre its.toList ns)(hb:its.size+1<scanBound)
  (h: ∀(h':Heap) (tk:Nat),SI s.heap.objs.size (ledOf w) (metOf (fun i=>ns.getD i 0) its.size) h'→(∀b o,b<s.heap.objs.size→s.heap.get? b=some o→h'.get? b=some o)→Q (.ref s.heap.objs.size) {s with heap:=h',toks:=tk}):
  wpAny (model prog w) A (call (.type "set") [.ref l]) Q E s:=by
 obtain⟨c,tl,hmro⟩:=PySem.F.called_set.mro;have hmade:=PySem.F.called_set.made;have hsub:=PySem.F.called_set.sub;refine wpAny_call (codeAny_of_tree ?_);show wpAny _ _ (callAny (.type "set") _) _ _ _;refine wpAny_pure ⟨Code.quiet_builtin _ (by decide+kernel),codeAny_builtin PySem.F.entry_type_call ?_⟩;rw[Around.under_plain (weight_type_call_type "set" [.ref l] []) rfl];have h1:=PySem.F.called_set.notType;have h2:=PySem.F.called_set.canCreate;have hct:=PySem.F.typeCall_set_1 (.ref l);repeat (any_goals (first|assumption|wp_step))
 obtain⟨o0,ho0⟩: ∃o0,o0=setO #[] 0 (.fresh 0 0 (ledOf w)):=⟨_,rfl⟩
 refine codeAny_mono (zm6 (.ref l) (E:=E) (Q₁:=fun v s₁=>v= .ref s.heap.objs.size∧s₁={s with heap:=s.heap.push o0}) ⟨rfl,by rw[ho0]⟩) fun r s₁ hr=> ?_;cases r with
 |error e=>exact hr
 |ok fl=>
  cases fl with
  |ret obj=>
   obtain⟨e1,e2⟩:=hr;subst e1 e2;have hS:(s.heap.push o0).get? s.heap.objs.size=some (setO #[] 0 (.fresh 0 0 (ledOf w))):=by rw[ho0];exact Heap.get?_push_size _ rfl
   have hT:Shared.TypeIs {s with heap:=s.heap.push o0} (.ref s.heap.objs.size) "set":=⟨_,hS,rfl⟩
   have hli:=PySem.F.called_set.init.lookup;have hbi:=PySem.F.called_set.init.bind (.ref s.heap.objs.size);repeat (any_goals (first|assumption|wp_step))
   refine codeAny_mono (codeAny_call_builtin (R:=wants (fun r s₂=>r= .none∧ ∃h' tk,s₂={s with heap:=h',toks:=tk}∧SI s.heap.objs.size (ledOf w) (metOf (fun i=>ns.getD i 0) its.size) h'∧(∀b o,b<s.heap.objs.size→s.heap.get? b=some o→h'.get? b=some o)) E) PySem.F.called_set.init.plain PySem.F.entry_set_init (PySem.check_set_init_1 hT ?_)) fun r₂ s₂ hr₂=> ?_
   ·obtain⟨ol,hol,hcl,nl,hdl⟩:=hl;obtain⟨ocls,odict,odata,oslots⟩:=ol;simp only at hcl hdl;subst hcl hdl;have hol':(s.heap.push o0).get? l=some {cls:= .type "list",dict:=odict,data:= .seq its nl,slots:=oslots}:=Heap.get?_push_of_some _ hol;have hsls:=PySem.F.sub_list_set;have hslf:=PySem.F.sub_list_frozenset;have hne:(Value.type "list"==Value.type "dict")=false:=by decide
    have hl1:(s.heap.push o0).IsList l its:=⟨_,hol',rfl,nl,rfl⟩
    unfold Builtin.«set.__init__» noKeywords Builtin.Frozenset.updateFrom;generalize hPI:pyIter=PI;wp_walk
    subst hPI;refine wpAny_pyIter_list hl1 (wpAny_bind (wpAny_runValue ?_));have hlS:l<s.heap.objs.size:=Heap.lt_size hol;have hh3:A.in1.in1.in1.handled=none:=by simp [hh]
    have zp:(s.heap.push o0).objs.size=s.heap.objs.size+1:=Heap.size_push ..;have nI:l≠(s.heap.push o0).objs.size:=fun q=>by rw[zp] at q;exact absurd q (Nat.ne_of_lt (Nat.lt_succ_of_lt hlS))
    have nS:s.heap.objs.size∉ [(s.heap.push o0).objs.size,l]:=by
     rw[zp];simp only[List.mem_cons,List.not_mem_nil,or_false,not_or];exact⟨Nat.ne_of_lt (Nat.lt_succ_self _),Nat.ne_of_gt hlS⟩
    have hval: ∀(i:Nat) (v:Value),its[i]? =some v→ ∃t,v= .int ((fun i=>ns.getD i 0) i) t:=fun i v hv=>IntsAre.int_at hi i v (by rw[Array.getElem?_toList];exact hv);refine zlu (L:=ledOf w) ((Walks.list hh3 _ l nI its).toS) s.heap.objs.size nS (fun i=>ns.getD i 0) hval hb (its.size - 0) 0 _ (by omega) (Nat.zero_le _) ⟨⟨_,Heap.get?_push_size _ rfl,rfl,rfl⟩,hl1.push _⟩ ?hS0 ?hR
    case hS0=>
     exact⟨#[],0,_,Heap.get?_push_of_some _ hS,fun e he=>by simp at he,by exact List.Perm.nil,by decide,rfl,⟨rfl,rfl,fun _=>List.Pairwise.nil⟩⟩
    case hR=>
     intro s' hm hS';obtain⟨h',g',d',tk',os'⟩:=s';have eg:g'=s.gens:=hm.gens;have ed:d'=s.drawn:=hm.drawn;have eo:os'=s.os:=hm.os;subst eg ed eo;show wpAny _ _ _ _ _ _;refine wpAny_pure ?_;show wpAny _ _ (ret Value.none) _ _ _;refine wpAny_pure ⟨rfl,h',tk',rfl,hS',fun b o hb e=> ?_⟩;refine hm.heap b o ?_ (Heap.get?_push_of_some _ (Heap.get?_push_of_some _ e));rw[zp];simp only[List.mem_cons,List.not_mem_nil,or_false,not_or];exact⟨Nat.ne_of_lt hb,Nat.ne_of_lt (Nat.lt_succ_of_lt hb)⟩
   ·cases r₂ with
    |error e=>exact hr₂
    |ok fl₂=>
     cases fl₂ with
     |ret r=>
      obtain⟨rfl,h',tk,rfl,hS',hk'⟩:=hr₂;repeat (any_goals (first|assumption|wp_step))
      exact h _ _ hS' hk'
     |_=>exact hr₂.elim
  |_=>exact hr.elim
end
end L2.Se
namespace L2.Se
open PySem PyProof.Rows
theorem zcE:Slot "set_iterator" "__next__" "set_iterator.__next__":=
 .of (owner:="set_iterator") (n:="__next__") (by rw[typeLookup_type,builtinLookup_eq_fast];kernel_rfl) (by decide+kernel) (by decide+kernel) (by decide+kernel) (by first|exact .inl (by decide+kernel)|exact .inr (by decide+kernel)) (by rw[isSubtype_type];kernel_rfl)
theorem zfa:entryFor table "set_iterator.__next__"=some Builtin.«set_iterator.__next__» :=entryFor_of_tree (by kernel_rfl)
theorem zgc(a:Value):argsOk "set_iterator.__next__" ⟨[a], []⟩:=by unfold argsOk;kernel_rfl
theorem zih:entryFor table "set.__iter__"=some Builtin.«frozenset.__iter__» :=entryFor_alias (id':="frozenset.__iter__") (by kernel_rfl) rfl (by decide+kernel) (by kernel_rfl)
theorem zdG{α:Type}: ∀{l:List α} {i:Nat} (h:i<l.length),(l[i]::l.eraseIdx i).Perm l
 |x::r,0,_=>List.Perm.refl _
 |x::r,i+1,h=>by
  rw[List.eraseIdx_cons_succ,List.getElem_cons_succ];exact(List.Perm.swap _ _ _).trans ((zdG (by simpa using h)).cons x)
theorem zgd{α:Type}(next:Nat→Nat): ∀(fuel k:Nat) (left:List α) (out:Array α),left.length=fuel→(pickOrder.go next fuel k left out).toList.Perm (out.toList++left)
 |0,k,left,out,h=>by
  obtain rfl:left= []:=List.length_eq_zero_iff.mp h;rw[pickOrder.go,List.append_nil]
 |fuel+1,k,left,out,h=>by
  have lt:next k % left.length<left.length:=Nat.mod_lt _ (by omega);rw[pickOrder.go,List.getElem?_eq_getElem lt];dsimp only;refine(zgd next fuel (k+1) _ _ (by rw[List.length_eraseIdx,if_pos lt];omega)).trans ?_;rw[Array.toList_push,List.append_assoc];refine List.Perm.append_left _ ?_;rw[List.singleton_append];exact zdG lt
section
variable {prog:Program} {w:World} {A:Around} {E:Value→Shared→Prop} {s:Shared}
theorem zoT{M:Model}{src:Source}{n:Nat}{Q:Nat→Shared→Prop}(hn:n≠0)(h: ∀i,i<n→ ∀d,Q i {s with drawn:=d}):wpAny M A (choose src n) Q E s:=fun Γ p _=>by
 intros
 show Sem.wp _ _ (.choose src n .pure) _ _ _ _;rw[Sem.wp_choose];exact⟨hn,h _ (Nat.mod_lt _ (Nat.pos_of_ne_zero hn)) _⟩
theorem zjM{α:Type}{M:Model}(n:Nat): ∀(xs:List α) {Q:List α→Shared→Prop} {s:Shared},xs.length=n→(∀ys d,ys.Perm xs→Q ys {s with drawn:=d})→wpAny M A (drawOrder n xs) Q E s:=by
 induction n with
 |zero=>
  intro xs Q s h q;obtain rfl:xs= []:=List.length_eq_zero_iff.mp h;exact wpAny_pure (q [] s.drawn (List.Perm.refl _))
 |succ n ih=>
  intro xs Q s h q;cases xs with
  |nil=>cases h
  |cons x r=>
   unfold drawOrder;refine wpAny_bind (zoT (by simp) fun i hi d=> ?_);rw[List.getElem?_eq_getElem hi];dsimp only;refine wpAny_bind (ih _ (by rw[List.length_eraseIdx,if_pos hi];omega) fun ys d' hp=>wpAny_pure (q _ _ ?_));exact(hp.cons _).trans (zdG hi)
abbrev zc0(first:Value)(i:Nat)(a:Addr)(n ep:Nat):Obj:={cls:= .type "set_iterator",data:= .fields #[first, .int i 0, .ref a, .int n 0, .int ep 0]}
theorem Rs.short{xs:Array Nat}(h:xs.size≤1):Rs xs:=by
 unfold Rs;match hx:xs.toList with
 | []=>exact List.Pairwise.nil
 | [x]=>exact List.pairwise_singleton _ _
 |x::y::r=>rw[←Array.length_toList,hx] at h;simp at h
inductive Md where
 |text
 |slots
 |lot (tp:Addr) (ps:List Nat)
def zgP(t:SetTable)(i:Nat):Md→Value
 | .text=> .int 0 0
 | .slots=> .int ((if i=0 then 0 else t.place.getD (i - 1) 0+1:Nat):Int) 0
 | .lot tp _=> .ref tp
def ord(w:World)(a:Addr)(es:Array (Int×Value))(ep:Nat):Md→List (Int×Value)
 | .text=>(pickOrder (w.params.setOrder a ep) es).toList
 | .slots=>es.toList
 | .lot _ ps=>ps.filterMap fun p=>es[p]?
structure MdOk (w:World) (es:Array (Int×Value)) (t:SetTable) (m:Md) (h:Heap):Prop where
 tx:m= .text→w.params.followText "set-order"=true
 sl:m= .slots→w.params.followText "set-order"=false∧(!t.plain && decide (es.size>1))=false∧t.led=true∧Rs t.place
 lt: ∀tp ps,m= .lot tp ps→ps.Perm (List.range es.size)∧ ∃o n,h.get? tp=some o∧o.data= .seq ((ps.map fun(i:Nat)=>rawInt i).toArray) n∧o.cls= .type "tuple"
theorem zhx{a:Addr}{es:Array (Int×Value)}{ep:Nat}{t:SetTable}{m:Md}{h:Heap}(k:MdOk w es t m h):(ord w a es ep m).Perm es.toList:=by
 cases m with
 |text=>exact zgd _ _ _ _ _ (by simp)
 |slots=>exact List.Perm.refl _
 |lot tp ps=>
  have:=((k.lt tp ps rfl).1.filterMap fun p=>es[p]?)
  rwa[filterMap_getElem?_range] at this
theorem zjN{a:Addr}{es:Array (Int×Value)}{ep:Nat}{t:SetTable}{Q:Value→Shared→Prop}(ho:s.heap.get? a=some (setO es ep t))(hf:t.fits es.size=true)(tg:TG (ledOf w) t)(hz:es.size≤sizeLine)
  (h: ∀(m:Md) (h':Heap) d,(∀b o,s.heap.get? b=some o→h'.get? b=some o)→MdOk w es t m h'→s.heap.objs.size≤h'.objs.size→Q (.ref h'.objs.size) {s with heap:=h'.push (zc0 (zgP t 0 m) 0 a es.size ep),drawn:=d}):
  wpAny (model prog w) A (pyIter (.ref a)) Q E s:=by
 have hT:s.TypeIs (.ref a) "set":=⟨_,ho,rfl⟩
 have sz:t.place.size=es.size:=by
  simp only[SetTable.fits,Bool.and_eq_true,beq_iff_eq] at hf;exact hf.1
 refine wpAny_pyIter_slot hT PySem.F.slot_set_iter (wpAny_call_entry PySem.F.slot_set_iter hT zih ?_ (PySem.F.args_set_iter_1 _));unfold Builtin.«frozenset.__iter__» Builtin.Frozenset.slot0 slotArgs;simp only[List.isEmpty_nil,Bool.not_true,Bool.false_eq_true,↓reduceIte,bind_assoc,List.length_nil,bne_self_eq_false];unfold Builtin.Frozenset.addrOf Builtin.Frozenset.sizeOf;refine wpAny_bind (wpAny_pure ?_);try dsimp only
 refine wpAny_bind (wpAny_pure (wpAny_bind (wpAny_bind (wpAny_setEntries_of ho rfl hf (wpAny_pure ?_)))));try dsimp only
 unfold setDrawn setsByText;refine wpAny_bind (wpAny_bind (wpAny_setState_of ho rfl hf (wpAny_bind (wpAny_bind (wpAny_askSetting (wpAny_pure (wpAny_pure ?_)))))));show wpAny _ _ (if (!w.params.followText "set-order" && (!t.plain && decide (es.size>1)))=true then _ else _) _ _ _;have fin: ∀(m:Md) (h1:Heap) (d1:Drawn),(∀b o,s.heap.get? b=some o→h1.get? b=some o)→MdOk w es t m h1→s.heap.objs.size≤h1.objs.size→wpAny (model prog w) A.in1 (do
   let ep'←setEpoch a
   let it←newFields "set_iterator" [zgP t 0 m,rawInt 0,Value.ref a,rawInt es.size,rawInt ep']
   ret it) (fun fin s'=> ∃v,fin=Fin.done (Flow.ret v)∧ ∃T' r,s'.TypeIs v T'∧typeLookup (Value.type T') (Str.ofString "__next__")=pure (some r)∧Q v s') E {s with heap:=h1,drawn:=d1}:=by
  intro m h1 d1 k1 k2 k3;refine wpAny_bind (wpAny_setEpoch_of (k1 _ _ ho) rfl hf ?_);exact wpAny_bind (wpAny_newObj_type (wpAny_pure ⟨_,rfl,"set_iterator",_,⟨_,Heap.get?_push_size _ rfl,rfl⟩,zcE.lookup,h m h1 d1 k1 k2 k3⟩))
 cases hb:w.params.followText "set-order" with
 |true=>
  rw[if_neg (by simp)];exact wpAny_bind (wpAny_pure (fin .text s.heap s.drawn (fun _ _ e=>e) ⟨fun _=>hb,nofun,nofun⟩ (Nat.le_refl _)))
 |false=>
  cases hd:(!t.plain && decide (es.size>1)) with
  |false=>
   rw[if_neg (by simp)];refine wpAny_bind (wpAny_pure (fin .slots s.heap s.drawn (fun _ _ e=>e) ⟨nofun,fun _=>⟨hb,hd,?_,?_⟩,nofun⟩ (Nat.le_refl _)))
   ·rw[tg.led];unfold ledOf;rw[hb];rfl
   ·cases hp:t.plain with
    |true=>exact tg.ris hp
    |false=>
     rw[hp] at hd;refine Rs.short ?_;rw[sz];simpa using hd
  |true=>
   rw[if_pos (by simp)];refine wpAny_bind (zjM es.size (List.range es.size) List.length_range fun ys d hp=> ?_);have yl:ys.length≤sizeLine:=by rw[hp.length_eq,List.length_range];exact Nat.le_trans (Nat.le_of_eq sz.symm) (by
    simp only[SetTable.fits,Bool.and_eq_true,beq_iff_eq,decide_eq_true_eq] at hf;rw[sz];exact hz)
   refine wpAny_bind (wpAny_newTuple ?_ (by rw[List.length_map];exact yl));refine fin (.lot s.heap.objs.size ys) _ d (fun b o e=>Heap.get?_push_of_some _ e) ⟨nofun,nofun,fun tp ps e=> ?_⟩ (by rw[Heap.size_push];exact Nat.le_succ _);cases e;exact⟨hp,_,0,Heap.get?_push_size _ rfl,rfl,rfl⟩
theorem zi5{a:Addr}{es:Array (Int×Value)}{ep:Nat}{t:SetTable}{sl g:Nat}{Q:Option (Value×Nat)→Shared→Prop}(ho:s.heap.get? a=some (setO es ep t))(hf:t.fits es.size=true)(hb:w.params.followText "set-order"=true)
  (h:Q ((pickOrder (w.params.setOrder a ep) es)[g]?.map fun e=>(e.2,sl)) s):wpAny (model prog w) A (setNext a sl g ep) Q E s:=by
 unfold setNext setWalk setsByText;refine wpAny_bind (wpAny_setState_of ho rfl hf (wpAny_bind (wpAny_bind (wpAny_askSetting (wpAny_pure ?_)))));show wpAny _ _ (if w.params.followText "set-order"=true then _ else _) _ _ _;rw[if_pos hb,if_neg (by simp)];refine wpAny_bind (wpAny_bind (wpAny_setState_of ho rfl hf (wpAny_bind (wpAny_bind (wpAny_askSetting (wpAny_pure ?_))))));show wpAny _ _ (if w.params.followText "set-order"=true then _ else _) _ _ _;rw[if_pos hb];exact wpAny_bind (wpAny_askSetting (wpAny_pure (wpAny_pure h)))
theorem zhy{a:Addr}{es:Array (Int×Value)}{ep:Nat}{t:SetTable}{sl g:Nat}{Q:Option (Value×Nat)→Shared→Prop}(ho:s.heap.get? a=some (setO es ep t))(hf:t.fits es.size=true)(hb:w.params.followText "set-order"=false)(hd:(!t.plain && decide (es.size>1))=false)(hl:t.led=true)
  (h:Q (match es[SetTable.below t.place sl]?,t.place[SetTable.below t.place sl]? with|some (_,x),some j=>some (x,j+1)|_,_=>none) s):wpAny (model prog w) A (setNext a sl g ep) Q E s:=by
 unfold setNext setsByText;refine wpAny_bind (wpAny_setState_of ho rfl hf (wpAny_bind (wpAny_bind (wpAny_askSetting (wpAny_pure ?_)))));show wpAny _ _ (if w.params.followText "set-order"=true then _ else _) _ _ _;rw[if_neg (by rw[hb];decide)];show wpAny _ _ (if (!t.plain && decide (es.size>1))=true then _ else _) _ _ _;rw[if_neg (by rw[hd];decide)];show wpAny _ _ ((if (!t.led && !es.isEmpty)=true then unsupported "set:maker-not-led" else pure ())>>=fun _=>_) _ _ _;rw[if_neg (by rw[hl];simp)];exact wpAny_bind (wpAny_pure (wpAny_pure h))
theorem zi6{t:SetTable}(h:Rs t.place){i:Nat}(hi:i≤t.place.size):SetTable.below t.place (if i=0 then 0 else t.place.getD (i - 1) 0+1)=i:=by
 obtain⟨b1,b2,b3⟩:=ze8 h (if i=0 then 0 else t.place.getD (i - 1) 0+1);generalize SetTable.below t.place (if i=0 then 0 else t.place.getD (i - 1) 0+1)=b at b1 b2 b3 ⊢;by_cases z:i=0
 ·rw[if_pos z] at b2 b3;rcases Nat.eq_zero_or_pos b with q|q
  ·omega
  ·have:=b2 0 q (by omega);omega
 ·rw[if_neg z,zgN (by omega)] at b2 b3;rcases Nat.lt_trichotomy b i with q|q|q
  ·have:=b3 (i - 1) (by omega) (by omega);omega
  ·exact q
  ·have h1:=b2 i q (by omega);have h2:=h.lt (show i - 1<i by omega) (by omega);omega
theorem zqs{I a:Addr}{i n ep:Nat}{v v':Value}{h:Heap}(e:h.get? I=some (zc0 v i a n ep)):((h.update I (Obj.mapFields (·.setIfInBounds 0 v'))).update I (Obj.mapFields (·.setIfInBounds 1 (rawInt ((i:Int)+1))))).get? I=some (zc0 v' (i+1) a n ep)∧ ∀b o,b≠I→h.get? b=some o→((h.update I (Obj.mapFields (·.setIfInBounds 0 v'))).update I (Obj.mapFields (·.setIfInBounds 1 (rawInt ((i:Int)+1))))).get? b=some o:=by
 have e1:(h.update I (Obj.mapFields (·.setIfInBounds 0 v'))).get? I=some (zc0 v' i a n ep):=Heap.get?_update_self _ e rfl;exact⟨Heap.get?_update_self _ e1 rfl,fun b o hb q=>(Heap.get?_update_other _ _ (Ne.symm hb)).trans ((Heap.get?_update_other _ _ (Ne.symm hb)).trans q)⟩
theorem zqX{I a:Addr}{i n ep:Nat}{v:Value}{h:Heap}(e:h.get? I=some (zc0 v i a n ep)):(h.update I (Obj.mapFields (·.setIfInBounds 1 (rawInt ((i:Int)+1))))).get? I=some (zc0 v (i+1) a n ep)∧ ∀b o,b≠I→h.get? b=some o→(h.update I (Obj.mapFields (·.setIfInBounds 1 (rawInt ((i:Int)+1))))).get? b=some o:=
 ⟨Heap.get?_update_self _ e rfl,fun b o hb q=>(Heap.get?_update_other _ _ (Ne.symm hb)).trans q⟩
theorem zm7{I a:Addr}{i:Nat}{es:Array (Int×Value)}{ep:Nat}{t:SetTable}{m:Md}{v:Value}{Q:Option Value→Shared→Prop}(ho:s.heap.get? a=some (setO es ep t))(hf:t.fits es.size=true)(hI:s.heap.get? I=some (zc0 (zgP t i m) i a es.size ep))(hm:MdOk w es t m s.heap)
  (hv:((ord w a es ep m)[i]?).map (·.2)=some v)
  (h: ∀h',h'.get? I=some (zc0 (zgP t (i+1) m) (i+1) a es.size ep)→(∀b o,b≠I→s.heap.get? b=some o→h'.get? b=some o)→Q (some v) {s with heap:=h'}):wpAny (model prog w) A (pyNext (.ref I)) Q E s:=by
 have hT:s.TypeIs (.ref I) "set_iterator":=⟨_,hI,rfl⟩
 unfold pyNext;refine wpAny_bind (wpAny_attempt (wpAny_callSpecial?_slot (name:=Str.ofString "__next__") hT zcE (wpAny_call_entry zcE hT zfa ?_ (zgc _))));unfold Builtin.«set_iterator.__next__» slotArgs;simp only[List.isEmpty_nil,Bool.not_true,Bool.false_eq_true,↓reduceIte,bind_assoc,List.length_nil,bne_self_eq_false];refine wpAny_bind (wpAny_pure ?_);refine wpAny_bind (wpAny_fieldsOf hI rfl ?_);dsimp only;refine wpAny_bind (wpAny_setEntries_of ho rfl hf ?_);rw[if_neg (by simp)];have sz:t.place.size=es.size:=by
  simp only[SetTable.fits,Bool.and_eq_true,beq_iff_eq] at hf;exact hf.1
 cases m with
 |text=>
  refine wpAny_bind (zi5 ho hf (hm.tx rfl) ?_);rw[show ((i:Int)).toNat=i from Int.toNat_natCast i,show ((ep:Int)).toNat=ep from Int.toNat_natCast ep];unfold ord at hv;rw[Array.getElem?_toList] at hv;obtain⟨e,he,ev⟩:=Option.map_eq_some_iff.mp hv;rw[he];dsimp only[Option.map]
  have:=zqs (v':= .int 0 0) hI;refine wpAny_bind (wpAny_setField hI rfl (by simp) (wpAny_bind (wpAny_setField (Heap.get?_update_self _ hI rfl) rfl (by simp) (wpAny_pure ⟨_,rfl,?_⟩))));rw[ev];exact wpAny_pure (h _ this.1 this.2)
 |slots=>
  obtain⟨hb,hd,hl,rs⟩:=hm.sl rfl;unfold ord at hv;rw[Array.getElem?_toList] at hv;obtain⟨e,he,ev⟩:=Option.map_eq_some_iff.mp hv;have hi:i<es.size:=(Array.getElem?_eq_some_iff.mp he).1;refine wpAny_bind (zhy ho hf hb hd hl ?_);rw[Int.toNat_natCast,zi6 rs (by omega),he,getElem?_pos t.place i (by omega)];dsimp only
  have:=zqs (v':= .int ((t.place[i]'(by omega)+1:Nat):Int) 0) hI;refine wpAny_bind (wpAny_setField hI rfl (by simp) (wpAny_bind (wpAny_setField (Heap.get?_update_self _ hI rfl) rfl (by simp) (wpAny_pure ⟨_,rfl,?_⟩))));rw[ev];refine wpAny_pure (h _ (this.1.trans ?_) this.2);unfold zgP;rw[if_neg (by omega),Nat.add_sub_cancel,zgN (by omega)]
 |lot tp ps=>
  obtain⟨hp,o,n,ht,hd,_⟩:=hm.lt tp ps rfl;refine wpAny_bind (wpAny_seqItems ht hd ?_);dsimp only;unfold ord at hv;have al: ∀p∈ps,p<es.size:=fun p h=>List.mem_range.mp (hp.mem_iff.mp h);have fm: ∀(l:List Nat),(∀p∈l,p<es.size)→ ∀k:Nat,(l.filterMap fun p=>es[p]?)[k]? =(l[k]?).bind fun p=>es[p]? :=by
   intro l;induction l with
   |nil=>intro _ k;rfl
   |cons p r ih=>
    intro hl k;have hp':=hl p List.mem_cons_self;rw[List.filterMap_cons,getElem?_pos es p hp'];cases k with
    |zero=>rw[List.getElem?_cons_zero,List.getElem?_cons_zero];exact(getElem?_pos es p hp').symm
    |succ k=>rw[List.getElem?_cons_succ,List.getElem?_cons_succ];exact ih (fun q h=>hl q (List.mem_cons_of_mem _ h)) k
  rw[fm ps al i] at hv;obtain⟨e,he,ev⟩:=Option.map_eq_some_iff.mp hv;obtain⟨p,hpi,hpe⟩:=Option.bind_eq_some_iff.mp he;rw[Int.toNat_natCast,List.getElem?_toArray,List.getElem?_map,hpi];show wpAny _ _ (do let x←setNextDrawn a (Int.toNat (p:Int)) (Int.toNat (ep:Int));setField (Value.ref I) 1 (rawInt ((i:Int)+1));ret x) _ _ _;rw[Int.toNat_natCast,Int.toNat_natCast];unfold setNextDrawn;refine wpAny_bind (wpAny_bind (wpAny_setState_of ho rfl hf ?_));dsimp only;rw[if_neg (by simp),hpe];refine wpAny_pure ?_
  have:=zqX hI;refine wpAny_bind (wpAny_setField hI rfl (by simp) (wpAny_pure ⟨_,rfl,?_⟩));rw[ev];exact wpAny_pure (h _ this.1 this.2)
theorem zgQ{M:Model}{Q:Option Value→Shared→Prop}{I:Addr}(hh:A.handled=none)(hQ: ∀h',(∀b o,s.heap.get? b=some o→h'.get? b=some o)→Q none {s with heap:=h'}):
  wpAny (model prog w) A.in1 (do let e←newExc (Value.type "StopIteration") [];raiseNew e) (fun fin s'=> ∃v,fin=Fin.done (Flow.ret v)∧wpAny (model prog w) A (pure (some v)) Q E s')
   (fun e s'=>wpAny (model prog w) A (do let b←isInstance e (Value.type "StopIteration");if b=true then pure none else throw e) Q E s') s:=by
 refine wpAny_bind ?_;simp only[newExc,newTuple];refine wpAny_bind (wpAny_newObj_type ?_ (by size_fits));refine wpAny_bind (m:=firstArgMember _ _) (wpAny_of_eq (a:=Value.none) (by first|rfl|(simp only[firstArgMember];rfl)) ?_);refine wpAny_newObj_type ?_ (by size_fits);simp only[raiseNew];refine wpAny_bind (wpAny_handled ?_);rw[show A.in1.handled=none from hh];refine wpAny_bind (wpAny_pure (wpAny_throw ?_));refine wpAny_bind (wpAny_isInstance (T:="StopIteration") (b:=true) ⟨_,Heap.get?_push_size _ rfl,rfl⟩ isSubtype_stop ?_);exact wpAny_pure (hQ _ fun b o e=>Heap.get?_push_of_some _ (Heap.get?_push_of_some _ e))
theorem zlv{I a:Addr}{es:Array (Int×Value)}{ep:Nat}{t:SetTable}{m:Md}{Q:Option Value→Shared→Prop}(hh:A.handled=none)(ho:s.heap.get? a=some (setO es ep t))(hf:t.fits es.size=true)(hI:s.heap.get? I=some (zc0 (zgP t es.size m) es.size a es.size ep))(hm:MdOk w es t m s.heap)
  (h: ∀h',(∀b o,b≠I→s.heap.get? b=some o→h'.get? b=some o)→Q none {s with heap:=h'}):wpAny (model prog w) A (pyNext (.ref I)) Q E s:=by
 have hT:s.TypeIs (.ref I) "set_iterator":=⟨_,hI,rfl⟩
 have sz:t.place.size=es.size:=by
  simp only[SetTable.fits,Bool.and_eq_true,beq_iff_eq] at hf;exact hf.1
 unfold pyNext;refine wpAny_bind (wpAny_attempt (wpAny_callSpecial?_slot (name:=Str.ofString "__next__") hT zcE (wpAny_call_entry zcE hT zfa ?_ (zgc _))));unfold Builtin.«set_iterator.__next__» slotArgs;simp only[List.isEmpty_nil,Bool.not_true,Bool.false_eq_true,↓reduceIte,bind_assoc,List.length_nil,bne_self_eq_false];refine wpAny_bind (wpAny_pure (wpAny_bind (wpAny_fieldsOf hI rfl ?_)));dsimp only;refine wpAny_bind (wpAny_setEntries_of ho rfl hf ?_);rw[if_neg (by simp)];have oth: ∀(f:Obj→Obj) b o,b≠I→s.heap.get? b=some o→(s.heap.update I f).get? b=some o:=fun f b o hb q=>(Heap.get?_update_other _ _ (Ne.symm hb)).trans q;have ol:=(zhx (a:=a) (ep:=ep) hm).length_eq;cases m with
 |text=>
  refine wpAny_bind (zi5 ho hf (hm.tx rfl) ?_);rw[show ((es.size:Int)).toNat=es.size from Int.toNat_natCast _,show ((ep:Int)).toNat=ep from Int.toNat_natCast ep,Array.getElem?_eq_none (by rw[←Array.length_toList];exact Nat.le_of_eq (ol.trans (Array.length_toList ..)))];dsimp only[Option.map];exact wpAny_bind (wpAny_setField hI rfl (by simp) (zgQ (M:=model prog w) (I:=I) hh fun h' k=>h h' fun b o hb e=>k b o (oth _ b o hb e)))
 |slots=>
  obtain⟨hb,hd,hl,rs⟩:=hm.sl rfl;refine wpAny_bind (zhy ho hf hb hd hl ?_);rw[Int.toNat_natCast,zi6 rs (by omega),Array.getElem?_eq_none (Nat.le_refl _)];dsimp only;exact wpAny_bind (wpAny_setField hI rfl (by simp) (zgQ (M:=model prog w) (I:=I) hh fun h' k=>h h' fun b o hb e=>k b o (oth _ b o hb e)))
 |lot tp ps=>
  obtain⟨hp,o,n,ht,hd,_⟩:=hm.lt tp ps rfl;refine wpAny_bind (wpAny_seqItems ht hd ?_);dsimp only;rw[Int.toNat_natCast,List.getElem?_toArray,List.getElem?_eq_none (by rw[List.length_map,hp.length_eq,List.length_range];exact Nat.le_refl _)];dsimp only;exact wpAny_bind (wpAny_setField hI rfl (by simp) (wpAny_bind (wpAny_setField (Heap.get?_update_self _ hI rfl) rfl (by simp) (zgQ (M:=model prog w) (I:=I) hh fun h' k=>h h' fun b o hb e=>k b o ((Heap.get?_update_other _ _ (Ne.symm hb)).trans (oth _ b o hb e))))))
end
end L2.Se
namespace L2.Se
open PySem PyProof.Rows
section
variable {prog:Program} {w:World} {A:Around} {E:Value→Shared→Prop} {s:Shared}
theorem zlw{R:Result→Shared→Prop}{I a S:Addr}{es:Array (Int×Value)}{ep:Nat}{t:SetTable}{m:Md}{ys:List Value}(hh:A.handled=none)(hf:t.fits es.size=true)(hz:es.size≤sizeLine)(sI:S≠I)(sa:S≠a)(aI:a≠I)(hlot: ∀tp ps,m= .lot tp ps→tp≠S∧tp≠I)(hy:ys=(ord w a es ep m).map (·.2))(yl:ys.length=es.size)(res:Value):
  ∀(k i:Nat) (s:Shared) (c:Nat),es.size - i=k→i≤es.size→s.heap.get? a=some (setO es ep t)→s.heap.get? I=some (zc0 (zgP t i m) i a es.size ep)→MdOk w es t m s.heap→s.heap.get? S=some {cls:= .type "list",data:= .seq (ys.take i).toArray c}→
   (∀h' c',(∀b o,b≠S→b≠I→s.heap.get? b=some o→h'.get? b=some o)→h'.get? S=some {cls:= .type "list",data:= .seq ys.toArray c'}→R (.ok (.ret res)) {s with heap:=h'})→
   codeAny (model prog w) A (.builtin "list.extend.loop" ⟨[.ref S, .ref I,res], []⟩) R s:=by
 have mdk: ∀{h h':Heap},MdOk w es t m h→(∀b o,b≠S→b≠I→h.get? b=some o→h'.get? b=some o)→MdOk w es t m h':=fun x k=>⟨x.tx,x.sl,fun tp ps e=>(let ⟨p,o,n,e1,e2⟩:=x.lt tp ps e;⟨p,o,n,k _ _ (hlot tp ps e).1 (hlot tp ps e).2 e1,e2⟩)⟩
 intro k;induction k with
 |zero=>
  intro i s c hk hi ho hI hm hS hR;obtain rfl:i=es.size:=by omega
  refine codeAny_builtin PySem.F.entry_extend_loop ?_;rw[Around.under_plainId PySem.F.plain_extend_loop _];show wpAny _ A.in1 (pyNext (.ref I)>>=_) _ _ s;refine wpAny_bind (zlv (by simpa using hh) ho hf hI hm fun h' kk=>wpAny_pure (hR h' c (fun b o _ hb e=>kk b o hb e) ?_));rw[←yl,List.take_length] at hS;exact kk _ _ sI hS
 |succ k ih=>
  intro i s c hk hi ho hI hm hS hR;have hlt:i<ys.length:=by omega
  refine codeAny_builtin PySem.F.entry_extend_loop ?_;rw[Around.under_plainId PySem.F.plain_extend_loop _];show wpAny _ A.in1 (pyNext (.ref I)>>=_) _ _ s;refine wpAny_bind (zm7 (v:=ys[i]) ho hf hI hm ?_ fun h' hI' kk=> ?_)
  ·rw[←List.getElem?_map,←hy];exact List.getElem?_eq_getElem hlt
  have hS':=kk _ _ sI hS;show wpAny _ A.in1 (updateSeq S (·.push ys[i])>>=_) _ _ _;have tl:(ys.take i).length=i:=by rw[List.length_take];omega
  have oth: ∀(f:Obj→Obj) b o,b≠S→h'.get? b=some o→(h'.update S f).get? b=some o:=fun f b o hb q=>(Heap.get?_update_other _ _ (Ne.symm hb)).trans q;refine wpAny_bind (wpAny_updateSeq hS' rfl (wpAny_pure ⟨plainId_quiet PySem.F.plain_extend_loop _,ih (i+1) _ (c+1) (by omega) (by omega) (oth _ _ _ (Ne.symm sa) (kk _ _ aI ho)) (oth _ _ _ (Ne.symm sI) hI') (mdk hm fun b o h1 h2 e=>oth _ _ _ h1 (kk _ _ h2 e)) ?_ fun h2 c' k2 hS2=>hR h2 c' (fun b o h1 h3 e=>k2 b o h1 h3 (oth _ _ _ h1 (kk _ _ h3 e))) hS2⟩) (by simp [tl];omega) (by simp [tl];omega));rw[Heap.get?_update_self _ hS' rfl];rw[List.take_add_one,List.getElem?_eq_getElem hlt];simp [Obj.mapSeq];omega
theorem collect_set{a:Addr}{ks:List Int}{Q:List Value→Shared→Prop}(hh:A.handled=none)(hS:SI a (ledOf w) ks s.heap)
  (h: ∀(vs:List Value) (ns:List Int) (h':Heap) d tk,IntsAre vs ns→ns.Perm ks→s.heap.objs.size≤h'.objs.size→(∀b o,s.heap.get? b=some o→h'.get? b=some o)→Q vs {s with heap:=h',drawn:=d,toks:=tk}):wpAny (model prog w) A (collect (.ref a)) Q E s:=by
 obtain⟨es,ep,t,ho,el,pm,hb,hf,tg⟩:=hS.ex;have al:=Heap.lt_size ho;have hz:=fits_of_scanBound hb;unfold collect;refine wpAny_bind (wpAny_runValue (codeAny_builtin PySem.F.entry_proto_collect ?_));rw[Around.under_plainId PySem.F.plain_proto_collect _];show wpAny _ A.in1 (newList []>>=fun l=>again (.builtin "list.__iadd__" ⟨[l, .ref a], []⟩)) _ _ s;refine wpAny_bind (wpAny_newObj_type (wpAny_pure ⟨plainId_quiet PySem.F.plain_list_iadd _,codeAny_builtin PySem.F.entry_list_iadd ?_⟩));rw[Around.under_plainId PySem.F.plain_list_iadd _];obtain⟨h1,e1⟩: ∃h1,h1=s.heap.push {cls:= .type "list",data:= .seq ([]:List Value).toArray}:=⟨_,rfl⟩
 have g1:h1.get? s.heap.objs.size=some {cls:= .type "list",data:= .seq ([]:List Value).toArray}:=by rw[e1];exact Heap.get?_push_size _ rfl
 have o1: ∀b o,s.heap.get? b=some o→h1.get? b=some o:=fun b o e=>by rw[e1];exact Heap.get?_push_of_some _ e
 have z1:h1.objs.size=s.heap.objs.size+1:=by rw[e1];exact Heap.size_push ..
 show wpAny _ A.in1 (Builtin.List.listExtendWith (.ref s.heap.objs.size) (.ref a) (.ref s.heap.objs.size)) _ _ {s with heap:=s.heap.push _};rw[←e1];unfold Builtin.List.listExtendWith;have hT:Shared.TypeIs {s with heap:=h1} (.ref a) "set":=⟨_,o1 _ _ ho,rfl⟩
 refine wpAny_bind (wpAny_typeOf hT ?_);have n1:Builtin.List.listSameRef (.ref s.heap.objs.size) (.ref a)=false:=by simp [Builtin.List.listSameRef];exact Nat.ne_of_gt al
 have n2:(Value.type "set"==Value.type "list")=false:=by decide
 have n3:(Value.type "set"==Value.type "tuple")=false:=by decide
 simp only[n1,n2,n3,Bool.or_false,Bool.false_eq_true,if_false];refine wpAny_bind (zjN (s:={s with heap:=h1}) (o1 _ _ ho) hf tg hz fun m h2 d k2 md2 z2=> ?_);have ne:h2.get? a=some (setO es ep t):=k2 _ _ (o1 _ _ ho);have z2':h1.objs.size≤h2.objs.size:=z2;have k2': ∀b o,h1.get? b=some o→h2.get? b=some o:=k2;obtain⟨h3,e3⟩: ∃h3,h3=h2.push (zc0 (zgP t 0 m) 0 a es.size ep):=⟨_,rfl⟩
 have o3: ∀b o,h2.get? b=some o→h3.get? b=some o:=fun b o e=>by rw[e3];exact Heap.get?_push_of_some _ e
 have g3:h3.get? h2.objs.size=some (zc0 (zgP t 0 m) 0 a es.size ep):=by rw[e3];exact Heap.get?_push_size _ rfl
 rw[←e3];have hT3:Shared.TypeIs {s with heap:=h3,drawn:=d} (.ref a) "set":=⟨_,o3 _ _ ne,rfl⟩
 refine wpAny_bind (wpAny_holding ?_);unfold Builtin.List.listLengthHint;refine wpAny_bind (wpAny_specialOf hT3 PySem.F.slot_set_len.lookup ?_);have hs:splitId "set.__len__"=some ("set","__len__"):=by kernel_rfl
 dsimp only;rw[hs];dsimp only;refine wpAny_bind (wpAny_isInstance hT3 PySem.sub_set_self ?_);simp only[Bool.not_true,Bool.false_eq_true,if_false];rw[if_pos (by decide+kernel)];refine wpAny_bind (wpAny_typeOf hT3 ?_);refine wpAny_pure ?_;rw[if_pos (by decide+kernel)];refine wpAny_bind (wpAny_rule ?_);have gS:h3.get? s.heap.objs.size=some {cls:= .type "list",data:= .seq ([]:List Value).toArray}:=o3 _ _ (k2' _ _ g1);show wpAny _ A.in1 ((updateSeq s.heap.objs.size (·.push .none)>>=fun _=>updateSeq s.heap.objs.size (·.pop))>>=_) _ _ _;refine wpAny_bind (wpAny_bind (wpAny_updateSeq gS rfl ?_));have g4:=Heap.get?_update_self (Obj.mapSeq (·.push Value.none)) gS rfl;refine wpAny_updateSeq g4 rfl ?_;have g5:=Heap.get?_update_self (Obj.mapSeq (·.pop)) g4 rfl;have oth: ∀b o,b≠s.heap.objs.size→h3.get? b=some o→((h3.update s.heap.objs.size (Obj.mapSeq (·.push Value.none))).update s.heap.objs.size (Obj.mapSeq (·.pop))).get? b=some o:=fun b o hb e=>(Heap.get?_update_other _ _ (Ne.symm hb)).trans ((Heap.get?_update_other _ _ (Ne.symm hb)).trans e);have pm2:=zhx (a:=a) (ep:=ep) md2;have yl:((ord w a es ep m).map (·.2)).length=es.size:=by rw[List.length_map,pm2.length_eq,Array.length_toList]
 have n5:s.heap.objs.size≠h2.objs.size:=by omega
 have n6:s.heap.objs.size≠a:=Nat.ne_of_gt al;have n7:a≠h2.objs.size:=Nat.ne_of_lt (Nat.lt_of_lt_of_le al (by omega));have nl: ∀tp ps,m= .lot tp ps→tp≠s.heap.objs.size∧tp≠h2.objs.size:=fun tp ps e=>by
  obtain⟨_,o,n,e1,_,e2⟩:=md2.lt tp ps e;refine⟨fun z=> ?_,Nat.ne_of_lt (Heap.lt_size e1)⟩;rw[z,k2' _ _ g1] at e1;cases e1;exact absurd e2 (by decide)
 have md3:MdOk w es t m ((h3.update s.heap.objs.size (Obj.mapSeq (·.push Value.none))).update s.heap.objs.size (Obj.mapSeq (·.pop))):=⟨md2.tx,md2.sl,fun tp ps e=>(let ⟨p,o,n,e1,e2⟩:=md2.lt tp ps e;⟨p,o,n,oth _ _ (nl tp ps e).1 (o3 _ _ e1),e2⟩)⟩
 refine wpAny_pure ⟨plainId_quiet PySem.F.plain_extend_loop _,zlw (m:=m) hh hf hz n5 n6 n7 nl rfl yl _ es.size 0 _ _ rfl (Nat.zero_le _) (oth _ _ (Ne.symm n6) (o3 _ _ ne)) (oth _ _ (Ne.symm n5) g3) md3 g5 fun h' c' kk g6=> ?_⟩;show wpAny _ A (load s.heap.objs.size>>=_) _ _ _;refine wpAny_bind (wpAny_load g6 (wpAny_pure ?_));rw[List.toList_toArray];have allI: ∀l:List (Int×Value),(∀e∈l,∃k tk,e=(hashInt k,Value.int k tk))→IntsAre (l.map (·.2)) (l.map nm):=by
  intro l;induction l with
  |nil=>exact fun _=> .nil
  |cons x r ih=>
   intro hl;obtain⟨k,tk,rfl⟩:=hl x List.mem_cons_self;exact .cons k tk (ih fun e h=>hl e (List.mem_cons_of_mem _ h))
 refine h _ _ h' d s.toks (allI _ fun e he=>el e (pm2.mem_iff.mp he)) ((pm2.map nm).trans pm) ?_ fun b o e=> ?_
 ·exact Nat.le_of_lt (Nat.lt_of_le_of_lt (Nat.le_refl _) (Heap.lt_size g6))
 ·have lt:=Heap.lt_size e;exact kk b o (Nat.ne_of_lt lt) (Nat.ne_of_lt (Nat.lt_of_lt_of_le lt (by omega))) (oth _ _ (Nat.ne_of_lt lt) (o3 _ _ (k2' _ _ (o1 _ _ e))))
end
end L2.Se
namespace L2.Se
open PySem PyProof.Rows
section
variable {prog:Program} {w:World} {A:Around} {E:Value→Shared→Prop} {s:Shared}
theorem zjO{a:Addr}{vs:List Value}{ns:List Int}{n:Nat}{P:PySem.Fin→Shared→Prop}(ho:s.heap.get? a=some (seqObj "list" vs.toArray n))(hI:IntsAre vs ns)(hz:vs.length≤sizeLine)
  (h: ∀(out:Array Value) (ns':List Int),IntsAre out.toList ns'→ns'.Perm ns→ns'.Pairwise (· ≤ ·)→P (.done (.ret .none)) {s with heap:=sortedHeap s.heap a vs out}):wpAny (model prog w) A (Builtin.«list.sort» ⟨[.ref a], []⟩) P E s:=by
 by_cases h2:vs.length<64
 ·exact list_sort_tree ho hI h2 h
 obtain⟨v₁,v₂,rest,rfl⟩: ∃v₁ v₂ rest,vs=v₁::v₂::rest:=by
  match vs,h2 with
  | [],q=>exact absurd (Nat.lt_of_lt_of_le Nat.zero_lt_one (by decide)) q
  | [_],q=>exact absurd (show (1:Nat)<64 by decide) q
  |v₁::v₂::rest,_=>exact⟨v₁,v₂,rest,rfl⟩
 generalize hvs:v₁::v₂::rest=vs at*;have kk:keyKind' vs.toArray=pure oneType':=by rw[←hvs] at hI ⊢;exact keyKind_ints hI
 obtain⟨e1,g1⟩: ∃e1,(s.heap.update a (Obj.mapSeq fun _=>(#[]:Array Value))).get? a=some (seqObj "list" #[] e1):=⟨_,get?_update_seq ho fun _=> #[]⟩
 obtain⟨h3,hh3⟩: ∃h3,h3=((s.heap.update a (Obj.mapSeq fun _=>(#[]:Array Value))).push (seqObj "tuple" vs.toArray 0)).push (seqObj "list" #[] 0):=⟨_,rfl⟩
 have g3:h3.get? a=some (seqObj "list" #[] e1):=by rw[hh3];exact Heap.get?_push_of_some _ (Heap.get?_push_of_some _ g1)
 rw[list_sort_plain];refine wpAny_bind (listItems_at ho rfl (wpAny_bind (listUpdate_at ho rfl ?_ (by rw[List.size_toArray];exact hz) (Nat.zero_le _))));refine wpAny_bind (seqEpoch_at g1 rfl (wpAny_bind (wpAny_newTuple ?_ (by show vs.length≤_;exact hz))));refine wpAny_bind (wpAny_newList (wpAny_holding ?_) (Nat.zero_le _));show wpAny (model prog w) A _ P E {s with heap:=((s.heap.update a (Obj.mapSeq fun _=> #[])).push (seqObj "tuple" vs.toArray 0)).push (seqObj "list" #[] 0)};rw[←hh3];dsimp only;have n2: ¬vs.toArray.size<2:=by rw[List.size_toArray];omega
 rw[if_neg n2,if_neg n2,kk];refine wpAny_bind (wpAny_pure ?_);refine wpAny_bind (wpAny_mono (Tm.runs (a₀:=pairsOf vs) (s:={s with heap:=h3}) (st:=SortSt.mk' oneType' (vs.toArray.zip vs.toArray) #[] 7 none) (Q:=fun _ st'=>Tm.TB (pairsOf vs) st'∧SortedTo (arrOf st') (pairsOf vs).size) hI.intKeys ⟨Array.Perm.refl _,rfl,rfl⟩ rfl (by rw[pairsOf_size];omega) fun st' b1 b2=>⟨b1,b2⟩) (fun r s' hr=> ?_) fun _ _ e=>e);obtain⟨⟨⟩,st'⟩:=r;obtain⟨rfl,hB,hs⟩:=hr;dsimp only;obtain⟨ns',o1,o2,o3⟩:=sorted_out hI hB.pm hs;refine wpAny_bind (seqEpoch_at g3 rfl (wpAny_bind (listUpdate_at g3 rfl ?_ (Nat.zero_le _) (by rw[Array.size_map,hB.pm.size_eq,pairsOf_size];exact Nat.le_succ_of_le hz))));rw[hB.fl];simp only[bne_self_eq_false,Bool.false_eq_true,if_false];refine wpAny_pure ?_
 have:=h _ ns' o1 o2 o3;unfold sortedHeap at this;rw[←hh3] at this;exact this
theorem sorted_by{v:Value}{Q:Value→Shared→Prop}(h:wpAny (model prog w) A.in1 (collect v) (fun vs s1=>vs.length≤sizeLine∧ ∃ns,IntsAre vs ns∧ ∀(out:Array Value) (ns':List Int),IntsAre out.toList ns'→ns'.Perm ns→ns'.Pairwise (· ≤ ·)→Q (.ref s1.heap.objs.size) {s1 with heap:=sortedHeap (s1.heap.push (seqObj "list" vs.toArray 0)) s1.heap.objs.size vs out}) E s):
  wpAny (model prog w) A (call (.builtin "sorted") [v]) Q E s:=by
 refine Calls.call_function_entry kind_sorted plain_sorted entry_sorted (args_sorted1 _) ?_;unfold Builtin.«sorted»;refine wpAny_bind (m:=checkCount "sorted" 1 1 _) (wpAny_pure (wpAny_bind ?_));refine wpAny_mono h (fun vs s1 ⟨hz,ns,hI,q⟩=> ?_) fun _ _ e=>e;have g2:(s1.heap.push (seqObj "list" vs.toArray 0)).get? s1.heap.objs.size=some (seqObj "list" vs.toArray 0):=Heap.get?_push_size _ rfl;refine wpAny_bind (wpAny_newList (wpAny_bind (wpAny_holding (wpAny_call_entry slot_list_sort ⟨_,g2,rfl⟩ entry_list_sort (zjO (s:={s1 with heap:=s1.heap.push (seqObj "list" vs.toArray 0)}) g2 hI hz fun out ns' a1 a2 a3=>⟨_,rfl,wpAny_pure ⟨_,rfl,q out ns' a1 a2 a3⟩⟩) (args_list_sort _)))) (by exact hz))
end
end L2.Se
namespace L2
open PySem PySem.Spec PyProof.Rows
section
variable {X:Cx} {pins:List (Addr×Obj)} {σ:St} {H:Hp} {s:Shared}
theorem Inv.laidD{h':Heap}{t':Nat}{d:Drawn}{a:Addr}{o:HO}(I:Inv X pins σ H s)(k: ∀b o,s.heap.get? b=some o→h'.get? b=some o)(hp:s.heap.objs.size≤a)(new:zbh X.prog X.w (upd H a o) h' a o):Inv X pins σ (upd H a o) {s with heap:=h',toks:=t',drawn:=d}:=by
 have hn:=I.hok.fresh hp;refine I.step (g':=s.gens) (d':=d) (ch:= []) (fun b hb=>(nomatch hb)) (fun b o _ _ hc e _=>k b o e) (fun b o _ _ hc e _=>⟨o.slots,k b o e⟩) (fun b u _ e n=>by rw[zal (Nat.ne_of_lt (Nat.lt_of_lt_of_le (Heap.lt_size e) hp))];exact n)
  (fun b o hc e=>⟨o,k b o e⟩) (fun b xs e=>by rw[zal (zaD e hn)];exact e) (fun b o u e=>by rw[zal (zaD e hn)];exact e) (fun b ps e=>⟨#[],by rw[zal (zaD e hn),e];simp⟩) (fun m hm=> ?_) (fun b u e=> ?_) I.bare
 ·obtain⟨o,es,ep,ho,r⟩:=hm;exact⟨o,es,ep,k _ o ho,r⟩
 ·by_cases hb:b=a
  ·subst hb;rw[zao] at e;cases e;exact new
  ·rw[zal hb] at e;exact(I.hok b u e).stay (fun c v _ q=>k c v q) (fun c q=>by rw[zal (zaD q hn)];exact q) fun c xs q=>by rw[zal (zaD q hn)];exact q
end
def zjP(zs:List Int):List Int:=Se.metOf (fun i=>zs.getD i 0) zs.length
theorem zlx{ks:List Int}{k:Int}(h:ks.Nodup):(Se.dd ks k).Nodup:=by
 unfold Se.dd;split
 ·exact h
 ·rename_i n;exact List.nodup_append.mpr ⟨h,List.pairwise_singleton _ _,fun a ha b hb e=>by rw[List.mem_singleton.mp hb] at e;rw[e] at ha;exact n ha⟩
theorem zoU{ks:List Int}{k x:Int}:x∈Se.dd ks k↔x∈ks∨x=k:=by
 unfold Se.dd;split
 ·rename_i n;exact⟨.inl,fun h=>h.elim id fun e=>e ▸ n⟩
 ·rw[List.mem_append,List.mem_singleton]
theorem zge(val:Nat→Int): ∀n,(Se.metOf val n).Nodup
 |0=>List.Pairwise.nil
 |n+1=>by rw[Se.met_succ];exact zlx (zge val n)
theorem zi7{val:Nat→Int}{x:Int}: ∀{n},x∈Se.metOf val n↔ ∃i,i<n∧val i=x
 |0=>⟨(fun h=>nomatch h),fun⟨i,h,_⟩=>absurd h (Nat.not_lt_zero i)⟩
 |n+1=>by
  rw[Se.met_succ,zoU,zi7];refine⟨fun h=> ?_,fun⟨i,h,e⟩=> ?_⟩
  ·rcases h with⟨i,h,e⟩|e
   ·exact⟨i,by omega,e⟩
   ·exact⟨n,by omega,e.symm⟩
  ·by_cases z:i=n
   ·rw[z] at e;exact .inr e.symm
   ·exact .inl ⟨i,by omega,e⟩
theorem zii(zs:List Int):(zjP zs).Nodup:=zge _ _
theorem zhz{zs:List Int}{x:Int}:x∈zjP zs↔x∈zs:=by
 unfold zjP;rw[zi7];refine⟨fun⟨i,h,e⟩=> ?_,fun h=> ?_⟩
 ·rw[List.getD_eq_getElem?_getD,List.getElem?_eq_getElem h] at e;rw[←e];exact List.getElem_mem h
 ·obtain⟨i,hi⟩:=List.mem_iff_getElem?.mp h;exact⟨i,(List.getElem?_eq_some_iff.mp hi).1,by rw[List.getD_eq_getElem?_getD,hi];rfl⟩
theorem zoV{h:Heap}{vs:List Value}{out:Array Value}{b:Addr}{u:Obj}(e:h.get? b=some u):(sortedHeap (h.push (seqObj "list" vs.toArray 0)) h.objs.size vs out).get? b=some u:=by
 have ne:h.objs.size≠b:=Nat.ne_of_gt (Heap.lt_size e);unfold sortedHeap;rw[Heap.get?_update_other _ _ ne];refine Heap.get?_push_of_some _ (Heap.get?_push_of_some _ ?_);rw[Heap.get?_update_other _ _ ne];exact Heap.get?_push_of_some _ e
theorem zqt{h:Heap}{vs:List Value}{out:Array Value}: ∃n,(sortedHeap (h.push (seqObj "list" vs.toArray 0)) h.objs.size vs out).get? h.objs.size=some (seqObj "list" out n):=by
 have g:(h.push (seqObj "list" vs.toArray 0)).get? h.objs.size=some (seqObj "list" vs.toArray 0):=Heap.get?_push_size _ rfl;obtain⟨e1,g1⟩: ∃e1,((h.push (seqObj "list" vs.toArray 0)).update h.objs.size (Obj.mapSeq fun _=>(#[]:Array Value))).get? h.objs.size=some (seqObj "list" #[] e1):=⟨_,get?_update_seq g fun _=> #[]⟩
 exact⟨_,get?_update_seq (Heap.get?_push_of_some _ (Heap.get?_push_of_some _ g1)) fun _=>out⟩
theorem zly:bootBuiltins "set"=some (.type "set"):=by decide+kernel
def setO(w:World)(q:Addr)(ks:List Int):HO:= .ext (Se.SI q (Se.ledOf w) ks)
theorem zjQ{X:Cx}(hc:X.calm=true):zbK X (.type "set") (fun xs H Q=> ∃(p:Addr) (zs:List Int),xs= [.ref p]∧SqL X.K H p (zs.map V.int)∧zs.length≤1000∧ ∀q H',H q=none→zam H H'→H' q=some (setO X.w q (zjP zs))→Q (.ref q) H'):=by
 intro pins s σ H xs us Q I r h;obtain⟨p,zs,rfl,hq,hz,q⟩:=h;obtain⟨u,rfl,ru⟩:=zc2 r;obtain rfl:u=Value.ref p:=ru;obtain⟨its,rv,pl,_⟩:=I.list hq;have hl:zs.length=its.length:=by rw[←rv.length,List.length_map]
 refine Se.set_list (I.ok.hd hc) pl.isList (by simpa using zcU rv) (by rw[List.size_toArray,←hl];unfold scanBound;omega) fun h' tk si k=> ?_;have hf:H s.heap.objs.size=none:=I.hok.fresh (Nat.le_refl _);rw[show its.toArray.size=zs.length by rw[List.size_toArray,hl]] at si;refine⟨.ref s.heap.objs.size,upd H s.heap.objs.size (setO X.w s.heap.objs.size (zjP zs)),I.laid (t':=tk) (fun b u e=>k b u (Heap.lt_size e) e) (Nat.le_refl _) ⟨si,?_,fun h1 h2 a b=>a.at b⟩,rfl,q _ _ hf (zbN hf _) zao⟩;obtain⟨es,ep,t,ho,_⟩:=si.ex;exact⟨_,ho⟩
theorem zgR{X:Cx}(hc:X.calm=true):zbK X (.builtin "sorted") (fun xs H Q=> ∃(p:Addr) (ks:List Int),xs= [.ref p]∧H p=some (setO X.w p ks)∧ks.length≤1000∧ ∀ws:List Int,ws.Perm ks→ws.Pairwise (· ≤ ·)→New H (.lst (ws.map V.int)) Q):=by
 intro pins s σ H xs us Q I r h;obtain⟨p,ks,rfl,hp,hz,q⟩:=h;obtain⟨u,rfl,ru⟩:=zc2 r;obtain rfl:u=Value.ref p:=ru;have si:Se.SI p (Se.ledOf X.w) ks s.heap:=(I.hok _ _ hp).1;refine Se.sorted_by (Se.collect_set (show X.A.in1.handled=none from I.ok.hd hc) si fun vs ns h' d tk iv pm le k=>⟨?_,ns,iv,fun out ns' a1 a2 a3=> ?_⟩)
 ·have:vs.length=ns.length:=IntsAre.length iv;rw[this,pm.length_eq];exact zbz hz
 have hf:H h'.objs.size=none:=I.hok.fresh le;have ol:ns'.length≤sizeLine:=by rw[a2.length_eq,pm.length_eq];exact zbz hz
 refine⟨.ref h'.objs.size,upd H h'.objs.size (.lst (ns'.map V.int)),I.laidD (t':=tk) (d:=d) (fun b u e=> ?_) le ?_,rfl,(q ns' (a2.trans pm) a3).at hf⟩
 ·exact zoV (k b u e)
 ·obtain⟨n,at_⟩:=zqt (h:=h') (vs:=vs) (out:=out);exact⟨by rw[List.length_map];exact ol,out.toList,n,zcV a1,by rw[Array.toArray_toList];exact at_⟩
end L2
namespace L2
open PySem PySem.Spec PyProof.Rows
theorem zfb: ∀{as:List Addr} {its:List Value},zaI (as.map V.ref) its→its=as.map Value.ref
 | [],_,h=>by cases h;rfl
 |a::as,_,h=>by
  cases h with
  |cons r t=>
   rw[zfb t];cases r;rfl
def zqY(K:Fg)(neg:Bool):R2:=fun x y H Q=> ∃(p:Addr) (as:List Addr) (n:Nat) (ds:List D) (d:D),y= .ref p∧SqL K H p (as.map V.ref)∧all2 (Dp K H n) ds (as.map V.ref)∧Dp K H n d x∧n≤50∧(∀e∈ds,zbo n e d)∧Q (.bl (if neg then !(ds.any fun e=>eqb n e d) else ds.any fun e=>eqb n e d)) H
section
variable {X:Cx}
def inF(as:List Addr)(ds:List D)(n:Nat)(d:D):Value→Bool
 | .ref a=>(List.range as.length).any fun i=>decide (as[i]? =some a) && eqb n (ds.getD i .non) d
 |_=>false
theorem zij{as:List Addr}{ds:List D}{n:Nat}{d:D}(hu: ∀i j:Nat,i<as.length→as[j]? =as[i]? →ds.getD j .non=ds.getD i .non){i:Nat}{a:Addr}(e:as[i]? =some a):inF as ds n d (.ref a)=eqb n (ds.getD i .non) d:=by
 have hi:=(List.getElem?_eq_some_iff.mp e).1;show ((List.range as.length).any fun i=>decide (as[i]? =some a) && eqb n (ds.getD i .non) d)=_;cases hb:eqb n (ds.getD i .non) d with
 |true=>exact List.any_eq_true.mpr ⟨i,List.mem_range.mpr hi,by rw[e,hb];simp⟩
 |false=>
  refine List.any_eq_false.mpr fun j hj=> ?_;by_cases z:as[j]? =some a
  ·rw[hu i j hi (z.trans e.symm),hb];simp
  ·simp [z]
theorem zm8{as:List Addr}{ds:List D}{n:Nat}{d:D}(hl:ds.length=as.length)(hu: ∀i j:Nat,i<as.length→as[j]? =as[i]? →ds.getD j .non=ds.getD i .non):(as.map Value.ref).any (inF as ds n d)=ds.any fun e=>eqb n e d:=by
 rw[Bool.eq_iff_iff,List.any_eq_true,List.any_eq_true];refine⟨fun⟨v,hv,q⟩=> ?_,fun⟨e,he,q⟩=> ?_⟩
 ·obtain⟨a,ha,rfl⟩:=List.mem_map.mp hv;obtain⟨i,hi⟩:=List.mem_iff_getElem?.mp ha;rw[zij hu hi] at q;have hi':i<ds.length:=by rw[hl];exact(List.getElem?_eq_some_iff.mp hi).1
  rw[List.getD_eq_getElem?_getD,List.getElem?_eq_getElem hi'] at q;exact⟨_,List.getElem_mem hi',q⟩
 ·obtain⟨i,hi⟩:=List.mem_iff_getElem?.mp he;have hi':i<as.length:=by rw[←hl];exact(List.getElem?_eq_some_iff.mp hi).1
  refine⟨.ref as[i],List.mem_map.mpr ⟨_,List.getElem_mem hi',rfl⟩,?_⟩;rw[zij hu (List.getElem?_eq_getElem hi'),List.getD_eq_getElem?_getD,hi];exact q
theorem zoW{pins:List (Addr×Obj)}{σ:St}{H:Hp}{s:Shared}(I:Inv X pins σ H s){k:Nat}(hr:Room k X.A){as:List Addr}{n:Nat}{ds:List D}{d:D}{x:V}{v:Value}(h2:all2 (Dp X.K H n) ds (as.map V.ref))(hd:Dp X.K H n d x)(hn:n≤50)(hc: ∀e∈ds,zbo n e d)(rx:zaC x v)(hu: ∀i j:Nat,i<as.length→as[j]? =as[i]? →ds.getD j .non=ds.getD i .non):
  ∀y,y∈(as.map Value.ref).toArray→SeqAt.EqAt X.A.in1 s y v (inF as ds n d y):=fun y hy=>by
 have hy':y∈as.map Value.ref:=by simpa using hy
 obtain⟨a,ha,rfl⟩:=List.mem_map.mp hy';obtain⟨i,hi⟩:=List.mem_iff_getElem?.mp ha;have hl:=zbc h2;rw[List.length_map] at hl;have hi':i<ds.length:=by rw[hl];exact(List.getElem?_eq_some_iff.mp hi).1
 have e1:ds[i]? =some ds[i]:=List.getElem?_eq_getElem hi';rw[zij hu hi,List.getD_eq_getElem?_getD,e1];have hu':=hr.units;exact zec (v:=V.ref a) I (hc _ (List.getElem_mem hi')) (zcD h2 e1 (by rw[List.getElem?_map,hi];rfl)) hd rfl rx (by show X.A.units+1+n<cLine;omega)
theorem zoX{pins:List (Addr×Obj)}{σ:St}{H:Hp}{s:Shared}(I:Inv X pins σ H s): ∀{n:Nat} {d e:D} {v:V},Dp X.K H n d v→Dp X.K H n e v→d=e:=by
 have al: ∀{g:D→V→Prop},(∀d e v,g d v→g e v→d=e)→ ∀{ds es:List D} {xs:List V},all2 g ds xs→all2 g es xs→ds=es:=by
  intro g hg ds;induction ds with
  |nil=>
   intro es xs h1 h2;cases xs with
   |nil=>cases es with
    |nil=>rfl
    |cons=>exact h2.elim
   |cons=>exact h1.elim
  |cons d r ih=>
   intro es xs h1 h2;cases xs with
   |nil=>exact h1.elim
   |cons x t=>cases es with
    |nil=>exact h2.elim
    |cons e r'=>rw[hg d e x h1.1 h2.1,ih h1.2 h2.2]
 have tl: ∀{a:Addr} {xs ys:List V},SqT X.K H a xs→SqL X.K H a ys→False:=fun h1 h2=>by
  obtain⟨its,_,⟨o,e,c,_⟩,_⟩:=I.tuple h1;obtain⟨its',_,⟨o',n',e',c',_⟩,_⟩:=I.list h2;rw[e] at e';cases e';rw[c] at c';exact absurd c' (by decide)
 intro n;induction n with
 |zero=>
  intro d e v h1 h2;cases d<;>cases e<;>simp only[Dp] at h1 h2<;>(try subst h1)<;>simp_all [zcR]
 |succ n ih=>
  intro d e v h1 h2;cases d with
  |tup ds=>
   simp only[Dp] at h1;obtain⟨a,xs,rfl,hs,ha⟩:=h1;cases e with
   |tup es=>
    simp only[Dp] at h2;obtain⟨b,ys,eb,hs2,ha2⟩:=h2;cases eb;rw[I.tuple_inj hs2 hs] at ha2;rw[al (g:=Dp X.K H n) (fun d e v=>ih) ha ha2]
   |lst es=>
    simp only[Dp] at h2;obtain⟨b,ys,eb,hs2,ha2⟩:=h2;cases eb;exact(tl hs hs2).elim
   |_=>simp only[Dp] at h2;cases h2
  |lst ds=>
   simp only[Dp] at h1;obtain⟨a,xs,rfl,hs,ha⟩:=h1;cases e with
   |lst es=>
    simp only[Dp] at h2;obtain⟨b,ys,eb,hs2,ha2⟩:=h2;cases eb;rw[I.list_inj hs2 hs] at ha2;rw[al (g:=Dp X.K H n) (fun d e v=>ih) ha ha2]
   |tup es=>
    simp only[Dp] at h2;obtain⟨b,ys,eb,hs2,ha2⟩:=h2;cases eb;exact(tl hs2 hs).elim
   |_=>simp only[Dp] at h2;cases h2
  |_=>
   simp only[Dp] at h1;subst h1;cases e<;>simp only[Dp] at h2<;>simp_all [zcR]
theorem zqu{pins:List (Addr×Obj)}{σ:St}{H:Hp}{s:Shared}(I:Inv X pins σ H s){as:List Addr}{n:Nat}{ds:List D}(h2:all2 (Dp X.K H n) ds (as.map V.ref)): ∀i j:Nat,i<as.length→as[j]? =as[i]? →ds.getD j .non=ds.getD i .non:=fun i j hi e=>by
 have hl:=zbc h2;rw[List.length_map] at hl;have hi':as[i]? =some as[i]:=List.getElem?_eq_getElem hi;have hj:=(List.getElem?_eq_some_iff.mp (e.trans hi')).1;have e1:ds[i]? =some ds[i]:=List.getElem?_eq_getElem (by omega);have e2:ds[j]? =some ds[j]:=List.getElem?_eq_getElem (by omega);rw[List.getD_eq_getElem?_getD,List.getD_eq_getElem?_getD,e1,e2];exact zoX I (v:= .ref as[i]) (zcD h2 e2 (by rw[List.getElem?_map,e,hi'];rfl)) (zcD h2 e1 (by rw[List.getElem?_map,hi'];rfl))
theorem zjR{k:Nat}(hr:Room k X.A):OpR X (compareOp .NotIn) (zqY X.K true):=by
 intro pins s σ H x y v u Q I rx ry h;obtain⟨p,as,n,ds,d,rfl,hq,h2,hd,hn,hc,q⟩:=h;have hu:=zqu I h2;cases ry;obtain⟨its,r,pl,hz⟩:=I.list hq;obtain rfl:=zfb r;have hl:=zbc h2;rw[List.length_map] at hl;refine SeqAt.notIn_listAt (inF as ds n d) pl.isList (zoW I hr h2 hd hn hc rx hu) ⟨.bl _,H,I,rfl,?_⟩;rw[show (as.map Value.ref).toArray.any (inF as ds n d)=(as.map Value.ref).any (inF as ds n d) by simp,zm8 hl hu];exact q
end
end L2
namespace L2
open PySem PySem.Spec PyProof.Rows
theorem zjS{K:Fg}{a l:Addr}{H1:Hp}{xs:List V}{σ0:St}{j k:Nat}{te:TE}{Q:VK}(Pv:Nat→List V→Prop)(hq:SqL K H1 a xs)(hl:H1 l=none)(hz:xs.length<sizeLine)(hsub: ∀v w:V,Sub σ0 ((σ0.set j (some v)).set k (some w)))(h0:Pv 0 [])
  (hs: ∀i x ys H (K1:VK),xs[i]? =some x→zam H1 H→Pv i ys→(∀v H4,zam H H4→Pv (i+1) (ys++ [v])→K1 v H4)→te ((σ0.set j (some (.int i))).set k (some x)) H K1)
  (hd: ∀ys H,zam H1 H→Pv xs.length ys→H l=some (.lst ys)→Q (.ref l) H):ziU (Ite K a) σ0 (zn7 K 2 (zeI (zdL j) (zeI (zdL k) zkl))) zov te l Q H1:=by
 refine⟨fun i m ys H=>i≤xs.length∧m=xs.length - i∧zam H1 H∧Pv i ys∧ys.length≤i∧H l=some (.lst ys),⟨xs.length,Nat.zero_le _,by omega,zbN hl _,h0,Nat.le_refl _,zao⟩,?_⟩;rintro i m ys H ⟨hi,rfl,sm,pv,hx,e⟩;refine⟨e,Nat.lt_of_le_of_lt hx (by omega),?_⟩;by_cases hlt:i<xs.length
 ·refine .inr ⟨⟨xs,xs[i],sm.seq hq,by simp [hlt]⟩,fun v H' yl=> ?_⟩;obtain⟨pp,rfl,_,s2,x,ep,ex⟩:=yl;refine⟨pp, [.int i,x],rfl,SqT.of ep,rfl, .int i, [x],rfl,x, [],rfl,rfl,hsub _ _,?_⟩;refine hs i x ys H' _ (ex xs (sm.seq hq)) (sm.trans s2) pv fun v H4 s4 p4=> ?_;exact⟨s4 _ _ (s2 _ _ e),xs.length - (i+1),by omega,hlt,rfl,zdO ((sm.trans s2).trans s4) hl,p4,by rw[List.length_append];simp only[List.length_cons,List.length_nil];omega,zao⟩
 ·obtain rfl:i=xs.length:=by omega
  exact .inl ⟨⟨xs,sm.seq hq,Nat.le_refl _⟩,hd ys H sm pv e⟩
theorem zfc{X:Cx}{w:World}(e:X.w=w){K:Fg}(eK:X.K=K)(hc:X.calm=true):zbK X (.type "set") (fun xs H Q=> ∃(p:Addr) (zs:List Int),xs= [.ref p]∧SqL K H p (zs.map V.int)∧zs.length≤1000∧ ∀q H',H q=none→zam H H'→H' q=some (setO w q (zjP zs))→Q (.ref q) H'):=by
 subst e eK;exact zjQ hc
theorem zdx{X:Cx}{w:World}(e:X.w=w)(hc:X.calm=true):zbK X (.builtin "sorted") (fun xs H Q=> ∃(p:Addr) (ks:List Int),xs= [.ref p]∧H p=some (setO w p ks)∧ks.length≤1000∧ ∀ws:List Int,ws.Perm ks→ws.Pairwise (· ≤ ·)→New H (.lst (ws.map V.int)) Q):=by
 subst e;exact zgR hc
end L2
namespace L2
open PySem PySem.Spec PyProof.Rows
end L2
namespace L2
open PySem PySem.Spec PyProof.Rows
theorem zik{X:Cx}:zbK X (.builtin "len") (fun xs H Q=> ∃a kvs,xs= [V.ref a]∧H a=some (.dK kvs)∧Q (.int kvs.length) H):=by
 intro pins s σ H xs us Q I r h;obtain⟨a,kvs,rfl,e,q⟩:=h;obtain⟨u,rfl,ru⟩:=zc2 r;obtain rfl:u=Value.ref a:=ru;exact zqi I (Rd.of e) fun t s' I'=>⟨.int _,H,I',⟨t,rfl⟩,q⟩
theorem zet{X:Cx}:zd9 (CXE X.prog X.w) X (fun _ _ _=>False):=fun _ _ _ _ _ _ _ h=>by
 obtain⟨_,_,_,_,_,z⟩:=h;exact z.elim
theorem zjT{X:Cx}(hc:X.calm=true):zbK X (.builtin "sum") (fun xs H Q=> ∃(p:Addr) (ns:List Int),xs= [.ref p]∧SqT X.K H p (ns.map V.int)∧Q (.int ns.sum) H):=by
 intro pins s σ H xs us Q I r h;obtain⟨p,ns,rfl,hq,q⟩:=h;obtain⟨u,rfl,ru⟩:=zc2 r;obtain rfl:u=Value.ref p:=ru;obtain⟨its,rv,pl,hz⟩:=I.tuple hq;have hl:ns.length=its.length:=by rw[←rv.length,List.length_map]
 obtain⟨o0,e0,_,_⟩:=id pl;have ne:p≠s.heap.objs.size:=Nat.ne_of_lt (Heap.lt_size e0);refine call_sum_walkG (wpAny_pyIter_tuple pl ?_);refine⟨s.heap.objs.size,_,_,_,_,_,fun i=>ns.getD i 0,rfl,Walks.tuple (show X.A.in1.handled=none from I.ok.hd hc) s.heap.objs.size p ne its.toArray,⟨⟨_,Heap.get?_push_size _ rfl,rfl,rfl⟩,?_⟩,?_,?_,fun h' tk t' hk=> ?_⟩
 ·exact Heap.IsTuple.at pl fun o e=>Heap.get?_push_of_some _ e
 ·intro b hb;have hb':b=s.heap.objs.size∨b=p:=by simpa using hb
  show b<(s.heap.push _).objs.size;rw[Heap.size_push];rcases hb' with rfl|rfl
  ·exact Nat.lt_succ_self _
  ·exact Nat.lt_succ_of_lt (Heap.lt_size e0)
 ·intro i v hv;have hi:its[i]? =some v:=by simpa using hv
  obtain⟨hlt,_⟩:=List.getElem?_eq_some_iff.mp hi;have hb:(ns.map V.int)[i]? =some (.int ns[i]):=by rw[List.getElem?_map,List.getElem?_eq_getElem (by omega)];rfl
  obtain⟨u',e',t,rfl⟩:=rv.get hb;rw[hi] at e';cases e';have z:ns.getD i 0=ns[i]:=by rw[List.getD_eq_getElem?_getD,List.getElem?_eq_getElem (by omega)];rfl
  exact⟨t,by show Value.int ns[i] t=Value.int (ns.getD i 0) t;rw[z]⟩
 ·have e:PySem.preSum (fun i=>ns.getD i 0) its.toArray.size=ns.sum:=by rw[List.size_toArray,←hl,zc6 ns _ (Nat.le_refl _),List.take_length]
  rw[e];refine⟨.int _,H,I.kept (t':=tk) fun b o hb=>hk b o (fun z=> ?_) (Heap.get?_push_of_some _ hb),⟨_,rfl⟩,q⟩;have z':b=s.heap.objs.size:=by simpa using z
  exact absurd (z' ▸ Heap.lt_size hb) (Nat.lt_irrefl _)
end L2
namespace L2
open PySem PySem.Spec PyProof.Rows
def zil(σ:St)(i:Nat)(Q:V→Prop):Prop:=match σ[i]? with|some (some v)=>Q v|_=>False
def zez(x:V)(Q:Int→Prop):Prop:=match x with| .int i=>Q i|_=>False
def blP(x:V)(Q:Bool→Prop):Prop:=match x with| .bl c=>Q c|_=>False
section
variable {σ:St} {i:Nat} {Q:V→Prop} {v x:V} {o:Option V}
theorem zjU:zil (some v::σ) 0 Q=Q v:=rfl
theorem zjV:zil (o::σ) (i+1) Q=zil σ i Q:=rfl
theorem zdY:zil σ i Q= ∃v,σ[i]? =some (some v)∧Q v:=by
 unfold zil;cases h:σ[i]? with
 |none=>simp
 |some o=>cases o<;>simp
theorem zhA{i:Int}{Q:Int→Prop}:zez (.int i) Q=Q i:=rfl
theorem zcv{Q:Int→Prop}:zez x Q= ∃i,x= .int i∧Q i:=by cases x<;>simp [zez]
theorem zim{c:Bool}{Q:Bool→Prop}:blP (.bl c) Q=Q c:=rfl
theorem zfd{Q:Bool→Prop}:blP x Q= ∃c,x= .bl c∧Q c:=by cases x<;>simp [blP]
end
theorem zqv{α β:Type}{f:α→β}{a:α}{l:List α}:List.map f (a::l)=f a::List.map f l:=rfl
theorem zqw{α β:Type}{f:α→β}:List.map f []= []:=rfl
def zdc(i:Nat):TE:=fun σ H Q=>zil σ i fun v=>Q v H
def rJ(C:Int→Int→Prop)(g:Int→Int→V):R2:=fun x y H Q=>zez x fun i=>zez y fun j=>C i j∧Q (g i j) H
def rJ0(g:Int→Int→V):R2:=fun x y H Q=>zez x fun i=>zez y fun j=>Q (g i j) H
def rUJ(g:Int→V):V→Hp→VK→Prop:=fun x H Q=>zez x fun i=>Q (g i) H
def zdd(t:TE):TT:=fun σ H Q=>t σ H fun x H'=>blP x fun k=>Q k H'
def zlz(ta tb:TE):TE:=fun σ H Q=>ta σ H fun x H1=>blP x fun c=>if c=true then tb σ H1 Q else Q (.bl false) H1
def znP(ta tb:TE):TE:=fun σ H Q=>ta σ H fun x H1=>blP x fun c=>if c=true then Q (.bl true) H1 else tb σ H1 Q
def zlA(ta:TE):TE:=fun σ H Q=>ta σ H fun x H1=>blP x fun c=>Q (.bl (!c)) H1
def znQ(i:Nat)(te:TE)(ti:TIp):TS:=fun D σ H=>zil σ i fun x=>te σ H fun y H1=>ti x y H1 fun z H2=>D.nx (σ.set i (some z)) H2
def ipJ(f:Int→Int→Int):TIp:=fun x y H Q=>zez x fun i=>zez y fun j=>Q (.int (f i j)) H
theorem zlB{i:Nat}:zdc i=znW i:=by funext σ H Q;exact zdY
theorem zqx{C:Int→Int→Prop}{g:Int→Int→V}:rJ C g=rI C g:=by
 funext x y H Q;unfold rJ rI;simp only[zcv,exists_and_left]
theorem zoY{g:Int→Int→V}:rJ0 g=rI0 g:=by
 funext x y H Q;unfold rJ0 rI0;simp only[zcv,exists_and_left]
theorem zoZ{g:Int→V}:rUJ g=rU g:=by funext x H Q;exact zcv
theorem zgf{t:TE}:zdd t=zdM t:=by funext σ H Q;unfold zdd zdM;simp only[zfd]
theorem zin{t:TE}:zdd t=tB t:=zgf
theorem zlC{f:Int→Int→Int}:ipJ f=ipI f:=by
 funext x y H Q;unfold ipJ ipI;simp only[zcv,exists_and_left]
section
variable {X:Cx} {a b c e:Expr} {ta tb tc te:TE} {t u:TT} {pos:PySem.Pos} {rs:List Expr}
theorem pvJ(i:Nat){x:Str}{pos:PySem.Pos}(hN:X.N[i]? =some x:=by rfl)(hv:Vis X.env.scope x:=by first|exact Or.inl rfl|exact Or.inr (Or.inl rfl)|exact Or.inr (Or.inr rfl))(hd:(x==("__debug__":Str))=false:=by decide)
  (hcd:(x==("__classdict__":Str))=false:=by decide):PE X (.Name x pos) (zdc i):=by rw[zlB];exact zkf hN hv hd hcd
theorem OpR.j{f:Value→Value→Sem Value}{C:Int→Int→Prop}{g:Int→Int→V}(h:OpR X f (rI C g)):OpR X f (rJ C g):=by rw[zqx];exact h
theorem OpR.j0{f:Value→Value→Sem Value}{g:Int→Int→V}(h:OpR X f (rI0 g)):OpR X f (rJ0 g):=by rw[zoY];exact h
theorem zat:OpR X (binaryOp .Add) (rJ0 fun i j=> .int (i+j)):=zod.j0
theorem zaK:OpR X (binaryOp .Sub) (rJ0 fun i j=> .int (i - j)):=zoe.j0
theorem zbi:OpR X (binaryOp .Mult) (rJ zjA fun i j=> .int (i*j)):=zof.j
theorem zaN:OpR X (binaryOp .FloorDiv) (rJ zmD fun i j=> .int (i / j)):=zmE.j
theorem zas:OpR X (binaryOp .Mod) (rJ (fun _ j=>0<j) fun i j=> .int (i % j)):=zog.j
theorem zgS:OpR X (binaryOp .Pow) (rJ zhZ fun i j=> .int (i ^ j.toNat)):=zoh.j
theorem zfe:OpR X (binaryOp .Mult) (rJ (fun i j=>zjA i j∨(Sm i∧Sm j)) fun i j=> .int (i*j)):=zmU.j
theorem zaG:OpR X (binaryOp .FloorDiv) (rJ (fun _ j=>0<j∧Sm j) fun i j=> .int (i / j)):=zkP.j
theorem zo0:OpR X (compareOp .Lt) (rJ0 fun i j=> .bl (decide (i<j))):=zbL.j0
theorem zio:OpR X (compareOp .LtE) (rJ0 fun i j=> .bl (decide (i≤j))):=zkp.j0
theorem zo1:OpR X (compareOp .Gt) (rJ0 fun i j=> .bl (decide (j<i))):=zdu.j0
theorem zo2:OpR X (compareOp .GtE) (rJ0 fun i j=> .bl (decide (j≤i))):=znH.j0
theorem psJ(i:Nat){x:Str}{pos':PySem.Pos}(hN:X.N.Nodup)(he:PE X e te)(hi:X.N[i]? =some x:=by rfl)(hx:Loc X.env.scope x:=by exact Or.inl rfl)(hs:swapsWith e (some (.Name x pos')) pos.line X.env=pure false:=by rfl)(hf:X.fn x=true∨X.env.scope.names.lookup x=some .local:=by first|exact .inl rfl|exact .inr rfl|assumption):
  PS X (.Assign [.Name x pos'] e pos) (zkm te (zdL i)):=zn8 hN hi hx he hs hf
theorem ixJ{r:R2}(hr:IxR X r)(ha:PE X a ta)(hb:PE X b tb)(hs:ziS b:=by exact fun _ _=>rfl):PE X (.Subscript a b pos) (tOp r ta tb):=zp9 hr ha hb hs
theorem zcW:UnR X (unaryOp .USub) (rUJ fun i=> .int (-i)):=by rw[zoZ];exact zoi
theorem zbq{op:CmpOp}{r:R2}(ho:OpR X (compareOp op) r)(ha:PE X a ta)(hb:PE X b tb)(hm:behindInMarks op b=false):PT X (.Compare a [op] [b] pos) (zdd (tOp r ta tb)):=by rw[zgf];exact zeA ho ha hb hm
theorem zgT(h:PE X e te)(he: ∀whole,isTrue e X.env whole=(do let v←whole;standAt e.pos;holding [v] (truthy v)):=by intro _;rfl):PT X e (zdd te):=by rw[zin];exact zeH h he
theorem zi8(ha:PE X a ta)(hb:PE X (.BoolOp .And (b::rs) pos) tb):PE X (.BoolOp .And (a::b::rs) pos) (zlz ta tb):=by
 have:=zn4 ha hb;unfold znC at this;simp only[←zfd] at this;exact this
theorem zo3(ha:PE X a ta)(hb:PE X (.BoolOp .Or (b::rs) pos) tb):PE X (.BoolOp .Or (a::b::rs) pos) (znP ta tb):=by
 have:=zpX ha hb;unfold zpW at this;simp only[←zfd] at this;exact this
theorem zm9(ha:PE X a ta):PE X (.UnaryOp .Not a pos) (zlA ta):=by
 have:=zn5 (pos:=pos) ha;unfold znD at this;simp only[←zfd] at this;exact this
theorem zeC{i:Nat}{x:Str}{op:Operator}{ti:TIp}{pos':PySem.Pos}(hN:X.N.Nodup)(hi:X.N[i]? =some x)(hx:Loc X.env.scope x)(he:PE X e te)(ho:PIp X op ti)(hf:X.fn x=true∨X.env.scope.names.lookup x=some .local:=by first|exact .inl rfl|exact .inr rfl|assumption):
  PS X (.AugAssign (.Name x pos') op e pos) (znQ i te ti):=by
 have:=zn9 (pos:=pos) (pos':=pos') hN hi hx he ho hf;unfold zp0 at this;simp only[←zdY] at this;exact this
theorem zi9:PIp X .Add (ipJ fun i j=>i+j):=by rw[zlC];exact zoa
theorem zja:PIp X .Sub (ipJ fun i j=>i - j):=by rw[zlC];exact zob
end
def zfO(xs:List V)(P:Prop):Prop:=match xs with
 | []=>P
 | [_]=>P
 | [_,_]=>P
 | [_,_,_]=>P
 | [_,_,_,_]=>P
 | [_,_,_,_,_]=>P
 |_=>xs.length≤sizeLine∧P
def zlD(vs:List V)(Q:V→List V→Prop):Prop:=match vs with|v::r=>Q v r| []=>False
def zo4(vs:List V)(P:Prop):Prop:=match vs with| []=>P|_=>False
section
variable {P:Prop} {v a b c d e:V} {r:List V} {Q:V→List V→Prop}
theorem zo5:zfO [] P=P:=rfl
theorem zo6:zfO [a] P=P:=rfl
theorem zo7:zfO [a,b] P=P:=rfl
theorem zo8:zfO [a,b,c] P=P:=rfl
theorem zo9:zfO [a,b,c,d] P=P:=rfl
theorem zpa:zfO [a,b,c,d,e] P=P:=rfl
theorem zeD{xs:List V}:zfO xs P=(xs.length≤sizeLine∧P):=by
 have h: ∀n,n≤5→P=(n≤sizeLine∧P):=fun n hn=>by rw[slT (by omega),true_and]
 match xs with
 | []=>exact h 0 (by decide)
 | [_]=>exact h 1 (by decide)
 | [_,_]=>exact h 2 (by decide)
 | [_,_,_]=>exact h 3 (by decide)
 | [_,_,_,_]=>exact h 4 (by decide)
 | [_,_,_,_,_]=>exact h 5 (by decide)
 |_::_::_::_::_::_::_=>rfl
theorem zna:zlD (v::r) Q=Q v r:=rfl
theorem zhB{vs:List V}:zlD vs Q= ∃v r,vs=v::r∧Q v r:=by
 cases vs with
 |nil=>exact propext ⟨fun h=>h.elim,fun⟨_,_,h,_⟩=>nomatch h⟩
 |cons v r=>exact propext ⟨fun h=>⟨v,r,rfl,h⟩,fun⟨_,_,h,q⟩=>by cases h;exact q⟩
theorem zpb:zo4 [] P=P:=rfl
theorem zjb{vs:List V}:zo4 vs P=(vs= []∧P):=by
 cases vs with
 |nil=>exact propext ⟨fun h=>⟨rfl,h⟩,fun h=>h.2⟩
 |cons v r=>exact propext ⟨fun h=>h.elim,fun h=>nomatch h.1⟩
end
def zjc(t:TA):TE:=fun σ H Q=>t σ H fun xs H1=>zfO xs (New H1 (.tup xs) Q)
def zjd(t:TA):TE:=fun σ H Q=>t σ H fun xs H1=>zfO xs (New H1 (.lst xs) Q)
def ziq(t:TG)(u:TGs):TGs:=fun vs σ H Q=>zlD vs fun v r=>t v σ H fun σ' H'=>u r σ' H' Q
def zlE:TGs:=fun vs σ H Q=>zo4 vs (Q σ H)
def zeE(C:Addr)(Ek:St→XK)(t:TA):TS:=fun _ σ H=>t σ H fun vs H1=>zfO vs (Ek σ (.ref C) none H1)
theorem zlF:zjc=zkX:=by funext t σ H Q;unfold zjc zkX;simp only[zeD]
theorem zlG:zjd=zkY:=by funext t σ H Q;unfold zjd zkY;simp only[zeD]
theorem zjW:ziq=zeI:=by funext t u vs σ H Q;exact zhB
theorem zlH:zlE=zkl:=by funext vs σ H Q;exact zjb
theorem zir:zeE=zh5:=by funext C Ek t D σ H;unfold zeE zh5;simp only[zeD]
section
variable {X:Cx} {e:Expr} {es:List Expr} {t:TA} {pos p:PySem.Pos} {Ek:St→XK} {C:Addr} {x:Str}
theorem zaz{x1}(h:PA X es t):PE X (.Tuple es x1 pos) (zjc t):=by rw[zlF];exact zmV h
theorem zaB(h:PA X es t):PE X (.List es pos) (zjd t):=by rw[zlG];exact zmW h
theorem zaJ:PGs X [] zlE:=by rw[zlH];exact zb0
theorem zaj{t:TG}{u:TGs}(h1:PG X e t)(h2:PGs X es u)
  (hs:(assignEach (e::es) X.env).map (·.2)=assign e X.env::(assignEach es X.env).map (·.2):=by rfl):PGs X (e::es) (ziq t u):=by rw[zjW];exact zaL h1 h2 hs
theorem zbI(L:LvR X Ek)(O:Exc X.K C)(hc:X.calm=true)(hg:Gl X x)(hm:X.mg x=some (.ref C))(ha:PA X (e::es) t)(hdb:(x==("__debug__":Str))=false:=by decide)
  (he:starEach (e::es) X.env=(false,eval e X.env)::starEach es X.env:=by rfl) (hpl:(backTo pos (starEach es X.env)).any (·.1)=false:=by rfl) {rpos:PySem.Pos}:
  PS X (.Raise (some (.Call (.Name x p) (e::es) [] pos)) none rpos) (zeE C Ek t):=by rw[zir];exact zkK L O hc hg hm ha hdb he hpl
end
abbrev TQ:=St→Hp→((p:Prop)→Decidable p→Hp→Prop)→Prop
def asT(t:TQ):TT:=fun σ H Q=>t σ H fun p d H'=>Q (@decide p d) H'
def PQ(X:Cx)(e:Expr)(t:TQ):Prop:=PT X e (asT t)
def tQ(t:TT):TQ:=fun σ H K=>t σ H fun b H'=>K (b=true) (instDecidableEqBool b true) H'
def tQN(t:TT):TQ:=fun σ H K=>t σ H fun b H'=>K (b=false) (instDecidableEqBool b false) H'
def zje(P:Int→Int→Prop)(d: ∀i j,Decidable (P i j))(ta tb:TE):TQ:=fun σ H K=>ta σ H fun x H1=>tb σ H1 fun y H2=>zez x fun i=>zez y fun j=>K (P i j) (d i j) H2
def zjf(t u:TQ):TQ:=fun σ H K=>t σ H fun p d H1=> @ite Prop p d (u σ H1 K) (K False instDecidableFalse H1)
def znb(t u:TQ):TQ:=fun σ H K=>t σ H fun p d H1=> @ite Prop p d (K True instDecidableTrue H1) (u σ H1 K)
def zhC(c:TQ)(t u:TS):TS:=fun D σ H=>c σ H fun p d H1=> @ite Prop p d (t D σ H1) (u D σ H1)
def znc(c:TQ)(ta tb:TE):TE:=fun σ H Q=>c σ H fun p d H1=> @ite Prop p d (ta σ H1 Q) (tb σ H1 Q)
def eqK(x y:V)(K:(p:Prop)→Decidable p→Prop):Prop:=match x,y with
 | .int i, .int j=>K (i=j) (Int.instDecidableEq i j)
 | .bl i, .bl j=>K (i=j) (instDecidableEqBool i j)
 | .str i, .str j=>K (i=j) (instDecidableEqStr i j)
 | .non, .non=>K True instDecidableTrue
 | .non, .int _=>K False instDecidableFalse
 | .int _, .non=>K False instDecidableFalse
 | .non, .str _=>K False instDecidableFalse
 | .str _, .non=>K False instDecidableFalse
 |x,y=>zeM x y=true∧K (x=y) (instDecidableEqV x y)
def neK(x y:V)(K:(p:Prop)→Decidable p→Prop):Prop:=match x,y with
 | .int i, .int j=>K (¬i=j) (@instDecidableNot _ (Int.instDecidableEq i j))
 | .bl i, .bl j=>K (¬i=j) (@instDecidableNot _ (instDecidableEqBool i j))
 | .str i, .str j=>K (¬i=j) (@instDecidableNot _ (instDecidableEqStr i j))
 | .non, .non=>K False instDecidableFalse
 | .non, .int _=>K True instDecidableTrue
 | .int _, .non=>K True instDecidableTrue
 | .non, .str _=>K True instDecidableTrue
 | .str _, .non=>K True instDecidableTrue
 |x,y=>zeM x y=true∧K (¬x=y) (@instDecidableNot _ (instDecidableEqV x y))
def znd(ta tb:TE):TQ:=fun σ H K=>ta σ H fun x H1=>tb σ H1 fun y H2=>eqK x y fun p d=>K p d H2
def zlI(ta tb:TE):TQ:=fun σ H K=>ta σ H fun x H1=>tb σ H1 fun y H2=>neK x y fun p d=>K p d H2
section
variable {A B:Prop} {K:(p:Prop)→Decidable p→Prop}
theorem zqy: @ite Prop False instDecidableFalse A B=B:=rfl
theorem zqz: @ite Prop True instDecidableTrue A B=A:=rfl
theorem zpc{i j:Int}:eqK (.int i) (.int j) K=K (i=j) (Int.instDecidableEq i j):=rfl
theorem zpd{i j:Bool}:eqK (.bl i) (.bl j) K=K (i=j) (instDecidableEqBool i j):=rfl
theorem zpe{i j:Str}:eqK (.str i) (.str j) K=K (i=j) (instDecidableEqStr i j):=rfl
theorem zpf:eqK .non .non K=K True instDecidableTrue:=rfl
theorem zpg{j:Int}:eqK .non (.int j) K=K False instDecidableFalse:=rfl
theorem zph{j:Int}:eqK (.int j) .non K=K False instDecidableFalse:=rfl
theorem zpi{j:Str}:eqK .non (.str j) K=K False instDecidableFalse:=rfl
theorem zpj{j:Str}:eqK (.str j) .non K=K False instDecidableFalse:=rfl
theorem zpk{i j:Int}:neK (.int i) (.int j) K=K (¬i=j) (@instDecidableNot _ (Int.instDecidableEq i j)):=rfl
theorem zpl{i j:Bool}:neK (.bl i) (.bl j) K=K (¬i=j) (@instDecidableNot _ (instDecidableEqBool i j)):=rfl
theorem zpm{i j:Str}:neK (.str i) (.str j) K=K (¬i=j) (@instDecidableNot _ (instDecidableEqStr i j)):=rfl
theorem zpn:neK .non .non K=K False instDecidableFalse:=rfl
theorem zpo{j:Int}:neK .non (.int j) K=K True instDecidableTrue:=rfl
theorem zpp{j:Int}:neK (.int j) .non K=K True instDecidableTrue:=rfl
theorem zpq{j:Str}:neK .non (.str j) K=K True instDecidableTrue:=rfl
theorem zpr{j:Str}:neK (.str j) .non K=K True instDecidableTrue:=rfl
theorem zbZ{p q:Prop}{d:Decidable p}{d':Decidable q}(h:p↔q):K p d=K q d':=by
 obtain rfl:p=q:=propext h;rw[Subsingleton.elim d d']
theorem zlJ{x y:V}:eqK x y K=(zeM x y=true∧K (x=y) (instDecidableEqV x y)):=by
 unfold eqK;split<;>first
  |rfl
  |(rw[zbZ (K:=K) (d':=instDecidableEqV (V.int _) (V.int _)) (by rw[V.int.injEq])];exact(propext ⟨fun h=>⟨rfl,h⟩,fun h=>h.2⟩))
  |(rw[zbZ (K:=K) (d':=instDecidableEqV (V.bl _) (V.bl _)) (by rw[V.bl.injEq])];exact(propext ⟨fun h=>⟨rfl,h⟩,fun h=>h.2⟩))
  |(rw[zbZ (K:=K) (d':=instDecidableEqV (V.str _) (V.str _)) (by rw[V.str.injEq])];exact(propext ⟨fun h=>⟨rfl,h⟩,fun h=>h.2⟩))
  |exact propext ⟨fun h=>⟨rfl,(zbZ (K:=K) (by simp)).mp h⟩,fun h=>(zbZ (K:=K) (by simp)).mp h.2⟩
theorem zlK{x y:V}:neK x y K=(zeM x y=true∧K (¬x=y) (@instDecidableNot _ (instDecidableEqV x y))):=by
 unfold neK;split<;>first
  |rfl
  |exact propext ⟨fun h=>⟨rfl,(zbZ (K:=K) (by simp)).mp h⟩,fun h=>(zbZ (K:=K) (by simp)).mp h.2⟩
end
section
variable {X:Cx} {a b c e:Expr} {ta tb tc te:TE} {t u:TQ} {pos:PySem.Pos} {rs:List Expr}
theorem zlL(b:Bool): @decide (b=true) (instDecidableEqBool b true)=b:=by cases b<;>rfl
theorem zcF{t:TT}(h:PT X e t):PQ X e (tQ t):=by
 have e1:asT (tQ t)=t:=by
  funext σ H Q;unfold asT tQ;simp only[zlL]
 unfold PQ;rw[e1];exact h
theorem zlM{t:TT}(h:PT X e t):PQ X (.UnaryOp .Not e pos) (tQN t):=by
 have e1:asT (tQN t)=zn0 t:=by
  funext σ H Q;unfold asT tQN zn0;have d: ∀b:Bool, @decide (b=false) (instDecidableEqBool b false)= !b:=fun b=>by cases b<;>rfl
  simp only[d]
 unfold PQ;rw[e1];exact zn3 h
theorem zaV{op:CmpOp}{P:Int→Int→Prop}{d: ∀i j,Decidable (P i j)}(ho:OpR X (compareOp op) (rI0 fun i j=> .bl (@decide (P i j) (d i j))))(ha:PE X a ta)(hb:PE X b tb)(hm:behindInMarks op b=false:=by exact za3 _):PQ X (.Compare a [op] [b] pos) (zje P d ta tb):=by
 have e1:asT (zje P d ta tb)=zdM (tOp (rI0 fun i j=> .bl (@decide (P i j) (d i j))) ta tb):=by
  funext σ H Q;unfold asT zje zdM tOp rI0;simp only[zcv,exists_and_left,V.bl.injEq,exists_eq_left']
 unfold PQ;rw[e1];exact zeA ho ha hb hm
theorem zeF{p:Prop}{d:Decidable p}{A B:Prop}:(if @decide p d=true then A else B)= @ite Prop p d A B:=by
 cases d<;>rfl
theorem zbC(ha:PE X a ta)(hb:PE X b tb)(hm:behindInMarks .Eq b=false:=by exact za3 _):PQ X (.Compare a [.Eq] [b] pos) (znd ta tb):=by
 have e1:asT (znd ta tb)=zdM (tOp rEq ta tb):=by
  funext σ H Q;unfold asT znd zdM tOp rEq;simp only[zlJ,V.bl.injEq,exists_eq_left']
 unfold PQ;rw[e1];exact zeA zcY ha hb hm
theorem zgg(ha:PE X a ta)(hb:PE X b tb)(hm:behindInMarks .NotEq b=false:=by exact za3 _):PQ X (.Compare a [.NotEq] [b] pos) (zlI ta tb):=by
 have e1:asT (zlI ta tb)=zdM (tOp rNe ta tb):=by
  funext σ H Q;unfold asT zlI zdM tOp rNe;simp only[zlK,V.bl.injEq,exists_eq_left',decide_not]
 unfold PQ;rw[e1];exact zeA znG ha hb hm
theorem zne{t u:TQ}:asT (zjf t u)=znZ (asT t) (asT u):=by
 funext σ H Q;unfold asT zjf znZ;simp only[zeF];rfl
theorem zps{t u:TQ}:asT (znb t u)=tOr (asT t) (asT u):=by
 funext σ H Q;unfold asT znb tOr;simp only[zeF];rfl
def PWQ(X:Cx)(e:Expr)(t:TQ):Prop:=PW X e (asT t)
theorem PWQ.pq(h:PWQ X e t):PQ X e t:=PW.pt h
theorem zbO(ha:PQ X a t):PWQ X (.BoolOp .And [a] pos) t:=zmB ha
theorem zca(ha:PQ X a t):PWQ X (.BoolOp .Or [a] pos) t:=zn1 ha
theorem zb2(ha:PQ X a t)(hb:PWQ X (.BoolOp .And (b::rs) pos) u):PWQ X (.BoolOp .And (a::b::rs) pos) (zjf t u):=by unfold PWQ;rw[zne];exact zn2 ha hb
theorem zck(ha:PQ X a t)(hb:PWQ X (.BoolOp .Or (b::rs) pos) u):PWQ X (.BoolOp .Or (a::b::rs) pos) (znb t u):=by unfold PWQ;rw[zps];exact zpV ha hb
theorem zay{c:Expr}{a b:List Stmt}{t u:TS}{tc:TQ}(hc:PQ X c tc)(ha:PSs X a t)(hb:PSs X b u):PS X (.If c a b pos) (zhC tc t u):=by
 have e1:zhC tc t u=zn6 (asT tc) t u:=by
  funext D σ H;unfold zhC zn6 asT;simp only[zeF]
 rw[e1];exact zpZ hc ha hb
theorem zjX{c:Expr}{tc:TQ}(hc:PQ X c tc)(ha:PE X a ta)(hb:PE X b tb):PE X (.IfExp c a b pos) (znc tc ta tb):=by
 have e1:znc tc ta tb=tIf (asT tc) ta tb:=by
  funext σ H Q;unfold znc tIf asT;simp only[zeF]
 rw[e1];exact zkg hc ha hb
end
structure DF (K:Fg) (mg:Str→Option Value) (x:Str) (ps:List Str) (s:Stmt) (a:Addr) (d:FuncData):Prop where
 mg:mg x=some (.ref a)
 fn:Fun K x x s a d
 b:zbM K d ps []
theorem peD{X:Cx}{e:Expr}{pos:PySem.Pos}{Ek:St→XK}{k j:Nat}{f:Addr}{fd:FuncData}{ps:List Str}{sp:Sp}{x:Str}{es:List Expr}{t:TA}{p:PySem.Pos}{s:Stmt}(L:Lv X Ek)(F:FnOk X.prog X.w X.K X.mg X.base (CXE X.prog X.w) k f fd ps sp)(hr:Room j X.A)(D:DF X.K X.mg x ps s f fd)
  (ha:PA X (e::es) t) (hj:k≤j:=by decide) (hg:Gl X x:=by rfl) (hdb:(x==("__debug__":Str))=false:=by decide) (he:starEach (e::es) X.env=(false,eval e X.env)::starEach es X.env:=by rfl) (hpl:(backTo pos (starEach es X.env)).any (·.1)=false:=by rfl):
  PE X (.Call (.Name x p) (e::es) [] pos) (zgC sp [] Ek t):=zkJ L F (hr.mono hj) hg D.mg D.fn.kp D.b .nil ha hdb he hpl
def FA(K:Fg)(x:Str)(s:Stmt):Prop:= ∃(f:Addr) (d:FuncData),PySem.W.nsIn K mainGlobals x=some (some (.ref f))∧Fun K x x s f d
def FM(K:Fg)(C:Addr)(x q:Str)(s:Stmt):Prop:= ∃(f:Addr) (d:FuncData),Meth K C x f∧Fun K x q s f d
section
variable {K:Fg} {x q:Str} {s:Stmt} {C fa:Addr} {od an:Option Addr} {sl:Array (Option Value)} {oc kV dc pm cd ct:Value}
theorem FA.mk(a:PySem.W.nsIn K mainGlobals x=some (some (.ref fa)))(l:K.lookup fa=some ⟨oc,od, .func (PySem.W.fnOf x x (zcQ s) (zcp s) (zak s) .none kV dc pm an cd ct),sl⟩)(c:PySem.W.codeIn K cd x=true)(k:PySem.W.keepIn K (.ref fa)=true):FA K x s:=⟨fa,_,a,zkI l c k⟩
noncomputable def FA.f(h:FA K x s):Addr:=h.choose
noncomputable def FA.d(h:FA K x s):FuncData:=h.choose_spec.choose
theorem FA.fn(h:FA K x s):Fun K x x s h.f h.d:=h.choose_spec.choose_spec.2
theorem FA.mg{b:Heap}{mg:Str→Option Value}(h:FA K x s)(X:K.In b)(G:b.Ns mainGlobals mg):mg x=some (.ref h.f):=PySem.W.mg_of X G h.choose_spec.choose_spec.1
theorem FA.df{b:Heap}{mg:Str→Option Value}{ps:List Str}(h:FA K x s)(X:K.In b)(G:b.Ns mainGlobals mg)(bs:zbM K h.d ps []):DF K mg x ps s h.f h.d:=⟨h.mg X G,h.fn,bs⟩
theorem FM.mk(a:PySem.W.findIn K (.ref C) x=some (some (.ref fa)))(l:K.lookup fa=some ⟨oc,od, .func (PySem.W.fnOf x q (zcQ s) (zcp s) (zak s) .none kV dc pm an cd ct),sl⟩)(c:PySem.W.codeIn K cd q=true)(k:PySem.W.keepIn K (.ref fa)=true)(i:PySem.W.isFn K (.ref fa)=true):FM K C x q s:=⟨fa,_,⟨a,i,k⟩,zkI l c k⟩
noncomputable def FM.f(h:FM K C x q s):Addr:=h.choose
noncomputable def FM.d(h:FM K C x q s):FuncData:=h.choose_spec.choose
theorem FM.fn(h:FM K C x q s):Fun K x q s h.f h.d:=h.choose_spec.choose_spec.2
theorem FM.me(h:FM K C x q s):Meth K C x h.f:=h.choose_spec.choose_spec.1
end
end L2
namespace L2
open PySem PySem.Spec PyProof.Rows
def isW(w:List Nat):Value→Bool
 | .str x _=>x.cps.toList==(SL w).cps.toList
 |_=>false
theorem zlN{a b:List Nat}:((SL a).cps.toList==(SL b).cps.toList)=decide (a=b):=by
 rw[Bool.eq_iff_iff,beq_iff_eq,decide_eq_true_iff];refine⟨fun h=> ?_,fun h=>by rw[h]⟩;rw[←zcR];cases hx:SL a with
 |mk x=>cases hy:SL b with
  |mk y=>
   rw[hx,hy] at h;exact congrArg Str.mk (Array.toList_inj.mp h)
def znf:V→List V→Hp→VK→Prop:=fun x vs H Q=> ∃(l:Addr) (ws:List (List Nat)) (w:List Nat) (j:Nat),x= .ref l∧vs= [.str (SL w)]∧H l=some (.lst (ws.map fun w=>V.str (SL w)))∧ws[j]? =some w∧(∀m,m<j→ws[m]? ≠some w)∧j<1000∧Q (.int (j:Int)) H
theorem zlO{ws:List (List Nat)}{us:List Value}(r:zaI (ws.map fun w=>V.str (SL w)) us){i:Nat}(h:i<us.length): ∃(hn:i<ws.length) (t:Tok),us[i]= .str (SL ws[i]) t:=by
 have hl:=r.length;rw[List.length_map] at hl;have hn:i<ws.length:=by omega
 obtain⟨u,hu,t,rfl⟩:=r.get (i:=i) (x:= .str (SL ws[i])) (by rw[List.getElem?_map,List.getElem?_eq_getElem hn];rfl);exact⟨hn,t,by rw[List.getElem?_eq_getElem h] at hu;exact Option.some.inj hu⟩
theorem zjY{X:Cx}:MtR X "list.index" znf:=by
 intro pins s σ H x vs v us Q I rx rv h;obtain⟨l,ws,w,j,rfl,rfl,hH,hj,hno,h1,q⟩:=h;cases rx;obtain⟨u,rfl,t,rfl⟩:=rv.one;obtain⟨z,its,n,r,hl,e⟩:=I.lstM hH;have len:=r.length;rw[List.length_map] at len;have jl:j<ws.length:=(List.getElem?_eq_some_iff.mp hj).1;have jk:ws[j]=w:=(List.getElem?_eq_some_iff.mp hj).2;refine call_meets F.slot_list_index ⟨_,e,rfl⟩ F.entry_list_index (F.args_list_index_2 _ _) (MeetsSeq.list_index l its.toArray n (.str (SL w) t) (isW w) (fun y hy=> ?_) j (by rw[List.size_toArray];omega) (by omega) ?_ (fun m hm hlt=> ?_)) ⟨e,?_⟩
 ·obtain⟨i,hi,rfl⟩:=List.mem_iff_getElem.mp (List.mem_toArray.mp hy);obtain⟨hn,t',e'⟩:=zlO r hi;rw[e'];exact SeqRoads2.EqGives.str _ _ _ t
 ·obtain⟨hn,t',e'⟩:=zlO r (i:=j) (by omega);rw[List.getElem_toArray,e'];show ((SL ws[j]).cps.toList==(SL w).cps.toList)=true;rw[zlN,jk];exact decide_eq_true rfl
 ·obtain⟨hn,t',e'⟩:=zlO r (i:=m) (by rw[List.size_toArray] at hm;exact hm);rw[List.getElem_toArray,e'];show ((SL ws[m]).cps.toList==(SL w).cps.toList)=false;rw[zlN];exact decide_eq_false fun z=>hno m hlt (by rw[List.getElem?_eq_getElem hn,z])
 ·exact⟨.int _,H,I.tok _,⟨_,rfl⟩,q⟩
end L2
namespace Cal
def lp(y:Int):Int:=if y % 4=0∧(y % 100≠0∨y % 400=0) then 1 else 0
def dim(y m:Int):Int:=if m=2 then 28+lp y else if m=4∨m=6∨m=9∨m=11 then 30 else 31
def ahead(y:Int):Int:=(y - 1)*365+(y - 1) / 4 - (y - 1) / 100+(y - 1) / 400
def cum(y m:Int):Int:=
 if m≤1 then 0 else if m=2 then 31 else if m=3 then 59+lp y else if m=4 then 90+lp y else if m=5 then 120+lp y
 else if m=6 then 151+lp y else if m=7 then 181+lp y else if m=8 then 212+lp y else if m=9 then 243+lp y
 else if m=10 then 273+lp y else if m=11 then 304+lp y else if m=12 then 334+lp y else 365+lp y
def num(y m d:Int):Int:=ahead y+cum y m+d - 1
def Valid(y m d:Int):Prop:=1≤y∧y≤9999∧1≤m∧m≤12∧1≤d∧d≤dim y m
theorem lp_01(y:Int):0≤lp y∧lp y≤1:=by unfold lp;split<;>decide
theorem zff(y m:Int):28≤dim y m∧dim y m≤31:=by
 have:=lp_01 y;unfold dim;repeat' split
 all_goals omega
theorem cum_one(y:Int):cum y 1=0:=rfl
theorem cum_succ{y m:Int}(h1:1≤m)(h2:m≤12):cum y (m+1)=cum y m+dim y m:=by
 obtain⟨k,rfl⟩:=Int.eq_ofNat_of_zero_le (Int.le_trans (by decide:(0:Int)≤1) h1);match k,h1,h2 with
 |0,h,_=>exact absurd h (by decide)
 |1,_,_=>exact rfl
 |2,_,_=>exact Int.add_assoc 31 28 (lp y)
 |3,_,_=>exact(Int.add_right_comm 59 (lp y) 31).symm
 |4,_,_=>exact(Int.add_right_comm 90 (lp y) 30).symm
 |5,_,_=>exact(Int.add_right_comm 120 (lp y) 31).symm
 |6,_,_=>exact(Int.add_right_comm 151 (lp y) 30).symm
 |7,_,_=>exact(Int.add_right_comm 181 (lp y) 31).symm
 |8,_,_=>exact(Int.add_right_comm 212 (lp y) 31).symm
 |9,_,_=>exact(Int.add_right_comm 243 (lp y) 30).symm
 |10,_,_=>exact(Int.add_right_comm 273 (lp y) 31).symm
 |11,_,_=>exact(Int.add_right_comm 304 (lp y) 30).symm
 |12,_,_=>exact(Int.add_right_comm 334 (lp y) 31).symm
 |k+13,_,h=>exact absurd h (by omega)
theorem cum_13(y:Int):cum y 13=365+lp y:=by simp [cum]
theorem zis(y m:Int):0≤cum y m:=by
 have l:=(lp_01 y).1;have q: ∀a:Int,0≤a→0≤a+lp y:=fun a h=>Int.add_nonneg h l;have z: ∀{p:Prop} [Decidable p] {a b:Int},0≤a→0≤b→0≤if p then a else b:=fun {p} _ {a b} g h=>by split<;>assumption
 exact z (by decide) (z (by decide) (z (q _ (by decide)) (z (q _ (by decide)) (z (q _ (by decide)) (z (q _ (by decide)) (z (q _ (by decide)) (z (q _ (by decide)) (z (q _ (by decide)) (z (q _ (by decide)) (z (q _ (by decide)) (z (q _ (by decide)) (q _ (by decide)))))))))))))
theorem q4(x:Int):(x+1) / 4=x / 4+if (x+1) % 4=0 then 1 else 0:=by split<;>omega
theorem zqZ(x:Int):(x+1) / 100=x / 100+if (x+1) % 100=0 then 1 else 0:=by split<;>omega
theorem zq0(x:Int):(x+1) / 400=x / 400+if (x+1) % 400=0 then 1 else 0:=by split<;>omega
theorem zpt{x a b:Int}(k:Int)(e:b=a*k)(h:x % b=0):x % a=0:=by
 subst e;rw[←Int.emod_emod_of_dvd x (Int.dvd_mul_right a k),h,Int.zero_emod]
theorem zqA(y:Int):lp y=(if y % 4=0 then 1 else 0) - (if y % 100=0 then 1 else 0)+(if y % 400=0 then 1 else 0):=by
 unfold lp;by_cases c:y % 4=0
 ·by_cases d:y % 100=0
  ·by_cases e:y % 400=0
   ·rw[if_pos ⟨c, .inr e⟩,if_pos c,if_pos d,if_pos e];rfl
   ·rw[if_neg (fun h=>h.2.elim (fun h=>h d) e),if_pos c,if_pos d,if_neg e];rfl
  ·have e:y % 400≠0:=fun h=>d (zpt 4 rfl h);rw[if_pos ⟨c, .inl d⟩,if_pos c,if_neg d,if_neg e];rfl
 ·have d:y % 100≠0:=fun h=>c (zpt 25 rfl h);have e:y % 400≠0:=fun h=>c (zpt 100 rfl h);rw[if_neg (fun h=>c h.1),if_neg c,if_neg d,if_neg e];rfl
theorem zit(y:Int):ahead (y+1)=ahead y+365+lp y:=by
 obtain⟨x,rfl⟩: ∃x,y=x+1:=⟨y - 1,(Int.sub_add_cancel y 1).symm⟩
 rw[zqA];unfold ahead;rw[Int.add_sub_cancel,Int.add_sub_cancel,q4,zqZ,zq0,Int.add_mul,Int.one_mul];generalize x*365=p,x / 4=a,x / 100=b,x / 400=c,ite ((x+1) % 4=0) (1:Int) 0=d,ite ((x+1) % 100=0) (1:Int) 0=e,ite ((x+1) % 400=0) (1:Int) 0=f;clear x;omega
theorem zcX{y z:Int}(h:y<z):ahead y+365+lp y≤ahead z:=by
 rw[←zit];unfold ahead;omega
theorem zlP{y m:Int}(h1:1≤m): ∀j:Nat,m+1+(j:Int)≤13→cum y (m+1)≤cum y (m+1+(j:Int))
 |0,_=>Int.le_of_eq (by rw[show m+1+((0:Nat):Int)=m+1 from Int.add_zero _])
 |j+1,h=>by
  have a:=zlP (y:=y) h1 j (by omega);have b:=cum_succ (y:=y) (m:=m+1+(j:Int)) (by omega) (by omega);have c:=(zff y (m+1+(j:Int))).1;rw[show m+1+((j+1:Nat):Int)=m+1+(j:Int)+1 by omega,b];omega
theorem zdZ{y m k:Int}(h1:1≤m)(h:m<k)(h2:k≤13):cum y m+dim y m≤cum y k:=by
 rw[←cum_succ h1 (by omega)]
 have:=zlP (y:=y) h1 (k - (m+1)).toNat (by omega);rw[show m+1+((k - (m+1)).toNat:Int)=k by omega] at this;exact this
theorem zdn{y m d:Int}(h:Valid y m d):0≤cum y m+d - 1∧cum y m+d≤365+lp y:=by
 obtain⟨_,_,h3,h4,h5,h6⟩:=h;have a:=zis y m;have b:=zdZ (y:=y) h3 (show m<13 by omega) (by omega);rw[cum_13] at b;omega
theorem num_inj{y m d z k e:Int}(h:Valid y m d)(g:Valid z k e)(q:num y m d=num z k e):y=z∧m=k∧d=e:=by
 have a:=zdn h;have b:=zdn g;obtain⟨_,_,h3,h4,h5,h6⟩:=h;obtain⟨_,_,g3,g4,g5,g6⟩:=g;unfold num at q;have yz:y=z:=by
  rcases Int.lt_trichotomy y z with c|c|c
  ·have:=zcX c;omega
  ·exact c
  ·have:=zcX c;omega
 subst yz;have mk:m=k:=by
  rcases Int.lt_trichotomy m k with c|c|c
  ·have:=zdZ (y:=y) h3 c (by omega);omega
  ·exact c
  ·have:=zdZ (y:=y) g3 c (by omega);omega
 subst mk;exact⟨rfl,rfl,by omega⟩
theorem num_range{y m d:Int}(h:Valid y m d):0≤num y m d∧num y m d≤3652058:=by
 have a:=zdn h;obtain⟨h1,h2,_⟩:=h;have e1:ahead 1=0:=by decide
 have e2:ahead 10000=3652059:=by decide
 have b:=zcX (y:=y) (z:=10000) (by omega);have c:ahead 1≤ahead y:=by unfold ahead;omega
 unfold num;omega
theorem zqB{R h f:Int}(f0:0≤f)(f1:f<24):lp (R*400+h*100+f*4+3+1)=1:=by
 unfold lp;rw[if_pos];exact⟨by omega,Or.inl (by omega)⟩
theorem zpu(R:Int):lp (R*400+3*100+24*4+3+1)=1:=by
 unfold lp;rw[if_pos];exact⟨by omega,Or.inr (by omega)⟩
def yearOf(n:Int):Int:=
 let r:=n % 146097
 let h:=min (r / 36524) 3
 let r2:=r - h*36524
 let c:=r2 % 1461
 n / 146097*400+h*100+r2 / 1461*4+min (c / 365) 3+1
theorem zq1{a h b:Int}(a0:0≤a)(a1:a<146097)(eh:h=min (a / 36524) 3)(eb:b=a - h*36524):0≤h∧h≤3∧0≤b∧b≤36524∧(h<3→b<36524):=by
 have q:=Int.emod_add_mul_ediv a 36524;have r:=Int.emod_nonneg a (by decide:(36524:Int)≠0);have t:=Int.emod_lt_of_pos a (by decide:(0:Int)<36524);generalize a / 36524=u at*;generalize a % 36524=v at*;by_cases c:u≤3
 ·rw[Int.min_eq_left c] at eh;subst eh;refine⟨by omega,c,by omega,by omega,fun _=>by omega⟩
 ·rw[Int.min_eq_right (by omega)] at eh;subst eh;refine⟨by decide,by decide,by omega,by omega,fun h=>absurd h (by decide)⟩
theorem zq2{b f c:Int}(b0:0≤b)(b1:b≤36524)(ef:f=b / 1461)(ec:c=b % 1461):0≤f∧f≤24∧0≤c∧c<1461∧b=1461*f+c:=by
 have q:=Int.emod_add_mul_ediv b 1461;have r:=Int.emod_nonneg b (by decide:(1461:Int)≠0);have t:=Int.emod_lt_of_pos b (by decide:(0:Int)<1461);rw[←ef,←ec] at q;rw[←ec] at r t;clear ef ec;refine⟨by omega,by omega,r,t,by omega⟩
theorem zq3{c o:Int}(c0:0≤c)(eo:o=min (c / 365) 3):0≤o∧o≤3∧365*o≤c∧(o<3→c<365*o+365):=by
 have q:=Int.emod_add_mul_ediv c 365;have r:=Int.emod_nonneg c (by decide:(365:Int)≠0);have t:=Int.emod_lt_of_pos c (by decide:(0:Int)<365);generalize c / 365=u at*;generalize c % 365=v at*;by_cases d:u≤3
 ·rw[Int.min_eq_left d] at eo;subst eo;refine⟨by omega,d,by omega,fun _=>by omega⟩
 ·rw[Int.min_eq_right (by omega)] at eo;subst eo;refine⟨by decide,by decide,by omega,fun h=>absurd h (by decide)⟩
theorem zlQ{x d q r:Int}(e:x=r+d*q)(r0:0≤r)(r1:r<d):x / d=q:=by
 rw[e,Int.add_mul_ediv_left _ _ (by omega),Int.ediv_eq_zero_of_lt r0 r1,Int.zero_add]
theorem zng{R h f o:Int}(h0:0≤h)(h3:h≤3)(f0:0≤f)(f1:f≤24)(o0:0≤o)(o3:o≤3):ahead (R*400+h*100+f*4+o+1)=146097*R+36524*h+1461*f+365*o:=by
 unfold ahead;rw[Int.add_sub_cancel,zlQ (d:=4) (q:=100*R+25*h+f) (r:=o) (by clear h0 h3 f0 f1 o0 o3;omega) o0 (by omega),
  zlQ (d:=100) (q:=4*R+h) (r:=f*4+o) (by clear h0 h3 f0 f1 o0 o3;omega) (by clear h0 h3;omega) (by clear h0 h3;omega),
  zlQ (d:=400) (q:=R) (r:=h*100+f*4+o) (by clear h0 h3 f0 f1 o0 o3;omega) (by omega) (by omega)]
 clear h0 h3 f0 f1 o0 o3;omega
theorem zqC(R h f:Int):146097*R+36524*h+1461*f+1460<146097*R+36524*h+1461*f+365*3+365+1:=by omega
theorem yearOf_spec{n:Int}(h0:0≤n)(h1:n≤3652058):1≤yearOf n∧yearOf n≤9999∧ahead (yearOf n)≤n∧n<ahead (yearOf n)+365+lp (yearOf n):=by
 have a0:=Int.emod_nonneg n (by decide:(146097:Int)≠0);have a1:=Int.emod_lt_of_pos n (by decide:(0:Int)<146097);have en:=Int.emod_add_mul_ediv n 146097;obtain⟨H,eh⟩: ∃h,h=min (n % 146097 / 36524) 3:=⟨_,rfl⟩
 obtain⟨b,eb⟩: ∃b,b=n % 146097 - H*36524:=⟨_,rfl⟩
 obtain⟨o,eo⟩: ∃o,o=min (b % 1461 / 365) 3:=⟨_,rfl⟩
 have ey:yearOf n=n / 146097*400+H*100+b / 1461*4+o+1:=by
  rw[eo,eb,eh];rfl
 obtain⟨p1,p2,p3,p4,p5⟩:=zq1 a0 a1 eh eb;obtain⟨r1,r2,r3,r4,r5⟩:=zq2 p3 p4 rfl rfl;obtain⟨t1,t2,t3,t4⟩:=zq3 r3 eo;rw[ey,zng p1 p2 r1 r2 t1 t2];clear ey eo eh;generalize n / 146097=R at*;generalize n % 146097=a at*;generalize b / 1461=f at*;generalize b % 1461=c at*;have R0:0≤R:=by clear p1 p2 p3 p4 p5 r1 r2 r3 r4 r5 t1 t2 t3 t4 eb;omega
 have R1:R≤24:=by clear p1 p2 p3 p4 p5 r1 r2 r3 r4 r5 t1 t2 t3 t4 eb;omega
 have e2:n=146097*R+36524*H+1461*f+c:=by clear p1 p2 p3 p4 p5 r1 r2 r3 r4 t1 t2 t3 t4;omega
 clear h0 a0 a1 en eb p3 p4;have l:=(lp_01 (R*400+H*100+f*4+o+1)).1;refine⟨by clear h1 e2 t3 t4 r5 p5 l R1 p2 r2 t2 r3 r4;omega,by clear R0 p1 r1 t1 l t4 p5 r5 r3 r4;omega,by rw[e2];exact Int.add_le_add_left t3 _,?_⟩;clear h1;by_cases z:o<3
 ·have:=t4 z;clear t4 p5 p1 p2 r1 r2;omega
 ·by_cases z2:c<1460
  ·clear t4 p5 p1 p2 r1 r2;omega
  ·obtain rfl:o=3:=Int.le_antisymm t2 (Int.not_lt.mp z);have c0:c=1460:=by clear p5 e2 r5 t3 t4;omega
   by_cases z3:f<24
   ·rw[zqB r1 z3,e2,c0];exact zqC R H f
   ·obtain rfl:f=24:=Int.le_antisymm r2 (Int.not_lt.mp z3);obtain rfl:H=3:=by
     rcases Int.lt_or_le H 3 with d|d
     ·have:=p5 d;clear p5 t4;omega
     ·exact Int.le_antisymm p2 d
    rw[zpu,e2,c0];exact zqC R 3 24
theorem zeu{y r:Int}(h0:0≤r): ∀k:Nat,k<13→r<cum y ((k:Int)+1)→ ∃m,1≤m∧m≤12∧cum y m≤r∧r<cum y m+dim y m
 |0,_,h=>by
  have e:cum y (((0:Nat):Int)+1)=0:=rfl;omega
 |k+1,hk,h=>by
  by_cases c:r<cum y ((k:Int)+1)
  ·exact zeu h0 k (by omega) c
  ·have s:=cum_succ (y:=y) (m:=(k:Int)+1) (by omega) (by omega);have e:((k+1:Nat):Int)+1=(k:Int)+1+1:=by omega
   rw[e,s] at h;exact⟨(k:Int)+1,by omega,by omega,by omega,h⟩
theorem zgU{y r:Int}(h0:0≤r)(h1:r<365+lp y): ∃m,1≤m∧m≤12∧cum y m≤r∧r<cum y m+dim y m:=
 zeu h0 12 (by decide) (by
                  have e:cum y (((12:Nat):Int)+1)=365+lp y:=cum_13 y;omega)
theorem date_exists{n:Int}(h0:0≤n)(h1:n≤3652058): ∃y m d,Valid y m d∧num y m d=n:=by
 obtain⟨a,b,c,d⟩:=yearOf_spec h0 h1;obtain⟨m,m1,m2,m3,m4⟩:=zgU (y:=yearOf n) (r:=n - ahead (yearOf n)) (by omega) (by omega);exact⟨yearOf n,m,n - ahead (yearOf n) - cum (yearOf n) m+1,⟨a,b,m1,m2,by omega,by omega⟩,by unfold num;omega⟩
end Cal
namespace Cal
end Cal
namespace Cal
def MonOk(y m k:Int):Prop:=1≤(y*12+m - 1+k) / 12∧(y*12+m - 1+k) / 12≤9999
def monY(y m k:Int):Int:=(y*12+m - 1+k) / 12
def monM(y m k:Int):Int:=(y*12+m - 1+k) % 12+1
def monD(y m d k:Int):Int:=if dim (monY y m k) (monM y m k)<d then dim (monY y m k) (monM y m k) else d
theorem mon_valid{y m d k:Int}(h:Valid y m d)(g:MonOk y m k):Valid (monY y m k) (monM y m k) (monD y m d k):=by
 obtain⟨_,_,_,_,h5,h6⟩:=h;obtain⟨g1,g2⟩:=g;have b:=zff (monY y m k) (monM y m k);refine⟨g1,g2,by unfold monM;omega,by unfold monM;omega,?_,?_⟩
 ·unfold monD;split<;>omega
 ·unfold monD;split<;>omega
end Cal
namespace Cal
theorem zpv{y m d z k e:Int}(h:Valid y m d)(g:Valid z k e)(q:y*12+m<z*12+k):num y m d<num z k e:=by
 have a:=zdn h;have b:=zdn g;obtain⟨h1,h2,h3,h4,h5,h6⟩:=h;obtain⟨g1,g2,g3,g4,g5,g6⟩:=g;unfold num;by_cases c:y<z
 ·have:=zcX c;omega
 ·obtain rfl:y=z:=by omega
  have:=zdZ (y:=y) h3 (show m<k by omega) (by omega);omega
theorem znh{y m d:Int}(h:Valid y m d)(g:num y m d≤3500000):y≤9600:=by
 have a:=zdn h;unfold num at g;unfold ahead at g;omega
theorem mon_ok{y m d k:Int}(h:Valid y m d)(g:num y m d≤3500000)(k0:0≤k)(k1:k≤720):MonOk y m k:=by
 have:=znh h g;obtain⟨h1,h2,h3,h4,h5,h6⟩:=h;exact⟨by omega,by omega⟩
open Classical in
noncomputable def mon(n k:Int):Int:=
 if h: ∃p:Int×Int×Int,Valid p.1 p.2.1 p.2.2∧num p.1 p.2.1 p.2.2=n then
  num (monY (choose h).1 (choose h).2.1 k) (monM (choose h).1 (choose h).2.1 k) (monD (choose h).1 (choose h).2.1 (choose h).2.2 k) else 0
theorem mon_eq{y m d k:Int}(h:Valid y m d):mon (num y m d) k=num (monY y m k) (monM y m k) (monD y m d k):=by
 have ex: ∃p:Int×Int×Int,Valid p.1 p.2.1 p.2.2∧num p.1 p.2.1 p.2.2=num y m d:=⟨(y,m,d),h,rfl⟩
 unfold mon;rw[dif_pos ex];obtain⟨v,e⟩:=Classical.choose_spec ex;obtain⟨e1,e2,e3⟩:=num_inj v h e;rw[e1,e2,e3]
theorem zlR{n:Int}(h0:0≤n)(h1:n≤3652058):mon n 0=n:=by
 obtain⟨y,m,d,va,rfl⟩:=date_exists h0 h1;rw[mon_eq va];obtain⟨v1,v2,v3,v4,v5,v6⟩:=id va;have e1:monY y m 0=y:=by unfold monY;omega
 have e2:monM y m 0=m:=by unfold monM;omega
 have e3:monD y m d 0=d:=by unfold monD;rw[e1,e2,if_neg (by omega)]
 rw[e1,e2,e3]
theorem ziu{n k:Int}(h0:0≤n)(h1:n≤3500000)(k0:0≤k)(k1:k≤720):0≤mon n k∧mon n k≤3652058:=by
 obtain⟨y,m,d,va,rfl⟩:=date_exists h0 (by omega);rw[mon_eq va];exact num_range (mon_valid va (mon_ok va h1 k0 k1))
theorem zpw{n k j:Int}(h0:0≤n)(h1:n≤3500000)(k0:0≤k)(kj:k<j)(j1:j≤720):mon n k<mon n j:=by
 obtain⟨y,m,d,va,rfl⟩:=date_exists h0 (by omega);rw[mon_eq va,mon_eq va];refine zpv (mon_valid va (mon_ok va h1 k0 (by omega))) (mon_valid va (mon_ok va h1 (by omega) j1)) ?_;unfold monY monM;omega
noncomputable def beg(f:Int)(dy:Bool)(c k:Int):Int:=if dy=true then f+k*c else mon f (k*c)
def CycOk(dy:Bool)(c:Int):Prop:=1≤c∧c≤if dy=true then 400 else 12
theorem beg_zero{f c:Int}{dy:Bool}(h0:0≤f)(h1:f≤3500000):beg f dy c 0=f:=by
 unfold beg;rw[Int.zero_mul];split
 ·omega
 ·exact zlR h0 (by omega)
theorem mul_bound{c k:Int}(c0:1≤c)(c1:c≤12)(k0:0≤k)(k1:k≤60):0≤k*c∧k*c≤720:=by
 constructor
 ·exact Int.mul_nonneg k0 (by omega)
 ·have:=Int.mul_le_mul k1 c1 (by omega) (by omega);omega
theorem beg_lt{f c k j:Int}{dy:Bool}(h0:0≤f)(h1:f≤3500000)(hc:CycOk dy c)(k0:0≤k)(kj:k<j)(j1:j≤60):beg f dy c k<beg f dy c j:=by
 obtain⟨c0,c1⟩:=hc;have m:=Int.mul_lt_mul_of_pos_right kj (show 0<c by omega);unfold beg;cases dy with
 |true=>rw[if_pos rfl,if_pos rfl];omega
 |false=>
  rw[if_neg (by decide)] at c1;rw[if_neg (by decide),if_neg (by decide)];exact zpw h0 h1 (mul_bound c0 c1 k0 (by omega)).1 m (mul_bound c0 c1 (by omega) j1).2
theorem beg_range{f c k:Int}{dy:Bool}(h0:0≤f)(h1:f≤3500000)(hc:CycOk dy c)(k0:0≤k)(k1:k≤60):0≤beg f dy c k∧beg f dy c k≤3652058:=by
 obtain⟨c0,c1⟩:=hc;unfold beg;cases dy with
 |true=>
  rw[if_pos rfl] at c1;rw[if_pos rfl];have a:=Int.mul_nonneg k0 (show 0≤c by omega);have b:=Int.mul_le_mul k1 c1 (by omega) (by omega);omega
 |false=>
  rw[if_neg (by decide)] at c1;rw[if_neg (by decide)];obtain⟨m0,m1⟩:=mul_bound c0 c1 k0 k1;exact ziu h0 h1 m0 m1
theorem cyc_days{c:Int}(a:1≤c)(b:c≤400):CycOk true c:=⟨a,by rw[if_pos rfl];exact b⟩
theorem cyc_months{c:Int}(a:1≤c)(b:c≤12):CycOk false c:=⟨a,by rw[if_neg (by decide)];exact b⟩
theorem beg_le{f c k j:Int}{dy:Bool}(h0:0≤f)(h1:f≤3500000)(hc:CycOk dy c)(k0:0≤k)(kj:k≤j)(j1:j≤60):beg f dy c k≤beg f dy c j:=by
 by_cases e:k=j
 ·rw[e];exact Int.le_refl _
 ·exact Int.le_of_lt (beg_lt h0 h1 hc k0 (by omega) j1)
theorem beg_ge{f c k:Int}{dy:Bool}(h0:0≤f)(h1:f≤3500000)(hc:CycOk dy c)(k0:0≤k)(k1:k≤60):f≤beg f dy c k:=by
 have:=beg_le h0 h1 hc (Int.le_refl 0) k0 k1;rw[beg_zero h0 h1] at this;exact this
theorem beg_one{f c k j d:Int}{dy:Bool}(h0:0≤f)(h1:f≤3500000)(hc:CycOk dy c)(k0:0≤k)(k1:k<60)(j0:0≤j)(j1:j<60)(a:beg f dy c k≤d)(b:d<beg f dy c (k+1))(a':beg f dy c j≤d)(b':d<beg f dy c (j+1)):k=j:=by
 rcases Int.lt_trichotomy k j with q|q|q
 ·have:=beg_le (k:=k+1) (j:=j) h0 h1 hc (by omega) (by omega) (by omega);omega
 ·exact q
 ·have:=beg_le (k:=j+1) (j:=k) h0 h1 hc (by omega) (by omega) (by omega);omega
end Cal
namespace L2
open PySem
abbrev Rt:=Nat×Int×Int×D
def Bst(rs:List Rt)(day:Int)(kd:Nat):Option Rt→Prop
 |none=> ∀t∈rs,t.1=kd→day<t.2.1
 |some t=>t∈rs∧t.1=kd∧t.2.1≤day∧ ∀u∈rs,u.1=kd→u.2.1≤day→u.2.2.1≤t.2.2.1
section
variable {rs rs':List Rt} {day:Int} {kd:Nat} {o o':Option Rt} {r t:Rt}
theorem Bst.one(inj: ∀t∈rs,∀u∈rs,t.2.2.1=u.2.2.1→t=u)(m: ∀t,t∈rs'↔t∈rs)(h:Bst rs day kd o)(h':Bst rs' day kd o'):o=o':=by
 match o,o',h,h' with
 |none,none,_,_=>rfl
 |none,some t,h,h'=>have:=h t ((m t).mp h'.1) h'.2.1;have:=h'.2.2.1;omega
 |some t,none,h,h'=>have:=h' t ((m t).mpr h.1) h.2.1;have:=h.2.2.1;omega
 |some t,some u,h,h'=>
  have a:=h.2.2.2 u ((m u).mp h'.1) h'.2.1 h'.2.2.1;have b:=h'.2.2.2 t ((m t).mpr h.1) h.2.1 h.2.2.1;rw[inj t h.1 u ((m u).mp h'.1) (by omega)]
theorem Bst.skip(h:Bst rs day kd o)(n:r.1=kd→day<r.2.1):Bst (rs++ [r]) day kd o:=by
 match o,h with
 |none,h=>
  intro t ht e;rcases List.mem_append.mp ht with z|z
  ·exact h t z e
  ·rw[List.mem_singleton.mp z] at e ⊢;exact n e
 |some t,h=>
  refine⟨List.mem_append_left _ h.1,h.2.1,h.2.2.1,fun u hu e l=> ?_⟩;rcases List.mem_append.mp hu with z|z
  ·exact h.2.2.2 u z e l
  ·rw[List.mem_singleton.mp z] at e l;have:=n e;omega
theorem Bst.last(h:Bst rs day kd o)(e:r.1=kd)(l:r.2.1≤day)(b: ∀t,o=some t→t.2.2.1≤r.2.2.1):Bst (rs++ [r]) day kd (some r):=by
 refine⟨List.mem_append_right _ List.mem_cons_self,e,l,fun u hu eu lu=> ?_⟩;rcases List.mem_append.mp hu with z|z
 ·match o,h with
  |none,h=>have:=h u z eu;omega
  |some t,h=>
   have a:=h.2.2.2 u z eu lu
   have:=b t rfl;omega
 ·rw[List.mem_singleton.mp z];exact Int.le_refl _
theorem Bst.more(h:Bst rs day kd o)(s: ∀t∈rs,t∈rs')(n: ∀t∈rs',t∉rs→day<t.2.1):Bst rs' day kd o:=by
 match o,h with
 |none,h=>
  intro t ht e;by_cases z:t∈rs
  ·exact h t z e
  ·exact n t ht z
 |some t,h=>
  refine⟨s t h.1,h.2.1,h.2.2.1,fun u hu e l=> ?_⟩;by_cases z:u∈rs
  ·exact h.2.2.2 u z e l
  ·have:=n u hu z;omega
end
def stV(o:Option Rt)(d:D):D:=(o.map fun t=>t.2.2.2).getD d
def chK:Ch→Nat
 | .plan _ _=>0
 | .seats _ _=>1
 |_=>2
def zbV:Ch→Int
 | .plan d _=>d
 | .seats d _=>d
 | .word _ d=>d
 |_=>0
def zgh:Nat→List Nat
 |0=> [104,101,108,100]
 |1=> [111,110]
 |_=> [111,102,102]
def zgi:Ch→D
 | .plan _ nm=> .str nm
 | .seats _ n=> .int n
 | .word w _=> .str (zgh w)
 |_=> .non
def zlS:Ch→Bool
 | .word w _=>decide (3≤w)
 |_=>false
noncomputable def nb(f:Int)(dy:Bool)(c d:Int):Int:=open Classical in if h: ∃k:Int,0≤k∧k<60∧Cal.beg f dy c k≤d∧d<Cal.beg f dy c (k+1) then Cal.beg f dy c (h.choose+1) else 0
theorem znR{f c d k:Int}{dy:Bool}(f0:0≤f)(f1:f≤3500000)(hc:Cal.CycOk dy c)(k0:0≤k)(k1:k<60)(a:Cal.beg f dy c k≤d)(b:d<Cal.beg f dy c (k+1)):nb f dy c d=Cal.beg f dy c (k+1):=by
 unfold nb;have h: ∃k:Int,0≤k∧k<60∧Cal.beg f dy c k≤d∧d<Cal.beg f dy c (k+1):=⟨k,k0,k1,a,b⟩
 rw[dif_pos h];obtain⟨x1,x2,x3,x4⟩:=h.choose_spec;rw[Cal.beg_one f0 f1 hc x1 x2 k0 k1 x3 x4 a b]
noncomputable def cntF(f:Int)(dy:Bool)(c:Int)(ch:Ch):Int:=if zlS ch=true then nb f dy c (zbV ch) else zbV ch
noncomputable def rtF(f:Int)(dy:Bool)(c:Int)(n:Int)(ch:Ch):Rt:=(chK ch,cntF f dy c ch,(cntF f dy c ch*4000000+zbV ch)*64+n,zgi ch)
end L2
namespace L2
open PySem
section
variable {rs rs':List Rt} {day d2:Int} {kd:Nat} {o:Option Rt}
theorem Bst.mem(m: ∀t,t∈rs'↔t∈rs)(h:Bst rs day kd o):Bst rs' day kd o:=by
 match o,h with
 |none,h=>exact fun t ht=>h t ((m t).mp ht)
 |some t,h=>exact⟨(m t).mpr h.1,h.2.1,h.2.2.1,fun u hu=>h.2.2.2 u ((m u).mp hu)⟩
theorem Bst.on(h:Bst rs day kd o)(le:day≤d2)(n: ∀t∈rs,t.2.1≤day∨d2<t.2.1):Bst rs d2 kd o:=by
 match o,h with
 |none,h=>intro t ht e;have:=h t ht e;rcases n t ht with z|z<;>omega
 |some t,h=>exact⟨h.1,h.2.1,by have:=h.2.2.1;omega,fun u hu e l=>h.2.2.2 u hu e (by rcases n u hu with z|z<;>omega)⟩
end
abbrev Rw:=Int×Int×List D
def Rws(G:Int→List D):Int→List Rw→Int→Prop
 |b, [],e=>b=e
 |b,x::r,e=>x.1=b∧b<x.2.1∧(∀d,b≤d→d<x.2.1→G d=x.2.2)∧(∀y,r.head? =some y→x.2.2≠y.2.2)∧Rws G x.2.1 r e
theorem Rws.le{G:Int→List D}: ∀{xs:List Rw} {b e:Int},Rws G b xs e→b≤e
 | [],_,_,h=>Int.le_of_eq h
 |x::r,b,e,h=>by have:=Rws.le h.2.2.2.2;have:=h.2.1;omega
theorem Rws.snoc{G:Int→List D}{z:Rw}: ∀{xs:List Rw} {b o:Int},Rws G b xs o→z.1=o→o<z.2.1→(∀d,o≤d→d<z.2.1→G d=z.2.2)→(∀x,xs.getLast? =some x→x.2.2≠z.2.2)→Rws G b (xs++ [z]) z.2.1
 | [],b,o,h,h1,h2,h3,_=>by
  obtain rfl:b=o:=h;exact⟨h1,h2,h3,(fun _ h=>nomatch h),rfl⟩
 |x::r,b,o,h,h1,h2,h3,h4=>by
  refine⟨h.1,h.2.1,h.2.2.1,fun y hy=> ?_,Rws.snoc h.2.2.2.2 h1 h2 h3 fun y hy=>h4 y ?_⟩
  ·cases r with
   |nil=>cases hy;exact h4 x rfl
   |cons y' r'=>exact h.2.2.2.1 y hy
  ·cases r with
   |nil=>cases hy
   |cons a b=>rw[List.getLast?_cons_cons];exact hy
theorem Rws.in{G:Int→List D}: ∀{zs:List (Addr×Rw)} {b e:Int} {j:Nat} {z:Addr×Rw},zs[j]? =some z→Rws G b (zs.map (·.2)) e→b≤z.2.1∧z.2.1<z.2.2.1∧z.2.2.1≤e
 | [],_,_,_,_,h,_=>by rw[List.getElem?_nil] at h;cases h
 |x::r,b,e,0,_,h,g=>by
  cases h;obtain⟨h1,h2,_,_,h5⟩:=g;have h1':x.2.1=b:=h1;have h2':b<x.2.2.1:=h2;exact⟨by omega,by omega,Rws.le h5⟩
 |x::r,b,e,j+1,z,h,g=>by
  obtain⟨h1,h2,_,_,h5⟩:=g;have h2':b<x.2.2.1:=h2;obtain⟨i1,i2,i3⟩:=Rws.in (zs:=r) (j:=j) h h5;have i1':x.2.2.1≤z.2.1:=i1;exact⟨by omega,i2,i3⟩
def ScD(d:D):Prop:=d= .non∨(∃i,d= .int i)∨ ∃cs,d= .str cs
theorem zqD{K:Fg}{H:Hp}{n:Nat}{d:D}(h:ScD d):Dp K H n d (sv d):=by
 rcases h with rfl|⟨i,rfl⟩|⟨cs,rfl⟩
 ·exact zox
 ·exact zb6
 ·exact zcf
def StD(d:List D):Prop:= ∃d0 n wd,ScD d0∧d= [d0, .int n, .str wd]
theorem StD.dp{K:Fg}{H:Hp}{n:Nat}{a:Addr}{d:List D}(h:StD d)(e:H a=some (.tup (d.map sv))):Dp K H (n+1) (.tup d) (.ref a):=by
 obtain⟨d0,n,wd,h0,rfl⟩:=h;exact zed (SqT.of e) ⟨zqD h0,zb6,zcf,trivial⟩
theorem sc_seq{d:D}(h:ScD d):zdR d=false:=by rcases h with rfl|⟨i,rfl⟩|⟨cs,rfl⟩<;>rfl
theorem zpx{d e:D}(h:ScD d)(g:ScD e):zbo 0 d e:=by
 unfold zbo;exact⟨sc_seq h,sc_seq g⟩
theorem StD.sc{d:List D}(h:StD d): ∀x∈d,ScD x:=by
 obtain⟨d0,n,wd,h0,rfl⟩:=h;intro x hx;simp only[List.mem_cons,List.not_mem_nil,or_false] at hx;rcases hx with rfl|rfl|rfl
 ·exact h0
 ·exact .inr (.inl ⟨_,rfl⟩)
 ·exact .inr (.inr ⟨_,rfl⟩)
theorem StD.cmp{d e:List D}(h:StD d)(g:StD e):zbo 1 (.tup d) (.tup e):=by
 unfold zbo;intro j x y hx hy;exact zpx (h.sc x (List.mem_of_getElem? hx)) (g.sc y (List.mem_of_getElem? hy))
theorem zgV{d e:D}(h:ScD d)(g:ScD e):eqb 0 d e=true↔d=e:=by
 rcases h with rfl|⟨i,rfl⟩|⟨cs,rfl⟩<;>rcases g with rfl|⟨j,rfl⟩|⟨cs',rfl⟩<;>unfold eqb<;>simp
theorem StD.eqb{d e:List D}(h:StD d)(g:StD e):eqb 1 (.tup d) (.tup e)=true↔d=e:=by
 obtain⟨d0,n,wd,h0,rfl⟩:=h;obtain⟨e0,m,we,g0,rfl⟩:=g;show (L2.eqb 0 d0 e0 && (L2.eqb 0 (.int n) (.int m) && (L2.eqb 0 (.str wd) (.str we) && true)))=true↔_;rw[Bool.and_eq_true,Bool.and_eq_true,Bool.and_eq_true,zgV h0 g0,zgV (.inr (.inl ⟨_,rfl⟩)) (.inr (.inl ⟨_,rfl⟩)),zgV (.inr (.inr ⟨_,rfl⟩)) (.inr (.inr ⟨_,rfl⟩))];simp
def ziv(H:Hp)(z:Addr×Rw):Prop:= ∃s,H z.1=some (.tup [.int z.2.1, .int z.2.2.1, .ref s])∧H s=some (.tup (z.2.2.2.map sv))∧StD z.2.2.2
def zgj(H:Hp)(r:Addr)(zs:List (Addr×Rw)):Prop:=H r=some (.lst (zs.map fun z=>V.ref z.1))∧ ∀z∈zs,ziv H z
theorem ziv.same{H H':Hp}{z:Addr×Rw}(h:ziv H z)(s:zam H H'):ziv H' z:=let ⟨a,h1,h2,h3⟩:=h;⟨a,s _ _ h1,s _ _ h2,h3⟩
theorem ziv.put{H:Hp}{z:Addr×Rw}{l:Addr}{xs ys:List V}(h:ziv H z)(e:H l=some (.lst xs)):ziv (upd H l (.lst ys)) z:=by
 obtain⟨a,h1,h2,h3⟩:=h;refine⟨a,?_,?_,h3⟩
 ·rw[zal (fun y=>by rw[y,e] at h1;cases h1)];exact h1
 ·rw[zal (fun y=>by rw[y,e] at h2;cases h2)];exact h2
theorem zgj.same{H H':Hp}{r:Addr}{zs:List (Addr×Rw)}(h:zgj H r zs)(s:zam H H'):zgj H' r zs:=⟨s _ _ h.1,fun z hz=>(h.2 z hz).same s⟩
theorem zam.none{H H':Hp}{a:Addr}(s:zam H H')(h:H' a=none):H a=none:=by
 rcases hh:H a with _|o
 ·rfl
 ·rw[s _ _ hh] at h;cases h
end L2
namespace L2
abbrev Tab:=List (Int×Int×Int)
def zaw:Tab→Int→Int×Int
 | [],_=>(0,0)
 |z::r,k=>if z.1=k then z.2 else zaw r k
def zbJ(T:Tab)(k:Int)(v:Int×Int):Tab:=if (T.any fun z=>decide (z.1=k))=true then T.map (fun z=>if z.1=k then (z.1,v) else z) else T++ [(k,v)]
abbrev Pt:=Int×Int×Tab
abbrev Ln:=Int×List Nat×Int×Int×Int×Int×Int
def za9:List Nat:= [103,114,97,110,116]
def zaY:List Nat:= [114,105,103,104,116]
def za1:List Nat:= [98,105,108,108]
def zbr:List Nat:= [98,97,99,107]
def tkX(s:Pt)(a:Int):Int:=if s.1<a then s.1 else a
def tkY(s:Pt)(a:Int):Int:=if s.2.1<a - tkX s a then s.2.1 else a - tkX s a
def gvY(s:Pt)(k a:Int):Int:=if (zaw s.2.2 k).2<a then (zaw s.2.2 k).2 else a
def zbl(s:Pt)(k a:Int):Pt:=(s.1 - tkX s a,s.2.1 - tkY s a,zbJ s.2.2 k ((zaw s.2.2 k).1+tkX s a,(zaw s.2.2 k).2+a - tkX s a))
def zcw(s:Pt)(k a:Int):Pt:=(s.1+(a - gvY s k a),s.2.1+gvY s k a,zbJ s.2.2 k ((zaw s.2.2 k).1 - (a - gvY s k a),(zaw s.2.2 k).2 - gvY s k a))
def zcG(s:Pt)(day k a:Int):Ln:=(day,zaY,k, -a, -(a - gvY s k a), -(gvY s k a),0)
def zbk(s:Pt)(day:Int)(w:List Nat)(k a:Int):Ln:=(day,w,k,a,tkX s a,tkY s a,a - tkX s a - tkY s a)
def zaA(day:Int):List (Int×Int)→Pt→List Ln×Pt
 | [],s=>([],s)
 |z::r,s=>if z.2<0 then (zcG s day z.1 (-z.2)::(zaA day r (zcw s z.1 (-z.2))).1,(zaA day r (zcw s z.1 (-z.2))).2) else zaA day r s
def zaH(day:Int):List (Int×Int)→Pt→List Ln×Pt
 | [],s=>([],s)
 |z::r,s=>if 0<z.2 then (zbk s day zaY z.1 z.2::(zaH day r (zbl s z.1 z.2)).1,(zaH day r (zbl s z.1 z.2)).2) else zaH day r s
def zbf(s:Pt)(cs:List Int):List (Int×Int):=cs.zipIdx.map fun z=>((z.2:Int),z.1 - ((zaw s.2.2 z.2).1+(zaw s.2.2 z.2).2))
def zaZ(day:Int)(cs:List Int)(s:Pt):List Ln×Pt:=((zaA day (zbf s cs) s).1++(zaH day (zbf s cs) (zaA day (zbf s cs) s).2).1,(zaH day (zbf s cs) (zaA day (zbf s cs) s).2).2)
def zaP(day:Int):Nat→List En→List Ln
 |_, []=> []
 |n,z::r=>(match z.2.2.2 with| .grant a=>if z.2.2.1=day then [(day,za9,(n:Int),a,0,0,0)] else []|_=> [])++zaP day (n+1) r
def zau(day:Int):List En→Int
 | []=>0
 |z::r=>(match z.2.2.2 with| .grant a=>if z.2.2.1=day then a else 0|_=>0)+zau day r
def zjg(day:Int)(ys:List En):Bool:=ys.any fun z=>decide (z.2.2.1=day) && (match z.2.2.2 with| .back=>true|_=>false)
def za5(day:Int)(ys:List En)(s:Pt):List Ln×Pt:=if zjg day ys=true then (if s.2.1=0 then [] else [(day,zbr, -1,s.2.1,0,0,0)],(s.1,0,s.2.2)) else ([],s)
def za2(cst:Int→Int→Int)(ys:List En)(day:Int)(k:Nat)(isb:Bool)(s:Pt):List Ln×Pt:=
 let s1:Pt:=(s.1+zau day ys,s.2)
 let r:=if (ys.any fun z=>decide (z.2.2.1=day))=true then zaZ day ((List.range (if isb=true then k else k+1)).map fun i:Nat=>cst day i) s1 else ([],s1)
 let b:=if isb=true then ([zbk r.2 day za1 k (cst day k)],zbl r.2 k (cst day k)) else ([],r.2)
 let e:=za5 day ys b.2
 (zaP day 0 ys++r.1++b.1++e.1,e.2)
structure SpAt (f:Int) (dy:Bool) (c day:Int) (k:Nat) (isb:Bool):Prop where
 k60:k<60
 lo:Cal.beg f dy c k≤day
 hi:day<Cal.beg f dy c ((k:Int)+1)
 ib:isb=decide (Cal.beg f dy c k=day)
def zaS(cst:Int→Int→Int)(ys:List En):List (Int×Nat×Bool)→Pt→List Ln×Pt
 | [],s=>([],s)
 |z::r,s=>((za2 cst ys z.1 z.2.1 z.2.2 s).1++(zaS cst ys r (za2 cst ys z.1 z.2.1 z.2.2 s).2).1,(zaS cst ys r (za2 cst ys z.1 z.2.1 z.2.2 s).2).2)
structure WDays (f:Int) (dy:Bool) (c:Int) (ys:List En) (day:Int) (ds:List (Int×Nat×Bool)):Prop where
 up:(ds.map (·.1)).Pairwise (· < ·)
 sp: ∀z∈ds,SpAt f dy c z.1 z.2.1 z.2.2
 mem: ∀x,x∈ds.map (·.1)↔x≤day∧((∃j:Nat,j<60∧x=Cal.beg f dy c j)∨ ∃z∈ys,z.2.2.1=x)
end L2
namespace L2
theorem zfg(day:Int): ∀(a b:List En) (n:Nat),zaP day n (a++b)=zaP day n a++zaP day (n+a.length) b
 | [],b,n=>rfl
 |z::r,b,n=>by
  rw[List.cons_append,zaP,zaP,zfg day r b (n+1),List.length_cons,List.append_assoc,Nat.add_right_comm,Nat.add_assoc]
theorem zfh(day:Int): ∀(a b:List En),zau day (a++b)=zau day a+zau day b
 | [],b=>by rw[List.nil_append,zau,Int.zero_add]
 |z::r,b=>by rw[List.cons_append,zau,zau,zfh day r b,Int.add_assoc]
theorem ziw{day:Int}{ys:List En}{i:Nat}{z:En}(h:ys[i]? =some z):zaP day 0 (ys.take (i+1))=zaP day 0 (ys.take i)++(match z.2.2.2 with| .grant a=>if z.2.2.1=day then [(day,za9,(i:Int),a,0,0,0)] else []|_=> [])∧zau day (ys.take (i+1))=zau day (ys.take i)+(match z.2.2.2 with| .grant a=>if z.2.2.1=day then a else 0|_=>0):=by
 have hi:=(List.getElem?_eq_some_iff.mp h).1;have e:ys.take (i+1)=ys.take i++ [z]:=by rw[List.take_add_one,h];rfl
 have l:0+(ys.take i).length=i:=by rw[List.length_take];omega
 rw[e,zfg,zfh,l];refine⟨?_,?_⟩
 ·rw[zaP,zaP,List.append_nil]
 ·rw[zau,zau,Int.add_zero]
theorem zlT{s:Pt}{cs:List Int}{i:Nat}{c:Int}(h:cs[i]? =some c):(zbf s cs)[i]? =some ((i:Int),c - ((zaw s.2.2 i).1+(zaw s.2.2 i).2)):=by
 unfold zbf;rw[List.getElem?_map,List.getElem?_zipIdx,h];simp
theorem zdo(s:Pt)(cs:List Int):(zbf s cs).length=cs.length:=by
 unfold zbf;rw[List.length_map,List.length_zipIdx]
theorem zeg(day:Int): ∀(a b:List (Int×Int)) (s:Pt),zaA day (a++b) s=((zaA day a s).1++(zaA day b (zaA day a s).2).1,(zaA day b (zaA day a s).2).2)
 | [],b,s=>rfl
 |z::r,b,s=>by
  rw[List.cons_append,zaA,zaA];split
  ·rw[zeg day r b];rfl
  ·exact zeg day r b s
theorem zeh(day:Int): ∀(a b:List (Int×Int)) (s:Pt),zaH day (a++b) s=((zaH day a s).1++(zaH day b (zaH day a s).2).1,(zaH day b (zaH day a s).2).2)
 | [],b,s=>rfl
 |z::r,b,s=>by
  rw[List.cons_append,zaH,zaH];split
  ·rw[zeh day r b];rfl
  ·exact zeh day r b s
theorem zfi(T:Tab)(k:Int)(v:Int×Int):(zbJ T k v).length≤T.length+1:=by
 unfold zbJ;split
 ·rw[List.length_map];exact Nat.le_succ _
 ·rw[List.length_append];exact Nat.le_refl _
theorem zce(day:Int): ∀(a:List (Int×Int)) (s:Pt),(zaA day a s).2.2.2.length≤s.2.2.length+a.length∧(zaA day a s).1.length≤a.length
 | [],s=>⟨Nat.le_refl _,Nat.le_refl _⟩
 |z::r,s=>by
  rw[zaA,List.length_cons];split
  ·have h:=zce day r (zcw s z.1 (-z.2))
   have:=zfi s.2.2 z.1 ((zaw s.2.2 z.1).1 - ((-z.2) - gvY s z.1 (-z.2)),(zaw s.2.2 z.1).2 - gvY s z.1 (-z.2));have e:(zcw s z.1 (-z.2)).2.2=zbJ s.2.2 z.1 ((zaw s.2.2 z.1).1 - ((-z.2) - gvY s z.1 (-z.2)),(zaw s.2.2 z.1).2 - gvY s z.1 (-z.2)):=rfl;rw[e] at h;simp only[List.length_cons];omega
  ·have h:=zce day r s;omega
theorem zcH(day:Int): ∀(a:List (Int×Int)) (s:Pt),(zaH day a s).2.2.2.length≤s.2.2.length+a.length∧(zaH day a s).1.length≤a.length
 | [],s=>⟨Nat.le_refl _,Nat.le_refl _⟩
 |z::r,s=>by
  rw[zaH,List.length_cons];split
  ·have h:=zcH day r (zbl s z.1 z.2)
   have:=zfi s.2.2 z.1 ((zaw s.2.2 z.1).1+tkX s z.2,(zaw s.2.2 z.1).2+z.2 - tkX s z.2);have e:(zbl s z.1 z.2).2.2=zbJ s.2.2 z.1 ((zaw s.2.2 z.1).1+tkX s z.2,(zaw s.2.2 z.1).2+z.2 - tkX s z.2):=rfl;rw[e] at h;simp only[List.length_cons];omega
  ·have h:=zcH day r s;omega
theorem zcl(day:Int): ∀(a:List En) (n:Nat),(zaP day n a).length≤a.length
 | [],n=>Nat.le_refl _
 |(v,ad,e,ch)::r,n=>by
  have h:=zcl day r (n+1);rw[zaP,List.length_append,List.length_cons];cases ch with
  |grant a=>
   by_cases q:e=day
   ·simp only[q,if_true,List.length_cons,List.length_nil];omega
   ·simp only[q,if_false,List.length_nil];omega
  |_=>simp only[List.length_nil];omega
theorem zjh{s:Pt}{cs:List Int}{i:Nat}{z:Int×Int}(h:(zbf s cs)[i]? =some z):z.1=i:=by
 have hi:=(List.getElem?_eq_some_iff.mp h).1;rw[zdo] at hi;rw[zlT (List.getElem?_eq_getElem hi)] at h;cases h;rfl
theorem zjZ{day:Int}{D:List (Int×Int)}{s:Pt}{i:Nat}{z:Int×Int}(h:D[i]? =some z):zaA day (D.take (i+1)) s=if z.2<0 then ((zaA day (D.take i) s).1++ [zcG (zaA day (D.take i) s).2 day z.1 (-z.2)],zcw (zaA day (D.take i) s).2 z.1 (-z.2)) else zaA day (D.take i) s:=by
 rw[show D.take (i+1)=D.take i++ [z] by rw[List.take_add_one,h];rfl,zeg,zaA];split
 ·rw[zaA]
 ·rw[zaA,List.append_nil]
theorem zj0{day:Int}{D:List (Int×Int)}{s:Pt}{i:Nat}{z:Int×Int}(h:D[i]? =some z):zaH day (D.take (i+1)) s=if 0<z.2 then ((zaH day (D.take i) s).1++ [zbk (zaH day (D.take i) s).2 day zaY z.1 z.2],zbl (zaH day (D.take i) s).2 z.1 z.2) else zaH day (D.take i) s:=by
 rw[show D.take (i+1)=D.take i++ [z] by rw[List.take_add_one,h];rfl,zeh,zaH];split
 ·rw[zaH]
 ·rw[zaH,List.append_nil]
theorem zdH(day:Int)(cs:List Int)(s:Pt):(zaZ day cs s).1.length≤2*cs.length:=by
 unfold zaZ;have h1:=(zce day (zbf s cs) s).2;have h2:=(zcH day (zbf s cs) (zaA day (zbf s cs) s).2).2;rw[zdo] at h1 h2;rw[List.length_append];omega
theorem zix(day:Int)(cs:List Int)(s:Pt):(zaZ day cs s).2.2.2.length≤s.2.2.length+2*cs.length:=by
 unfold zaZ;have h1:=(zce day (zbf s cs) s).1;have h2:=(zcH day (zbf s cs) (zaA day (zbf s cs) s).2).1;rw[zdo] at h1 h2;show (zaH day (zbf s cs) (zaA day (zbf s cs) s).2).2.2.2.length≤_;omega
theorem zgk(day:Int)(ys:List En)(s:Pt):(za5 day ys s).1.length≤1:=by
 unfold za5;split
 ·split<;>simp
 ·exact Nat.zero_le _
def zbD(T:Tab):Prop:=(T.map (·.1)).Nodup∧ ∀x∈T.map (·.1),0≤x∧x<60
theorem zgl: ∀(n:Nat) (l:List Int),l.Nodup→(∀x∈l,0≤x∧x<(n:Int))→l.length≤n
 |0,l,_,h=>by
  cases l with
  |nil=>exact Nat.le_refl _
  |cons x r=>have:=h x List.mem_cons_self;omega
 |n+1,l,d,h=>by
  have h1:=zgl n (l.erase (n:Int)) (d.erase _) fun x hx=>by
   have:=d.mem_erase_iff.mp hx;have h2:=h x this.2;have h3:=this.1;omega
  by_cases c:(n:Int)∈l
  ·rw[List.length_erase_of_mem c] at h1;omega
  ·rw[List.erase_of_not_mem c] at h1;omega
theorem zbD.len{T:Tab}(h:zbD T):T.length≤60:=by
 have:=zgl 60 _ h.1 h.2;rw[List.length_map] at this;exact this
theorem zbD.put{T:Tab}(h:zbD T){k:Int}(v:Int×Int)(k0:0≤k)(k1:k<60):zbD (zbJ T k v):=by
 unfold zbJ;split
 ·have e:(T.map (fun z=>if z.1=k then (z.1,v) else z)).map (·.1)=T.map (·.1):=by
   rw[List.map_map];refine List.map_congr_left fun z _=> ?_;show (if z.1=k then (z.1,v) else z).1=z.1;split<;>rfl
  unfold zbD;rw[e];exact h
 ·rename_i hn;have nk:k∉T.map (·.1):=fun hk=>by
   obtain⟨z,hz,e⟩:=List.mem_map.mp hk;exact hn (List.any_eq_true.mpr ⟨z,hz,decide_eq_true e⟩)
  unfold zbD;rw[List.map_append];refine⟨List.nodup_append.mpr ⟨h.1,List.nodup_cons.mpr ⟨nofun,List.Pairwise.nil⟩,fun x hx y hy=> ?_⟩,fun x hx=> ?_⟩
  ·obtain rfl:=List.mem_singleton.mp hy;rintro rfl;exact nk hx
  ·rcases List.mem_append.mp hx with hx|hx
   ·exact h.2 x hx
   ·obtain rfl:=List.mem_singleton.mp hx;exact⟨k0,k1⟩
theorem zfj(day:Int): ∀(ps:List (Int×Int)) (s:Pt),(∀z∈ps,0≤z.1∧z.1<60)→zbD s.2.2→zbD (zaA day ps s).2.2.2
 | [],_,_,h=>h
 |z::r,s,hp,h=>by
  unfold zaA;have hr: ∀z∈r,0≤z.1∧z.1<60:=fun x hx=>hp x (List.mem_cons_of_mem _ hx);have hz:=hp z List.mem_cons_self;split
  ·exact zfj day r _ hr (h.put _ hz.1 hz.2)
  ·exact zfj day r _ hr h
theorem zfk(day:Int): ∀(ps:List (Int×Int)) (s:Pt),(∀z∈ps,0≤z.1∧z.1<60)→zbD s.2.2→zbD (zaH day ps s).2.2.2
 | [],_,_,h=>h
 |z::r,s,hp,h=>by
  unfold zaH;have hr: ∀z∈r,0≤z.1∧z.1<60:=fun x hx=>hp x (List.mem_cons_of_mem _ hx);have hz:=hp z List.mem_cons_self;split
  ·exact zfk day r _ hr (h.put _ hz.1 hz.2)
  ·exact zfk day r _ hr h
theorem zj1(day:Int){cs:List Int}{s:Pt}(hc:cs.length≤60)(h:zbD s.2.2):zbD (zaZ day cs s).2.2.2:=by
 have hd: ∀z∈zbf s cs,0≤z.1∧z.1<60:=fun z hz=>by
  obtain⟨w,hw,rfl⟩:=List.mem_map.mp hz
  have:=List.mem_zipIdx hw;exact⟨Int.natCast_nonneg _,by show ((w.2:Nat):Int)<60;omega⟩
 exact zfk day _ _ hd (zfj day _ _ hd h)
theorem zlU(day:Int)(ys:List En){s:Pt}(h:zbD s.2.2):zbD (za5 day ys s).2.2.2:=by
 unfold za5;split<;>exact h
theorem zni(day:Int){k:Nat}(isb:Bool)(a:Int){r:List Ln×Pt}(hk:k<60)(h:zbD r.2.2.2):zbD (if isb=true then ([zbk r.2 day za1 k a],zbl r.2 k a) else ([],r.2)).2.2.2:=by
 split
 ·exact h.put _ (Int.natCast_nonneg k) (by omega)
 ·exact h
theorem zlV(cst:Int→Int→Int)(ys:List En)(day:Int){k:Nat}(isb:Bool){s:Pt}(hk:k<60)(h:zbD s.2.2):zbD (za2 cst ys day k isb s).2.2.2:=by
 unfold za2;refine zlU day ys ?_;have hr:zbD (if (ys.any fun z=>decide (z.2.2.1=day))=true then zaZ day ((List.range (if isb=true then k else k+1)).map fun i:Nat=>cst day i) (s.1+zau day ys,s.2) else ([],(s.1+zau day ys,s.2))).2.2.2:=by
  split
  ·exact zj1 day (by rw[List.length_map,List.length_range];split<;>omega) h
  ·exact h
 exact zni day isb (cst day k) hk hr
theorem zgm(cst:Int→Int→Int){ys:List En}(day:Int){k:Nat}(isb:Bool)(s:Pt)(hk:k<60)(h40:ys.length≤40):(za2 cst ys day k isb s).1.length≤200:=by
 unfold za2;dsimp only;rw[List.length_append,List.length_append,List.length_append];have h1:=zgk day ys (if isb=true then ([zbk (if (ys.any fun z=>decide (z.2.2.1=day))=true then zaZ day ((List.range (if isb=true then k else k+1)).map fun i:Nat=>cst day i) (s.1+zau day ys,s.2) else ([],(s.1+zau day ys,s.2))).2 day za1 k (cst day k)],zbl (if (ys.any fun z=>decide (z.2.2.1=day))=true then zaZ day ((List.range (if isb=true then k else k+1)).map fun i:Nat=>cst day i) (s.1+zau day ys,s.2) else ([],(s.1+zau day ys,s.2))).2 k (cst day k)) else ([],(if (ys.any fun z=>decide (z.2.2.1=day))=true then zaZ day ((List.range (if isb=true then k else k+1)).map fun i:Nat=>cst day i) (s.1+zau day ys,s.2) else ([],(s.1+zau day ys,s.2))).2)).2;have h2:(if (ys.any fun z=>decide (z.2.2.1=day))=true then zaZ day ((List.range (if isb=true then k else k+1)).map fun i:Nat=>cst day i) (s.1+zau day ys,s.2) else ([],(s.1+zau day ys,s.2))).1.length≤120:=by
  split
  ·refine Nat.le_trans (zdH _ _ _) ?_;rw[List.length_map,List.length_range];split<;>omega
  ·exact Nat.zero_le _
 have h3:=Nat.le_trans (zcl day ys 0) h40;generalize (if (ys.any fun z=>decide (z.2.2.1=day))=true then zaZ day ((List.range (if isb=true then k else k+1)).map fun i:Nat=>cst day i) (s.1+zau day ys,s.2) else ([],(s.1+zau day ys,s.2)))=r at h1 h2 ⊢;have h4:(if isb=true then ([zbk r.2 day za1 k (cst day k)],zbl r.2 k (cst day k)) else ([],r.2)).1.length≤1:=by
  split<;>simp
 omega
theorem zei(cst:Int→Int→Int)(ys:List En): ∀(a b:List (Int×Nat×Bool)) (s:Pt),zaS cst ys (a++b) s=((zaS cst ys a s).1++(zaS cst ys b (zaS cst ys a s).2).1,(zaS cst ys b (zaS cst ys a s).2).2)
 | [],_,_=>rfl
 |z::a,b,s=>by
  rw[List.cons_append,zaS,zei cst ys a b,←List.append_assoc];rfl
theorem zhD(cst:Int→Int→Int)(ys:List En): ∀(a:List (Int×Nat×Bool)) (s:Pt),(∀z∈a,z.2.1<60)→zbD s.2.2→zbD (zaS cst ys a s).2.2.2
 | [],_,_,h=>h
 |z::a,s,hk,h=>zhD cst ys a _ (fun x hx=>hk x (List.mem_cons_of_mem _ hx)) (zlV cst ys z.1 z.2.2 (hk z List.mem_cons_self) h)
theorem zej(cst:Int→Int→Int){ys:List En}(h40:ys.length≤40): ∀(a:List (Int×Nat×Bool)) (s:Pt),(∀z∈a,z.2.1<60)→(zaS cst ys a s).1.length≤200*a.length
 | [],_,_=>Nat.zero_le _
 |z::a,s,hk=>by
  have h1:=zej cst h40 a (za2 cst ys z.1 z.2.1 z.2.2 s).2 (fun x hx=>hk x (List.mem_cons_of_mem _ hx));have h2:=zgm cst z.1 z.2.2 s (hk z List.mem_cons_self) h40;show ((za2 cst ys z.1 z.2.1 z.2.2 s).1++(zaS cst ys a (za2 cst ys z.1 z.2.1 z.2.2 s).2).1).length≤200*(a.length+1);rw[List.length_append];omega
theorem zj2(cst:Int→Int→Int)(ys:List En){ds:List (Int×Nat×Bool)}{i:Nat}{z:Int×Nat×Bool}(s:Pt)(h:ds[i]? =some z):zaS cst ys (ds.take (i+1)) s=((zaS cst ys (ds.take i) s).1++(za2 cst ys z.1 z.2.1 z.2.2 (zaS cst ys (ds.take i) s).2).1,(za2 cst ys z.1 z.2.1 z.2.2 (zaS cst ys (ds.take i) s).2).2):=by
 rw[List.take_add_one,h,zei];show ((zaS cst ys (ds.take i) s).1++((za2 cst ys z.1 z.2.1 z.2.2 (zaS cst ys (ds.take i) s).2).1++ []),_)=_;rw[List.append_nil];rfl
end L2
namespace L2
def zc1(ks:List (List Nat))(ls:List Ln):Int:=((ls.filter fun z=>decide (z.2.1∈ks)).map fun z=>z.2.2.2.1).sum
def zev(ls:List Ln):Int:=(ls.map fun z=>z.2.2.2.2.2.2).sum
end L2
namespace L2
theorem zhE(k j:Int)(v:Int×Int): ∀T:Tab,(T.any fun z=>decide (z.1=k))=false→zaw (T++ [(k,v)]) j=if j=k then v else zaw T j
 | [],_=>by
  rw[List.nil_append];unfold zaw;by_cases h:j=k
  ·rw[if_pos h,if_pos h.symm]
  ·rw[if_neg h,if_neg (fun z=>h z.symm)];rfl
 |z::r,h=>by
  rw[List.any_cons,Bool.or_eq_false_iff] at h;rw[List.cons_append,zaw,zaw];by_cases e:z.1=j
  ·rw[if_pos e,if_pos e,if_neg (fun q=>of_decide_eq_false h.1 (e.trans q))]
  ·rw[if_neg e,if_neg e];exact zhE k j v r h.2
theorem zfl(k j:Int)(v:Int×Int): ∀T:Tab,(j=k→(T.any fun z=>decide (z.1=k))=true)→zaw (T.map (fun z=>if z.1=k then (z.1,v) else z)) j=if j=k then v else zaw T j
 | [],h=>by
  by_cases e:j=k
  ·exact absurd (h e) (by rw[List.any_nil];exact Bool.false_ne_true)
  ·rw[if_neg e];rfl
 |z::r,h=>by
  rw[List.map_cons,zaw,zaw];by_cases e:z.1=k
  ·rw[if_pos e];by_cases g:j=k
   ·rw[if_pos (show z.1=j from e.trans g.symm),if_pos g]
   ·rw[if_neg (show¬z.1=j from fun q=>g (q.symm.trans e)),if_neg (show¬z.1=j from fun q=>g (q.symm.trans e)),zfl k j v r (fun q=>absurd q g),if_neg g]
  ·rw[if_neg e];by_cases q:z.1=j
   ·rw[if_pos q,if_pos q,if_neg (fun x=>e (q.trans x))]
   ·rw[if_neg q,if_neg q];refine zfl k j v r fun x=> ?_
    have:=h x;rw[List.any_cons,Bool.or_eq_true] at this;exact this.resolve_left (fun y=>e (of_decide_eq_true y))
theorem zd0(T:Tab)(k:Int)(v:Int×Int)(j:Int):zaw (zbJ T k v) j=if j=k then v else zaw T j:=by
 unfold zbJ;by_cases h:(T.any fun z=>decide (z.1=k))=true
 ·rw[if_pos h];exact zfl k j v T fun _=>h
 ·rw[if_neg h];exact zhE k j v T (Bool.eq_false_iff.mpr h)
def tkS(s:Pt)(i:Int):Int:=(zaw s.2.2 i).1+(zaw s.2.2 i).2
theorem zji(s:Pt)(k a j:Int):tkS (zbl s k a) j=tkS s j+if j=k then a else 0:=by
 show (zaw (zbJ s.2.2 k _) j).1+(zaw (zbJ s.2.2 k _) j).2=_;rw[zd0];unfold tkS;by_cases h:j=k
 ·subst h;rw[if_pos rfl,if_pos rfl];show (zaw s.2.2 j).1+tkX s a+((zaw s.2.2 j).2+a - tkX s a)=_;omega
 ·rw[if_neg h,if_neg h];omega
theorem zjj(s:Pt)(k a j:Int):tkS (zcw s k a) j=tkS s j - if j=k then a else 0:=by
 show (zaw (zbJ s.2.2 k _) j).1+(zaw (zbJ s.2.2 k _) j).2=_;rw[zd0];unfold tkS;by_cases h:j=k
 ·subst h;rw[if_pos rfl,if_pos rfl];show (zaw s.2.2 j).1 - (a - gvY s j a)+((zaw s.2.2 j).2 - gvY s j a)=_;omega
 ·rw[if_neg h,if_neg h];omega
def zlW(i:Int):List (Int×Int)→Int
 | []=>0
 |z::r=>(if i=z.1∧z.2<0 then z.2 else 0)+zlW i r
def zlX(i:Int):List (Int×Int)→Int
 | []=>0
 |z::r=>(if i=z.1∧0<z.2 then z.2 else 0)+zlX i r
def zlY(i:Int):List (Int×Int)→Int
 | []=>0
 |z::r=>(if i=z.1 then z.2 else 0)+zlY i r
theorem zjk(i:Int): ∀ps,zlW i ps+zlX i ps=zlY i ps
 | []=>rfl
 |z::r=>by
  have h:=zjk i r;show (if i=z.1∧z.2<0 then z.2 else 0)+zlW i r+((if i=z.1∧0<z.2 then z.2 else 0)+zlX i r)=(if i=z.1 then z.2 else 0)+zlY i r;by_cases e:i=z.1
  ·by_cases n:z.2<0
   ·rw[if_pos ⟨e,n⟩,if_neg (fun q=>by have:=q.2;omega),if_pos e];omega
   ·by_cases p:0<z.2
    ·rw[if_neg (fun q=>n q.2),if_pos ⟨e,p⟩,if_pos e];omega
    ·rw[if_neg (fun q=>n q.2),if_neg (fun q=>p q.2),if_pos e];omega
  ·rw[if_neg (fun q=>e q.1),if_neg (fun q=>e q.1),if_neg e];omega
theorem zgW(day i:Int): ∀(ps:List (Int×Int)) (s:Pt),tkS (zaA day ps s).2 i=tkS s i+zlW i ps
 | [],s=>(Int.add_zero _).symm
 |z::r,s=>by
  rw[zaA,zlW];by_cases n:z.2<0
  ·rw[if_pos n];show tkS (zaA day r (zcw s z.1 (-z.2))).2 i=_;rw[zgW day i r,zjj];by_cases e:i=z.1
   ·rw[if_pos e,if_pos ⟨e,n⟩];omega
   ·rw[if_neg e,if_neg (fun q=>e q.1)];omega
  ·rw[if_neg n,if_neg (fun q=>n q.2),zgW day i r];omega
theorem zgX(day i:Int): ∀(ps:List (Int×Int)) (s:Pt),tkS (zaH day ps s).2 i=tkS s i+zlX i ps
 | [],s=>(Int.add_zero _).symm
 |z::r,s=>by
  rw[zaH,zlX];by_cases n:0<z.2
  ·rw[if_pos n];show tkS (zaH day r (zbl s z.1 z.2)).2 i=_;rw[zgX day i r,zji];by_cases e:i=z.1
   ·rw[if_pos e,if_pos ⟨e,n⟩];omega
   ·rw[if_neg e,if_neg (fun q=>e q.1)];omega
  ·rw[if_neg n,if_neg (fun q=>n q.2),zgX day i r];omega
theorem zjl(s:Pt)(i:Int): ∀(cs:List Int) (n:Nat),zlY i ((cs.zipIdx n).map fun z=>((z.2:Int),z.1 - ((zaw s.2.2 z.2).1+(zaw s.2.2 z.2).2)))=if (n:Int)≤i∧i<n+cs.length then cs.getD (i - n).toNat 0 - tkS s i else 0
 | [],n=>by
  rw[if_neg (fun h=>by have:=h.1;have:=h.2;simp only[List.length_nil] at this;omega)];rfl
 |c::r,n=>by
  rw[List.zipIdx_cons,List.map_cons,zlY,zjl s i r (n+1)];by_cases e:i=n
  ·subst e;rw[if_pos rfl,if_neg (by omega),if_pos ⟨by omega,by simp only[List.length_cons];omega⟩,Int.sub_self];show c - ((zaw s.2.2 n).1+(zaw s.2.2 n).2)+0=c - ((zaw s.2.2 n).1+(zaw s.2.2 n).2);omega
  ·rw[if_neg e];by_cases g:(n:Int)≤i∧i<n+(c::r).length
   ·rw[if_pos g,if_pos ⟨by omega,by have:=g.2;simp only[List.length_cons] at this;omega⟩];have t:(i - (n:Int)).toNat=(i - ((n+1:Nat):Int)).toNat+1:=by omega
    rw[t,List.getD_cons_succ];omega
   ·rw[if_neg g,if_neg (fun q=>g ⟨by omega,by simp only[List.length_cons];omega⟩)];rfl
theorem zlZ(day:Int)(cs:List Int)(s:Pt)(i:Int):tkS (zaZ day cs s).2 i=if 0≤i∧i<cs.length then cs.getD i.toNat 0 else tkS s i:=by
 show tkS (zaH day (zbf s cs) (zaA day (zbf s cs) s).2).2 i=_;rw[zgX,zgW];have h1:=zjk i (zbf s cs);have h2:=zjl s i cs 0;have h3:(cs.zipIdx 0).map (fun z=>((z.2:Int),z.1 - ((zaw s.2.2 z.2).1+(zaw s.2.2 z.2).2)))=zbf s cs:=rfl;rw[h3] at h2;by_cases g:0≤i∧i<cs.length
 ·rw[if_pos (show ((0:Nat):Int)≤i∧i<((0:Nat):Int)+cs.length from⟨g.1,by omega⟩),show i - ((0:Nat):Int)=i by omega] at h2;rw[if_pos g];omega
 ·rw[if_neg (fun q=>g ⟨by have:=q.1;omega,by have:=q.2;omega⟩)] at h2;rw[if_neg g];omega
theorem zd1(ks:List (List Nat)):zc1 ks []=0:=rfl
theorem zde(ks:List (List Nat))(l:Ln)(ls:List Ln):zc1 ks (l::ls)=(if l.2.1∈ks then l.2.2.2.1 else 0)+zc1 ks ls:=by
 unfold zc1;rw[List.filter_cons];by_cases h:l.2.1∈ks
 ·rw[if_pos (decide_eq_true h),if_pos h,List.map_cons,List.sum_cons]
 ·rw[if_neg (by simpa using h),if_neg h,Int.zero_add]
theorem zd2(ks:List (List Nat))(a b:List Ln):zc1 ks (a++b)=zc1 ks a+zc1 ks b:=by
 unfold zc1;rw[List.filter_append,List.map_append,List.sum_append]
theorem znj(day:Int)(ys:List En)(s:Pt):zc1 [za1,zaY] (za5 day ys s).1=0∧(za5 day ys s).2.2.2=s.2.2:=by
 unfold za5;split
 ·refine⟨?_,rfl⟩;dsimp only;split
  ·rfl
  ·rw[zde,zd1,if_neg (show¬zbr∈ [za1,zaY] by decide)];rfl
 ·exact⟨rfl,rfl⟩
theorem zl0{s s':Pt}(h:s'.2.2=s.2.2)(i:Int):tkS s' i=tkS s i:=by unfold tkS;rw[h]
theorem znk(cst:Int→Int→Int)(ys:List En)(day:Int)(k:Nat)(isb:Bool)(s:Pt)(i:Nat):tkS (za2 cst ys day k isb s).2 i=(if (ys.any fun z=>decide (z.2.2.1=day))=true∧i<(if isb=true then k else k+1) then cst day i else tkS s i)+(if isb=true∧i=k then cst day k else 0):=by
 unfold za2;dsimp only;obtain⟨r,hr⟩: ∃r,r=(if (ys.any fun z=>decide (z.2.2.1=day))=true then zaZ day ((List.range (if isb=true then k else k+1)).map fun i:Nat=>cst day i) (s.1+zau day ys,s.2) else ([],(s.1+zau day ys,s.2))):=⟨_,rfl⟩
 rw[←hr];have h1:tkS r.2 i=if (ys.any fun z=>decide (z.2.2.1=day))=true∧i<(if isb=true then k else k+1) then cst day i else tkS s i:=by
  rw[hr];generalize (if isb=true then k else k+1)=n;by_cases g:(ys.any fun z=>decide (z.2.2.1=day))=true
  ·rw[if_pos g,zlZ,List.length_map,List.length_range];by_cases l:i<n
   ·rw[if_pos ⟨by omega,by omega⟩,if_pos ⟨g,l⟩,Int.toNat_natCast,List.getD_eq_getElem?_getD,List.getElem?_map,List.getElem?_range l];rfl
   ·rw[if_neg (by omega),if_neg (fun q=>l q.2)];exact zl0 rfl _
  ·rw[if_neg g,if_neg (fun q=>g q.1)];exact zl0 rfl _
 obtain⟨b,hb⟩: ∃b,b=(if isb=true then ([zbk r.2 day za1 k (cst day k)],zbl r.2 k (cst day k)) else ([],r.2)):=⟨_,rfl⟩
 rw[←hb];have h2:tkS b.2 i=tkS r.2 i+(if isb=true∧i=k then cst day k else 0):=by
  rw[hb];by_cases g:isb=true
  ·rw[if_pos g];show tkS (zbl r.2 k (cst day k)) i=_;rw[zji];by_cases e:i=k
   ·rw[if_pos (by omega),if_pos ⟨g,e⟩]
   ·rw[if_neg (by omega),if_neg (fun q=>e q.2)]
  ·rw[if_neg g,if_neg (fun q=>g q.1)];exact(Int.add_zero _).symm
 rw[zl0 (znj day ys b.2).2,h2,h1]
def zgn(ys:List En)(y:Int)(C:Nat):Int→Nat→List (Int×Nat×Bool)→Prop
 |x,B, []=>B=C∧x≤y∧ ∀e∈ys,¬(x<e.2.2.1∧e.2.2.1≤y)
 |x,B,z::r=>x<z.1∧(∀e∈ys,¬(x<e.2.2.1∧e.2.2.1<z.1))∧(if z.2.2=true then z.2.1 else z.2.1+1)=B∧zgn ys y C z.1 (z.2.1+1) r
theorem zjm(cst:Int→Int→Int){ys:List En}(hk: ∀x y,x≤y→(∀e∈ys,¬(x<e.2.2.1∧e.2.2.1≤y))→ ∀i,cst x i=cst y i){y:Int}{C:Nat}: ∀(ds:List (Int×Nat×Bool)) (s:Pt) (x:Int) (B:Nat),zgn ys y C x B ds→(∀i:Nat,i<B→tkS s i=cst x i)→(∀i:Nat,B≤i→tkS s i=0)→(∀i:Nat,i<C→tkS (zaS cst ys ds s).2 i=cst y i)∧ ∀i:Nat,C≤i→tkS (zaS cst ys ds s).2 i=0
 | [],s,x,B,h,h1,h2=>by
  obtain⟨rfl,xy,no⟩:=h;exact⟨fun i hi=>(h1 i hi).trans (hk x y xy no i),h2⟩
 |z::r,s,x,B,h,h1,h2=>by
  obtain⟨xz,no,eB,hr⟩:=h;have w:=znk cst ys z.1 z.2.1 z.2.2 s;rw[eB] at w;refine zjm cst hk r (za2 cst ys z.1 z.2.1 z.2.2 s).2 z.1 (z.2.1+1) hr (fun i hi=> ?_) (fun i hi=> ?_)
  ·rw[w i];by_cases l:i<B
   ·have nb: ¬(z.2.2=true∧i=z.2.1):=fun q=>by rw[if_pos q.1] at eB;omega
    rw[if_neg nb,Int.add_zero];by_cases g:(ys.any fun e=>decide (e.2.2.1=z.1))=true
    ·rw[if_pos ⟨g,l⟩]
    ·rw[if_neg (fun q=>g q.1),h1 i l];refine hk x z.1 (by omega) (fun e he q=> ?_) i;by_cases q2:e.2.2.1=z.1
     ·exact g (List.any_eq_true.mpr ⟨e,he,decide_eq_true q2⟩)
     ·exact no e he ⟨q.1,by omega⟩
   ·have b:z.2.2=true∧i=z.2.1:=by
     by_cases q:z.2.2=true
     ·rw[if_pos q] at eB;exact⟨q,by omega⟩
     ·rw[if_neg q] at eB;omega
    rw[if_neg (fun q=>l q.2),if_pos b,h2 i (by omega),Int.zero_add,b.2]
  ·have nl: ¬i<B:=by
    by_cases q:z.2.2=true
    ·rw[if_pos q] at eB;omega
    ·rw[if_neg q] at eB;omega
   rw[w i,if_neg (fun q=>nl q.2),if_neg (fun q=>by have:=q.2;omega),h2 i (by omega)];rfl
theorem zhF{ys:List En}{y:Int}{C:Nat}{bg:Nat→Int}(hm: ∀i j,i<j→j≤60→bg i<bg j)(hC:C≤60)(c1:y<bg C)(c2: ∀j,j<C→bg j≤y): ∀(ds:List (Int×Nat×Bool)) (x:Int) (B:Nat),(ds.map (·.1)).Pairwise (· < ·)→(∀t,t∈ds.map (·.1)↔x<t∧t≤y∧((∃j,j<60∧t=bg j)∨ ∃e∈ys,e.2.2.1=t))→(∀z∈ds,z.2.1<60∧bg z.2.1≤z.1∧z.1<bg (z.2.1+1)∧(z.2.2=true↔bg z.2.1=z.1))→x≤y→B≤60→x<bg B→(∀j,j<B→bg j≤x)→zgn ys y C x B ds
 | [],x,B,up,mem,sp,xy,B60,b1,b2=>by
  have no: ∀t,¬(x<t∧t≤y∧((∃j,j<60∧t=bg j)∨ ∃e∈ys,e.2.2.1=t)):=fun t q=>nomatch (mem t).mpr q;refine⟨?_,xy,fun e he q=>no e.2.2.1 ⟨q.1,q.2, .inr ⟨e,he,rfl⟩⟩⟩;rcases Nat.lt_trichotomy B C with h|h|h
  ·exact absurd ⟨b1,c2 B h, .inl ⟨B,by omega,rfl⟩⟩ (no (bg B))
  ·exact h
  ·have:=b2 C h;omega
 |z::r,x,B,up,mem,sp,xy,B60,b1,b2=>by
  rw[List.map_cons] at up mem;obtain⟨u1,u2⟩:=List.pairwise_cons.mp up;obtain⟨k60,k1,k2,ib⟩:=sp z List.mem_cons_self;obtain⟨xz,zy,_⟩:=(mem z.1).mp List.mem_cons_self;have first: ∀t,x<t→t<z.1→((∃j,j<60∧t=bg j)∨ ∃e∈ys,e.2.2.1=t)→False:=fun t h1 h2 h3=>by
   rcases List.mem_cons.mp ((mem t).mpr ⟨h1,by omega,h3⟩) with e|e
   ·omega
   ·have:=u1 t e;omega
  refine⟨xz,fun e he q=>first e.2.2.1 q.1 q.2 (.inr ⟨e,he,rfl⟩),?_,?_⟩
  ·by_cases g:z.2.2=true
   ·rw[if_pos g];have e:=ib.mp g;rcases Nat.lt_trichotomy z.2.1 B with h|h|h
    ·have:=b2 _ h;omega
    ·exact h
    ·exact(first (bg B) b1 (by have:=hm B z.2.1 h (by omega);omega) (.inl ⟨B,by omega,rfl⟩)).elim
   ·rw[if_neg g];have e:bg z.2.1<z.1:=by
     rcases Int.lt_or_eq_of_le k1 with h|h
     ·exact h
     ·exact absurd (ib.mpr h) g
    rcases Nat.lt_trichotomy (z.2.1+1) B with h|h|h
    ·have:=b2 _ h;omega
    ·exact h
    ·refine(first (bg z.2.1) ?_ e (.inl ⟨z.2.1,k60,rfl⟩)).elim;rcases Nat.lt_or_ge B z.2.1 with q|q
     ·have:=hm B z.2.1 q (by omega);omega
     ·have:z.2.1=B:=by omega
      rw[this];exact b1
  ·refine zhF hm hC c1 c2 r z.1 (z.2.1+1) u2 (fun t=> ?_) (fun w hw=>sp w (List.mem_cons_of_mem _ hw)) zy (by omega) k2 (fun j hj=> ?_)
   ·constructor
    ·intro h
     have:=(mem t).mp (List.mem_cons_of_mem _ h);exact⟨u1 t h,this.2⟩
    ·intro h;rcases List.mem_cons.mp ((mem t).mpr ⟨by omega,h.2⟩) with e|e
     ·omega
     ·exact e
   ·rcases Nat.lt_or_ge j z.2.1 with q|q
    ·have:=hm j z.2.1 q (by omega);omega
    ·have:j=z.2.1:=by omega
     rw[this];exact k1
end L2
namespace L2
def s4F(ls:List Ln):Int:=(ls.map fun z=>z.2.2.2.2.1).sum
def s5F(ls:List Ln):Int:=(ls.map fun z=>z.2.2.2.2.2.1).sum
theorem zl1(a b:List Ln):s4F (a++b)=s4F a+s4F b:=by unfold s4F;rw[List.map_append,List.sum_append]
theorem zl2(a b:List Ln):s5F (a++b)=s5F a+s5F b:=by unfold s5F;rw[List.map_append,List.sum_append]
theorem zhG(a b:List Ln):zev (a++b)=zev a+zev b:=by unfold zev;rw[List.map_append,List.sum_append]
structure Led (s:Pt) (ls:List Ln) (s':Pt):Prop where
 gv:s'.1=s.1+zc1 [za9] ls - s4F ls
 ow:s'.2.1=s.2.1 - s5F ls - zc1 [zbr] ls
 eq:zc1 [za1,zaY] ls=s4F ls+s5F ls+zev ls
 pd:0≤zev ls
 gr:0≤zc1 [za9] ls
 bk:0≤zc1 [zbr] ls
theorem Led.nil(s:Pt):Led s [] s:=⟨by show s.1=s.1+0 - 0;omega,by show s.2.1=s.2.1 - 0 - 0;omega,rfl,Int.le_refl _,Int.le_refl _,Int.le_refl _⟩
theorem Led.app{s s' s2:Pt}{a b:List Ln}(h:Led s a s')(g:Led s' b s2):Led s (a++b) s2:=by
 obtain⟨h1,h2,h3,h4,h5,h6⟩:=h;obtain⟨g1,g2,g3,g4,g5,g6⟩:=g;constructor
 ·rw[zd2,zl1];omega
 ·rw[zd2,zl2];omega
 ·rw[zd2,zl1,zl2,zhG];omega
 ·rw[zhG];omega
 ·rw[zd2];omega
 ·rw[zd2];omega
structure Pos (s:Pt):Prop where
 g:0≤s.1
 o:0≤s.2.1
 t: ∀i,0≤(zaw s.2.2 i).1∧0≤(zaw s.2.2 i).2
theorem Pos.zero:Pos (0,0, []):=⟨Int.le_refl _,Int.le_refl _,fun _=>⟨Int.le_refl _,Int.le_refl _⟩⟩
theorem zhH{s:Pt}(h:Pos s)(day:Int){w:List Nat}(hw:w=za1∨w=zaY)(k:Int){a:Int}(a0:0≤a):Led s [zbk s day w k a] (zbl s k a)∧Pos (zbl s k a):=by
 have x0:0≤tkX s a∧tkX s a≤s.1∧tkX s a≤a:=by have:=h.g;unfold tkX;split<;>omega
 have y0:0≤tkY s a∧tkY s a≤s.2.1∧tkY s a≤a - tkX s a:=by have:=h.o;unfold tkY;split<;>omega
 have am: ∀ks:List (List Nat),zc1 ks [zbk s day w k a]=if w∈ks then a else 0:=fun ks=>by
  rw[zde,zd1,Int.add_zero];rfl
 have i1:w∈ [za1,zaY]:=by rcases hw with rfl|rfl<;>decide
 have i2: ¬w∈ [za9]:=by rcases hw with rfl|rfl<;>decide
 have i3: ¬w∈ [zbr]:=by rcases hw with rfl|rfl<;>decide
 have e4:s4F [zbk s day w k a]=tkX s a:=Int.add_zero _;have e5:s5F [zbk s day w k a]=tkY s a:=Int.add_zero _;have e6:zev [zbk s day w k a]=a - tkX s a - tkY s a:=Int.add_zero _;refine⟨⟨?_,?_,?_,?_,?_,?_⟩,⟨?_,?_,fun i=> ?_⟩⟩
 ·rw[am,if_neg i2,e4];show s.1 - tkX s a=_;omega
 ·rw[am,if_neg i3,e5];show s.2.1 - tkY s a=_;omega
 ·rw[am,if_pos i1,e4,e5,e6];omega
 ·rw[e6];omega
 ·rw[am,if_neg i2];exact Int.le_refl _
 ·rw[am,if_neg i3];exact Int.le_refl _
 ·show 0≤s.1 - tkX s a;omega
 ·show 0≤s.2.1 - tkY s a;omega
 ·show 0≤(zaw (zbJ s.2.2 k _) i).1∧0≤(zaw (zbJ s.2.2 k _) i).2;rw[zd0]
  have:=h.t k;split
  ·show 0≤(zaw s.2.2 k).1+tkX s a∧0≤(zaw s.2.2 k).2+a - tkX s a;omega
  ·exact h.t i
theorem zl3{s:Pt}(h:Pos s)(day k:Int){a:Int}(a0:0≤a)(a1:a≤tkS s k):Led s [zcG s day k a] (zcw s k a)∧Pos (zcw s k a):=by
 have hk:=h.t k;unfold tkS at a1;have y0:0≤gvY s k a∧gvY s k a≤(zaw s.2.2 k).2∧gvY s k a≤a∧a - gvY s k a≤(zaw s.2.2 k).1:=by unfold gvY;split<;>omega
 have am: ∀ks:List (List Nat),zc1 ks [zcG s day k a]=if zaY∈ks then -a else 0:=fun ks=>by
  rw[zde,zd1,Int.add_zero];rfl
 have e4:s4F [zcG s day k a]= -(a - gvY s k a):=Int.add_zero _;have e5:s5F [zcG s day k a]= -(gvY s k a):=Int.add_zero _;have e6:zev [zcG s day k a]=0:=rfl;refine⟨⟨?_,?_,?_,?_,?_,?_⟩,⟨?_,?_,fun i=> ?_⟩⟩
 ·rw[am,if_neg (by decide),e4];show s.1+(a - gvY s k a)=_;omega
 ·rw[am,if_neg (by decide),e5];show s.2.1+gvY s k a=_;omega
 ·rw[am,if_pos (by decide),e4,e5,e6];omega
 ·rw[e6];exact Int.le_refl _
 ·rw[am,if_neg (by decide)];exact Int.le_refl _
 ·rw[am,if_neg (by decide)];exact Int.le_refl _
 ·have:=h.g;show 0≤s.1+(a - gvY s k a);omega
 ·have:=h.o;show 0≤s.2.1+gvY s k a;omega
 ·show 0≤(zaw (zbJ s.2.2 k _) i).1∧0≤(zaw (zbJ s.2.2 k _) i).2;rw[zd0];split
  ·show 0≤(zaw s.2.2 k).1 - (a - gvY s k a)∧0≤(zaw s.2.2 k).2 - gvY s k a;omega
  ·exact h.t i
theorem zfm(day:Int): ∀(ps:List (Int×Int)) (s:Pt),Pos s→(ps.map (·.1)).Nodup→(∀z∈ps, -z.2≤tkS s z.1)→Led s (zaA day ps s).1 (zaA day ps s).2∧Pos (zaA day ps s).2
 | [],s,h,_,_=>⟨Led.nil s,h⟩
 |z::r,s,h,nd,hz=>by
  rw[List.map_cons,List.nodup_cons] at nd;have hr: ∀y∈r, -y.2≤tkS s y.1:=fun y hy=>hz y (List.mem_cons_of_mem _ hy);rw[zaA];by_cases n:z.2<0
  ·rw[if_pos n];obtain⟨l1,p1⟩:=zl3 h day z.1 (a:= -z.2) (by omega) (hz z List.mem_cons_self);have hr2: ∀y∈r, -y.2≤tkS (zcw s z.1 (-z.2)) y.1:=fun y hy=>by
    rw[zjj,if_neg (fun e=>nd.1 (by rw[←e];exact List.mem_map.mpr ⟨y,hy,rfl⟩)),Int.sub_zero];exact hr y hy
   obtain⟨l2,p2⟩:=zfm day r _ p1 nd.2 hr2;exact⟨l1.app l2,p2⟩
  ·rw[if_neg n];exact zfm day r s h nd.2 hr
theorem zfn(day:Int): ∀(ps:List (Int×Int)) (s:Pt),Pos s→Led s (zaH day ps s).1 (zaH day ps s).2∧Pos (zaH day ps s).2
 | [],s,h=>⟨Led.nil s,h⟩
 |z::r,s,h=>by
  rw[zaH];by_cases n:0<z.2
  ·rw[if_pos n];obtain⟨l1,p1⟩:=zhH h day (w:=zaY) (.inr rfl) z.1 (a:=z.2) (by omega);obtain⟨l2,p2⟩:=zfn day r _ p1;exact⟨l1.app l2,p2⟩
  ·rw[if_neg n];exact zfn day r s h
theorem zj3(day:Int)(cs:List Int)(s:Pt)(h:Pos s)(c0: ∀x∈cs,0≤x):Led s (zaZ day cs s).1 (zaZ day cs s).2∧Pos (zaZ day cs s).2:=by
 obtain⟨l1,p1⟩:=zfm day (zbf s cs) s h (by
  unfold zbf;rw[List.map_map];have e:cs.zipIdx.map ((fun z:Int×Int=>z.1) ∘ fun z:Int×Nat=>((z.2:Int),z.1 - ((zaw s.2.2 z.2).1+(zaw s.2.2 z.2).2)))=(List.range cs.length).map fun i:Nat=>(i:Int):=by
   rw[show ((fun z:Int×Int=>z.1) ∘ fun z:Int×Nat=>((z.2:Int),z.1 - ((zaw s.2.2 z.2).1+(zaw s.2.2 z.2).2)))=(fun i:Nat=>(i:Int)) ∘ Prod.snd from rfl,←List.map_map,List.zipIdx_map_snd,List.range_eq_range']
  rw[e];refine List.pairwise_map.mpr (List.nodup_range.imp fun h e=>h (by omega))) (fun z hz=>by
  obtain⟨w,hw,rfl⟩:=List.mem_map.mp hz
  have:=c0 w.1 (List.fst_mem_of_mem_zipIdx hw);show -(w.1 - tkS s w.2)≤tkS s w.2;omega)
 obtain⟨l2,p2⟩:=zfn day (zbf s cs) _ p1;exact⟨l1.app l2,p2⟩
theorem zgo(day:Int): ∀(ys:List En) (n:Nat) (s:Pt),Pos s→(∀z∈ys,∀a,z.2.2.2= .grant a→0≤a)→Led s (zaP day n ys) (s.1+zau day ys,s.2)∧Pos (s.1+zau day ys,s.2)
 | [],n,s,h,_=>by
  have e:(s.1+zau day [],s.2)=s:=by show (s.1+0,s.2)=s;rw[Int.add_zero]
  rw[e];exact⟨Led.nil s,h⟩
 |z::r,n,s,h,hg=>by
  have hr: ∀y∈r,∀a,y.2.2.2= .grant a→0≤a:=fun y hy=>hg y (List.mem_cons_of_mem _ hy);have hz:=hg z List.mem_cons_self;obtain⟨a,l,ea,el,a0,l1⟩: ∃(a:Int) (l:List Ln),zau day (z::r)=a+zau day r∧zaP day n (z::r)=l++zaP day (n+1) r∧0≤a∧Led s l (s.1+a,s.2):=by
   have no:Led s [] (s.1+0,s.2):=by rw[Int.add_zero];exact Led.nil s
   obtain⟨v,ad,en,ch⟩:=z;cases ch with
   |grant a=>
    have a0:=hz a rfl;by_cases d:en=day
    ·refine⟨a, [(day,za9,(n:Int),a,0,0,0)],by rw[zau];simp only[d,if_true],by rw[zaP];simp only[d,if_true],a0,?_⟩;have am: ∀ks:List (List Nat),zc1 ks [((day,za9,(n:Int),a,0,0,0):Ln)]=if za9∈ks then a else 0:=fun ks=>by
      rw[zde,zd1,Int.add_zero]
     refine⟨?_,?_,?_,Int.le_refl _,?_,?_⟩
     ·rw[am,if_pos (by decide)];show s.1+a=s.1+a - 0;omega
     ·rw[am,if_neg (by decide)];show s.2.1=s.2.1 - 0 - 0;omega
     ·rw[am,if_neg (by decide)];rfl
     ·rw[am,if_pos (by decide)];exact a0
     ·rw[am,if_neg (by decide)];exact Int.le_refl _
    ·exact⟨0, [],by rw[zau];simp only[d,if_false],by rw[zaP];simp only[d,if_false],Int.le_refl _,no⟩
   |_=>exact⟨0, [],rfl,rfl,Int.le_refl _,no⟩
  rw[ea,el];have p1:Pos (s.1+a,s.2):=⟨by have:=h.g;show 0≤s.1+a;omega,h.o,h.t⟩
  obtain⟨l2,p2⟩:=zgo day r (n+1) _ p1 hr;have e:((s.1+a,s.2).1+zau day r,(s.1+a,s.2).2)=(s.1+(a+zau day r),s.2):=by rw[Int.add_assoc]
  rw[e] at l2 p2;exact⟨l1.app l2,p2⟩
theorem zl4(day:Int)(ys:List En)(s:Pt)(h:Pos s):Led s (za5 day ys s).1 (za5 day ys s).2∧Pos (za5 day ys s).2:=by
 unfold za5;split
 ·refine⟨?_,⟨h.g,Int.le_refl _,h.t⟩⟩;dsimp only;split
  ·rename_i z;exact⟨by show s.1=s.1+0 - 0;omega,by show 0=s.2.1 - 0 - 0;omega,rfl,Int.le_refl _,Int.le_refl _,Int.le_refl _⟩
  ·have am: ∀ks:List (List Nat),zc1 ks [((day,zbr, -1,s.2.1,0,0,0):Ln)]=if zbr∈ks then s.2.1 else 0:=fun ks=>by
    rw[zde,zd1,Int.add_zero]
   refine⟨?_,?_,?_,Int.le_refl _,?_,?_⟩
   ·rw[am,if_neg (by decide)];show s.1=s.1+0 - 0;omega
   ·rw[am,if_pos (by decide)];show 0=s.2.1 - 0 - s.2.1;omega
   ·rw[am,if_neg (by decide)];rfl
   ·rw[am,if_neg (by decide)];exact Int.le_refl _
   ·rw[am,if_pos (by decide)];exact h.o
 ·exact⟨Led.nil s,h⟩
theorem zl5(cst:Int→Int→Int)(ys:List En)(day:Int)(k:Nat)(isb:Bool)(s:Pt)(h:Pos s)(hk:k<60)(c0: ∀i:Nat,i<60→0≤cst day i)(hg: ∀z∈ys,∀a,z.2.2.2= .grant a→0≤a):Led s (za2 cst ys day k isb s).1 (za2 cst ys day k isb s).2∧Pos (za2 cst ys day k isb s).2:=by
 unfold za2;dsimp only;obtain⟨l1,p1⟩:=zgo day ys 0 s h hg;obtain⟨r,hr⟩: ∃r,r=(if (ys.any fun z=>decide (z.2.2.1=day))=true then zaZ day ((List.range (if isb=true then k else k+1)).map fun i:Nat=>cst day i) (s.1+zau day ys,s.2) else ([],(s.1+zau day ys,s.2))):=⟨_,rfl⟩
 rw[←hr];obtain⟨l2,p2⟩:Led (s.1+zau day ys,s.2) r.1 r.2∧Pos r.2:=by
  rw[hr];split
  ·refine zj3 day _ _ p1 fun x hx=> ?_;obtain⟨i,hi,rfl⟩:=List.mem_map.mp hx
   have:=List.mem_range.mp hi;exact c0 i (by split at this<;>omega)
  ·exact⟨Led.nil _,p1⟩
 obtain⟨b,hb⟩: ∃b,b=(if isb=true then ([zbk r.2 day za1 k (cst day k)],zbl r.2 k (cst day k)) else ([],r.2)):=⟨_,rfl⟩
 rw[←hb];obtain⟨l3,p3⟩:Led r.2 b.1 b.2∧Pos b.2:=by
  rw[hb];split
  ·exact zhH p2 day (.inl rfl) k (c0 k hk)
  ·exact⟨Led.nil _,p2⟩
 obtain⟨l4,p4⟩:=zl4 day ys b.2 p3;exact⟨((l1.app l2).app l3).app l4,p4⟩
theorem zhI(cst:Int→Int→Int)(ys:List En)(hg: ∀z∈ys,∀a,z.2.2.2= .grant a→0≤a): ∀(ds:List (Int×Nat×Bool)) (s:Pt),Pos s→(∀z∈ds,z.2.1<60)→(∀z∈ds,∀i:Nat,i<60→0≤cst z.1 i)→Led s (zaS cst ys ds s).1 (zaS cst ys ds s).2∧Pos (zaS cst ys ds s).2
 | [],s,h,_,_=>⟨Led.nil s,h⟩
 |z::r,s,h,hk,c0=>by
  obtain⟨l1,p1⟩:=zl5 cst ys z.1 z.2.1 z.2.2 s h (hk z List.mem_cons_self) (c0 z List.mem_cons_self) hg;obtain⟨l2,p2⟩:=zhI cst ys hg r _ p1 (fun x hx=>hk x (List.mem_cons_of_mem _ hx)) (fun x hx=>c0 x (List.mem_cons_of_mem _ hx));exact⟨l1.app l2,p2⟩
end L2
namespace L2
def kNo(w:List Nat):Int:=if w=za9 then 0 else if w=zaY then 1 else if w=za1 then 2 else 3
def zbP:List Ln→Int→Int→Prop
 | [],_,_=>True
 |z::r,d,i=>(d<z.1∨d=z.1∧i≤kNo z.2.1)∧zbP r z.1 (kNo z.2.1)
def zgY:List Ln→Int→Int
 | [],d=>d
 |z::r,_=>zgY r z.1
def ziy:List Ln→Int→Int
 | [],i=>i
 |z::r,_=>ziy r (kNo z.2.1)
def zcI(g:Int→Option Int)(z:Ln):Int→Option Int:=fun j=>if (z.2.1=zaY∨z.2.1=za1)∧j=z.2.2.1 then some z.1 else g j
def zq4(g:Int→Option Int)(z:Ln):Prop:=z.2.1=za9∨(z.2.1=zbr∧g z.2.2.1=none)∨(z.2.1=za1∧g z.2.2.1=none)∨(z.2.1=zaY∧ ∃d,g z.2.2.1=some d∧d≠z.1)
def zbW:List Ln→(Int→Option Int)→Prop
 | [],_=>True
 |z::r,g=>zq4 g z∧zbW r (zcI g z)
def zbu:List Ln→(Int→Option Int)→Int→Option Int
 | [],g=>g
 |z::r,g=>zbu r (zcI g z)
theorem zcJ: ∀(a b:List Ln) (d i:Int),zbP a d i→zbP b (zgY a d) (ziy a i)→zbP (a++b) d i
 | [],_,_,_,_,h=>h
 |z::r,b,_,_,h,g=>⟨h.1,zcJ r b _ _ h.2 g⟩
theorem zcm: ∀(a b:List Ln) (d:Int),zgY (a++b) d=zgY b (zgY a d)
 | [],_,_=>rfl
 |_::r,b,_=>zcm r b _
theorem zd3: ∀(a b:List Ln) (d:Int),ziy (a++b) d=ziy b (ziy a d)
 | [],_,_=>rfl
 |_::r,b,_=>zd3 r b _
theorem zdp: ∀(a b:List Ln) (g:Int→Option Int),zbW a g→zbW b (zbu a g)→zbW (a++b) g
 | [],_,_,_,h=>h
 |_::r,b,_,h,k=>⟨h.1,zdp r b _ h.2 k⟩
theorem zbQ: ∀(a b:List Ln) (g:Int→Option Int),zbu (a++b) g=zbu b (zbu a g)
 | [],_,_=>rfl
 |_::r,b,_=>zbQ r b _
theorem zcK{D i:Int}: ∀(ls:List Ln) (d0 i0:Int),(∀z∈ls,z.1=D∧kNo z.2.1=i)→(d0<D∨d0=D∧i0≤i)→zbP ls d0 i0∧(zgY ls d0<D∨zgY ls d0=D∧ziy ls i0≤i)
 | [],_,_,_,h=>⟨trivial,h⟩
 |z::r,d0,i0,hz,h=>by
  obtain⟨e1,e2⟩:=hz z List.mem_cons_self
  have:=zcK r z.1 (kNo z.2.1) (fun y hy=>hz y (List.mem_cons_of_mem _ hy)) (.inr ⟨e1,by rw[e2];exact Int.le_refl _⟩);refine⟨⟨?_,this.1⟩,this.2⟩;rw[e1,e2];exact h
theorem zfo(day:Int): ∀(ps:List (Int×Int)) (s:Pt),∀z∈(zaA day ps s).1,z.1=day∧z.2.1=zaY
 | [],s,z,h=>nomatch h
 |p::r,s,z,h=>by
  rw[zaA] at h;split at h
  ·rcases List.mem_cons.mp h with rfl|h
   ·exact⟨rfl,rfl⟩
   ·exact zfo day r _ z h
  ·exact zfo day r _ z h
theorem zfp(day:Int): ∀(ps:List (Int×Int)) (s:Pt),∀z∈(zaH day ps s).1,z.1=day∧z.2.1=zaY
 | [],s,z,h=>nomatch h
 |p::r,s,z,h=>by
  rw[zaH] at h;split at h
  ·rcases List.mem_cons.mp h with rfl|h
   ·exact⟨rfl,rfl⟩
   ·exact zfp day r _ z h
  ·exact zfp day r _ z h
theorem zgp(day:Int)(cs:List Int)(s:Pt): ∀z∈(zaZ day cs s).1,z.1=day∧z.2.1=zaY:=fun z h=>by
 rcases List.mem_append.mp h with h|h
 ·exact zfo _ _ _ z h
 ·exact zfp _ _ _ z h
theorem zdq(day:Int): ∀(ys:List En) (n:Nat),∀z∈zaP day n ys,z.1=day∧z.2.1=za9
 | [],n,z,h=>nomatch h
 |(v,ad,e,ch)::r,n,z,h=>by
  rw[zaP] at h;rcases List.mem_append.mp h with h|h
  ·cases ch with
   |grant a=>
    dsimp only at h;split at h
    ·rw[List.mem_singleton.mp h];exact⟨rfl,rfl⟩
    ·nomatch h
   |_=>nomatch h
  ·exact zdq day r _ z h
theorem zhJ(day:Int)(ys:List En)(s:Pt): ∀z∈(za5 day ys s).1,z.1=day∧z.2.1=zbr∧z.2.2.1= -1:=fun z h=>by
 unfold za5 at h;split at h
 ·dsimp only at h;split at h
  ·nomatch h
  ·rw[List.mem_singleton.mp h];exact⟨rfl,rfl,rfl⟩
 ·nomatch h
theorem zcn(cst:Int→Int→Int)(ys:List En)(day:Int)(k:Nat)(isb:Bool)(s:Pt): ∃r b:List Ln×Pt,(za2 cst ys day k isb s).1=zaP day 0 ys++r.1++b.1++(za5 day ys b.2).1∧(za2 cst ys day k isb s).2=(za5 day ys b.2).2∧
  (r=zaZ day ((List.range (if isb=true then k else k+1)).map fun i:Nat=>cst day i) (s.1+zau day ys,s.2)∨r=([],(s.1+zau day ys,s.2)))∧b=(if isb=true then ([zbk r.2 day za1 k (cst day k)],zbl r.2 k (cst day k)) else ([],r.2)):=by
 refine⟨_,_,rfl,rfl,?_,rfl⟩;split
 ·exact .inl rfl
 ·exact .inr rfl
theorem zhK{day:Int}{k:Nat}{a:Int}{isb:Bool}{r b:List Ln×Pt}(h:b=(if isb=true then ([zbk r.2 day za1 k a],zbl r.2 k a) else ([],r.2))): ∀z∈b.1,z.1=day∧z.2.1=za1∧z.2.2.1=k∧isb=true:=fun z hz=>by
 subst h;split at hz
 ·rename_i q;rw[List.mem_singleton.mp hz];exact⟨rfl,rfl,rfl,q⟩
 ·nomatch hz
theorem zl6(cst:Int→Int→Int)(ys:List En)(day:Int)(k:Nat)(isb:Bool)(s:Pt): ∀z∈(za2 cst ys day k isb s).1,z.1=day∧(z.2.1=za1→z.2.2.1=k∧isb=true):=fun z h=>by
 obtain⟨r,b,e1,_,hr,hb⟩:=zcn cst ys day k isb s;rw[e1] at h;rcases List.mem_append.mp h with h|h
 ·rcases List.mem_append.mp h with h|h
  ·rcases List.mem_append.mp h with h|h
   ·have:=zdq _ _ _ z h;exact⟨this.1,fun e=>by rw[this.2] at e;exact absurd e (by decide)⟩
   ·rcases hr with rfl|rfl
    ·have:=zgp _ _ _ z h;exact⟨this.1,fun e=>by rw[this.2] at e;exact absurd e (by decide)⟩
    ·nomatch h
  ·have:=zhK hb z h;exact⟨this.1,fun _=>this.2.2⟩
 ·have:=zhJ _ _ _ z h;exact⟨this.1,fun e=>by rw[this.2.1] at e;exact absurd e (by decide)⟩
theorem ziz(cst:Int→Int→Int)(ys:List En)(day:Int)(k:Nat)(isb:Bool)(s:Pt){d0 i0:Int}(h:d0<day):zbP (za2 cst ys day k isb s).1 d0 i0∧zgY (za2 cst ys day k isb s).1 d0≤day:=by
 obtain⟨r,b,e1,_,hr,hb⟩:=zcn cst ys day k isb s;rw[e1];obtain⟨p1,q1⟩:=zcK (D:=day) (i:=0) (zaP day 0 ys) d0 i0 (fun z hz=>by have:=zdq _ _ _ z hz;rw[this.2];exact⟨this.1,by decide⟩) (.inl h);obtain⟨p2,q2⟩:=zcK (D:=day) (i:=1) r.1 _ _ (fun z hz=>by
  rcases hr with rfl|rfl
  ·have:=zgp _ _ _ z hz;rw[this.2];exact⟨this.1,by decide⟩
  ·nomatch hz) (q1.imp id fun x=>⟨x.1,Int.le_trans x.2 (by decide)⟩)
 obtain⟨p3,q3⟩:=zcK (D:=day) (i:=2) b.1 _ _ (fun z hz=>by have:=zhK hb z hz;rw[this.2.1];exact⟨this.1,by decide⟩) (q2.imp id fun x=>⟨x.1,Int.le_trans x.2 (by decide)⟩);obtain⟨p4,q4⟩:=zcK (D:=day) (i:=3) (za5 day ys b.2).1 _ _ (fun z hz=>by have:=zhJ _ _ _ z hz;rw[this.2.1];exact⟨this.1,by decide⟩) (q3.imp id fun x=>⟨x.1,Int.le_trans x.2 (by decide)⟩);refine⟨zcJ _ _ _ _ (zcJ _ _ _ _ (zcJ _ _ _ _ p1 p2) ?_) ?_,?_⟩
 ·rw[zcm,zd3];exact p3
 ·rw[zcm,zd3,zcm,zd3];exact p4
 ·rw[zcm,zcm,zcm];rcases q4 with q|q
  ·exact Int.le_of_lt q
  ·exact Int.le_of_eq q.1
def ziA(B:Nat)(x:Int)(g:Int→Option Int):Prop:=(∀j:Int,(j<0∨(B:Int)≤j)→g j=none)∧ ∀j:Int,0≤j→j<B→ ∃d,g j=some d∧d≤x
theorem zgq: ∀(ls:List Ln) (g:Int→Option Int),(∀z∈ls,z.2.1=za9)→zbW ls g∧zbu ls g=g
 | [],g,_=>⟨trivial,rfl⟩
 |z::r,g,h=>by
  have e:=h z List.mem_cons_self;have e1:zcI g z=g:=by
   funext j;unfold zcI;rw[if_neg (fun q=>by rcases q.1 with q|q<;>(rw[e] at q;exact absurd q (by decide)))]
  have:=zgq r g fun y hy=>h y (List.mem_cons_of_mem _ hy);rw[zbW,zbu,e1];exact⟨⟨.inl e,this.1⟩,this.2⟩
theorem zfq(day:Int): ∀(ps:List (Int×Int)) (s:Pt) (g:Int→Option Int),(ps.map (·.1)).Nodup→(∀z∈ps,∃d,g z.1=some d∧d<day)→zbW (zaA day ps s).1 g∧(∀j,(∀z∈ps,z.2<0→z.1≠j)→zbu (zaA day ps s).1 g j=g j)∧ ∀j,zbu (zaA day ps s).1 g j=g j∨zbu (zaA day ps s).1 g j=some day
 | [],s,g,_,_=>⟨trivial,fun _ _=>rfl,fun _=> .inl rfl⟩
 |z::r,s,g,nd,h=>by
  rw[List.map_cons,List.nodup_cons] at nd;rw[zaA];by_cases n:z.2<0
  ·rw[if_pos n];have st: ∀j,zcI g (zcG s day z.1 (-z.2)) j=if j=z.1 then some day else g j:=fun j=>by
    unfold zcI;by_cases e:j=z.1
    ·rw[if_pos ⟨.inl rfl,e⟩,if_pos e];rfl
    ·rw[if_neg (fun q=>e q.2),if_neg e]
   obtain⟨a,b,c⟩:=zfq day r (zcw s z.1 (-z.2)) (zcI g (zcG s day z.1 (-z.2))) nd.2 fun y hy=>by
    rw[st,if_neg (fun e=>nd.1 (by rw[←e];exact List.mem_map.mpr ⟨y,hy,rfl⟩))];exact h y (List.mem_cons_of_mem _ hy)
   obtain⟨d,e1,e2⟩:=h z List.mem_cons_self;refine⟨⟨.inr (.inr (.inr ⟨rfl,d,e1,Int.ne_of_lt e2⟩)),a⟩,fun j hj=> ?_,fun j=> ?_⟩
   ·refine Eq.trans (b j fun y hy=>hj y (List.mem_cons_of_mem _ hy)) ?_;rw[st,if_neg (fun e=>hj z List.mem_cons_self n e.symm)]
   ·rcases c j with q|q
    ·rw[st] at q;split at q
     ·exact .inr q
     ·exact .inl q
    ·exact .inr q
  ·rw[if_neg n];obtain⟨a,b,c⟩:=zfq day r s g nd.2 fun y hy=>h y (List.mem_cons_of_mem _ hy);exact⟨a,fun j hj=>b j fun y hy=>hj y (List.mem_cons_of_mem _ hy),c⟩
theorem zfr(day:Int): ∀(ps:List (Int×Int)) (s:Pt) (g:Int→Option Int),(ps.map (·.1)).Nodup→(∀z∈ps,0<z.2→ ∃d,g z.1=some d∧d<day)→zbW (zaH day ps s).1 g∧(∀j,(∀z∈ps,z.1≠j)→zbu (zaH day ps s).1 g j=g j)∧ ∀j,zbu (zaH day ps s).1 g j=g j∨zbu (zaH day ps s).1 g j=some day
 | [],s,g,_,_=>⟨trivial,fun _ _=>rfl,fun _=> .inl rfl⟩
 |z::r,s,g,nd,h=>by
  rw[List.map_cons,List.nodup_cons] at nd;rw[zaH];by_cases n:0<z.2
  ·rw[if_pos n];have st: ∀j,zcI g (zbk s day zaY z.1 z.2) j=if j=z.1 then some day else g j:=fun j=>by
    unfold zcI;by_cases e:j=z.1
    ·rw[if_pos ⟨.inl rfl,e⟩,if_pos e];rfl
    ·rw[if_neg (fun q=>e q.2),if_neg e]
   obtain⟨a,b,c⟩:=zfr day r (zbl s z.1 z.2) (zcI g (zbk s day zaY z.1 z.2)) nd.2 fun y hy=>by
    rw[st,if_neg (fun e=>nd.1 (by rw[←e];exact List.mem_map.mpr ⟨y,hy,rfl⟩))];exact h y (List.mem_cons_of_mem _ hy)
   obtain⟨d,e1,e2⟩:=h z List.mem_cons_self n;refine⟨⟨.inr (.inr (.inr ⟨rfl,d,e1,Int.ne_of_lt e2⟩)),a⟩,fun j hj=> ?_,fun j=> ?_⟩
   ·refine Eq.trans (b j fun y hy=>hj y (List.mem_cons_of_mem _ hy)) ?_;rw[st,if_neg (fun e=>hj z List.mem_cons_self e.symm)]
   ·rcases c j with q|q
    ·rw[st] at q;split at q
     ·exact .inr q
     ·exact .inl q
    ·exact .inr q
  ·rw[if_neg n];obtain⟨a,b,c⟩:=zfr day r s g nd.2 fun y hy=>h y (List.mem_cons_of_mem _ hy);exact⟨a,fun j hj=>b j fun y hy=>hj y (List.mem_cons_of_mem _ hy),c⟩
theorem zek(s:Pt)(cs:List Int):((zbf s cs).map (·.1)).Nodup:=by
 unfold zbf;rw[List.map_map];have e:cs.zipIdx.map ((fun z:Int×Int=>z.1) ∘ fun z:Int×Nat=>((z.2:Int),z.1 - ((zaw s.2.2 z.2).1+(zaw s.2.2 z.2).2)))=(List.range cs.length).map fun i:Nat=>(i:Int):=by
  rw[show ((fun z:Int×Int=>z.1) ∘ fun z:Int×Nat=>((z.2:Int),z.1 - ((zaw s.2.2 z.2).1+(zaw s.2.2 z.2).2)))=(fun i:Nat=>(i:Int)) ∘ Prod.snd from rfl,←List.map_map,List.zipIdx_map_snd,List.range_eq_range']
 rw[e];exact List.pairwise_map.mpr (List.nodup_range.imp fun h e=>h (by omega))
theorem zgZ{s:Pt}{cs:List Int}: ∀z∈zbf s cs,0≤z.1∧z.1<cs.length:=fun z hz=>by
 obtain⟨i,hi,rfl⟩:=List.mem_iff_getElem.mp hz
 have:=zjh (s:=s) (cs:=cs) (i:=i) (by rw[List.getElem?_eq_getElem hi]);rw[zdo] at hi;omega
theorem zj4{ps:List (Int×Int)}(nd:(ps.map (·.1)).Nodup){x y:Int×Int}(hx:x∈ps)(hy:y∈ps)(e:x.1=y.1):x=y:=by
 induction ps with
 |nil=>nomatch hx
 |cons z r ih=>
  rw[List.map_cons,List.nodup_cons] at nd;rcases List.mem_cons.mp hx with e1|hx<;>rcases List.mem_cons.mp hy with e2|hy
  ·rw[e1,e2]
  ·exact absurd (List.mem_map.mpr ⟨y,hy,by rw[←e,e1]⟩:z.1∈r.map fun x=>x.1) nd.1
  ·exact absurd (List.mem_map.mpr ⟨x,hx,by rw[e,e2]⟩:z.1∈r.map fun x=>x.1) nd.1
  ·exact ih nd.2 hx hy
theorem zj5{day x:Int}{B:Nat}{cs:List Int}{s:Pt}{g:Int→Option Int}(hg:ziA B x g)(hx:x<day)(hl:cs.length=B):zbW (zaZ day cs s).1 g∧ziA B day (zbu (zaZ day cs s).1 g):=by
 have pin: ∀z∈zbf s cs,∃d,g z.1=some d∧d<day:=fun z hz=>by
  have:=zgZ z hz;obtain⟨d,e,l⟩:=hg.2 z.1 this.1 (by omega);exact⟨d,e,by omega⟩
 obtain⟨a1,b1,c1⟩:=zfq day (zbf s cs) s g (zek s cs) pin;obtain⟨a2,b2,c2⟩:=zfr day (zbf s cs) (zaA day (zbf s cs) s).2 (zbu (zaA day (zbf s cs) s).1 g) (zek s cs) fun z hz n=>by
  rw[b1 z.1 fun y hy m e=>by have:=zj4 (zek s cs) hy hz e;subst this;omega];exact pin z hz
 refine⟨zdp _ _ _ a1 a2,fun j hj=> ?_,fun j j0 j1=> ?_⟩
 ·show zbu (_++_) g j=none;have no: ∀z∈zbf s cs,z.1≠j:=fun z hz e=>by have:=zgZ z hz;omega
  rw[zbQ,b2 j no,b1 j fun z hz _=>no z hz];exact hg.1 j hj
 ·show∃d,zbu (_++_) g j=some d∧d≤day;obtain⟨d,e,l⟩:=hg.2 j j0 j1;rw[zbQ];rcases c2 j with q|q
  ·rcases c1 j with q'|q'
   ·exact⟨d,by rw[q,q',e],by omega⟩
   ·exact⟨day,by rw[q,q'],Int.le_refl _⟩
  ·exact⟨day,q,Int.le_refl _⟩
theorem zl7(cst:Int→Int→Int)(ys:List En){day x:Int}{k B:Nat}{isb:Bool}(s:Pt){g:Int→Option Int}(hg:ziA B x g)(hx:x<day)(hB:(if isb=true then k else k+1)=B):zbW (za2 cst ys day k isb s).1 g∧ziA (k+1) day (zbu (za2 cst ys day k isb s).1 g):=by
 obtain⟨r,b,e1,_,hr,hb⟩:=zcn cst ys day k isb s;rw[e1];obtain⟨g1,g2⟩:=zgq (zaP day 0 ys) g fun z hz=>(zdq _ _ _ z hz).2;obtain⟨r1,r2⟩:zbW r.1 g∧ziA B day (zbu r.1 g):=by
  rcases hr with rfl|rfl
  ·exact zj5 hg hx (by rw[List.length_map,List.length_range];exact hB)
  ·exact⟨trivial,hg.1,fun j a c=>(let ⟨d,e,l⟩:=hg.2 j a c;⟨d,e,by omega⟩)⟩
 obtain⟨b1,b2⟩:zbW b.1 (zbu r.1 g)∧ziA (k+1) day (zbu b.1 (zbu r.1 g)):=by
  subst hb;by_cases q:isb=true
  ·rw[if_pos q] at hB ⊢;subst hB;refine⟨⟨.inr (.inr (.inl ⟨rfl,r2.1 _ (.inr (Int.le_refl _))⟩)),trivial⟩,fun j hj=> ?_,fun j j0 j1=> ?_⟩
   ·have:zcI (zbu r.1 g) (zbk r.2 day za1 k (cst day k)) j=none:=by
     unfold zcI;rw[if_neg (fun q=>by have:j=(k:Int):=q.2;omega)];exact r2.1 j (by omega)
    exact this
   ·have: ∃d,zcI (zbu r.1 g) (zbk r.2 day za1 k (cst day k)) j=some d∧d≤day:=by
     unfold zcI;by_cases e:j=(k:Int)
     ·exact⟨day,by rw[if_pos ⟨.inr rfl,e⟩];rfl,Int.le_refl _⟩
     ·rw[if_neg (fun q=>e q.2)];exact r2.2 j j0 (by omega)
    exact this
  ·rw[if_neg q] at hB ⊢;subst hB;exact⟨trivial,r2⟩
 have bk:zbW (za5 day ys b.2).1 (zbu b.1 (zbu r.1 g))∧zbu (za5 day ys b.2).1 (zbu b.1 (zbu r.1 g))=zbu b.1 (zbu r.1 g):=by
  unfold za5;split
  ·dsimp only;split
   ·exact⟨trivial,rfl⟩
   ·refine⟨⟨.inr (.inl ⟨rfl,b2.1 _ (.inl (by show (-1:Int)<0;decide))⟩),trivial⟩,funext fun j=> ?_⟩
    have:zcI (zbu b.1 (zbu r.1 g)) (day,zbr, -1,b.2.2.1,0,0,0) j=zbu b.1 (zbu r.1 g) j:=by
     unfold zcI;rw[if_neg (fun q=>by rcases q.1 with q|q<;>exact absurd (show zbr=_ from q) (by decide))]
    exact this
  ·exact⟨trivial,rfl⟩
 refine⟨zdp _ _ _ (zdp _ _ _ (zdp _ _ _ g1 (by rw[g2];exact r1)) ?_) ?_,?_⟩
 ·rw[zbQ,g2];exact b1
 ·rw[zbQ,zbQ,g2];exact bk.1
 ·rw[zbQ,zbQ,zbQ,g2,bk.2];exact b2
theorem ok_book(cst:Int→Int→Int)(ys:List En){y:Int}{C:Nat}: ∀(ds:List (Int×Nat×Bool)) (s:Pt) (x:Int) (B:Nat) (d0 i0:Int) (g:Int→Option Int),zgn ys y C x B ds→d0≤x→ziA B x g→zbP (zaS cst ys ds s).1 d0 i0∧zbW (zaS cst ys ds s).1 g
 | [],_,_,_,_,_,_,_,_,_=>⟨trivial,trivial⟩
 |z::r,s,x,B,d0,i0,g,h,hd,hg=>by
  obtain⟨xz,_,eB,hr⟩:=h;obtain⟨p1,p2⟩:=ziz cst ys z.1 z.2.1 z.2.2 s (d0:=d0) (i0:=i0) (by omega);obtain⟨q1,q2⟩:=zl7 cst ys s hg xz eB;obtain⟨a,b⟩:=ok_book cst ys r (za2 cst ys z.1 z.2.1 z.2.2 s).2 z.1 (z.2.1+1) (zgY (za2 cst ys z.1 z.2.1 z.2.2 s).1 d0) (ziy (za2 cst ys z.1 z.2.1 z.2.2 s).1 i0) _ hr p2 q2;exact⟨zcJ _ _ _ _ p1 a,zdp _ _ _ q1 b⟩
def tk1(s:Pt)(z:Ln):Pt:=if z.2.1=za9 then (s.1+z.2.2.2.1,s.2) else if z.2.1=zbr then (s.1,s.2.1 - z.2.2.2.1,s.2.2) else (s.1 - z.2.2.2.2.1,s.2.1 - z.2.2.2.2.2.1,zbJ s.2.2 z.2.2.1 ((zaw s.2.2 z.2.2.1).1+z.2.2.2.2.1,(zaw s.2.2 z.2.2.1).2+z.2.2.2.2.2.1+z.2.2.2.2.2.2))
def znl(z:Ln):Prop:=z.2.1=za9∨z.2.1=zbr∨((z.2.1=zaY∨z.2.1=za1)∧z.2.2.2.1=z.2.2.2.2.1+z.2.2.2.2.2.1+z.2.2.2.2.2.2)
def Tkn(s:Pt)(ls:List Ln)(s':Pt):Prop:=ls.foldl tk1 s=s'∧ ∀z∈ls,znl z
theorem Tkn.nil(s:Pt):Tkn s [] s:=⟨rfl,fun _ h=>nomatch h⟩
theorem Tkn.app{s s1 s2:Pt}{a b:List Ln}(h:Tkn s a s1)(k:Tkn s1 b s2):Tkn s (a++b) s2:=⟨by rw[List.foldl_append,h.1,k.1],fun z hz=>(List.mem_append.mp hz).elim (h.2 z) (k.2 z)⟩
theorem zhL(s:Pt)(day:Int){w:List Nat}(hw:w=zaY∨w=za1)(k a:Int):Tkn s [zbk s day w k a] (zbl s k a):=by
 refine⟨?_,fun z hz=> ?_⟩
 ·show tk1 s (zbk s day w k a)=_;unfold tk1 zbk zbl;dsimp only;rw[if_neg (by rcases hw with rfl|rfl<;>decide),if_neg (by rcases hw with rfl|rfl<;>decide)];congr 4;omega
 ·rw[List.mem_singleton.mp hz];exact .inr (.inr ⟨hw,by show a=tkX s a+tkY s a+(a - tkX s a - tkY s a);omega⟩)
theorem zl8(s:Pt)(day k a:Int):Tkn s [zcG s day k a] (zcw s k a):=by
 refine⟨?_,fun z hz=> ?_⟩
 ·show tk1 s (zcG s day k a)=_;unfold tk1 zcG zcw;dsimp only;rw[if_neg (by decide),if_neg (by decide)];have e1:s.1 - -(a - gvY s k a)=s.1+(a - gvY s k a):=by omega
  have e2:s.2.1 - -(gvY s k a)=s.2.1+gvY s k a:=by omega
  have e3:(zaw s.2.2 k).1+ -(a - gvY s k a)=(zaw s.2.2 k).1 - (a - gvY s k a):=by omega
  have e4:(zaw s.2.2 k).2+ -(gvY s k a)+0=(zaw s.2.2 k).2 - gvY s k a:=by omega
  rw[e1,e2,e3,e4]
 ·rw[List.mem_singleton.mp hz];exact .inr (.inr ⟨.inl rfl,by show -a= -(a - gvY s k a)+ -(gvY s k a)+0;omega⟩)
theorem zfs(day:Int): ∀(ps:List (Int×Int)) (s:Pt),Tkn s (zaA day ps s).1 (zaA day ps s).2
 | [],s=>Tkn.nil s
 |z::r,s=>by
  rw[zaA];split
  ·exact(zl8 s day z.1 (-z.2)).app (zfs day r _)
  ·exact zfs day r s
theorem zft(day:Int): ∀(ps:List (Int×Int)) (s:Pt),Tkn s (zaH day ps s).1 (zaH day ps s).2
 | [],s=>Tkn.nil s
 |z::r,s=>by
  rw[zaH];split
  ·exact(zhL s day (.inl rfl) z.1 z.2).app (zft day r _)
  ·exact zft day r s
theorem zel(day:Int): ∀(ys:List En) (n:Nat) (s:Pt),Tkn s (zaP day n ys) (s.1+zau day ys,s.2)
 | [],n,s=>by show Tkn s [] (s.1+0,s.2);rw[Int.add_zero];exact Tkn.nil s
 |(v,ad,e,ch)::r,n,s=>by
  have no:Tkn s (zaP day (n+1) r) (s.1+(0+zau day r),s.2):=by rw[Int.zero_add];exact zel day r (n+1) s
  rw[zaP,zau];cases ch with
  |grant a=>
   by_cases d:e=day
   ·simp only[d,if_true]
    have:=zel day r (n+1) (s.1+a,s.2);rw[show ((s.1+a,s.2).1+zau day r,(s.1+a,s.2).2)=(s.1+(a+zau day r),s.2) by rw[Int.add_assoc]] at this;refine Tkn.app (s1:=(s.1+a,s.2)) ⟨rfl,fun z hz=> ?_⟩ this;rw[List.mem_singleton.mp hz];exact .inl rfl
   ·simp only[d,if_false];exact no
  |_=>exact no
theorem zl9(day:Int)(ys:List En)(s:Pt):Tkn s (za5 day ys s).1 (za5 day ys s).2:=by
 unfold za5;split
 ·dsimp only;split
  ·rename_i z;rw[show (s.1,(0:Int),s.2.2)=s by rw[←z]];exact Tkn.nil s
  ·refine⟨?_,fun z hz=> ?_⟩
   ·show tk1 s (day,zbr, -1,s.2.1,0,0,0)=_;unfold tk1;dsimp only;rw[if_neg (by decide),if_pos rfl,Int.sub_self]
   ·rw[List.mem_singleton.mp hz];exact .inr (.inl rfl)
 ·exact Tkn.nil s
theorem zma(cst:Int→Int→Int)(ys:List En)(day:Int)(k:Nat)(isb:Bool)(s:Pt):Tkn s (za2 cst ys day k isb s).1 (za2 cst ys day k isb s).2:=by
 obtain⟨r,b,e1,e2,hr,hb⟩:=zcn cst ys day k isb s;rw[e1,e2];refine(((zel day ys 0 s).app (?_:Tkn _ r.1 r.2)).app (?_:Tkn r.2 b.1 b.2)).app (zl9 day ys b.2)
 ·rcases hr with rfl|rfl
  ·exact(zfs day _ _).app (zft day _ _)
  ·exact Tkn.nil _
 ·subst hb;split
  ·exact zhL _ day (.inr rfl) _ _
  ·exact Tkn.nil _
theorem zfu(cst:Int→Int→Int)(ys:List En): ∀(ds:List (Int×Nat×Bool)) (s:Pt),Tkn s (zaS cst ys ds s).1 (zaS cst ys ds s).2
 | [],s=>Tkn.nil s
 |z::r,s=>(zma cst ys z.1 z.2.1 z.2.2 s).app (zfu cst ys r _)
theorem zdr(cst:Int→Int→Int)(ys:List En): ∀(ds:List (Int×Nat×Bool)) (s:Pt),∀z∈(zaS cst ys ds s).1,∃y∈ds,z.1=y.1∧(z.2.1=za1→z.2.2.1=y.2.1∧y.2.2=true)
 | [],s,z,h=>nomatch h
 |y::r,s,z,h=>by
  rcases List.mem_append.mp h with h|h
  ·exact⟨y,List.mem_cons_self,zl6 cst ys y.1 y.2.1 y.2.2 s z h⟩
  ·obtain⟨x,hx,e⟩:=zdr cst ys r _ z h;exact⟨x,List.mem_cons_of_mem _ hx,e⟩
def zbv(T:Tab)(B:Nat):Prop:=T.map (·.1)=(List.range B).map fun i:Nat=>(i:Int)
theorem zjn{T:Tab}{k:Int}:(T.any fun z=>decide (z.1=k))=true↔k∈T.map (·.1):=by
 rw[List.any_eq_true,List.mem_map];exact⟨fun⟨z,h,e⟩=>⟨z,h,of_decide_eq_true e⟩,fun⟨z,h,e⟩=>⟨z,h,decide_eq_true e⟩⟩
theorem znm{T:Tab}{k:Int}(v:Int×Int)(h:k∈T.map (·.1)):(zbJ T k v).map (·.1)=T.map (·.1):=by
 unfold zbJ;rw[if_pos (zjn.mpr h),List.map_map];refine List.map_congr_left fun z _=> ?_;show (if z.1=k then (z.1,v) else z).1=z.1;split<;>rfl
theorem znn{T:Tab}{k:Int}(v:Int×Int)(h: ¬k∈T.map (·.1)):(zbJ T k v).map (·.1)=T.map (·.1)++ [k]:=by
 unfold zbJ;rw[if_neg (fun q=>h (zjn.mp q)),List.map_append];rfl
theorem zbv.mem{T:Tab}{B:Nat}(h:zbv T B){k:Int}:k∈T.map (·.1)↔0≤k∧k<B:=by
 rw[h,List.mem_map];refine⟨fun⟨i,hi,e⟩=> ?_,fun q=>⟨k.toNat,List.mem_range.mpr (by omega),by omega⟩⟩
 have:=List.mem_range.mp hi;omega
theorem zbv.put{T:Tab}{B:Nat}(h:zbv T B){k:Int}(v:Int×Int)(k0:0≤k)(k1:k<B):zbv (zbJ T k v) B:=(znm v (h.mem.mpr ⟨k0,k1⟩)).trans h
theorem zbv.new{T:Tab}{B:Nat}(h:zbv T B)(v:Int×Int):zbv (zbJ T B v) (B+1):=by
 unfold zbv;rw[znn v (fun q=>by have:=h.mem.mp q;omega),h,List.range_succ,List.map_append];rfl
theorem zbv.len{T:Tab}{B:Nat}(h:zbv T B):T.length=B:=by
 have:=congrArg List.length h;rwa[List.length_map,List.length_map,List.length_range] at this
theorem zfv(day:Int){B:Nat}: ∀(ps:List (Int×Int)) (s:Pt),(∀z∈ps,0≤z.1∧z.1<(B:Int))→zbv s.2.2 B→zbv (zaA day ps s).2.2.2 B
 | [],_,_,h=>h
 |z::r,s,hz,h=>by
  have hr:=fun y hy=>hz y (List.mem_cons_of_mem _ hy);rw[zaA];split
  ·exact zfv day r _ hr (h.put _ (hz z List.mem_cons_self).1 (hz z List.mem_cons_self).2)
  ·exact zfv day r s hr h
theorem zfw(day:Int){B:Nat}: ∀(ps:List (Int×Int)) (s:Pt),(∀z∈ps,0≤z.1∧z.1<(B:Int))→zbv s.2.2 B→zbv (zaH day ps s).2.2.2 B
 | [],_,_,h=>h
 |z::r,s,hz,h=>by
  have hr:=fun y hy=>hz y (List.mem_cons_of_mem _ hy);rw[zaH];split
  ·exact zfw day r _ hr (h.put _ (hz z List.mem_cons_self).1 (hz z List.mem_cons_self).2)
  ·exact zfw day r s hr h
theorem zmb(cst:Int→Int→Int)(ys:List En)(day:Int){k B:Nat}{isb:Bool}{s:Pt}(hB:(if isb=true then k else k+1)=B)(h:zbv s.2.2 B):zbv (za2 cst ys day k isb s).2.2.2 (k+1):=by
 obtain⟨r,b,_,e2,hr,hb⟩:=zcn cst ys day k isb s;have h1:zbv r.2.2.2 B:=by
  rcases hr with rfl|rfl
  ·have hz: ∀z∈zbf (s.1+zau day ys,s.2) ((List.range (if isb=true then k else k+1)).map fun i:Nat=>cst day i),0≤z.1∧z.1<(B:Int):=fun z hz=>by
    have:=zgZ z hz;rw[List.length_map,List.length_range,hB] at this;exact this
   exact zfw day _ _ hz (zfv day _ _ hz h)
  ·exact h
 have h2:zbv b.2.2.2 (k+1):=by
  subst hb;by_cases q:isb=true
  ·rw[if_pos q] at hB ⊢;subst hB;exact h1.new _
  ·rw[if_neg q] at hB ⊢;subst hB;exact h1
 rw[e2];unfold za5;split
 ·exact h2
 ·exact h2
theorem zhM(cst:Int→Int→Int)(ys:List En){y:Int}{C:Nat}: ∀(ds:List (Int×Nat×Bool)) (s:Pt) (x:Int) (B:Nat),zgn ys y C x B ds→zbv s.2.2 B→zbv (zaS cst ys ds s).2.2.2 C
 | [],s,x,B,h,k=>by rw[←h.1];exact k
 |z::r,s,x,B,h,k=>zhM cst ys r _ z.1 (z.2.1+1) h.2.2.2 (zmb cst ys z.1 h.2.2.1 k)
theorem zpy{f:Int}{dy:Bool}{c:Int}{ys:List En}{day e:Int}{ds:List (Int×Nat×Bool)}(wd:WDays f dy c ys day ds)(he:e≤day): ∃a b,ds=a++b∧WDays f dy c ys e a∧ ∀z∈b,e<z.1:=by
 have key: ∀l:List (Int×Nat×Bool),(l.map (·.1)).Pairwise (· < ·)→ ∃a b,l=a++b∧(∀z∈a,z.1≤e)∧ ∀z∈b,e<z.1:=by
  intro l;induction l with
  |nil=>exact fun _=>⟨[], [],rfl,⟨fun _ h=>(List.not_mem_nil h).elim,fun _ h=>(List.not_mem_nil h).elim⟩⟩
  |cons z r ih=>
   intro h;rw[List.map_cons,List.pairwise_cons] at h;by_cases q:z.1≤e
   ·obtain⟨a,b,e1,h1,h2⟩:=ih h.2;exact⟨z::a,b,by rw[e1];rfl,fun y hy=>(List.mem_cons.mp hy).elim (fun e=>e ▸ q) (h1 y),h2⟩
   ·refine⟨[],z::r,rfl,⟨fun _ h=>(List.not_mem_nil h).elim,fun y hy=> ?_⟩⟩;rcases List.mem_cons.mp hy with rfl|hy
    ·omega
    ·have:=h.1 y.1 (List.mem_map.mpr ⟨y,hy,rfl⟩);omega
 obtain⟨a,b,e1,h1,h2⟩:=key ds wd.up;subst e1;refine⟨a,b,rfl,⟨?_,fun z hz=>wd.sp z (List.mem_append_left _ hz),fun x=> ?_⟩,h2⟩
 ·have:=wd.up;rw[List.map_append] at this;exact(List.pairwise_append.mp this).1
 ·have m:=wd.mem x;rw[List.map_append,List.mem_append] at m;refine⟨fun h=> ?_,fun h=> ?_⟩
  ·obtain⟨z,hz,rfl⟩:=List.mem_map.mp h;exact⟨h1 z hz,(m.mp (.inl h)).2⟩
  ·rcases m.mpr ⟨by omega,h.2⟩ with q|q
   ·exact q
   ·obtain⟨z,hz,rfl⟩:=List.mem_map.mp q
    have:=h2 z hz;omega
end L2
namespace K64
open PySem L2
seal L2.PE L2.PA L2.PS L2.PSs L2.PT L2.PW L2.PG L2.PGs L2.PI L2.PO L2.PIf L2.PQ L2.PWQ
def top(i:Nat):Stmt:=PySem.Challenge.pw_paidspan_k64_one_line_a_span_a_day.main.body.getD i (.Pass ⟨0,0,0,0⟩)
def inner(s:Stmt)(j:Nat):Stmt:=match s with
 | .ClassDef _ _ _ b _ _ _ _ _ _ _=>b.getD j (.Pass ⟨0,0,0,0⟩)
 |_=> .Pass ⟨0,0,0,0⟩
abbrev s_00:Stmt:=top 0
abbrev s_01:Stmt:=top 14
abbrev s_02:Stmt:=top 15
abbrev s_03:Stmt:=top 16
abbrev s_04:Stmt:=top 17
abbrev s_05:Stmt:=top 18
abbrev s_06:Stmt:=top 19
abbrev s_07:Stmt:=top 20
abbrev s_08:Stmt:=top 23
abbrev s_09:Stmt:=top 24
abbrev s_0a:Stmt:=top 26
abbrev s_0b:Stmt:=top 27
abbrev s_0c:Stmt:=top 29
abbrev s_0d:Stmt:=top 32
abbrev s_0e:Stmt:=top 33
abbrev s_0f:Stmt:=top 34
abbrev s_0g:Stmt:=top 35
abbrev s_0h:Stmt:=top 37
abbrev s_0i:Stmt:=top 38
abbrev s_0j:Stmt:=top 39
abbrev s_0k:Stmt:=top 40
abbrev s_0l:Stmt:=top 41
abbrev s_0m:Stmt:=top 42
abbrev s_0n:Stmt:=top 45
abbrev s_0o:Stmt:=top 46
abbrev s_0p:Stmt:=top 47
abbrev s_0q:Stmt:=top 51
abbrev s_0r:Stmt:=top 52
abbrev s_0s:Stmt:=top 53
abbrev s_0t:Stmt:=top 54
abbrev s_0u:Stmt:=top 55
abbrev s_0v:Stmt:=top 56
abbrev s_0w:Stmt:=top 57
abbrev s_0x:Stmt:=top 58
abbrev s_0y:Stmt:=top 59
abbrev s_0z:Stmt:=top 60
abbrev s_10:Stmt:=top 61
abbrev s_11:Stmt:=top 63
abbrev s_12:Stmt:=top 64
abbrev s_13:Stmt:=top 65
abbrev s_14:Stmt:=top 66
abbrev s_15:Stmt:=top 67
abbrev s_16:Stmt:=top 68
abbrev s_17:Stmt:=top 69
abbrev s_18:Stmt:=top 70
abbrev s_19:Stmt:=top 71
abbrev s_1a:Stmt:=top 72
abbrev s_1b:Stmt:=top 73
abbrev s_1c:Stmt:=top 74
abbrev s_1d:Stmt:=top 75
abbrev s_1e:Stmt:=inner (top 49) 0
abbrev s_1f:Stmt:=inner (top 49) 1
abbrev s_1g:Stmt:=inner (top 49) 2
abbrev s_1h:Stmt:=inner (top 49) 3
abbrev s_1i:Stmt:=inner (top 49) 4
abbrev s_1j:Stmt:=inner (top 49) 5
abbrev s_1k:Stmt:=inner (top 49) 6
theorem st_4:Str.ofString "months"=SL [109,111,110,116,104,115]:=by decide+kernel
theorem st_9:Str.ofString "last"=SL [108,97,115,116]:=by decide+kernel
theorem st_10:Str.ofString "on"=SL [111,110]:=by decide+kernel
theorem st_11:Str.ofString "plan"=SL [112,108,97,110]:=by decide+kernel
theorem st_12:Str.ofString "seats"=SL [115,101,97,116,115]:=by decide+kernel
theorem st_13:Str.ofString "undo"=SL [117,110,100,111]:=by decide+kernel
theorem st_14:Str.ofString "grant"=SL [103,114,97,110,116]:=by decide+kernel
theorem st_15:Str.ofString "right"=SL [114,105,103,104,116]:=by decide+kernel
theorem st_16:Str.ofString "back"=SL [98,97,99,107]:=by decide+kernel
theorem st_17:Str.ofString "bill"=SL [98,105,108,108]:=by decide+kernel
theorem st_18:Str.ofString "abcdefghijklmnopqrstuvwxyz"=SL [97,98,99,100,101,102,103,104,105,106,107,108,109,110,111,112,113,114,115,116,117,118,119,120,121,122]:=by decide+kernel
theorem st_19:Str.ofString "abcdefgh"=SL [97,98,99,100,101,102,103,104]:=by decide+kernel
theorem st_20:Str.ofString "days"=SL [100,97,121,115]:=by decide+kernel
theorem st_21:Str.ofString "hold"=SL [104,111,108,100]:=by decide+kernel
theorem st_22:Str.ofString "go"=SL [103,111]:=by decide+kernel
theorem st_23:Str.ofString "stop"=SL [115,116,111,112]:=by decide+kernel
set_option genInjectivity false in
set_option genSizeOf false in
structure Adr where
 a_00:Addr
 d_00:FuncData
 a_01:Addr
 d_01:FuncData
 a_02:Addr
 d_02:FuncData
 a_03:Addr
 d_03:FuncData
 a_04:Addr
 d_04:FuncData
 a_05:Addr
 d_05:FuncData
 a_06:Addr
 d_06:FuncData
 a_07:Addr
 d_07:FuncData
 a_08:Addr
 d_08:FuncData
 a_09:Addr
 d_09:FuncData
 a_0a:Addr
 d_0a:FuncData
 a_0b:Addr
 d_0b:FuncData
 a_0c:Addr
 d_0c:FuncData
 a_0d:Addr
 d_0d:FuncData
 a_0e:Addr
 d_0e:FuncData
 a_0f:Addr
 d_0f:FuncData
 a_0g:Addr
 d_0g:FuncData
 a_0h:Addr
 d_0h:FuncData
 a_0i:Addr
 d_0i:FuncData
 a_0j:Addr
 d_0j:FuncData
 a_0k:Addr
 d_0k:FuncData
 a_0l:Addr
 d_0l:FuncData
 a_0m:Addr
 d_0m:FuncData
 a_0n:Addr
 d_0n:FuncData
 a_0o:Addr
 d_0o:FuncData
 a_0p:Addr
 d_0p:FuncData
 a_0q:Addr
 d_0q:FuncData
 a_0r:Addr
 d_0r:FuncData
 a_0s:Addr
 d_0s:FuncData
 a_0t:Addr
 d_0t:FuncData
 a_0u:Addr
 d_0u:FuncData
 a_0v:Addr
 d_0v:FuncData
 a_0w:Addr
 d_0w:FuncData
 a_0x:Addr
 d_0x:FuncData
 a_0y:Addr
 d_0y:FuncData
 a_0z:Addr
 d_0z:FuncData
 a_10:Addr
 d_10:FuncData
 a_11:Addr
 d_11:FuncData
 a_12:Addr
 d_12:FuncData
 a_13:Addr
 d_13:FuncData
 a_14:Addr
 d_14:FuncData
 a_15:Addr
 d_15:FuncData
 a_16:Addr
 d_16:FuncData
 a_17:Addr
 d_17:FuncData
 a_18:Addr
 d_18:FuncData
 a_19:Addr
 d_19:FuncData
 a_1a:Addr
 d_1a:FuncData
 a_1b:Addr
 d_1b:FuncData
 a_1c:Addr
 d_1c:FuncData
 a_1d:Addr
 d_1d:FuncData
 a_1e:Addr
 d_1e:FuncData
 a_1f:Addr
 d_1f:FuncData
 a_1g:Addr
 d_1g:FuncData
 a_1h:Addr
 d_1h:FuncData
 a_1i:Addr
 d_1i:FuncData
 a_1j:Addr
 d_1j:FuncData
 a_1k:Addr
 d_1k:FuncData
 c_Z0a:Addr
 c_Z05:Addr
 c_Z06:Addr
 c_Z0c:Addr
 c_Z07:Addr
structure Txt (w:World) (K:Fg) (mg:Str→Option Value) (t:Adr):Prop where
 F_00:DF K mg "_wall" ["k"] s_00 t.a_00 t.d_00
 F_01:DF K mg "has_leap_day" ["year"] s_01 t.a_01 t.d_01
 F_02:DF K mg "days_in" ["year","month"] s_02 t.a_02 t.d_02
 F_03:DF K mg "days_ahead_of_year" ["year"] s_03 t.a_03 t.d_03
 F_04:DF K mg "day_of" ["year","month","day"] s_04 t.a_04 t.d_04
 F_05:DF K mg "year_of" ["number"] s_05 t.a_05 t.d_05
 F_06:DF K mg "date_of" ["number"] s_06 t.a_06 t.d_06
 F_07:DF K mg "months_on" ["number","many"] s_07 t.a_07 t.d_07
 F_08:DF K mg "begin_of" ["first","cycle","k"] s_08 t.a_08 t.d_08
 F_09:DF K mg "span_on" ["first","cycle","day"] s_09 t.a_09 t.d_09
 F_0a:DF K mg "span_days" ["account","k"] s_0a t.a_0a t.d_0a
 F_0b:DF K mg "span_with" ["account","day"] s_0b t.a_0b t.d_0b
 F_0c:DF K mg "share" ["price","count","begin","end"] s_0c t.a_0c t.d_0c
 F_0d:DF K mg "counts_from" ["account","change"] s_0d t.a_0d t.d_0d
 F_0e:DF K mg "in_order" ["account","terms"] s_0e t.a_0e t.d_0e
 F_0f:DF K mg "state_by" ["ordered","day"] s_0f t.a_0f t.d_0f
 F_0g:DF K mg "stretches_by" ["ordered","begin","end"] s_0g t.a_0g t.d_0g
 F_0h:DF K mg "price_and_count" ["account","name"] s_0h t.a_0h t.d_0h
 F_0i:DF K mg "stretch_cost" ["account","span","stretch"] s_0i t.a_0i t.d_0i
 F_0j:DF K mg "lines_ahead" ["account","ordered","span","day"] s_0j t.a_0j t.d_0j
 F_0k:DF K mg "cost_of" ["lines"] s_0k t.a_0k t.d_0k
 F_0l:DF K mg "span_lines" ["account","terms","k"] s_0l t.a_0l t.d_0l
 F_0m:DF K mg "span_cost" ["account","terms","k"] s_0m t.a_0m t.d_0m
 F_0n:DF K mg "is_term" ["change"] s_0n t.a_0n t.d_0n
 F_0o:DF K mg "standing_terms" ["entries"] s_0o t.a_0o t.d_0o
 F_0p:DF K mg "terms_at" ["entries","moment"] s_0p t.a_0p t.d_0p
 F_0q:DF K mg "costs_by" ["account","entries","many","moment"] s_0q t.a_0q t.d_0q
 F_0r:DF K mg "days_entered" ["entries"] s_0r t.a_0r t.d_0r
 F_0s:DF K mg "work_days" ["account","entries","day"] s_0s t.a_0s t.d_0s
 F_0t:DF K mg "grant_lines" ["pots","entries","day"] s_0t t.a_0t t.d_0t
 F_0u:DF K mg "line_of_less" ["pots","day","k","amount"] s_0u t.a_0u t.d_0u
 F_0v:DF K mg "line_of_more" ["pots","day","kind","k","amount"] s_0v t.a_0v t.d_0v
 F_0w:DF K mg "right_lines" ["pots","day","costs"] s_0w t.a_0w t.d_0w
 F_0x:DF K mg "back_lines" ["pots","entries","day"] s_0x t.a_0x t.d_0x
 F_0y:DF K mg "work_of_day" ["account","entries","pots","day"] s_0y t.a_0y t.d_0y
 F_0z:DF K mg "keep_book" ["account","entries","day"] s_0z t.a_0z t.d_0z
 F_10:DF K mg "book_lines" ["account","entries","day"] s_10 t.a_10 t.d_10
 F_11:DF K mg "_law_mixed" ["_law_cell","_law_k"] s_11 t.a_11 t.d_11
 F_12:DF K mg "_law_draw" ["_law_script","_law_k"] s_12 t.a_12 t.d_12
 F_13:DF K mg "_law_names" ["_law_cell"] s_13 t.a_13 t.d_13
 F_14:DF K mg "_law_plans" ["_law_cell","_law_names_here"] s_14 t.a_14 t.d_14
 F_15:DF K mg "_law_account" ["_law_script"] s_15 t.a_15 t.d_15
 F_16:DF K mg "_law_reach" ["_law_account_here","_law_far"] s_16 t.a_16 t.d_16
 F_17:DF K mg "_law_change" ["_law_x","_law_number","_law_entered","_law_account_here","_law_reach_here","_law_open_terms"] s_17 t.a_17 t.d_17
 F_18:DF K mg "_law_entries" ["_law_script","_law_account_here","_law_reach_here","_law_start","_law_many"] s_18 t.a_18 t.d_18
 F_19:DF K mg "_law_case" ["_law_script"] s_19 t.a_19 t.d_19
 F_1a:DF K mg "_law_in_order" ["_law_lines"] s_1a t.a_1a t.d_1a
 F_1b:DF K mg "_law_taken" ["_law_lines","_law_day"] s_1b t.a_1b t.d_1b
 F_1c:DF K mg "_law_right" ["_law_lines","_law_account_here","_law_entries_here","_law_day"] s_1c t.a_1c t.d_1c
 F_1d:DF K mg "law" ["_law_script"] s_1d t.a_1d t.d_1d
 me_1e:Meth K t.c_Z07 "__init__" t.a_1e
 fn_1e:Fun K "__init__" "Pots.__init__" s_1e t.a_1e t.d_1e
 b_1e:zbM K t.d_1e ["self"] []
 me_1f:Meth K t.c_Z07 "grant" t.a_1f
 fn_1f:Fun K "grant" "Pots.grant" s_1f t.a_1f t.d_1f
 b_1f:zbM K t.d_1f ["self","amount"] []
 me_1g:Meth K t.c_Z07 "take" t.a_1g
 fn_1g:Fun K "take" "Pots.take" s_1g t.a_1g t.d_1g
 b_1g:zbM K t.d_1g ["self","k","amount"] []
 me_1h:Meth K t.c_Z07 "give" t.a_1h
 fn_1h:Fun K "give" "Pots.give" s_1h t.a_1h t.d_1h
 b_1h:zbM K t.d_1h ["self","k","amount"] []
 me_1i:Meth K t.c_Z07 "pay_back" t.a_1i
 fn_1i:Fun K "pay_back" "Pots.pay_back" s_1i t.a_1i t.d_1i
 b_1i:zbM K t.d_1i ["self"] []
 me_1j:Meth K t.c_Z07 "took" t.a_1j
 fn_1j:Fun K "took" "Pots.took" s_1j t.a_1j t.d_1j
 b_1j:zbM K t.d_1j ["self","k"] []
 me_1k:Meth K t.c_Z07 "left" t.a_1k
 fn_1k:Fun K "left" "Pots.left" s_1k t.a_1k t.d_1k
 b_1k:zbM K t.d_1k ["self"] []
 mg_Z0a:mg "SpanError"=some (.ref t.c_Z0a)
 mg_Z05:mg "NoDate"=some (.ref t.c_Z05)
 mg_Z06:mg "NoSpan"=some (.ref t.c_Z06)
 mg_Z0c:mg "TooLong"=some (.ref t.c_Z0c)
 mg_Z07:mg "Pots"=some (.ref t.c_Z07)
 cs_Z07:Cls K t.c_Z07
 mk_Z07:Mk K t.c_Z07 t.a_1e
 na_Pots_given:zcx K t.c_Z07 "given"
 na_Pots_own:zcx K t.c_Z07 "own"
 na_Pots_taken:zcx K t.c_Z07 "taken"
 ex_Z05:Exc K t.c_Z05
 ex_Z06:Exc K t.c_Z06
 ex_Z0c:Exc K t.c_Z0c
 k_Z03: ∃u,mg "LAST_YEAR"=some u∧zaC (.int 9999) u
 k_Z02: ∃u,mg "LAST_DAY"=some u∧zaC (.int 3652058) u
 k_Z04: ∃a,mg "MONTH_DAYS"=some (.ref a)∧ ∀H,SqT K H a [.int 31, .int 28, .int 31, .int 30, .int 31, .int 30, .int 31, .int 31, .int 30, .int 31, .int 30, .int 31]
 k_Z08: ∃u,mg "ROUND_DAYS"=some u∧zaC (.int 146097) u
 k_Z01: ∃u,mg "HUNDRED_YEARS_DAYS"=some u∧zaC (.int 36524) u
 k_Z00: ∃u,mg "FOUR_YEARS_DAYS"=some u∧zaC (.int 1461) u
 k_Z0e: ∃u,mg "YEAR_DAYS"=some u∧zaC (.int 365) u
 k_Z09: ∃u,mg "SPANS"=some u∧zaC (.int 60) u
 k_Z0d:zqo w K mg "WORDS" [(SL [104,111,108,100], .str (SL [104,101,108,100])),(SL [103,111], .str (SL [111,110])),(SL [115,116,111,112], .str (SL [111,102,102])),(SL [108,97,115,116], .str (SL [111,102,102]))]
 k_Z0b: ∃a,mg "TERMS"=some (.ref a)∧ ∀H,SqT K H a [.str (SL [112,108,97,110]), .str (SL [115,101,97,116,115]), .str (SL [104,111,108,100]), .str (SL [103,111]), .str (SL [115,116,111,112]), .str (SL [108,97,115,116])]
 no_range:mg "range"=none
 no_divmod:mg "divmod"=none
 no_min:mg "min"=none
 no_sorted:mg "sorted"=none
 no_sum:mg "sum"=none
 no_enumerate:mg "enumerate"=none
 no_list:mg "list"=none
 no_set:mg "set"=none
 no_len:mg "len"=none
 no_int:mg "int"=none
 cl_Z0a:ClsOk K t.c_Z0a
 cl_Z05:ClsOk K t.c_Z05
 cl_Z06:ClsOk K t.c_Z06
 cl_Z0c:ClsOk K t.c_Z0c
 cl_Z07:ClsOk K t.c_Z07
 xc_NoSpan:ExcCls K t.c_Z06
 xc_TooLong:ExcCls K t.c_Z0c
 m_NoSpan_SpanError:PySem.W.mroIn K t.c_Z06 (.ref t.c_Z0a)=some true
 m_NoSpan_NoDate:PySem.W.mroIn K t.c_Z06 (.ref t.c_Z05)=some false
 m_NoSpan_NoSpan:PySem.W.mroIn K t.c_Z06 (.ref t.c_Z06)=some true
 m_NoSpan_TooLong:PySem.W.mroIn K t.c_Z06 (.ref t.c_Z0c)=some false
 m_NoSpan_Pots:PySem.W.mroIn K t.c_Z06 (.ref t.c_Z07)=some false
 m_NoSpan_ValueError:PySem.W.mroIn K t.c_Z06 (.type "ValueError")=some true
 m_TooLong_SpanError:PySem.W.mroIn K t.c_Z0c (.ref t.c_Z0a)=some true
 m_TooLong_NoDate:PySem.W.mroIn K t.c_Z0c (.ref t.c_Z05)=some false
 m_TooLong_NoSpan:PySem.W.mroIn K t.c_Z0c (.ref t.c_Z06)=some false
 m_TooLong_TooLong:PySem.W.mroIn K t.c_Z0c (.ref t.c_Z0c)=some true
 m_TooLong_Pots:PySem.W.mroIn K t.c_Z0c (.ref t.c_Z07)=some false
 m_TooLong_ValueError:PySem.W.mroIn K t.c_Z0c (.type "ValueError")=some true
 m_SpanError_BaseException:PySem.W.mroIn K t.c_Z0a (.type "BaseException")=some true
section
local macro_rules| `(tactic|lge_open0)=> `(tactic|dsimp only[zdc,rJ,rJ0,rUJ,zdd,zlz,znP,zlA,znQ,ipJ,asT,tQ,tQN,zje,zjf,znb,zhC,znc,znd,zlI,zjc,zjd,ziq,zlE,zeE,zqv,zqw,zjU,zjV,zhA,zim,zqy,zqz,zpc,zpd,zpe,zpf,zpg,zph,zpi,zpj,zpk,zpl,zpm,zpn,zpo,zpp,zpq,zpr,zo5,zo6,zo7,zo8,zo9,zpa,zna,zpb,zle,zp3,zp4,ziR,zkw,znJ,zp5,zp6,zlc,zoA,zk4,zla,zk9,znL,tDc,zou,zc4,zov,List.replicate,Option.join_some,Option.join_none,zp7,zqR,zmD,Int.reduceToNat,Int.reduceNeg,Int.reduceAdd,Int.reduceSub,Int.reduceMul,zpY,zkh,zkk,znE,zkm,zdL,zeI,zkl,tC,tOp,tUn,tB,zkv,zku,zgC,tCB,rEq,rNe,L2.start,List.length_cons,List.length_nil,List.cons_append,List.nil_append,List.replicate_succ,List.replicate_zero,Nat.reduceAdd,Nat.reduceSub,List.getElem?_cons_zero,List.getElem?_cons_succ,List.set_cons_zero,List.set_cons_succ,Bool.not_true,Bool.not_false])
local macro_rules| `(tactic|lgec_open0)=> `(tactic|simp only[zdY,zcv,zfd,zlJ,zlK,zeD,zhB,zjb,zmT,zkM,zkN,zcR,slT,Int.reduceLT,Int.reduceLE,forall_const,zmO,zmP,zmQ,zmR,zmS,List.append_nil,Option.some.injEq,V.int.injEq,V.bl.injEq,V.ref.injEq,V.str.injEq,exists_eq_left',exists_eq_left,exists_eq',exists_and_left,List.cons.injEq,and_true,true_and,and_self,and_assoc,decide_eq_true_eq,if_true,if_false,Bool.true_eq_false,Bool.false_eq_true,Bool.not_eq_true',decide_eq_false_iff_not,ite_true,ite_false,reduceCtorEq,false_and,exists_false,false_or,or_false,and_false,Nat.reduceLeDiff])
local macro_rules| `(tactic|open_k0)=> `(tactic|((try lge_open0);(try (lgec_open0;(try lge_open0);(try lgec_open0)))))
local macro_rules| `(tactic|kdl_open)=> `(tactic|(intro vs H Q E h;(repeat (rcases h with⟨_,h⟩));subst_vars;rfl))
local macro_rules| `(tactic|sl_open)=> `(tactic|exact⟨rfl,rfl,rfl,by decide+kernel,rfl,by decide+kernel,by decide+kernel⟩)
variable {P:Program} {w:World} {K:Fg} {mg:Str→Option Value} {base:Heap} {t:Adr}
def zpz:Sp:=fun vs H Q _=> ∃y:Int,vs= [.int y]∧Q (.bl (decide (Cal.lp y=1))) H
theorem sc_01:FnScope ["year"] ["year"] (zak s_01):=by sl_open
theorem ok_01(T:Txt w K mg t):FnOk P w K mg base (CXE P w) 1 t.a_01 t.d_01 ["year"] zpz:=by
 refine T.F_01.fn.okX sc_01 (fun vs H Q E h=> ?_) (fun cdv A outer s H vs Q E L hr h=> ?_)
 ·obtain⟨y,rfl,_⟩:=h;rfl
 obtain⟨y,rfl,q⟩:=h;have nd:=sc_01.nd;refine⟨_,(zag (zap (zi8 (zbG zcY (zah zas (pvJ 0) zac) zac (za3 _)) (zhX (zo3 (zbG znG (zah zas (pvJ 0) zac) zac (za3 _)) (zhX (zbG zcY (zah zas (pvJ 0) zac) zac (za3 _)))))))),?_⟩;open_k0;have e: ∀b,b=decide (Cal.lp y=1)→Q (.bl b) H:=fun b z=>by rw[z];exact q
 split
 ·split
  ·exact e _ (by simp [Cal.lp, *])
  ·refine e _ ?_;by_cases c:y % 400=0<;>simp [Cal.lp, *]
 ·exact e _ (by simp [Cal.lp, *])
def ziB(y m:Int):Prop:=1≤y∧y≤9999∧1≤m∧m≤12
def zpA(t:Adr):Sp:=fun vs H Q E=> ∃y m:Int,vs= [.int y, .int m]∧(ziB y m→Q (.int (Cal.dim y m)) H)∧(¬ziB y m→E (.ref t.c_Z05) none H)
theorem zfx{m:Int}(h1:1≤m)(h2:m≤12):atI [V.int 31,V.int 28,V.int 31,V.int 30,V.int 31,V.int 30,V.int 31,V.int 31,V.int 30,V.int 31,V.int 30,V.int 31] (m - 1)=some (.int (if m=2 then 28 else if m=4∨m=6∨m=9∨m=11 then 30 else 31)):=by
 have q:m=1∨m=2∨m=3∨m=4∨m=5∨m=6∨m=7∨m=8∨m=9∨m=10∨m=11∨m=12:=by omega
 rcases q with rfl|rfl|rfl|rfl|rfl|rfl|rfl|rfl|rfl|rfl|rfl|rfl<;>rfl
theorem sc_02:FnScope ["year","month"] ["year","month"] (zak s_02):=by sl_open
theorem ok_02(T:Txt w K mg t):FnOk P w K mg base (CXE P w) 2 t.a_02 t.d_02 ["year","month"] (zpA t):=by
 refine T.F_02.fn.okX sc_02 (fun vs H Q E h=> ?_) (fun cdv A outer s H vs Q E L hr h=> ?_)
 ·obtain⟨y,m,rfl,_⟩:=h;rfl
 obtain⟨y,m,rfl,q1,q2⟩:=h;have nd:=sc_02.nd;obtain⟨a_Z04,h_Z04,q_Z04⟩:=T.k_Z04;have r_Z04:zaC (.ref a_Z04) (.ref a_Z04):=rfl;obtain⟨u_Z03,h_Z03,r_Z03⟩:=T.k_Z03;refine⟨_,(zad (zay (PWQ.pq (zck (zaV zbL (pvJ 0) zac) (zca (zaV zdu (pvJ 0) (zbx (by rfl) h_Z03 r_Z03))))) (zag (zbI L T.ex_Z05 (by rfl) (by rfl) T.mg_Z05 (zaa zcO zae))) zav) (zad (zay (PWQ.pq (zck (zaV zbL (pvJ 1) zac) (zca (zaV zdu (pvJ 1) zac)))) (zag (zbI L T.ex_Z05 (by rfl) (by rfl) T.mg_Z05 (zaa zcO zae))) zav) (zad (zay (PWQ.pq (zb2 (zbC (pvJ 1) zac) (zbO (zcF (zeH (peD L.toLv (ok_01 T) hr T.F_01 (zaa (pvJ 0) zae))))))) (zag (zap zac)) zav) (zag (zap (ixJ zaq (zbx (by rfl) h_Z04 r_Z04) (zah zaK (pvJ 1) zac))))))),?_⟩;open_k0;split
 ·exact q2 (fun z=>by obtain⟨_,_,_,_⟩:=z;omega)
 split
 ·exact q2 (fun z=>by obtain⟨_,_,_,_⟩:=z;omega)
 split
 ·exact q2 (fun z=>by obtain⟨_,_,_,_⟩:=z;omega)
 split
 ·exact q2 (fun z=>by obtain⟨_,_,_,_⟩:=z;omega)
 have ok:ziB y m:=⟨by omega,by omega,by omega,by omega⟩
 have q:=q1 ok;split
 ·rename_i h2;subst h2;refine⟨y,rfl,_,rfl,?_⟩;have l:=Cal.lp_01 y;have e:Cal.dim y 2=28+Cal.lp y:=rfl;rw[e] at q;split
  ·rename_i c;have z:Cal.lp y=1:=of_decide_eq_true c;rw[z] at q;exact q
  ·rename_i c;have z:Cal.lp y≠1:=of_decide_eq_false (Bool.eq_false_iff.mpr c);refine ixT (q_Z04 _) (zfx (by omega) (by omega)) ?_;have z0:Cal.lp y=0:=by omega
   rw[z0] at q;exact q
 ·rename_i h2;refine ixT (q_Z04 _) (zfx (by omega) (by omega)) ?_;rw[if_neg h2];unfold Cal.dim at q;rw[if_neg h2] at q;exact q
def zno:Sp:=fun vs H Q _=> ∃y:Int,vs= [.int y]∧Q (.int (Cal.ahead y)) H
theorem sc_03:FnScope ["year","past"] ["year"] (zak s_03):=by sl_open
theorem ok_03(T:Txt w K mg t):FnOk P w K mg base (CXE P w) 1 t.a_03 t.d_03 ["year"] zno:=by
 refine T.F_03.fn.okX sc_03 (fun vs H Q E h=> ?_) (fun cdv A outer s H vs Q E L hr h=> ?_)
 ·obtain⟨y,rfl,_⟩:=h;rfl
 obtain⟨y,rfl,q⟩:=h;have nd:=sc_03.nd;obtain⟨u_Z0e,h_Z0e,r_Z0e⟩:=T.k_Z0e;refine⟨_,(zad (psJ 1 nd (zah zaK (pvJ 0) zac)) (zag (zap (zah zat (zah zaK (zah zat (zah zbi (pvJ 1) (zbx (by rfl) h_Z0e r_Z0e)) (zah zaN (pvJ 1) zac)) (zah zaN (pvJ 1) zac)) (zah zaN (pvJ 1) zac))))),?_⟩;open_k0;exact⟨Or.inr ⟨by decide,by decide⟩,q⟩
def znp(t:Adr):Sp:=fun vs H Q E=> ∃y m d:Int,vs= [.int y, .int m, .int d]∧(Cal.Valid y m d→Q (.int (Cal.num y m d)) H)∧(¬Cal.Valid y m d→E (.ref t.c_Z05) none H)
theorem sc_04:FnScope ["year","month","day","ahead","earlier"] ["year","month","day"] (zak s_04):=by sl_open
theorem ok_04(T:Txt w K mg t):FnOk P w K mg base (CXE P w) 3 t.a_04 t.d_04 ["year","month","day"] (znp t):=by
 refine T.F_04.fn.okX sc_04 (fun vs H Q E h=> ?_) (fun cdv A outer s H vs Q E L hr h=> ?_)
 ·obtain⟨y,m,d,rfl,_⟩:=h;rfl
 obtain⟨y,m,d,rfl,q1,q2⟩:=h;have nd:=sc_04.nd;refine⟨_,(zad (zay (PWQ.pq (zck (zaV zbL (pvJ 2) zac) (zca (zaV zdu (pvJ 2) (peD L.toLv (ok_02 T) hr T.F_02 (zaa (pvJ 0) (zaa (pvJ 1) zae zab) zab)))))) (zag (zbI L T.ex_Z05 (by rfl) (by rfl) T.mg_Z05 (zaa zcO zae))) zav) (zad (psJ 3 nd (peD L.toLv (ok_03 T) hr T.F_03 (zaa (pvJ 0) zae))) (zad (zbs (by passes_own) rfl (zjy (by rfl) T.no_range (zaa zac (zaa (pvJ 1) zae zab) zaf)) (zai (i:=4) nd rfl (Or.inl rfl)) (zag (zeC (i:=3) nd rfl (Or.inl rfl) (peD L.toLv (ok_02 T) hr T.F_02 (zaa (pvJ 0) (zaa (pvJ 4) zae zab) zab)) zi9))) (zag (zap (zah zaK (zah zat (pvJ 3) (pvJ 2)) zac)))))),?_⟩;open_k0;split
 ·exact q2 (fun z=>by obtain⟨_,_,_,_,_,_⟩:=z;omega)
 refine⟨y,m,rfl,fun ok=> ?_,fun no=>q2 (fun z=>no ⟨z.1,z.2.1,z.2.2.1,z.2.2.2.1⟩)⟩;obtain⟨o1,o2,o3,o4⟩:=ok;open_k0;split
 ·exact q2 (fun z=>by obtain⟨_,_,_,_,_,_⟩:=z;omega)
 have va:Cal.Valid y m d:=⟨o1,o2,o3,o4,by omega,by omega⟩
 have q:=q1 va;refine⟨y,rfl,?_⟩;first|refine⟨_,rfl,1,m,rfl,⟨by decide,by decide,by omega,by omega⟩,?_⟩|refine⟨1,m,rfl,⟨by decide,by decide,by omega,by omega⟩,?_⟩
 refine zcz (fun i σ1 H1=>H1=H∧ ∃e,σ1= [some (.int y),some (.int m),some (.int d),some (.int (Cal.ahead y+Cal.cum y ((i:Int)+1))),e]) ⟨rfl,none,?_⟩ (fun i σ1 H1 hi h=> ?_) (fun σ1 H1 h=> ?_)
 ·have e:Cal.ahead y+Cal.cum y (((0:Nat):Int)+1)=Cal.ahead y:=by
   rw[show (((0:Nat):Int)+1)=1 from rfl,Cal.cum_one];omega
  rw[e]
 ·obtain⟨rfl,e,rfl⟩:=h;open_k0;refine⟨y,1+(i:Int),rfl,fun _=> ?_,fun no=>absurd ⟨o1,o2,by omega,by omega⟩ no⟩;refine⟨_,rfl,rfl,?_⟩;have s:=Cal.cum_succ (y:=y) (m:=(i:Int)+1) (by omega) (by omega);have e1:((i+1:Nat):Int)+1=(i:Int)+1+1:=by omega
  have e2:(1:Int)+(i:Int)=(i:Int)+1:=by omega
  rw[e1,s,e2,Int.add_assoc]
 ·obtain⟨rfl,e,rfl⟩:=h;open_k0;have e1:(((m - 1).toNat:Nat):Int)+1=m:=by omega
  rw[e1];exact q
def zmc:Sp:=fun vs H Q _=> ∃n:Int,vs= [.int n]∧ ∀H',zam H H'→Q (.int (Cal.yearOf n)) H'
theorem sc_05:FnScope ["number","rounds","rest","hundreds","fours","ones"] ["number"] (zak s_05):=by sl_open
theorem ok_05(T:Txt w K mg t):FnOk P w K mg base (CXE P w) 1 t.a_05 t.d_05 ["number"] zmc:=by
 refine T.F_05.fn.okX sc_05 (fun vs H Q E h=> ?_) (fun cdv A outer s H vs Q E L hr h=> ?_)
 ·obtain⟨n,rfl,_⟩:=h;rfl
 obtain⟨n,rfl,q⟩:=h;have nd:=sc_05.nd;obtain⟨u_Z08,h_Z08,r_Z08⟩:=T.k_Z08;obtain⟨u_Z01,h_Z01,r_Z01⟩:=T.k_Z01;obtain⟨u_Z00,h_Z00,r_Z00⟩:=T.k_Z00;obtain⟨u_Z0e,h_Z0e,r_Z0e⟩:=T.k_Z0e;refine⟨_,(zad (za6 (zaM zem (by rfl) T.no_divmod zfY (zaa (pvJ 0) (zaa (zbx (by rfl) h_Z08 r_Z08) zae zab) zab)) (zaO (n:=2) rfl (zaj (zai (i:=1) nd rfl (Or.inl rfl)) (zaj (zai (i:=2) nd rfl (Or.inl rfl)) zaJ)))) (zad (psJ 3 nd (zaM (zbX (by rfl)) (by rfl) T.no_min zdz (zaa (zah zaN (pvJ 2) (zbx (by rfl) h_Z01 r_Z01)) (zaa zac zae zaf) zan))) (zad (zeC (i:=2) nd rfl (Or.inl rfl) (zah zbi (pvJ 3) (zbx (by rfl) h_Z01 r_Z01)) zja) (zad (za6 (zaM zem (by rfl) T.no_divmod zfY (zaa (pvJ 2) (zaa (zbx (by rfl) h_Z00 r_Z00) zae zab) zab)) (zaO (n:=2) rfl (zaj (zai (i:=4) nd rfl (Or.inl rfl)) (zaj (zai (i:=2) nd rfl (Or.inl rfl)) zaJ)))) (zad (psJ 5 nd (zaM (zbX (by rfl)) (by rfl) T.no_min zdz (zaa (zah zaN (pvJ 2) (zbx (by rfl) h_Z0e r_Z0e)) (zaa zac zae zaf) zan))) (zag (zap (zah zat (zah zat (zah zat (zah zat (zah zbi (pvJ 1) zac) (zah zbi (pvJ 3) zac)) (zah zbi (pvJ 4) zac)) (pvJ 5)) zac)))))))),?_⟩;open_k0;intro p hp;refine⟨p,_,rfl,SqT.of zao,rfl,?_⟩;open_k0;refine⟨Or.inr ⟨by decide,by decide⟩,fun p2 hp2=>⟨p2,_,rfl,SqT.of zao,rfl,?_⟩⟩;open_k0;refine⟨Or.inr ⟨by decide,by decide⟩,Or.inr ⟨by decide,by decide⟩,Or.inr ⟨by decide,by decide⟩,?_⟩;have e: ∀r:Int,r=Cal.yearOf n→Q (.int r) (upd (upd H p (.tup [.int (n / 146097), .int (n % 146097)])) p2 (.tup [.int ((n % 146097 - (if 3<n % 146097 / 36524 then 3 else n % 146097 / 36524)*36524) / 1461), .int ((n % 146097 - (if 3<n % 146097 / 36524 then 3 else n % 146097 / 36524)*36524) % 1461)])):=fun r z=>by
  rw[z];exact q _ ((zbN hp _).trans (zbN hp2 _))
 refine e _ ?_;unfold Cal.yearOf;have m1: ∀a:Int,min a 3=if 3<a then 3 else a:=fun a=>by split<;>omega
 simp only[m1]
def zmd(t:Adr):Sp:=fun vs H Q E=> ∃n:Int,vs= [.int n]∧
 (0≤n∧n≤3652058→ ∀y m d p H',Cal.Valid y m d→Cal.num y m d=n→zam H H'→H' p=some (.tup [.int y, .int m, .int d])→Q (.ref p) H')∧(¬(0≤n∧n≤3652058)→E (.ref t.c_Z05) none H)
theorem sc_06:FnScope ["number","year","rest","month"] ["number"] (zak s_06):=by sl_open
theorem ok_06(T:Txt w K mg t):FnOk P w K mg base (CXE P w) 3 t.a_06 t.d_06 ["number"] (zmd t):=by
 refine T.F_06.fn.okX sc_06 (fun vs H Q E h=> ?_) (fun cdv A outer s H vs Q E L hr h=> ?_)
 ·obtain⟨n,rfl,_⟩:=h;rfl
 obtain⟨n,rfl,q1,q2⟩:=h;have nd:=sc_06.nd;obtain⟨u_Z02,h_Z02,r_Z02⟩:=T.k_Z02;refine⟨_,(zad (zay (PWQ.pq (zck (zaV zbL (pvJ 0) zac) (zca (zaV zdu (pvJ 0) (zbx (by rfl) h_Z02 r_Z02))))) (zag (zbI L T.ex_Z05 (by rfl) (by rfl) T.mg_Z05 (zaa zcO zae))) zav) (zad (psJ 1 nd (peD L.toLv (ok_05 T) hr T.F_05 (zaa (pvJ 0) zae))) (zad (psJ 2 nd (zah zaK (pvJ 0) (peD L.toLv (ok_03 T) hr T.F_03 (zaa (pvJ 1) zae)))) (zad (psJ 3 nd zac) (zad (zeJ (by passes_own) (zbq zo2 (pvJ 2) (peD L.toLv (ok_02 T) hr T.F_02 (zaa (pvJ 1) (zaa (pvJ 3) zae zab) zab)) (za3 _)) (zad (zeC (i:=2) nd rfl (Or.inl rfl) (peD L.toLv (ok_02 T) hr T.F_02 (zaa (pvJ 1) (zaa (pvJ 3) zae zab) zab)) zja) (zag (zeC (i:=3) nd rfl (Or.inl rfl) zac zi9)))) (zag (zap (zok (zaa (pvJ 1) (zaa (pvJ 3) (zaa (zah zat (pvJ 2) zac) zae zan) zab) zab))))))))),?_⟩;open_k0;split
 ·exact q2 (fun z=>by obtain⟨_,_⟩:=z;omega)
 split
 ·exact q2 (fun z=>by obtain⟨_,_⟩:=z;omega)
 have n0:0≤n:=by omega
 have n1:n≤3652058:=by omega
 have q:=q1 ⟨n0,n1⟩;obtain⟨y1,y2,y3,y4⟩:=Cal.yearOf_spec n0 n1;refine⟨n,rfl,fun H1 sm=>⟨_,rfl,_,rfl,?_⟩⟩;refine⟨fun k σ1 H2=>H2=H1∧ ∃m:Int,σ1= [some (.int n),some (.int (Cal.yearOf n)),some (.int (n - Cal.ahead (Cal.yearOf n) - Cal.cum (Cal.yearOf n) m)),some (.int m)]∧1≤m∧m≤12∧Cal.cum (Cal.yearOf n) m≤n - Cal.ahead (Cal.yearOf n)∧k=(13 - m).toNat,⟨12,rfl,1,?_,by decide,by decide,by rw[Cal.cum_one];omega,by decide⟩,?_⟩
 ·rw[Cal.cum_one,Int.sub_zero]
 ·rintro k σ1 H2 ⟨rfl,m,rfl,m1,m2,m3,rfl⟩;open_k0;refine⟨_,m,rfl,fun _=> ?_,fun no=>absurd ⟨y1,y2,m1,m2⟩ no⟩;open_k0;split
  ·rename_i c;have lt:m<12:=by
    apply Classical.byContradiction;intro z;obtain rfl:m=12:=by omega
    have s:=Cal.cum_succ (y:=Cal.yearOf n) (m:=12) (by decide) (by decide);have u:Cal.cum (Cal.yearOf n) (12+1)=365+Cal.lp (Cal.yearOf n):=Cal.cum_13 _;omega
   have s:=Cal.cum_succ (y:=Cal.yearOf n) m1 m2;refine⟨_,fun σ2 H3 h=>h,?_⟩;refine⟨_,m,rfl,fun _=> ?_,fun no=>absurd ⟨y1,y2,m1,m2⟩ no⟩;open_k0;exact⟨(13 - (m+1)).toNat,by omega,m+1,by omega,rfl,by omega,by omega,by omega,rfl⟩
  ·rename_i c;open_k0;intro p hp;have s:=Cal.cum_succ (y:=Cal.yearOf n) m1 m2;refine q (Cal.yearOf n) m (n - Cal.ahead (Cal.yearOf n) - Cal.cum (Cal.yearOf n) m+1) p _ ⟨y1,y2,m1,m2,by omega,by omega⟩ (by unfold Cal.num;omega) (sm.trans (zbN hp _)) zao
def ziC(t:Adr):Sp:=fun vs H Q E=> ∃n k y m d:Int,vs= [.int n, .int k]∧Cal.Valid y m d∧Cal.num y m d=n∧
 (Cal.MonOk y m k→ ∀H',zam H H'→Q (.int (Cal.num (Cal.monY y m k) (Cal.monM y m k) (Cal.monD y m d k))) H')∧(¬Cal.MonOk y m k→ ∀H',zam H H'→E (.ref t.c_Z05) none H')
theorem sc_07:FnScope ["number","many","year","month","day","months","to_year","to_month"] ["number","many"] (zak s_07):=by sl_open
theorem ok_07(T:Txt w K mg t):FnOk P w K mg base (CXE P w) 4 t.a_07 t.d_07 ["number","many"] (ziC t):=by
 refine T.F_07.fn.okX sc_07 ?_ fun cdv A outer s H vs Q E L hr h=> ?_
 ·kdl_open
 obtain⟨n,k,y,m,d,rfl,va,hn,q1,q2⟩:=h;have nd:=sc_07.nd;refine⟨_,(zad (za6 (peD L.toLv (ok_06 T) hr T.F_06 (zaa (pvJ 0) zae)) (zaO (n:=3) rfl (zaj (zai (i:=2) nd rfl (Or.inl rfl)) (zaj (zai (i:=3) nd rfl (Or.inl rfl)) (zaj (zai (i:=4) nd rfl (Or.inl rfl)) zaJ))))) (zad (psJ 5 nd (zah zat (zah zaK (zah zat (zah zbi (pvJ 2) zac) (pvJ 3)) zac) (pvJ 1))) (zad (psJ 6 nd (zah zaN (pvJ 5) zac)) (zad (psJ 7 nd (zah zat (zah zas (pvJ 5) zac) zac)) (zag (zap (peD L.toLv (ok_04 T) hr T.F_04 (zaa (pvJ 6) (zaa (pvJ 7) (zaa (zaM (zbX (by rfl)) (by rfl) T.no_min zdz (zaa (pvJ 4) (zaa (peD L.toLv (ok_02 T) hr T.F_02 (zaa (pvJ 6) (zaa (pvJ 7) zae zab) zab)) zae zaF) zab)) zae zaF) zab) zab)))))))),?_⟩;open_k0;have nr:=Cal.num_range va;refine⟨_,rfl,fun _ y' m' d' p H1 va' hn' s1 hp=> ?_,fun no=>absurd (by omega) no⟩;obtain⟨rfl,rfl,rfl⟩:=Cal.num_inj va' va (by rw[hn',hn]);refine⟨p,_,rfl,SqT.of hp,rfl,?_⟩;open_k0;refine⟨Or.inr ⟨by decide,by decide⟩,_,_,rfl,fun ok=> ?_,fun no=>q2 (fun z=>no ⟨z.1,z.2,by omega,by omega⟩) _ s1⟩;obtain⟨o1,o2,o3,o4⟩:=ok;have mo:Cal.MonOk y' m' k:=⟨o1,o2⟩
 exact⟨_,rfl,_,_,_,rfl,fun _=>q1 mo _ s1,fun no=>absurd (Cal.mon_valid va mo) no⟩
def zew(K:Fg)(H:Hp)(p:Addr)(dy:Bool)(c:Int):Prop:=SqT K H p [.str (SL (if dy then [100,97,121,115] else [109,111,110,116,104,115])), .int c]∧Cal.CycOk dy c
noncomputable def begs(f:Int)(dy:Bool)(c:Int)(n:Nat):List V:=(List.range n).map fun j:Nat=>V.int (Cal.beg f dy c j)
theorem zew.same{K:Fg}{H H':Hp}{p:Addr}{dy:Bool}{c:Int}(h:zew K H p dy c)(sm:zam H H'):zew K H' p dy c:=⟨sm.sqT h.1,h.2⟩
def zjo(K:Fg)(t:Adr):Sp:=fun vs H Q E=> ∃(f:Int) (p:Addr) (dy:Bool) (c k:Int),vs= [.int f, .ref p, .int k]∧0≤f∧f≤3500000∧zew K H p dy c∧
 (0≤k→k≤60→ ∀H',zam H H'→Q (.int (Cal.beg f dy c k)) H')∧(k<0→ ∀H',zam H H'→E (.ref t.c_Z06) none H')∧(60<k→ ∀H',zam H H'→E (.ref t.c_Z0c) none H')
theorem sc_08:FnScope ["first","cycle","k","word","many"] ["first","cycle","k"] (zak s_08):=by sl_open
theorem ok_08(T:Txt w K mg t):FnOk P w K mg base (CXE P w) 5 t.a_08 t.d_08 ["first","cycle","k"] (zjo K t):=by
 refine T.F_08.fn.okX sc_08 ?_ fun cdv A outer s H vs Q E L hr h=> ?_
 ·kdl_open
 obtain⟨f,p,dy,c,k,rfl,f0,f1,hc,q1,q2,q3⟩:=h;have nd:=sc_08.nd;obtain⟨u_Z09,h_Z09,r_Z09⟩:=T.k_Z09;refine⟨_,(zad (zay (zaV zbL (pvJ 2) zac) (zag (zbI L T.ex_Z06 (by rfl) (by rfl) T.mg_Z06 (zaa zcO zae))) zav) (zad (zay (zaV zdu (pvJ 2) (zbx (by rfl) h_Z09 r_Z09)) (zag (zbI L T.ex_Z0c (by rfl) (by rfl) T.mg_Z0c (zaa zcO zae))) zav) (zad (za6 (pvJ 1) (zaO (n:=2) rfl (zaj (zai (i:=3) nd rfl (Or.inl rfl)) (zaj (zai (i:=4) nd rfl (Or.inl rfl)) zaJ)))) (zad (zay (zbC (pvJ 3) (zax st_4)) (zag (zap (peD L.toLv (ok_07 T) hr T.F_07 (zaa (pvJ 0) (zaa (zah zbi (pvJ 2) (pvJ 4)) zae zan) zab)))) zav) (zag (zap (zah zat (pvJ 0) (zah zbi (pvJ 2) (pvJ 4))))))))),?_⟩;open_k0;split
 ·rename_i h;exact q2 h _ (zam.refl _)
 rename_i h0;split
 ·rename_i h;exact q3 h _ (zam.refl _)
 rename_i h1;have q:=q1 (by omega) (by omega);refine⟨p,_,rfl,hc.1,rfl,?_⟩;open_k0;obtain⟨c0,c1⟩:=hc.2;cases dy with
 |true=>
  rw[if_neg (by decide)];rw[if_pos rfl] at c1;refine⟨.inl ⟨by omega,by omega⟩,?_⟩;exact q H (zam.refl _)
 |false=>
  rw[if_pos (by decide)];rw[if_neg (by decide)] at c1;obtain⟨y,m,d,va,hn⟩:=Cal.date_exists f0 (show f≤3652058 by omega);have mb:=Cal.mul_bound c0 c1 (show 0≤k by omega) (show k≤60 by omega);have mo:=Cal.mon_ok va (by omega) mb.1 mb.2;refine⟨.inl ⟨by omega,by omega⟩,f,k*c,y,m,d,rfl,va,hn,fun _ H' s'=> ?_,fun no=>absurd mo no⟩;have e:Cal.beg f false c k=Cal.num (Cal.monY y m (k*c)) (Cal.monM y m (k*c)) (Cal.monD y m d (k*c)):=by
   unfold Cal.beg;rw[if_neg (by decide),←hn,Cal.mon_eq va]
  rw[←e];exact q H' s'
def zme(K:Fg)(t:Adr):Sp:=fun vs H Q E=> ∃(f:Int) (p:Addr) (dy:Bool) (c d:Int),vs= [.int f, .ref p, .int d]∧0≤f∧f≤3500000∧zew K H p dy c∧
 (∀k:Int,0≤k→k<60→Cal.beg f dy c k≤d→d<Cal.beg f dy c (k+1)→ ∀p H',zam H H'→H' p=some (.tup [.int k, .int (Cal.beg f dy c k), .int (Cal.beg f dy c (k+1))])→Q (.ref p) H')∧
 (d<f→ ∀H',zam H H'→E (.ref t.c_Z06) none H')∧(Cal.beg f dy c 60≤d→ ∀H',zam H H'→E (.ref t.c_Z0c) none H')
theorem sc_09:FnScope ["first","cycle","day","low","high","middle"] ["first","cycle","day"] (zak s_09):=by sl_open
theorem ok_09(T:Txt w K mg t):FnOk P w K mg base (CXE P w) 6 t.a_09 t.d_09 ["first","cycle","day"] (zme K t):=by
 refine T.F_09.fn.okX sc_09 ?_ fun cdv A outer s H vs Q E L hr h=> ?_
 ·kdl_open
 obtain⟨f,p,dy,c,d,rfl,f0,f1,hc,q1,q2,q3⟩:=h;have nd:=sc_09.nd;obtain⟨u_Z09,h_Z09,r_Z09⟩:=T.k_Z09;refine⟨_,(zad (zay (zaV zbL (pvJ 2) (pvJ 0)) (zag (zbI L T.ex_Z06 (by rfl) (by rfl) T.mg_Z06 (zaa zcO zae))) zav) (zad (zay (zaV znH (pvJ 2) (peD L.toLv (ok_08 T) hr T.F_08 (zaa (pvJ 0) (zaa (pvJ 1) (zaa (zbx (by rfl) h_Z09 r_Z09) zae zab) zab) zab))) (zag (zbI L T.ex_Z0c (by rfl) (by rfl) T.mg_Z0c (zaa zcO zae))) zav) (zad (psJ 3 nd zac) (zad (psJ 4 nd (zbx (by rfl) h_Z09 r_Z09)) (zad (zeJ (by passes_own) (zbq zo1 (zah zaK (pvJ 4) (pvJ 3)) zac (za3 _)) (zad (psJ 5 nd (zah zaN (zah zat (pvJ 3) (pvJ 4)) zac)) (zag (zay (zaV zbL (pvJ 2) (peD L.toLv (ok_08 T) hr T.F_08 (zaa (pvJ 0) (zaa (pvJ 1) (zaa (pvJ 5) zae zab) zab) zab))) (zag (psJ 4 nd (pvJ 5))) (zag (psJ 3 nd (pvJ 5))))))) (zag (zap (zaz (zaa (pvJ 3) (zaa (peD L.toLv (ok_08 T) hr T.F_08 (zaa (pvJ 0) (zaa (pvJ 1) (zaa (pvJ 3) zae zab) zab) zab)) (zaa (peD L.toLv (ok_08 T) hr T.F_08 (zaa (pvJ 0) (zaa (pvJ 1) (zaa (pvJ 4) zae zab) zab) zab)) zae zaF) zaF) zab))))))))),?_⟩;open_k0;split
 ·rename_i h;exact q2 h _ (zam.refl _)
 rename_i h0;refine⟨f,p,dy,c,60,rfl,f0,f1,hc,fun _ _ H1 s1=> ?_,fun z=>absurd z (by decide),fun z=>absurd z (by decide)⟩;try open_k0
 split
 ·rename_i h;exact q3 h _ s1
 rename_i h1;have b0:Cal.beg f dy c 0=f:=Cal.beg_zero f0 f1;obtain⟨Pv,hPv⟩: ∃Pv:St→Hp→Prop,Pv=fun σ1 H2=>zam H H2∧ ∃(lo hi:Int) (x5:Option V),0≤lo∧lo<hi∧hi≤60∧Cal.beg f dy c lo≤d∧d<Cal.beg f dy c hi∧σ1= [some (.int f),some (.ref p),some (.int d),some (.int lo),some (.int hi),x5]:=⟨_,rfl⟩
 obtain⟨mu,hmu⟩: ∃mu:St→Hp→Nat,mu=fun σ1 _=>(match σ1 with| [_,_,_,some (.int lo),some (.int hi),_]=>(hi - lo).toNat|_=>0):=⟨_,rfl⟩
 refine zg9 Pv mu (by rw[hPv];exact⟨s1,0,60,_,by decide,by decide,by decide,by omega,by omega,rfl⟩) (fun σ1 H2 h=> ?_) ?_
 ·rw[hPv] at h;obtain⟨s2,lo,hi,x5,l0,lh,l1,d0,d1,rfl⟩:=h;open_k0;split
  ·rename_i c2;have m0:lo<(lo+hi) / 2∧(lo+hi) / 2<hi:=by omega
   generalize (lo+hi) / 2=mi at m0 ⊢;refine⟨f,p,dy,c,mi,rfl,f0,f1,hc.same s2,fun _ _ H3 s3=> ?_,fun z=>absurd z (by omega),fun z=>absurd z (by omega)⟩;try open_k0
   split
   ·rename_i dm;rw[hPv,hmu];exact⟨⟨s2.trans s3,lo,mi,_,l0,m0.1,by omega,d0,dm,rfl⟩,by show (mi - lo).toNat<(hi - lo).toNat;omega⟩
   ·rename_i dm;rw[hPv,hmu];exact⟨⟨s2.trans s3,mi,hi,_,by omega,m0.2,l1,by omega,d1,rfl⟩,by show (hi - mi).toNat<(hi - lo).toNat;omega⟩
  ·rename_i c2;obtain rfl:hi=lo+1:=by omega
   refine⟨f,p,dy,c,lo,rfl,f0,f1,hc.same s2,fun _ _ H3 s3=> ?_,fun z=>absurd z (by omega),fun z=>absurd z (by omega)⟩;try open_k0
   refine⟨f,p,dy,c,lo+1,rfl,f0,f1,(hc.same s2).same s3,fun _ _ H4 s4=> ?_,fun z=>absurd z (by omega),fun z=>absurd z (by omega)⟩;try open_k0
   intro p5 H5 _ s5 e5;exact q1 lo l0 (by omega) d0 d1 p5 H5 (((s2.trans s3).trans s4).trans s5) e5
 ·intro σ1 H1 Q1 Q2 hm h;first
   |(obtain⟨x,hx,y,hy,i,j,e1,e2,i2,j2,e3,e4,k,e5,r⟩:=h
     exact⟨x,hx,y,hy,i,j,e1,e2,i2,j2,e3,e4,k,e5,hm _ _ r⟩)
   |(dsimp only[zdd,tOp,zdc,tC,rJ0,zhA,zim] at h ⊢
     simp only[zdY,zcv] at h ⊢;obtain⟨x,hx,y,hy,i,e1,j,e2,r⟩:=h;exact⟨x,hx,y,hy,i,e1,j,e2,hm _ _ r⟩)
theorem zbA(v:V)(r:List V):atI (v::r) 0=some v:=zb1 (j:=0) rfl
theorem zcb(u v:V)(r:List V):atI (u::v::r) 1=some v:=zb1 (j:=1) rfl
theorem zd4(u v x:V)(r:List V):atI (u::v::x::r) 2=some x:=zb1 (j:=2) rfl
theorem znq(u v x y:V)(r:List V):atI (u::v::x::y::r) 3=some y:=zb1 (j:=3) rfl
theorem zd5{f c d:Int}{dy:Bool}(b0:Cal.beg f dy c 0≤d): ∀n:Nat,d<Cal.beg f dy c n→ ∃k:Int,0≤k∧k<n∧Cal.beg f dy c k≤d∧d<Cal.beg f dy c (k+1)
 |0,h=>absurd h (by have:Cal.beg f dy c ((0:Nat):Int)=Cal.beg f dy c 0:=rfl;omega)
 |n+1,h=>by
  by_cases z:d<Cal.beg f dy c n
  ·obtain⟨k,h1,h2,h3,h4⟩:=zd5 b0 n z;exact⟨k,h1,by omega,h3,h4⟩
  ·exact⟨n,by omega,by omega,by omega,h⟩
def zcL(K:Fg)(H:Hp)(p:Addr)(l:Addr)(f:Int)(dy:Bool)(cc:Int):Prop:= ∃pc,0≤f∧f≤3500000∧zew K H pc dy cc∧H p=some (.tup [.ref l, .int f, .ref pc])
theorem zcL.same{K:Fg}{H H':Hp}{p l:Addr}{f:Int}{dy:Bool}{cc:Int}(h:zcL K H p l f dy cc)(s:zam H H'):zcL K H' p l f dy cc:=
 let ⟨pc,h1,h2,h3,h4⟩:=h;⟨pc,h1,h2,h3.same s,s _ _ h4⟩
theorem zcL.cyc{K:Fg}{H:Hp}{p l:Addr}{f:Int}{dy:Bool}{cc:Int}(h:zcL K H p l f dy cc):0≤f∧f≤3500000∧Cal.CycOk dy cc:=let ⟨_,h1,h2,h3,_⟩:=h;⟨h1,h2,h3.2⟩
theorem zfy{f c k:Int}{dy:Bool}(f0:0≤f)(f1:f≤3500000)(hc:Cal.CycOk dy c)(k0:0≤k)(k1:k<60):0≤Cal.beg f dy c k∧Cal.beg f dy c k<Cal.beg f dy c (k+1)∧Cal.beg f dy c (k+1)<4000000:=by
 have a1:=Cal.beg_lt (k:=k) (j:=k+1) f0 f1 hc k0 (by omega) (by omega);have a2:=Cal.beg_ge (k:=k) f0 f1 hc k0 (by omega);have a3:=Cal.beg_range (k:=k+1) f0 f1 hc (by omega) (by omega);exact⟨by omega,a1,by omega⟩
def ziD(K:Fg)(t:Adr):Sp:=fun vs H Q E=> ∃(pa l:Addr) (f:Int) (dy:Bool) (c k:Int),vs= [.ref pa, .int k]∧zcL K H pa l f dy c∧(0≤k→k<60→ ∀p H',zam H H'→H' p=some (.tup [.int (Cal.beg f dy c k), .int (Cal.beg f dy c (k+1))])→Q (.ref p) H')∧(k<0→ ∀H',zam H H'→E (.ref t.c_Z06) none H')∧(60≤k→ ∀H',zam H H'→E (.ref t.c_Z0c) none H')
theorem sc_0a:FnScope ["account","k","plans","first","cycle"] ["account","k"] (zak s_0a):=by sl_open
theorem ok_0a(T:Txt w K mg t):FnOk P w K mg base (CXE P w) 6 t.a_0a t.d_0a ["account","k"] (ziD K t):=by
 refine T.F_0a.fn.okX sc_0a ?_ fun cdv A outer s H vs Q E L hr h=> ?_
 ·kdl_open
 obtain⟨pa,l,f,dy,c,k,rfl,⟨pc,f0,f1,hc,ep⟩,q,q2,q3⟩:=h;have nd:=sc_0a.nd;refine⟨_,(zad (za6 (pvJ 0) (zaO (n:=3) rfl (zaj (zai (i:=2) nd rfl (Or.inl rfl)) (zaj (zai (i:=3) nd rfl (Or.inl rfl)) (zaj (zai (i:=4) nd rfl (Or.inl rfl)) zaJ))))) (zag (zap (zaz (zaa (peD L.toLv (ok_08 T) hr T.F_08 (zaa (pvJ 3) (zaa (pvJ 4) (zaa (pvJ 1) zae zab) zab) zab)) (zaa (peD L.toLv (ok_08 T) hr T.F_08 (zaa (pvJ 3) (zaa (pvJ 4) (zaa (zah zat (pvJ 1) zac) zae zan) zab) zab)) zae zaF) zaF))))),?_⟩;open_k0;refine⟨pa,_,rfl,SqT.of ep,rfl,?_⟩;open_k0;refine⟨f,pc,dy,c,k,rfl,f0,f1,hc,fun k0 _ H1 s1=> ?_,q2,fun z=>q3 (by omega)⟩;refine⟨f,pc,dy,c,k+1,rfl,f0,f1,hc.same s1,fun _ k1 H2 s2=> ?_,fun z=>by omega,fun z H3 s3=>q3 (by omega) H3 (s1.trans s3)⟩;exact fun p H3 _ s3 e3=>q k0 (by omega) p H3 ((s1.trans s2).trans s3) e3
def ziE(K:Fg)(t:Adr):Sp:=fun vs H Q E=> ∃(pa l:Addr) (f:Int) (dy:Bool) (c d:Int),vs= [.ref pa, .int d]∧zcL K H pa l f dy c∧
 (∀k:Int,0≤k→k<60→Cal.beg f dy c k≤d→d<Cal.beg f dy c (k+1)→ ∀p H',zam H H'→H' p=some (.tup [.int k, .int (Cal.beg f dy c k), .int (Cal.beg f dy c (k+1))])→Q (.ref p) H')∧
 (d<f→ ∀H',zam H H'→E (.ref t.c_Z06) none H')∧(Cal.beg f dy c 60≤d→ ∀H',zam H H'→E (.ref t.c_Z0c) none H')
theorem sc_0b:FnScope ["account","day","plans","first","cycle"] ["account","day"] (zak s_0b):=by sl_open
theorem ok_0b(T:Txt w K mg t):FnOk P w K mg base (CXE P w) 7 t.a_0b t.d_0b ["account","day"] (ziE K t):=by
 refine T.F_0b.fn.okX sc_0b ?_ fun cdv A outer s H vs Q E L hr h=> ?_
 ·kdl_open
 obtain⟨pa,l,f,dy,c,d,rfl,⟨pc,f0,f1,hc,ep⟩,q1,q2,q3⟩:=h;have nd:=sc_0b.nd;refine⟨_,(zad (za6 (pvJ 0) (zaO (n:=3) rfl (zaj (zai (i:=2) nd rfl (Or.inl rfl)) (zaj (zai (i:=3) nd rfl (Or.inl rfl)) (zaj (zai (i:=4) nd rfl (Or.inl rfl)) zaJ))))) (zag (zap (peD L.toLv (ok_09 T) hr T.F_09 (zaa (pvJ 3) (zaa (pvJ 4) (zaa (pvJ 1) zae zab) zab) zab))))),?_⟩;open_k0;refine⟨pa,_,rfl,SqT.of ep,rfl,?_⟩;open_k0;exact⟨f,pc,dy,c,d,rfl,f0,f1,hc,q1,q2,q3⟩
theorem zfz(ch:Ch)(h:zcg ch=true): ∃r,(chD ch).map sv= .str (SL (chW ch)):: .int (zbV ch)::r:=by
 cases ch with
 |plan d nm=>exact⟨_,rfl⟩
 |seats d n=>exact⟨_,rfl⟩
 |word w d=>exact⟨_,rfl⟩
 |undo k=>cases h
 |grant k=>cases h
 |back=>cases h
theorem zmf{ch:Ch}(h:zcg ch=true)(w4: ∀w d,ch= .word w d→w<4):(chW ch= [108,97,115,116]↔zlS ch=true):=by
 cases ch with
 |plan d nm=>exact⟨fun z=>absurd z (by show¬([112,108,97,110]:List Nat)=_;decide),fun z=>by cases z⟩
 |seats d n=>exact⟨fun z=>absurd z (by show¬([115,101,97,116,115]:List Nat)=_;decide),fun z=>by cases z⟩
 |word w d=>
  have:=w4 w d rfl;match w,this with
  |0,_=>exact⟨fun z=>absurd z (by show¬([104,111,108,100]:List Nat)=_;decide),fun z=>by cases z⟩
  |1,_=>exact⟨fun z=>absurd z (by show¬([103,111]:List Nat)=_;decide),fun z=>by cases z⟩
  |2,_=>exact⟨fun z=>absurd z (by show¬([115,116,111,112]:List Nat)=_;decide),fun z=>by cases z⟩
  |3,_=>exact⟨fun _=>rfl,fun _=>rfl⟩
 |undo k=>cases h
 |grant k=>cases h
 |back=>cases h
def TmB(f e:Int)(ch:Ch):Prop:=zcg ch=true∧f≤zbV ch∧zbV ch<e∧ ∀w d,ch= .word w d→w<4
def zmg(K:Fg):Sp:=fun vs H Q _=> ∃(pa p l:Addr) (f:Int) (dy:Bool) (c:Int) (ch:Ch),vs= [.ref pa, .ref p]∧zcL K H pa l f dy c∧SqT K H p ((chD ch).map sv)∧TmB f (Cal.beg f dy c 60) ch∧ ∀H',zam H H'→Q (.int (cntF f dy c ch)) H'
theorem sc_0d:FnScope ["account","change","own_day","k","begin","end"] ["account","change"] (zak s_0d):=by sl_open
theorem ok_0d(T:Txt w K mg t):FnOk P w K mg base (CXE P w) 8 t.a_0d t.d_0d ["account","change"] (zmg K):=by
 refine T.F_0d.fn.okX sc_0d ?_ fun cdv A outer s H vs Q E L hr h=> ?_
 ·kdl_open
 obtain⟨pa,p,l,f,dy,c,ch,rfl,ha,hp,⟨tm,d0,d1,w4⟩,q⟩:=h;have nd:=sc_0d.nd;refine⟨_,(zad (psJ 2 nd (ixJ zaq (pvJ 1) zac)) (zad (zay (zbC (ixJ zaq (pvJ 1) zac) (zax st_9)) (zad (za6 (peD L.toLv (ok_0b T) hr T.F_0b (zaa (pvJ 0) (zaa (pvJ 2) zae zab) zab)) (zaO (n:=3) rfl (zaj (zai (i:=3) nd rfl (Or.inl rfl)) (zaj (zai (i:=4) nd rfl (Or.inl rfl)) (zaj (zai (i:=5) nd rfl (Or.inl rfl)) zaJ))))) (zag (zap (pvJ 5)))) zav) (zag (zap (pvJ 2))))),?_⟩;obtain⟨r,er⟩:=zfz ch tm;rw[er] at hp;have lw:=zmf tm w4;unfold cntF at q;open_k0;refine ixT hp (zcb _ _ _) (ixT hp (zbA _ _) ⟨rfl,?_⟩);by_cases e:chW ch= [108,97,115,116]
 ·rw[if_pos (lw.mp e)] at q;obtain⟨f0,f1,hc⟩:=ha.cyc;refine zdW (by rw[e]) ⟨pa,l,f,dy,c,_,rfl,ha,fun k k0 k1 a1 a2 p1 H1 s1 e1=> ?_,fun z=>by omega,fun z=>by omega⟩;rw[←znR f0 f1 hc k0 k1 a1 a2] at e1;refine⟨p1,_,rfl,SqT.of e1,rfl,?_⟩;open_k0;exact q H1 s1
 ·rw[if_neg (fun z=>e (lw.mpr z))] at q;exact za0 (zbg e) (q _ (zam.refl _))
theorem zpB{f c:Int}{dy:Bool}{ch:Ch}(f0:0≤f)(f1:f≤3500000)(hc:Cal.CycOk dy c)(h:TmB f (Cal.beg f dy c 60) ch):0≤cntF f dy c ch∧cntF f dy c ch<4000000:=by
 obtain⟨tm,d0,d1,w4⟩:=h;have b6:=Cal.beg_range (k:=60) f0 f1 hc (by decide) (by decide);unfold cntF;split
 ·have b0:Cal.beg f dy c 0=f:=Cal.beg_zero f0 f1;obtain⟨k,k0,k1,a1,a2⟩:=zd5 (f:=f) (c:=c) (dy:=dy) (d:=zbV ch) (by omega) 60 d1;rw[znR f0 f1 hc k0 k1 a1 a2]
  have:=Cal.beg_range (k:=k+1) f0 f1 hc (by omega) (by omega);omega
 ·omega
abbrev Tm:=Addr×Addr×Int×Ch
def znr(K:Fg)(H:Hp)(f e:Int)(t:Tm):Prop:=(H t.1=some (.tup [.int t.2.2.1, .ref t.2.1])∧SqT K H t.2.1 ((chD t.2.2.2).map sv))∧(0≤t.2.2.1∧t.2.2.1<64)∧TmB f e t.2.2.2
def zfA(K:Fg)(H:Hp)(l:Addr)(f e:Int)(ts:List Tm):Prop:=H l=some (.lst (ts.map fun t=>V.ref t.1))∧ts.length<64∧(∀t∈ts,znr K H f e t)∧ts.Pairwise (fun x y=>x.2.2.1≠y.2.2.1)
theorem znr.same{K:Fg}{H H':Hp}{f e:Int}{t:Tm}(h:znr K H f e t)(s:zam H H'):znr K H' f e t:=⟨⟨s _ _ h.1.1,s.sqT h.1.2⟩,h.2⟩
theorem zfA.same{K:Fg}{H H':Hp}{l:Addr}{f e:Int}{ts:List Tm}(h:zfA K H l f e ts)(s:zam H H'):zfA K H' l f e ts:=⟨s _ _ h.1,h.2.1,fun t ht=>(h.2.2.1 t ht).same s,h.2.2.2⟩
theorem zmh{α β:Type}{g:α→β}{ws l:List β}(h:ws.Perm l): ∀os:List α,l=os.map g→ ∃os':List α,os'.Perm os∧os'.map g=ws:=by
 induction h with
 |nil=>intro os e;exact⟨os, .refl _,e.symm⟩
 |cons x _ ih=>
  intro os e;match os,e with
  |o::r,e=>
   obtain⟨e1,e2⟩:=List.cons.inj e;obtain⟨r',p,m⟩:=ih r e2;exact⟨o::r',p.cons o,by rw[List.map_cons,m,e1]⟩
 |swap x y l=>
  intro os e;match os,e with
  |a::b::r,e=>
   obtain⟨e1,e2⟩:=List.cons.inj e;obtain⟨e3,e4⟩:=List.cons.inj e2;exact⟨b::a::r, .swap a b r,by rw[List.map_cons,List.map_cons,e1,e3,e4]⟩
 |trans _ _ ih1 ih2=>
  intro os e;obtain⟨os2,p2,m2⟩:=ih2 os e;obtain⟨os1,p1,m1⟩:=ih1 os2 m2.symm;exact⟨os1,p1.trans p2,m1⟩
noncomputable def rtT(f:Int)(dy:Bool)(c:Int)(t:Tm):Rt:=rtF f dy c t.2.2.1 t.2.2.2
abbrev Or':=Addr×Tm
def zfB(K:Fg)(H:Hp)(l:Addr)(f:Int)(dy:Bool)(c:Int)(os:List Or'):Prop:=H l=some (.lst (os.map fun o=>V.ref o.1))∧os.length<64∧(∀o∈os,H o.1=some (.tup [.int (cntF f dy c o.2.2.2.2), .int (zbV o.2.2.2.2), .int o.2.2.2.1, .ref o.2.2.1])∧SqT K H o.2.2.1 ((chD o.2.2.2.2).map sv)∧TmB f (Cal.beg f dy c 60) o.2.2.2.2)∧os.Pairwise (fun x y=>cntF f dy c x.2.2.2.2≤cntF f dy c y.2.2.2.2∧(rtT f dy c x.2).2.2.1<(rtT f dy c y.2).2.2.1)
def zj6(K:Fg):Sp:=fun vs H Q _=> ∃(pa l la:Addr) (f:Int) (dy:Bool) (c:Int) (ts:List Tm),vs= [.ref pa, .ref l]∧zcL K H pa la f dy c∧zfA K H l f (Cal.beg f dy c 60) ts∧ ∀l' os H',zam H H'→zfB K H' l' f dy c os→(∀t,t∈os.map (·.2)↔t∈ts)→Q (.ref l') H'
theorem sc_0e:FnScope ["account","terms"] ["account","terms"] (zak s_0e):=by sl_open
theorem ok_0e(T:Txt w K mg t):FnOk P w K mg base (CXE P w) 9 t.a_0e t.d_0e ["account","terms"] (zj6 K):=by
 refine T.F_0e.fn.okX sc_0e ?_ fun cdv A outer s H vs Q E L hr h=> ?_
 ·kdl_open
 obtain⟨pa,l,la,f,dy,c,ts,rfl,ha,ht,q⟩:=h;have nd:=sc_0e.nd;refine⟨_,(zag (zap (zaM zgK (by rfl) T.no_sorted zdj (zaa (zcS (n:=2) (N:= ["number","change","account"]) (js:= [0]) (by rfl) rfl rfl (zbm (pvJ 1)) (fun a=>(zaO (n:=2) rfl (zaL (zai (i:=0) (show List.Nodup (["number","change","account"]:List Str) from by decide+kernel) rfl (Or.inl rfl)) (zaL (zai (i:=1) (show List.Nodup (["number","change","account"]:List Str) from by decide+kernel) rfl (Or.inl rfl)) zb0)))) (fun a=>zdi) (fun a=>(zaz (zaa (peD zkL (ok_0d T) hr T.F_0d (zaa (pvJ 2) (zaa (pvJ 1) zae zab) zab)) (zaa (ixJ zaq (pvJ 1) zac) (zaa (pvJ 0) (zaa (pvJ 1) zae zab) zab) zar) zaF)))) zae)))),?_⟩;obtain⟨f0,f1,hc⟩:=ha.cyc;have b6:=Cal.beg_range (k:=60) f0 f1 hc (by decide) (by decide);obtain⟨el,n64,hts,hn⟩:=id ht;open_k0;first|refine⟨l,rfl,⟨_,SqL.of el⟩,fun l2 hl2 aa=> ?_⟩|refine⟨_,rfl,l,rfl,⟨_,SqL.of el⟩,fun l2 hl2 aa=> ?_⟩
 refine zb9 (fun j xs H5=> ∃as:List Addr,xs=as.map V.ref∧as.length=j∧ ∀(i:Nat) (a:Addr) (t:Tm),as[i]? =some a→ts[i]? =some t→H5 a=some (.tup [.int (cntF f dy c t.2.2.2), .int (zbV t.2.2.2), .int t.2.2.1, .ref t.2.1])) (zbY (SqL.of el)) hl2 (by rw[List.length_map];exact zbj (by omega)) (fun _ _=>⟨[],rfl,rfl,fun i a t h=>by rw[List.getElem?_nil] at h;cases h⟩) (fun j x xs H8 K1 K0 hx sm pv hl k1 k0=> ?_) (fun xs H2 s2 pv _ w2=> ?_)
 ·obtain⟨u,hz,rfl⟩: ∃u,ts[j]? =some u∧x= .ref u.1:=by
   rw[List.getElem?_map] at hx;obtain⟨u,e,rfl⟩:=Option.map_eq_some_iff.mp hx;exact⟨u,e,rfl⟩
  obtain⟨⟨z1,z2⟩,zn,tb⟩:=hts u (List.mem_of_getElem? hz);obtain⟨as,rfl,al,pa'⟩:=pv;obtain⟨r,er⟩:=zfz u.2.2.2 tb.1;open_k0;refine⟨_,_,rfl,SqT.of (sm _ _ z1),rfl,?_⟩;open_k0;refine⟨pa,u.2.1,la,f,dy,c,u.2.2.2,rfl,ha.same sm,sm.sqT z2,tb,fun H9 s9=> ?_⟩;rw[er] at z2;refine ixT (s9.sqT (sm.sqT z2)) (zcb _ _ _) (show New _ _ _ from fun p H10 hp s10 e10=>k1 _ _ (s9.trans s10) fun H5 h5=>⟨as++ [p],by rw[List.map_append];rfl,by rw[List.length_append,al];rfl,fun i a t h1 h2=> ?_⟩);have s810:=s9.trans s10;have nl: ∀a xs,H10 a=some (.tup xs)→a≠l2:=fun a xs h z=>by rw[z,s810 _ _ hl] at h;cases h
  rw[List.getElem?_append] at h1;by_cases hi:i<as.length
  ·rw[if_pos hi] at h1
   have:=s810 _ _ (pa' i a t h1 h2);exact h5 _ _ (nl _ _ this) this
  ·rw[if_neg hi] at h1;have i0:i - as.length=0:=by
    rcases Nat.lt_or_ge (i - as.length) 1 with z|z
    ·omega
    ·rw[List.getElem?_eq_none (by simpa using z)] at h1;cases h1
   rw[i0] at h1;cases h1;obtain rfl:i=j:=by omega
   rw[hz] at h2;cases h2;exact h5 _ _ (nl _ _ e10) e10
 rw[List.length_map] at pv;obtain⟨as,rfl,al,pa'⟩:=pv;obtain⟨os,hos⟩: ∃os:List Or',os=as.zip ts:=⟨_,rfl⟩
 have om: ∀o∈os,∃i:Nat,as[i]? =some o.1∧ts[i]? =some o.2:=fun o ho=>by
  rw[hos] at ho;obtain⟨i,hi,e⟩:=List.mem_iff_getElem.mp ho;rw[List.length_zip] at hi;refine⟨i,?_,?_⟩
  ·rw[List.getElem?_eq_getElem (by omega),←e,List.getElem_zip]
  ·rw[List.getElem?_eq_getElem (by omega),←e,List.getElem_zip]
 have ol:os.length=ts.length:=by rw[hos,List.length_zip,al,Nat.min_self]
 have o1:os.map (·.1)=as:=by rw[hos];exact List.map_fst_zip (by omega)
 have o2:os.map (·.2)=ts:=by rw[hos];exact List.map_snd_zip (by omega)
 have ob: ∀o∈os,H2 o.1=some (.tup [.int (cntF f dy c o.2.2.2.2), .int (zbV o.2.2.2.2), .int o.2.2.2.1, .ref o.2.2.1])∧SqT K H2 o.2.2.1 ((chD o.2.2.2.2).map sv)∧TmB f (Cal.beg f dy c 60) o.2.2.2.2∧(0≤o.2.2.2.1∧o.2.2.2.1<64):=fun o ho=>by
  obtain⟨i,h1,h2⟩:=om o ho;obtain⟨⟨z1,z2⟩,zn,tb⟩:=hts o.2 (List.mem_of_getElem? h2);exact⟨pa' i _ _ h1 h2,s2.sqT z2,tb,zn⟩
 obtain⟨zf,hzf⟩: ∃zf:Or'→Tz,zf=fun o=>(o.1,cntF f dy c o.2.2.2.2,zbV o.2.2.2.2,o.2.2.2.1):=⟨_,rfl⟩
 refine⟨l2,rfl,os.map zf,by rw[w2,List.map_map,←o1,List.map_map,hzf];rfl,by rw[List.length_map];omega,fun z hz=> ?_,?_,fun ws wp wo p H3 hp s3 e3=> ?_⟩
 ·obtain⟨o,ho,rfl⟩:=List.mem_map.mp hz;obtain⟨a1,a2,a3,a4⟩:=ob o ho;have ci:=zpB f0 f1 hc a3;rw[hzf];exact⟨⟨ci,⟨by show 0≤zbV o.2.2.2.2;have:=a3.2.1;omega,by show zbV o.2.2.2.2<4000000;have:=a3.2.2.1;omega⟩,a4⟩,_,a1⟩
 ·rw[List.pairwise_map,hzf]
  have:=hn;rw[←o2,List.pairwise_map] at this;exact this
 ·obtain⟨os',op,rfl⟩:=zmh wp os rfl;refine q p os' H3 (s2.trans s3) ⟨by rw[e3,List.map_map,hzf];rfl,by rw[op.length_eq];omega,fun o ho=> ?_,?_⟩ fun t=> ?_
  ·obtain⟨a1,a2,a3,_⟩:=ob o (op.mem_iff.mp ho);exact⟨s3 _ _ a1,s3.sqT a2,a3⟩
  ·rw[List.pairwise_map,hzf] at wo;exact wo
  ·rw[(op.map (·.2)).mem_iff,o2]
theorem ziF: ∀{w:Nat},w<4→(zcZ w= [104,111,108,100]∧zgh w= [104,101,108,100])∨(zcZ w= [103,111]∧zgh w= [111,110])∨(zcZ w= [115,116,111,112]∧zgh w= [111,102,102])∨(zcZ w= [108,97,115,116]∧zgh w= [111,102,102])
 |0,_=> .inl ⟨rfl,rfl⟩
 |1,_=> .inr (.inl ⟨rfl,rfl⟩)
 |2,_=> .inr (.inr (.inl ⟨rfl,rfl⟩))
 |3,_=> .inr (.inr (.inr ⟨rfl,rfl⟩))
def on':D:= .str [111,110]
def stT(o0 o1 o2:Option Rt):List D:= [stV o0 .non,stV o1 (.int 1),stV o2 on']
def zfC(f:Int)(dy:Bool)(c:Int)(ts:List Tm)(day:Int)(o0 o1 o2:Option Rt):Prop:=Bst (ts.map (rtT f dy c)) day 0 o0∧Bst (ts.map (rtT f dy c)) day 1 o1∧Bst (ts.map (rtT f dy c)) day 2 o2
def zj7(K:Fg):Sp:=fun vs H Q _=> ∃(l:Addr) (d:Int) (f:Int) (dy:Bool) (c:Int) (os:List Or'),vs= [.ref l, .int d]∧zfB K H l f dy c os∧ ∀p o0 o1 o2 H',zam H H'→zfC f dy c (os.map (·.2)) d o0 o1 o2→H' p=some (.tup ((stT o0 o1 o2).map sv))→Q (.ref p) H'
theorem sc_0f:FnScope ["ordered","day","name","seats","word","counts","own_day","number","change"] ["ordered","day"] (zak s_0f):=by sl_open
theorem ok_0f(T:Txt w K mg t):FnOk P w K mg base (CXE P w) 1 t.a_0f t.d_0f ["ordered","day"] (zj7 K):=by
 refine T.F_0f.fn.okX sc_0f ?_ fun cdv A outer s H vs Q E L hr h=> ?_
 ·kdl_open
 obtain⟨l,d,f,dy,c,os,rfl,ho,q⟩:=h;have nd:=sc_0f.nd;refine⟨_,(zad (psJ 2 nd zgw) (zad (psJ 3 nd zac) (zad (psJ 4 nd (zax st_10)) (zad (zbs (by passes_own) rfl (zbm (pvJ 0)) (zaO (n:=4) rfl (zaL (zai (i:=5) nd rfl (Or.inl rfl)) (zaL (zai (i:=6) nd rfl (Or.inl rfl)) (zaL (zai (i:=7) nd rfl (Or.inl rfl)) (zaL (zai (i:=8) nd rfl (Or.inl rfl)) zb0))))) (zad (zay (zaV zdu (pvJ 5) (pvJ 1)) (zag zkj) zav) (zag (zay (zbC (ixJ zaq (pvJ 8) zac) (zax st_11)) (zag (psJ 2 nd (ixJ zaq (pvJ 8) zac))) (zag (zay (zbC (ixJ zaq (pvJ 8) zac) (zax st_12)) (zag (psJ 3 nd (ixJ zaq (pvJ 8) zac))) (zag (psJ 4 nd (zlj (by rfl) T.k_Z0d (ixJ zaq (pvJ 8) zac) (fun _ _=>rfl)))))))))) (zag (zap (zaz (zaa (pvJ 2) (zaa (pvJ 3) (zaa (pvJ 4) zae zab) zab) zab)))))))),?_⟩;obtain⟨el,n64,h3,so⟩:=id ho;have fin: ∀(i:Nat) (kd:Nat) (o':Option Rt),(i=os.length∨ ∃x,os[i]? =some x∧d<cntF f dy c x.2.2.2.2)→Bst ((os.take i).map fun x=>rtT f dy c x.2) d kd o'→Bst ((os.map (·.2)).map (rtT f dy c)) d kd o':=fun i kd o' hi hb=>by
  rw[List.map_map];refine hb.more (fun t ht=> ?_) fun t ht nt=> ?_
  ·obtain⟨x,hx,rfl⟩:=List.mem_map.mp ht;exact List.mem_map.mpr ⟨x,List.mem_of_mem_take hx,rfl⟩
  ·obtain⟨x,hx,rfl⟩:=List.mem_map.mp ht;have nx:x∉os.take i:=fun z=>nt (List.mem_map.mpr ⟨x,z,rfl⟩);show d<cntF f dy c x.2.2.2.2;rcases hi with rfl|⟨y,hy,ly⟩
   ·rw[List.take_length] at nx;exact absurd hx nx
   ·obtain⟨j,hj,ej⟩:=List.mem_iff_getElem.mp hx;obtain⟨hi',ey⟩:=List.getElem?_eq_some_iff.mp hy;by_cases jl:j<i
    ·exact absurd (List.mem_iff_getElem.mpr ⟨j,by rw[List.length_take];omega,by rw[List.getElem_take,ej]⟩) nx
    ·by_cases ji:j=i
     ·subst ji;rw[ej] at ey;rw[ey];exact ly
     ·have:=(List.pairwise_iff_getElem.mp so i j hi' hj (by omega)).1;rw[ey,ej] at this;omega
 open_k0
 ((try dsimp only);refine zbE fun R hR=> ?_;(open_k0;repeat (dsimp only[zbB,zb5,zbU,zb7];open_k0)))
 refine⟨⟨_,SqL.of el⟩,hR _ _ ?_⟩;clear hR;obtain⟨Pv,hPv⟩: ∃Pv:Nat→St→Hp→Prop,Pv=fun i σ1 H7=>zam H H7∧ ∃(o0 o1 o2:Option Rt) (x5 x6 x7 x8:Option V),(Bst ((os.take i).map fun x=>rtT f dy c x.2) d 0 o0∧Bst ((os.take i).map fun x=>rtT f dy c x.2) d 1 o1∧Bst ((os.take i).map fun x=>rtT f dy c x.2) d 2 o2)∧σ1= [some (.ref l),some (.int d),some (sv (stV o0 .non)),some (sv (stV o1 (.int 1))),some (sv (stV o2 on')),x5,x6,x7,x8]:=⟨_,rfl⟩
 have b0: ∀kd,Bst ((os.take 0).map fun x=>rtT f dy c x.2) d kd none:=fun kd t h=>by rw[List.take_zero] at h;cases h
 refine zb3 (xs:=os.map fun o=>V.ref o.1) Pv (by rw[hPv];exact⟨zam.refl _,none,none,none,_,_,_,_,⟨b0 0,b0 1,b0 2⟩,rfl⟩) (fun _ _ _ _ h=>by rw[hPv] at h;exact SqL.of (h.1 _ _ el)) (fun i x σ1 H7 hx h=> ?_) (fun σ1 H7 h=> ?_)
 ·rw[hPv] at h;obtain⟨s7,o0,o1,o2,x5,x6,x7,x8,⟨c0,c1,c2⟩,rfl⟩:=h;obtain⟨o,hz,rfl⟩: ∃o,os[i]? =some o∧x= .ref o.1:=by
   rw[List.getElem?_map] at hx;obtain⟨u,e,rfl⟩:=Option.map_eq_some_iff.mp hx;exact⟨u,e,rfl⟩
  obtain⟨a1,a2,tb⟩:=h3 o (List.mem_of_getElem? hz);have a2':=s7.sqT a2;obtain⟨r,er⟩:=zfz o.2.2.2.2 tb.1;rw[er] at a2';have tk:(os.take (i+1)).map (fun x=>rtT f dy c x.2)=(os.take i).map (fun x=>rtT f dy c x.2)++ [rtT f dy c o.2]:=by rw[List.take_add_one,hz,Option.toList_some,List.map_append];rfl
  have rb: ∀(kd:Nat) (o':Option Rt),Bst ((os.take i).map fun x=>rtT f dy c x.2) d kd o'→ ∀t,o'=some t→t.2.2.1≤(rtT f dy c o.2).2.2.1:=fun kd o' hb t e=>by
   subst e;obtain⟨y,hy,rfl⟩:=List.mem_map.mp hb.1;obtain⟨j,hj,ej⟩:=List.mem_iff_getElem.mp hy;rw[List.length_take] at hj;rw[List.getElem_take] at ej;obtain⟨hi',eo⟩:=List.getElem?_eq_some_iff.mp hz
   have:=(List.pairwise_iff_getElem.mp so j i (by omega) hi' (by omega)).2;rw[ej,eo] at this;omega
  open_k0;refine⟨o.1,_,rfl,SqT.of (s7 _ _ a1),rfl,?_⟩
  (open_k0;repeat (dsimp only[zki];open_k0))
  refine zaX (fun h p H8 _ s8 e8=>q p o0 o1 o2 H8 (s7.trans s8) ⟨fin i 0 _ (.inr ⟨o,hz,h⟩) c0,fin i 1 _ (.inr ⟨o,hz,h⟩) c1,fin i 2 _ (.inr ⟨o,hz,h⟩) c2⟩ e8) (fun h=> ?_);have nx: ∀(o0' o1' o2':Option Rt),Bst ((os.take i).map (fun x=>rtT f dy c x.2)++ [rtT f dy c o.2]) d 0 o0'→Bst ((os.take i).map (fun x=>rtT f dy c x.2)++ [rtT f dy c o.2]) d 1 o1'→Bst ((os.take i).map (fun x=>rtT f dy c x.2)++ [rtT f dy c o.2]) d 2 o2'→Pv (i+1) [some (.ref l),some (.int d),some (sv (stV o0' .non)),some (sv (stV o1' (.int 1))),some (sv (stV o2' on')),some (.int (cntF f dy c o.2.2.2.2)),some (.int (zbV o.2.2.2.2)),some (.int o.2.2.2.1),some (.ref o.2.2.1)] H7:=fun o0' o1' o2' h0 h1 h2=>by
   rw[←tk] at h0 h1 h2;rw[hPv];exact⟨s7,o0',o1',o2',_,_,_,_,⟨h0,h1,h2⟩,rfl⟩
  have le:(rtT f dy c o.2).2.1≤d:=by show cntF f dy c o.2.2.2.2≤d;omega
  have ne: ∀{kd:Nat},chK o.2.2.2.2≠kd→(rtT f dy c o.2).1=kd→d<(rtT f dy c o.2).2.1:=fun h e=>absurd e h;refine ixT a2' (zbA _ _) ⟨rfl,?_⟩;cases hch:o.2.2.2.2 with
  |plan dd nm=>
   rw[hch] at er a2';cases er;have k0:chK o.2.2.2.2=0:=by rw[hch];rfl
   have g:=nx (some (rtT f dy c o.2)) o1 o2 (c0.last k0 le (rb 0 o0 c0)) (c1.skip (ne (by rw[k0];decide))) (c2.skip (ne (by rw[k0];decide)));rw[show sv (stV (some (rtT f dy c o.2)) .non)= .str (SL nm) by show sv (zgi o.2.2.2.2)=_;rw[hch];rfl,hch] at g;exact zdW rfl (ixT a2' (zd4 _ _ _ _) g)
  |seats dd n=>
   rw[hch] at er a2';cases er;have k0:chK o.2.2.2.2=1:=by rw[hch];rfl
   have g:=nx o0 (some (rtT f dy c o.2)) o2 (c0.skip (ne (by rw[k0];decide))) (c1.last k0 le (rb 1 o1 c1)) (c2.skip (ne (by rw[k0];decide)));rw[show sv (stV (some (rtT f dy c o.2)) (.int 1))= .int n by show sv (zgi o.2.2.2.2)=_;rw[hch];rfl,hch] at g;exact za0 (zbg (by show¬([115,101,97,116,115]:List Nat)=_;decide)) (ixT a2' (zbA _ _) ⟨rfl,zdW rfl (ixT a2' (zd4 _ _ _ _) g)⟩)
  |word wi dd=>
   have w4:=tb.2.2.2 wi dd hch;rw[hch] at er a2';have k0:chK o.2.2.2.2=2:=by rw[hch];rfl
   have g:=nx o0 o1 (some (rtT f dy c o.2)) (c0.skip (ne (by rw[k0];decide))) (c1.skip (ne (by rw[k0];decide))) (c2.last k0 le (rb 2 o2 c2));rw[show sv (stV (some (rtT f dy c o.2)) on')= .str (SL (zgh wi)) by show sv (zgi o.2.2.2.2)=_;rw[hch];rfl,hch] at g;rw[show chW (.word wi dd)=zcZ wi from rfl] at a2' ⊢;rcases ziF w4 with⟨ew,et⟩|⟨ew,et⟩|⟨ew,et⟩|⟨ew,et⟩
   ·rw[ew] at a2' ⊢;rw[et] at g;exact za0 (zbg (by decide)) (ixT a2' (zbA _ _) ⟨rfl,za0 (zbg (by decide)) (ixT a2' (zbA _ _) ⟨_,rfl,_,rfl,g⟩)⟩)
   ·rw[ew] at a2' ⊢;rw[et] at g;exact za0 (zbg (by decide)) (ixT a2' (zbA _ _) ⟨rfl,za0 (zbg (by decide)) (ixT a2' (zbA _ _) ⟨_,rfl,_,rfl,g⟩)⟩)
   ·rw[ew] at a2' ⊢;rw[et] at g;exact za0 (zbg (by decide)) (ixT a2' (zbA _ _) ⟨rfl,za0 (zbg (by decide)) (ixT a2' (zbA _ _) ⟨_,rfl,_,rfl,g⟩)⟩)
   ·rw[ew] at a2' ⊢;rw[et] at g;exact za0 (zbg (by decide)) (ixT a2' (zbA _ _) ⟨rfl,za0 (zbg (by decide)) (ixT a2' (zbA _ _) ⟨_,rfl,_,rfl,g⟩)⟩)
  |undo k=>have:=tb.1;rw[hch] at this;cases this
  |grant k=>have:=tb.1;rw[hch] at this;cases this
  |back=>have:=tb.1;rw[hch] at this;cases this
 ·rw[hPv] at h;obtain⟨s7,o0,o1,o2,x5,x6,x7,x8,⟨c0,c1,c2⟩,rfl⟩:=h;rw[List.length_map] at c0 c1 c2;open_k0;exact fun p H8 _ s8 e8=>q p o0 o1 o2 H8 (s7.trans s8) ⟨fin _ 0 _ (.inl rfl) c0,fin _ 1 _ (.inl rfl) c1,fin _ 2 _ (.inl rfl) c2⟩ e8
def zmi(K:Fg)(H:Hp)(pa:Addr)(f:Int)(dy:Bool)(c:Int)(nm:List Nat)(pr ct:Int):Prop:= ∃(l:Addr) (zs:List (V×Pl)),zcL K H pa l f dy c∧H l=some (.lst (zs.map (·.1)))∧zdw K H zs∧zs.length≤8∧(∃z0,(zs.filter fun z=>decide (z.2.1=nm))[0]? =some z0∧z0.2.2=(pr,ct))∧(0≤pr∧pr<10 ^ 30)∧0≤ct∧ct≤400
theorem zmi.same{K:Fg}{H H':Hp}{pa:Addr}{f:Int}{dy:Bool}{c:Int}{nm:List Nat}{pr ct:Int}(h:zmi K H pa f dy c nm pr ct)(s:zam H H'):zmi K H' pa f dy c nm pr ct:=
 let ⟨l,zs,h1,h2,h3,h4⟩:=h;⟨l,zs,h1.same s,s _ _ h2,h3.same s,h4⟩
def zns(K:Fg):Sp:=fun vs H Q _=> ∃(pa:Addr) (f:Int) (dy:Bool) (c:Int) (nm:List Nat) (pr ct:Int),vs= [.ref pa, .str (SL nm)]∧zmi K H pa f dy c nm pr ct∧ ∀p H',zam H H'→H' p=some (.tup [.int pr, .int ct])→Q (.ref p) H'
theorem sc_0h:FnScope ["account","name"] ["account","name"] (zak s_0h):=by sl_open
theorem ok_0h(T:Txt w K mg t):FnOk P w K mg base (CXE P w) 1 t.a_0h t.d_0h ["account","name"] (zns K):=by
 refine T.F_0h.fn.okX sc_0h ?_ fun cdv A outer s H vs Q E L hr h=> ?_
 ·kdl_open
 obtain⟨pa,f,dy,c,nm,pr,ct,rfl,⟨l,zs,⟨pc,f0,f1,hc,ep⟩,el,za,z8,⟨z0,hz0,ez0⟩,_⟩,q⟩:=h;have nd:=sc_0h.nd;refine⟨_,(zag (zap (ixJ zaR (zcS (n:=3) (N:= ["plan","price","count","name"]) (js:= [1]) (by rfl) rfl rfl (zbm (ixJ zaq (pvJ 0) zac)) (fun a=>(zaO (n:=3) rfl (zaL (zai (i:=0) (show List.Nodup (["plan","price","count","name"]:List Str) from by decide+kernel) rfl (Or.inl rfl)) (zaL (zai (i:=1) (show List.Nodup (["plan","price","count","name"]:List Str) from by decide+kernel) rfl (Or.inl rfl)) (zaL (zai (i:=2) (show List.Nodup (["plan","price","count","name"]:List Str) from by decide+kernel) rfl (Or.inl rfl)) zb0))))) (fun a=>(zeB (zbq zcY (pvJ 0) (pvJ 3) (za3 _)))) (fun a=>(zaz (zaa (pvJ 1) (zaa (pvJ 2) zae zab) zab)))) zac))),?_⟩
 (open_k0;repeat (dsimp only[zdP,zbB];open_k0))
 refine ixT (SqT.of ep) (zbA _ _) ⟨l,rfl,⟨_,SqL.of el⟩,fun l2 hl2 aa=> ?_⟩;refine zb9 (fun j xs H5=> ∃as:List Addr,xs=as.map V.ref∧as.length=((zs.take j).filter fun z=>decide (z.2.1=nm)).length∧ ∀(i:Nat) (a:Addr) (z:V×Pl),as[i]? =some a→((zs.take j).filter fun z=>decide (z.2.1=nm))[i]? =some z→H5 a=some (.tup [.int z.2.2.1, .int z.2.2.2])) (zbY (SqL.of el)) hl2 (by rw[List.length_map];exact zbj (by omega)) (fun _ _=>⟨[],rfl,rfl,fun i a t h=>by rw[List.getElem?_nil] at h;cases h⟩) (fun j x xs H8 K1 K0 hx sm pv hl k1 k0=> ?_) (fun xs H2 s2 pv _ w2=> ?_)
 ·obtain⟨z,hz,rfl⟩: ∃z,zs[j]? =some z∧x=z.1:=by
   rw[List.getElem?_map] at hx;obtain⟨u,e,rfl⟩:=Option.map_eq_some_iff.mp hx;exact⟨u,e,rfl⟩
  obtain⟨pz,ez,hT⟩:=za z (List.mem_of_getElem? hz);obtain⟨as,rfl,al,pa'⟩:=pv;have fe:(zs.take (j+1)).filter (fun z=>decide (z.2.1=nm))=(zs.take j).filter (fun z=>decide (z.2.1=nm))++ [z].filter (fun z=>decide (z.2.1=nm)):=by rw[List.take_add_one,hz,Option.toList_some,List.filter_append]
  rw[ez];open_k0;refine⟨pz,_,rfl,sm.sqT hT,rfl,?_⟩;open_k0;have nl: ∀(Ha:Hp) a xs,zam H8 Ha→Ha a=some (.tup xs)→a≠l2:=fun Ha a xs sa h z=>by rw[z,sa _ _ hl] at h;cases h
  by_cases en:z.2.1=nm
  ·have f1: [z].filter (fun z=>decide (z.2.1=nm))= [z]:=by rw[List.filter_cons_of_pos (by rw[decide_eq_true_eq];exact en)];rfl
   rw[f1] at fe;refine zdW en (show New _ _ _ from fun p H9 hp s9 e9=>k1 _ _ s9 fun H5 h5=>⟨as++ [p],by rw[List.map_append];rfl,by rw[fe,List.length_append,List.length_append,al];rfl,fun i a t h1 h2=> ?_⟩);rw[fe,List.getElem?_append,←al] at h2;rw[List.getElem?_append] at h1;by_cases hi:i<as.length
   ·rw[if_pos hi] at h1 h2
    have:=s9 _ _ (pa' i a t h1 h2);exact h5 _ _ (nl _ _ _ s9 this) this
   ·rw[if_neg hi] at h1 h2;have i0:i - as.length=0:=by
     rcases Nat.lt_or_ge (i - as.length) 1 with z|z
     ·omega
     ·rw[List.getElem?_eq_none (by simpa using z)] at h1;cases h1
    rw[i0] at h1 h2;cases h1;cases h2;exact h5 _ _ (nl _ _ _ s9 e9) e9
  ·have f1: [z].filter (fun z=>decide (z.2.1=nm))= []:=List.filter_cons_of_neg (by rw[decide_eq_true_eq];exact en);rw[f1,List.append_nil] at fe;exact za0 en (k0 _ (zam.refl _) ⟨as,rfl,by rw[fe];exact al,by rw[fe];exact pa'⟩)
 rw[List.length_map,List.take_length] at pv;obtain⟨as,rfl,al,pa'⟩:=pv;obtain⟨h0,_⟩:=List.getElem?_eq_some_iff.mp hz0;have ea:as[0]? =some (as[0]'(by omega)):=List.getElem?_eq_getElem _;have e0:=pa' 0 _ z0 ea hz0;rw[ez0] at e0;refine ixL (v:= .ref (as[0]'(by omega))) (SqL.of w2) (zb1 (j:=0) (by rw[List.getElem?_map,ea];rfl)) (q _ H2 s2 e0)
def znt:Sp:=fun vs H Q _=> ∃p n b e:Int,vs= [.int p, .int n, .int b, .int e]∧0≤p∧p<10 ^ 60∧0<n∧n<10 ^ 20∧0≤b∧b≤e∧e<10 ^ 20∧ ∀H',zam H H'→Q (.int (p*e / n - p*b / n)) H'
theorem sc_0c:FnScope ["price","count","begin","end"] ["price","count","begin","end"] (zak s_0c):=by sl_open
theorem ok_0c(T:Txt w K mg t):FnOk P w K mg base (CXE P w) 1 t.a_0c t.d_0c ["price","count","begin","end"] (znt):=by
 refine T.F_0c.fn.okX sc_0c ?_ fun cdv A outer s H vs Q E L hr h=> ?_
 ·kdl_open
 obtain⟨p,n,b,e,rfl,p0,p1,n0,n1,b0,be,e1,q⟩:=h;have nd:=sc_0c.nd;refine⟨_,(zag (zap (zah zaK (zah zaG (zah zfe (pvJ 0) (pvJ 3)) (pvJ 1)) (zah zaG (zah zfe (pvJ 0) (pvJ 2)) (pvJ 1))))),?_⟩;have mp:Sm p:=Sm.pow10 (k:=60) (by decide) (by omega);have mn:Sm n:=Sm.pow10 (k:=20) (by decide) (by omega);have mb:Sm b:=Sm.pow10 (k:=20) (by decide) (by omega);have me:Sm e:=Sm.pow10 (k:=20) (by decide) (by omega);open_k0;refine⟨.inr ⟨mp,me⟩,n0,mn, .inr ⟨mp,mb⟩,n0,mn,q H (zam.refl _)⟩
def zhN(pr ct st sb se b e:Int):Int:=pr*st*(e - sb) / (if ct=0 then se - sb else ct) - pr*st*(b - sb) / (if ct=0 then se - sb else ct)
def zgr(zs:List (V×Pl)):Prop:=1≤zs.length∧zs.length≤8∧ ∀z∈zs,(0≤z.2.2.1∧z.2.2.1<10 ^ 30)∧0≤z.2.2.2∧z.2.2.2≤400
def zcy(K:Fg)(H:Hp)(pa l:Addr)(f:Int)(dy:Bool)(c:Int)(zs:List (V×Pl)):Prop:=zcL K H pa l f dy c∧H l=some (.lst (zs.map (·.1)))∧zdw K H zs∧zgr zs
theorem zcy.same{K:Fg}{H H':Hp}{pa l:Addr}{f:Int}{dy:Bool}{c:Int}{zs:List (V×Pl)}(h:zcy K H pa l f dy c zs)(s:zam H H'):zcy K H' pa l f dy c zs:=⟨h.1.same s,s _ _ h.2.1,h.2.2.1.same s,h.2.2.2⟩
def plF(zs:List (V×Pl))(nm:List Nat):Int×Int:=(((zs.filter fun z=>decide (z.2.1=nm))[0]?).map fun z=>z.2.2).getD (0,0)
theorem zcy.p{K:Fg}{H:Hp}{pa l:Addr}{f:Int}{dy:Bool}{c:Int}{zs:List (V×Pl)}(h:zcy K H pa l f dy c zs){nm:List Nat}(hn:nm∈zs.map fun z=>z.2.1):zmi K H pa f dy c nm (plF zs nm).1 (plF zs nm).2:=by
 obtain⟨h1,h2,h3,h4,h5,h6⟩:=h;obtain⟨z,hz,e⟩:=List.mem_map.mp hn;have hm:z∈zs.filter fun z=>decide (z.2.1=nm):=List.mem_filter.mpr ⟨hz,decide_eq_true e⟩;have hl:=List.length_pos_of_mem hm;have e0:(zs.filter fun z=>decide (z.2.1=nm))[0]? =some ((zs.filter fun z=>decide (z.2.1=nm))[0]'hl):=List.getElem?_eq_getElem _;have ef:plF zs nm=((zs.filter fun z=>decide (z.2.1=nm))[0]'hl).2.2:=by unfold plF;rw[e0];rfl
 have b:=h6 _ (List.mem_filter.mp (List.getElem_mem hl)).1;rw[←ef] at b;exact⟨l,zs,h1,h2,h3,h5,⟨_,e0,ef.symm⟩,b.1,b.2⟩
def StX(zs:List (V×Pl))(d:List D):Prop:= ∃d0 n wd,d= [d0, .int n, .str wd]∧(d0= .non∨ ∃nm,d0= .str nm∧nm∈zs.map fun z=>z.2.1)∧0≤n∧n≤1000000
def zbT(zs:List (V×Pl))(sb se b e:Int):List D→Int
 | [.str nm, .int st, .str wd]=>if wd= [111,110] then zhN (plF zs nm).1 (plF zs nm).2 st sb se b e else 0
 |_=>0
def zj8(K:Fg):Sp:=fun vs H Q _=> ∃(pa l:Addr) (f:Int) (dy:Bool) (c:Int) (zs:List (V×Pl)) (d:List D) (p1 p2 p3:Addr) (sb se b e:Int),vs= [.ref pa, .ref p1, .ref p2]∧zcy K H pa l f dy c zs∧StX zs d∧H p1=some (.tup [.int sb, .int se])∧H p2=some (.tup [.int b, .int e, .ref p3])∧H p3=some (.tup (d.map sv))∧sb≤b∧b≤e∧e≤se∧sb<se∧se - sb<10 ^ 10∧ ∀H',zam H H'→Q (.int (zbT zs sb se b e d)) H'
theorem sc_0i:FnScope ["account","span","stretch","begin","end","state","name","seats","word","span_begin","span_end","price","count"] ["account","span","stretch"] (zak s_0i):=by sl_open
theorem ok_0i(T:Txt w K mg t):FnOk P w K mg base (CXE P w) 2 t.a_0i t.d_0i ["account","span","stretch"] (zj8 K):=by
 refine T.F_0i.fn.okX sc_0i ?_ fun cdv A outer s H vs Q E L hr h=> ?_
 ·kdl_open
 obtain⟨pa,l,f,dy,c,zs,d,p1,p2,p3,sb,se,b,e,rfl,hz,⟨d0,st,wd,rfl,hd,st0,st1⟩,e1,e2,e3,h1,h2,h3,h4,h5,q⟩:=h;have nd:=sc_0i.nd;refine⟨_,(zad (za6 (pvJ 2) (zaO (n:=3) rfl (zaj (zai (i:=3) nd rfl (Or.inl rfl)) (zaj (zai (i:=4) nd rfl (Or.inl rfl)) (zaj (zai (i:=5) nd rfl (Or.inl rfl)) zaJ))))) (zad (za6 (pvJ 5) (zaO (n:=3) rfl (zaj (zai (i:=6) nd rfl (Or.inl rfl)) (zaj (zai (i:=7) nd rfl (Or.inl rfl)) (zaj (zai (i:=8) nd rfl (Or.inl rfl)) zaJ))))) (zad (zay (PWQ.pq (zck (zcF (zbq zkq (pvJ 6) zgw (za3 _))) (zca (zgg (pvJ 8) (zax st_10))))) (zag (zap zac)) zav) (zad (za6 (pvJ 1) (zaO (n:=2) rfl (zaj (zai (i:=9) nd rfl (Or.inl rfl)) (zaj (zai (i:=10) nd rfl (Or.inl rfl)) zaJ)))) (zad (za6 (peD L.toLv (ok_0h T) hr T.F_0h (zaa (pvJ 0) (zaa (pvJ 6) zae zab) zab)) (zaO (n:=2) rfl (zaj (zai (i:=11) nd rfl (Or.inl rfl)) (zaj (zai (i:=12) nd rfl (Or.inl rfl)) zaJ)))) (zad (zay (zbC (pvJ 12) zac) (zag (psJ 12 nd (zah zaK (pvJ 10) (pvJ 9)))) zav) (zag (zap (peD L.toLv (ok_0c T) hr T.F_0c (zaa (zah zfe (pvJ 11) (pvJ 7)) (zaa (pvJ 12) (zaa (zah zaK (pvJ 3) (pvJ 9)) (zaa (zah zaK (pvJ 4) (pvJ 9)) zae zan) zan) zab) zan)))))))))),?_⟩;open_k0;refine⟨p2,_,rfl,SqT.of e2,rfl,?_⟩;open_k0;rcases hd with rfl|⟨nm,rfl,hn⟩
 ·have e3':H p3=some (.tup [.non, .int st, .str (SL wd)]):=e3;refine⟨p3,_,rfl,SqT.of e3',rfl,?_⟩;open_k0;exact q H (zam.refl _)
 have e3':H p3=some (.tup [.str (SL nm), .int st, .str (SL wd)]):=e3;have ha:=hz.p hn;have q0: ∀H',zam H H'→Q (.int (if wd= [111,110] then zhN (plF zs nm).1 (plF zs nm).2 st sb se b e else 0)) H':=q;generalize (plF zs nm).1=pr at ha q0;generalize (plF zs nm).2=ct at ha q0;have ⟨_,_,_,_,_,_,_,⟨pr0,pr1⟩,ct0,ct1⟩:=ha;refine⟨p3,_,rfl,SqT.of e3',rfl,?_⟩;open_k0;by_cases on:wd= [111,110]
 ·subst on;refine za0 (fun z=>z rfl) ?_;refine⟨p1,_,rfl,SqT.of e1,rfl,?_⟩;open_k0;refine⟨pa,f,dy,c,nm,pr,ct,rfl,ha,fun p4 H4 s4 e4=> ?_⟩;refine⟨p4,_,rfl,SqT.of e4,rfl,?_⟩;open_k0;have mp:Sm pr:=Sm.pow10 (k:=30) (by decide) (by omega);have ms:Sm st:=Sm.pow10 (k:=7) (by decide) (by omega);have m0:0≤pr*st:=Int.mul_nonneg pr0 st0;have m1:pr*st<10 ^ 60:=by
   have:=Int.mul_le_mul (show pr≤10 ^ 30 by omega) st1 st0 (by decide);exact Int.lt_of_le_of_lt this (by decide)
  have q':=q0;rw[if_pos rfl] at q';unfold zhN at q';refine zaX (fun z=>⟨.inr ⟨mp,ms⟩,pr*st,se - sb,b - sb,e - sb,rfl,m0,m1,by omega,by omega,by omega,by omega,by omega,fun H5 s5=> ?_⟩) (fun z=>⟨.inr ⟨mp,ms⟩,pr*st,ct,b - sb,e - sb,rfl,m0,m1,by omega,by omega,by omega,by omega,by omega,fun H5 s5=> ?_⟩)
  ·rw[if_pos z] at q';exact q' H5 (s4.trans s5)
  ·rw[if_neg z] at q';exact q' H5 (s4.trans s5)
 ·rw[if_neg on] at q0;exact zdW on (q0 H (zam.refl _))
def TmX(zs:List (V×Pl))(ch:Ch):Prop:=(∀d nm,ch= .plan d nm→nm∈zs.map fun z=>z.2.1)∧ ∀d n,ch= .seats d n→0≤n∧n≤1000000
theorem st_x{f:Int}{dy:Bool}{c:Int}{zs:List (V×Pl)}{ts:List Tm}{day:Int}{o0 o1 o2:Option Rt}(hb: ∀t∈ts,zcg t.2.2.2=true)(hx: ∀t∈ts,TmX zs t.2.2.2)(h:zfC f dy c ts day o0 o1 o2):StX zs (stT o0 o1 o2):=by
 obtain⟨h0,h1,h2⟩:=h;have of: ∀(kd:Nat) (t:Rt),Bst (ts.map (rtT f dy c)) day kd (some t)→ ∃u:Tm,u∈ts∧chK u.2.2.2=kd∧t.2.2.2=zgi u.2.2.2:=fun kd t hb'=>by
  obtain⟨u,hu,rfl⟩:=List.mem_map.mp hb'.1;exact⟨u,hu,hb'.2.1,rfl⟩
 have a0:stV o0 .non= .non∨ ∃nm,stV o0 .non= .str nm∧nm∈zs.map fun z=>z.2.1:=by
  cases o0 with
  |none=>exact .inl rfl
  |some t=>
   obtain⟨u,hu,k,e⟩:=of 0 t h0;have x:=hx u hu;show t.2.2.2= .non∨ ∃nm,t.2.2.2= .str nm∧_;rw[e];cases hch:u.2.2.2 with
   |plan d nm=>exact .inr ⟨nm,rfl,x.1 d nm hch⟩
   |seats d n=>rw[hch] at k;cases k
   |word w d=>rw[hch] at k;cases k
   |undo k'=>rw[hch] at k;cases k
   |grant k'=>rw[hch] at k;cases k
   |back=>rw[hch] at k;cases k
 have a1: ∃n,stV o1 (.int 1)= .int n∧0≤n∧n≤1000000:=by
  cases o1 with
  |none=>exact⟨1,rfl,by decide,by decide⟩
  |some t=>
   obtain⟨u,hu,k,e⟩:=of 1 t h1;have x:=hx u hu;show∃n,t.2.2.2= .int n∧_;rw[e];cases hch:u.2.2.2 with
   |seats d n=>exact⟨n,rfl,x.2 d n hch⟩
   |plan d nm=>rw[hch] at k;cases k
   |word w d=>rw[hch] at k;cases k
   |undo k'=>rw[hch] at k;cases k
   |grant k'=>rw[hch] at k;cases k
   |back=>rw[hch] at k;cases k
 have a2: ∃w,stV o2 on'= .str w:=by
  cases o2 with
  |none=>exact⟨_,rfl⟩
  |some t=>
   obtain⟨u,hu,k,e⟩:=of 2 t h2;have tm:=hb u hu;show∃w,t.2.2.2= .str w;rw[e];cases hch:u.2.2.2 with
   |word w d=>exact⟨_,rfl⟩
   |plan d nm=>rw[hch] at k;cases k
   |seats d n=>rw[hch] at k;cases k
   |undo k'=>rw[hch] at tm;cases tm
   |grant k'=>rw[hch] at tm;cases tm
   |back=>rw[hch] at tm;cases tm
 obtain⟨n,e1,n0,n1⟩:=a1;obtain⟨wd,e2⟩:=a2;exact⟨_,n,wd,by unfold stT;rw[e1,e2],a0,n0,n1⟩
theorem st_kinds{f:Int}{dy:Bool}{c:Int}{ts:List Tm}{day:Int}{o0 o1 o2:Option Rt}(hb: ∀t∈ts,zcg t.2.2.2=true)(h:zfC f dy c ts day o0 o1 o2):ScD (stV o0 .non)∧(∃n,stV o1 (.int 1)= .int n)∧ ∃w,stV o2 on'= .str w:=by
 obtain⟨h0,h1,h2⟩:=h;have of: ∀(kd:Nat) (t:Rt),Bst (ts.map (rtT f dy c)) day kd (some t)→ ∃u:Tm,zcg u.2.2.2=true∧chK u.2.2.2=kd∧t.2.2.2=zgi u.2.2.2:=fun kd t hb'=>by
  obtain⟨u,hu,rfl⟩:=List.mem_map.mp hb'.1;exact⟨u,hb u hu,hb'.2.1,rfl⟩
 refine⟨?_,?_,?_⟩
 ·cases o0 with
  |none=>exact .inl rfl
  |some t=>
   obtain⟨u,tm,k,e⟩:=of 0 t h0;show ScD t.2.2.2;rw[e];cases hch:u.2.2.2 with
   |plan d nm=>exact .inr (.inr ⟨_,rfl⟩)
   |seats d n=>exact .inr (.inl ⟨_,rfl⟩)
   |word w d=>exact .inr (.inr ⟨_,rfl⟩)
   |undo k=>exact .inl rfl
   |grant k=>exact .inl rfl
   |back=>exact .inl rfl
 ·cases o1 with
  |none=>exact⟨1,rfl⟩
  |some t=>
   obtain⟨u,tm,k,e⟩:=of 1 t h1;show∃n,t.2.2.2= .int n;rw[e];cases hch:u.2.2.2 with
   |seats d n=>exact⟨n,rfl⟩
   |plan d nm=>rw[hch] at k;cases k
   |word w d=>rw[hch] at k;cases k
   |undo k'=>rw[hch] at tm;cases tm
   |grant k'=>rw[hch] at tm;cases tm
   |back=>rw[hch] at tm;cases tm
 ·cases o2 with
  |none=>exact⟨_,rfl⟩
  |some t=>
   obtain⟨u,tm,k,e⟩:=of 2 t h2;show∃n,t.2.2.2= .str n;rw[e];cases hch:u.2.2.2 with
   |word w d=>exact⟨_,rfl⟩
   |plan d nm=>rw[hch] at k;cases k
   |seats d nm=>rw[hch] at k;cases k
   |undo k'=>rw[hch] at tm;cases tm
   |grant k'=>rw[hch] at tm;cases tm
   |back=>rw[hch] at tm;cases tm
theorem zfB.same{K:Fg}{H H':Hp}{l:Addr}{f:Int}{dy:Bool}{c:Int}{os:List Or'}(h:zfB K H l f dy c os)(s:zam H H'):zfB K H' l f dy c os:=⟨s _ _ h.1,h.2.1,fun o ho=>⟨s _ _ (h.2.2.1 o ho).1,s.sqT (h.2.2.1 o ho).2.1,(h.2.2.1 o ho).2.2⟩,h.2.2.2⟩
theorem st_std{f:Int}{dy:Bool}{c:Int}{ts:List Tm}{day:Int}{o0 o1 o2:Option Rt}(hb: ∀t∈ts,zcg t.2.2.2=true)(h:zfC f dy c ts day o0 o1 o2):StD (stT o0 o1 o2):=by
 obtain⟨k0,⟨n,k1⟩,w,k2⟩:=st_kinds hb h;exact⟨_,n,w,k0,by unfold stT;rw[k1,k2]⟩
theorem zfC.on{f:Int}{dy:Bool}{c:Int}{ts:List Tm}{day d2:Int}{o0 o1 o2:Option Rt}(h:zfC f dy c ts day o0 o1 o2)(le:day≤d2)(n: ∀t∈ts,cntF f dy c t.2.2.2≤day∨d2<cntF f dy c t.2.2.2):zfC f dy c ts d2 o0 o1 o2:=by
 have n': ∀r∈ts.map (rtT f dy c),r.2.1≤day∨d2<r.2.1:=fun r hr=>by
  obtain⟨t,ht,rfl⟩:=List.mem_map.mp hr;exact n t ht
 exact⟨h.1.on le n',h.2.1.on le n',h.2.2.on le n'⟩
def IsG(f:Int)(dy:Bool)(c:Int)(ts:List Tm)(G:Int→List D):Prop:= ∀d o0 o1 o2,zfC f dy c ts d o0 o1 o2→stT o0 o1 o2=G d
def zpC(f:Int)(dy:Bool)(c:Int)(ts:List Tm)(d:List D):Prop:= ∃dd o0 o1 o2,zfC f dy c ts dd o0 o1 o2∧d=stT o0 o1 o2
def zhO(K:Fg):Sp:=fun vs H Q _=> ∃(l:Addr) (b e:Int) (f:Int) (dy:Bool) (c:Int) (os:List Or') (G:Int→List D),vs= [.ref l, .int b, .int e]∧zfB K H l f dy c os∧b≤e∧IsG f dy c (os.map (·.2)) G∧ ∀r zs H',H r=none→zam H H'→zgj H' r zs→Rws G b (zs.map (·.2)) e→(∀z∈zs,zpC f dy c (os.map (·.2)) z.2.2.2)→zs.length≤64→Q (.ref r) H'
theorem sc_0g:FnScope ["ordered","begin","end","told","opened","state","term","day","behind"] ["ordered","begin","end"] (zak s_0g):=by sl_open
theorem ok_0g(T:Txt w K mg t):FnOk P w K mg base (CXE P w) 2 t.a_0g t.d_0g ["ordered","begin","end"] (zhO K):=by
 refine T.F_0g.fn.okX sc_0g ?_ fun cdv A outer s H vs Q E L hr h=> ?_
 ·kdl_open
 obtain⟨l,b,e,f,dy,c,os,G,rfl,ho,be,hG,q⟩:=h;have nd:=sc_0g.nd;refine⟨_,(zad (zay (zbC (pvJ 1) (pvJ 2)) (zag (zap (zaB zae))) zav) (zad (psJ 3 nd (zaB zae)) (zad (psJ 4 nd (pvJ 1)) (zad (psJ 5 nd (peD L.toLv (ok_0f T) hr T.F_0f (zaa (pvJ 0) (zaa (pvJ 1) zae zab) zab))) (zad (zbs (by passes_own) rfl (zbm (pvJ 0)) (zai (i:=6) nd rfl (Or.inl rfl)) (zad (psJ 7 nd (ixJ zaq (pvJ 6) zac)) (zag (zay (PWQ.pq (zb2 (zaV zbL (pvJ 1) (pvJ 7)) (zbO (zaV zbL (pvJ 7) (pvJ 2))))) (zad (psJ 8 nd (peD L.toLv (ok_0f T) hr T.F_0f (zaa (pvJ 0) (zaa (pvJ 7) zae zab) zab))) (zag (zay (zcF (zbq (zkV hr) (pvJ 8) (pvJ 5) (za3 _))) (zad (zbb (zb4 PySem.F.plainAttrs_list PySem.F.slot_list_append PySem.F.type_list_append za8 (pvJ 3) (zaa (zaz (zaa (pvJ 4) (zaa (pvJ 7) (zaa (pvJ 5) zae zab) zab) zab)) zae))) (zad (psJ 4 nd (pvJ 7)) (zag (psJ 5 nd (pvJ 8))))) zav))) zav)))) (zad (zbb (zb4 PySem.F.plainAttrs_list PySem.F.slot_list_append PySem.F.type_list_append za8 (pvJ 3) (zaa (zaz (zaa (pvJ 4) (zaa (pvJ 2) (zaa (pvJ 5) zae zab) zab) zab)) zae))) (zag (zap (pvJ 3))))))))),?_⟩;obtain⟨el,n64,h3,so⟩:=id ho;have tm: ∀t∈os.map (·.2),zcg t.2.2.2=true:=fun t ht=>by
  obtain⟨o,ho',rfl⟩:=List.mem_map.mp ht;exact(h3 o ho').2.2.1
 open_k0;refine zaX (fun z=> ?_) (fun z=> ?_)
 ·exact fun r H1 hr s1 e1=>q r [] H1 hr s1 ⟨e1,(fun _ h=>nomatch h)⟩ z (fun _ h=>nomatch h) (by decide)
 intro lt H1 hlt s1 e1;refine⟨l,b,f,dy,c,os,rfl,ho.same s1,fun ps o0 o1 o2 H2 s2 so2 e2=> ?_⟩;have s12:=s1.trans s2
 ((try dsimp only);refine zbE fun R hR=> ?_;(open_k0;repeat (dsimp only[zbB,zb5,zbU,zb7];open_k0)))
 refine⟨⟨_,SqL.of (s12 _ _ el)⟩,hR _ _ ?_⟩;clear hR;obtain⟨Pv,hPv⟩: ∃Pv:Nat→St→Hp→Prop,Pv=fun i σ1 H7=>zam H H7∧ ∃(zs:List (Addr×Rw)) (op:Int) (ps:Addr) (d:List D) (x6 x7 x8:Option V),zgj H7 lt zs∧zs.length≤i∧Rws G b (zs.map (·.2)) op∧(∀x,(zs.map (·.2)).getLast? =some x→x.2.2≠d)∧(H7 ps=some (.tup (d.map sv))∧StD d)∧((∀z∈zs,zpC f dy c (os.map (·.2)) z.2.2.2)∧zpC f dy c (os.map (·.2)) d)∧op<e∧(∀(j:Nat) o,os[j]? =some o→i≤j→b<cntF f dy c o.2.2.2.2→op≤cntF f dy c o.2.2.2.2)∧(∀day,op≤day→day<e→(∀(j:Nat) o,os[j]? =some o→i≤j→cntF f dy c o.2.2.2.2≤op∨day<cntF f dy c o.2.2.2.2)→G day=d)∧σ1= [some (.ref l),some (.int b),some (.int e),some (.ref lt),some (.int op),some (.ref ps),x6,x7,x8]:=⟨_,rfl⟩
 have go: ∀(k i:Nat) (x o:Or'),os[k]? =some x→os[i]? =some o→k≤i→cntF f dy c x.2.2.2.2≤cntF f dy c o.2.2.2.2:=fun k i x o hk hi ki=>by
  obtain⟨hk',ek⟩:=List.getElem?_eq_some_iff.mp hk;obtain⟨hi',ei⟩:=List.getElem?_eq_some_iff.mp hi;rcases Nat.lt_or_ge k i with z|z
  ·have:=(List.pairwise_iff_getElem.mp so k i hk' hi' z).1;rw[ek,ei] at this;exact this
  ·obtain rfl:k=i:=by omega
   rw[hk] at hi;cases hi;exact Int.le_refl _
 refine zb3 (xs:=os.map fun o=>V.ref o.1) Pv ?_ (fun _ _ _ _ h=>by rw[hPv] at h;exact SqL.of (h.1 _ _ el)) (fun i x σ1 H7 hx h=> ?_) (fun σ1 H7 h=> ?_)
 ·rw[hPv];refine⟨s12, [],b,ps,_,_,_,_,⟨s2 _ _ e1,(fun _ h=>nomatch h)⟩,Nat.le_refl _,rfl,(fun _ h=>nomatch h),⟨e2,st_std tm so2⟩,⟨(fun _ h=>nomatch h),_,_,_,_,so2,rfl⟩,by omega,fun _ _ _ _ h=>by omega,fun day h1 _ h2=> ?_,rfl⟩;refine(hG _ _ _ _ (so2.on h1 fun t ht=> ?_)).symm;obtain⟨o,ho',rfl⟩:=List.mem_map.mp ht;obtain⟨j,hj⟩:=List.getElem?_of_mem ho';exact h2 j o hj (Nat.zero_le _)
 ·rw[hPv] at h;obtain⟨s7,zs,op,ps,d,x6,x7,x8,zA,zl,hr,la,⟨e7,sd⟩,⟨zS,dS⟩,oe,oc,ok,rfl⟩:=h;obtain⟨o,hz,rfl⟩: ∃o,os[i]? =some o∧x= .ref o.1:=by
   rw[List.getElem?_map] at hx;obtain⟨u,e,rfl⟩:=Option.map_eq_some_iff.mp hx;exact⟨u,e,rfl⟩
  obtain⟨a1,a2,tb⟩:=h3 o (List.mem_of_getElem? hz);have bo:=Rws.le hr;open_k0;refine ixT (SqT.of (s7 _ _ a1)) (zbA _ _) ?_;have nx: ∀(x8':Option V) (H8:Hp),zam H7 H8→(∀day,op≤day→day<e→(∀(j:Nat) o,os[j]? =some o→i+1≤j→cntF f dy c o.2.2.2.2≤op∨day<cntF f dy c o.2.2.2.2)→G day=d)→Pv (i+1) [some (.ref l),some (.int b),some (.int e),some (.ref lt),some (.int op),some (.ref ps),some (.ref o.1),some (.int (cntF f dy c o.2.2.2.2)),x8'] H8:=fun x8' H8 s8 hd=>by
   rw[hPv];exact⟨s7.trans s8,zs,op,ps,d,_,_,_,zA.same s8,by omega,hr,la,⟨s8 _ _ e7,sd⟩,⟨zS,dS⟩,oe,fun j o hj ij=>oc j o hj (by omega),hd,rfl⟩
  have far:(cntF f dy c o.2.2.2.2≤op∨e≤cntF f dy c o.2.2.2.2)→ ∀day,op≤day→day<e→(∀(j:Nat) o,os[j]? =some o→i+1≤j→cntF f dy c o.2.2.2.2≤op∨day<cntF f dy c o.2.2.2.2)→G day=d:=fun hf day h1 h2 h4=>ok day h1 h2 fun j o' hj ij=>by
   rcases Nat.lt_or_ge i j with z|z
   ·exact h4 j o' hj z
   ·obtain rfl:i=j:=by omega
    rw[hz] at hj;cases hj;rcases hf with z|z
    ·exact .inl z
    ·exact .inr (by omega)
  refine⟨_,rfl,zaX (fun hb=>⟨_,rfl,zaX (fun he=> ?_) fun he=>nx _ _ (zam.refl _) (far (.inr (by omega)))⟩) fun hb=>nx _ _ (zam.refl _) (far (.inl (by omega)))⟩;refine⟨l,cntF f dy c o.2.2.2.2,f,dy,c,os,rfl,ho.same s7,fun pb o0 o1 o2 H8 s8 so8 e8=> ?_⟩;have oc':=oc i o hz (Nat.le_refl _) hb;have sd8:=st_std tm so8;have gb:=hG _ _ _ _ so8;have all: ∀day,cntF f dy c o.2.2.2.2≤day→(∀(j:Nat) o',os[j]? =some o'→i+1≤j→cntF f dy c o'.2.2.2.2≤cntF f dy c o.2.2.2.2∨day<cntF f dy c o'.2.2.2.2)→G day=stT o0 o1 o2:=fun day h1 h2=>by
   refine(hG _ _ _ _ (so8.on h1 fun t ht=> ?_)).symm;obtain⟨o',ho',rfl⟩:=List.mem_map.mp ht;obtain⟨j,hj⟩:=List.getElem?_of_mem ho';rcases Nat.lt_or_ge i j with z|z
   ·exact h2 j o' hj z
   ·exact .inl (go j i o' o hj hz z)
  have go': ∀(j:Nat) o',os[j]? =some o'→i+1≤j→cntF f dy c o.2.2.2.2≤cntF f dy c o'.2.2.2.2:=fun j o' hj ij=>go i j o o' hz hj (by omega);refine⟨0, .tup (stT o0 o1 o2), .tup d,sd8.dp e8,sd.dp (s8 _ _ e7),rfl,rfl,by decide,sd8.cmp sd,_,rfl,?_⟩;by_cases eq:stT o0 o1 o2=d
  ·rw[(sd8.eqb sd).mpr eq];refine za0 (by decide) (nx _ _ s8 fun day h1 h2 h4=> ?_);by_cases dc:day<cntF f dy c o.2.2.2.2
   ·exact ok day h1 h2 fun j o' hj ij=>by
     rcases Nat.lt_or_ge i j with z|z
     ·exact h4 j o' hj z
     ·obtain rfl:i=j:=by omega
      rw[hz] at hj;cases hj;exact .inr dc
   ·rw[←eq];exact all day (by omega) fun j o' hj ij=>by
     rcases h4 j o' hj ij with z|z
     ·exact .inl (by omega)
     ·exact .inr z
  ·rw[show L2.eqb 1 (.tup (stT o0 o1 o2)) (.tup d)=false from Bool.eq_false_iff.mpr fun z=>eq ((sd8.eqb sd).mp z)];refine zdW rfl ?_;have gop:=ok op (Int.le_refl _) oe fun j o' _ _=>by omega
   have lo:op<cntF f dy c o.2.2.2.2:=by
    rcases Int.lt_or_eq_of_le oc' with z|z
    ·exact z
    ·rw[z] at gop;exact absurd (gb.trans gop) eq
   have z8:=zA.same s8
   (open_k0;repeat (dsimp only[tBM];open_k0))
   refine⟨.inl ⟨rfl,_,SqL.of z8.1⟩,fun pt H9 hpt s9 e9=> ?_⟩;have z9:=z8.same s9;have off: ∀p xs ys,H9 p=some (.tup xs)→upd H9 lt (.lst ys) p=some (.tup xs):=fun p xs ys e=>by
    rw[zal (fun y=>by rw[y,z9.1] at e;cases e)];exact e
   refine⟨lt,_,_,rfl,rfl,z9.1,zbz (show _+1≤1000 by rw[List.length_map];have:=(List.getElem?_eq_some_iff.mp hz).1;omega),?_⟩;rw[hPv];refine⟨((s7.trans s8).trans s9).put hlt _,zs++ [(pt,op,cntF f dy c o.2.2.2.2,d)],cntF f dy c o.2.2.2.2,pb,stT o0 o1 o2,_,_,_,⟨by rw[zao,List.map_append];rfl,fun z hz'=> ?_⟩,by rw[List.length_append];show _+1≤_;omega,?_,fun x hx=> ?_,⟨off _ _ _ (s9 _ _ e8),sd8⟩,⟨fun z hz'=> ?_,_,_,_,_,so8,rfl⟩,he,fun j o' hj ij _=>go' j o' hj ij,fun day h1 _ h4=>all day h1 h4,rfl⟩
   ·rcases List.mem_append.mp hz' with h|h
    ·exact(z9.2 z h).put z9.1
    ·rw[List.mem_singleton.mp h];exact⟨ps,off _ _ _ e9,off _ _ _ (s9 _ _ (s8 _ _ e7)),sd⟩
   ·rw[List.map_append];exact Rws.snoc (z:=(op,cntF f dy c o.2.2.2.2,d)) hr rfl lo (fun day h1 h2=>by
     have h2':day<cntF f dy c o.2.2.2.2:=h2;exact ok day h1 (by omega) fun j o' hj ij=> .inr (by
      have:=go i j o o' hz hj ij;omega)) la
   ·rw[List.map_append,List.map_cons,List.map_nil,List.getLast?_concat] at hx;cases hx;exact fun z=>eq z.symm
   ·rcases List.mem_append.mp hz' with h|h
    ·exact zS z h
    ·rw[List.mem_singleton.mp h];exact dS
 ·rw[hPv] at h;obtain⟨s7,zs,op,ps,d,x6,x7,x8,zA,zl,hr,la,⟨e7,sd⟩,⟨zS,dS⟩,oe,oc,ok,rfl⟩:=h;rw[List.length_map] at zl ok
  (open_k0;repeat (dsimp only[tBM];open_k0))
  refine⟨.inl ⟨rfl,_,SqL.of zA.1⟩,fun pt H9 hpt s9 e9=> ?_⟩;have z9:=zA.same s9;have off: ∀p xs ys,H9 p=some (.tup xs)→upd H9 lt (.lst ys) p=some (.tup xs):=fun p xs ys e=>by
   rw[zal (fun y=>by rw[y,z9.1] at e;cases e)];exact e
  refine⟨lt,_,_,rfl,rfl,z9.1,zbz (show _+1≤1000 by rw[List.length_map];omega),?_⟩;refine q lt (zs++ [(pt,op,e,d)]) _ hlt ((s7.trans s9).put hlt _) ⟨by rw[zao,List.map_append];rfl,fun z hz'=> ?_⟩ ?_ (fun z hz'=> ?_) (by rw[List.length_append];show _+1≤_;omega)
  ·rcases List.mem_append.mp hz' with h|h
   ·exact(z9.2 z h).put z9.1
   ·rw[List.mem_singleton.mp h];exact⟨ps,off _ _ _ e9,off _ _ _ (s9 _ _ e7),sd⟩
  ·rw[List.map_append];exact Rws.snoc (z:=(op,e,d)) hr rfl oe (fun day h1 h2=>ok day h1 h2 fun j o' hj ij=>by
    have:=(List.getElem?_eq_some_iff.mp hj).1;omega) la
  ·rcases List.mem_append.mp hz' with h|h
   ·exact zS z h
   ·rw[List.mem_singleton.mp h];exact dS
def Ss(F:Int→Int)(a:Int):Nat→Int
 |0=>0
 |n+1=>Ss F a n+F (a+n)
theorem Ss.add(F:Int→Int)(a:Int)(m:Nat): ∀n:Nat,Ss F a (m+n)=Ss F a m+Ss F (a+m) n
 |0=>by show Ss F a m=Ss F a m+0;omega
 |n+1=>by
  show Ss F a (m+n)+F (a+(m+n:Nat))=Ss F a m+(Ss F (a+m) n+F (a+m+n));rw[Ss.add F a m n,show a+((m+n:Nat):Int)=a+m+n by omega];omega
theorem Ss.congr{F G:Int→Int}{a:Int}: ∀{n:Nat},(∀i:Nat,i<n→F (a+i)=G (a+i))→Ss F a n=Ss G a n
 |0,_=>rfl
 |n+1,h=>by
  show Ss F a n+F (a+n)=Ss G a n+G (a+n);rw[Ss.congr fun i hi=>h i (by omega),h n (by omega)]
def Sb(F:Int→Int)(a b:Int):Int:=Ss F a (b - a).toNat
theorem Sb.add{F:Int→Int}{a b c:Int}(h:a≤b)(g:b≤c):Sb F a b+Sb F b c=Sb F a c:=by
 unfold Sb
 have:=Ss.add F a (b - a).toNat (c - b).toNat;rw[show (b - a).toNat+(c - b).toNat=(c - a).toNat by omega,show a+((b - a).toNat:Int)=b by omega] at this;omega
theorem Sb.self(F:Int→Int)(a:Int):Sb F a a=0:=by unfold Sb;rw[Int.sub_self];rfl
theorem Sb.one(F:Int→Int)(a:Int):Sb F a (a+1)=F a:=by
 unfold Sb;rw[show (a+1 - a).toNat=1 by omega];show 0+F (a+(0:Nat))=F a;rw[show a+((0:Nat):Int)=a by omega];omega
theorem Sb.congr{F G:Int→Int}{a b:Int}(h: ∀o,a≤o→o<b→F o=G o):Sb F a b=Sb G a b:=Ss.congr fun i hi=>h _ (by omega) (by omega)
theorem zhP(zs:List (V×Pl))(sb se b m e:Int)(d:List D):zbT zs sb se b m d+zbT zs sb se m e d=zbT zs sb se b e d:=by
 unfold zbT;split
 ·split
  ·unfold zhN;omega
  ·rfl
 ·rfl
theorem zj9(zs:List (V×Pl))(sb se b:Int)(d:List D):zbT zs sb se b b d=0:=by
 have:=zhP zs sb se b b b d;omega
theorem zjp{zs:List (V×Pl)}{sb se b:Int}{G:Int→List D}{d:List D}: ∀{n:Nat},(∀i:Nat,i<n→G (b+i)=d)→Ss (fun o=>zbT zs sb se o (o+1) (G o)) b n=zbT zs sb se b (b+n) d
 |0,_=>by
  show 0=zbT zs sb se b (b+(0:Nat)) d;rw[show b+((0:Nat):Int)=b by omega,zj9]
 |n+1,h=>by
  show Ss _ b n+zbT zs sb se (b+n) (b+n+1) (G (b+n))=_;rw[zjp fun i hi=>h i (by omega),h n (by omega),zhP,show b+(n:Int)+1=b+((n+1:Nat):Int) by omega]
theorem zfD{zs:List (V×Pl)}{sb se:Int}{G:Int→List D}: ∀{xs:List Rw} {b e:Int},Rws G b xs e→(xs.map fun x=>zbT zs sb se x.1 x.2.1 x.2.2).sum=Sb (fun o=>zbT zs sb se o (o+1) (G o)) b e
 | [],b,e,h=>by
  obtain rfl:b=e:=h;rw[Sb.self];rfl
 |x::r,b,e,h=>by
  obtain⟨h1,h2,h3,_,h5⟩:=h;rw[List.map_cons,List.sum_cons,zfD h5,←Sb.add (show b≤x.2.1 by omega) (Rws.le h5)]
  have:Sb (fun o=>zbT zs sb se o (o+1) (G o)) b x.2.1=zbT zs sb se b x.2.1 x.2.2:=by
   unfold Sb;rw[zjp (d:=x.2.2) fun i hi=>h3 _ (by omega) (by omega),show b+((x.2.1 - b).toNat:Int)=x.2.1 by omega]
  rw[this,h1]
def ziG(zs:List (V×Pl))(sb se:Int)(H:Hp)(z:Addr×Rw):Prop:= ∃s,H z.1=some (.tup [.int z.2.1, .int z.2.2.1, .ref s, .int (zbT zs sb se z.2.1 z.2.2.1 z.2.2.2)])∧H s=some (.tup (z.2.2.2.map sv))∧StD z.2.2.2
def LnR(zs:List (V×Pl))(sb se:Int)(H:Hp)(r:Addr)(ws:List (Addr×Rw)):Prop:=H r=some (.lst (ws.map fun w=>V.ref w.1))∧ ∀w∈ws,ziG zs sb se H w
theorem ziG.same{zs:List (V×Pl)}{sb se:Int}{H H':Hp}{z:Addr×Rw}(h:ziG zs sb se H z)(s:zam H H'):ziG zs sb se H' z:=let ⟨a,h1,h2,h3⟩:=h;⟨a,s _ _ h1,s _ _ h2,h3⟩
theorem ziG.put{zs:List (V×Pl)}{sb se:Int}{H:Hp}{z:Addr×Rw}{l:Addr}{xs ys:List V}(h:ziG zs sb se H z)(e:H l=some (.lst xs)):ziG zs sb se (upd H l (.lst ys)) z:=by
 obtain⟨a,h1,h2,h3⟩:=h;refine⟨a,?_,?_,h3⟩
 ·rw[zal (fun y=>by rw[y,e] at h1;cases h1)];exact h1
 ·rw[zal (fun y=>by rw[y,e] at h2;cases h2)];exact h2
theorem LnR.same{zs:List (V×Pl)}{sb se:Int}{H H':Hp}{r:Addr}{ws:List (Addr×Rw)}(h:LnR zs sb se H r ws)(s:zam H H'):LnR zs sb se H' r ws:=⟨s _ _ h.1,fun z hz=>(h.2 z hz).same s⟩
def zg0(K:Fg):Sp:=fun vs H Q _=> ∃(pa l p1 la:Addr) (f:Int) (dy:Bool) (c:Int) (zs:List (V×Pl)) (sb se e:Int) (os:List Or') (G:Int→List D),vs= [.ref pa, .ref l, .ref p1, .int e]∧zcy K H pa la f dy c zs∧zfB K H l f dy c os∧H p1=some (.tup [.int sb, .int se])∧sb≤e∧e≤se∧sb<se∧se - sb<10 ^ 10∧IsG f dy c (os.map (·.2)) G∧(∀o∈os,TmX zs o.2.2.2.2)∧ ∀r ws H',H r=none→zam H H'→LnR zs sb se H' r ws→ws.length≤64→Rws G sb (ws.map (·.2)) e→Q (.ref r) H'
theorem sc_0j:FnScope ["account","ordered","span","day","lines","stretch","begin","end","state"] ["account","ordered","span","day"] (zak s_0j):=by sl_open
theorem ok_0j(T:Txt w K mg t):FnOk P w K mg base (CXE P w) 3 t.a_0j t.d_0j ["account","ordered","span","day"] (zg0 K):=by
 refine T.F_0j.fn.okX sc_0j ?_ fun cdv A outer s H vs Q E L hr h=> ?_
 ·kdl_open
 obtain⟨pa,l,p1,la,f,dy,c,zs,sb,se,e,os,G,rfl,hz,ho,e1,h1,h2,h3,h4,hG,hx,q⟩:=h;have nd:=sc_0j.nd;refine⟨_,(zad (psJ 4 nd (zaB zae)) (zad (zbs (by passes_own) rfl (zbm (peD L.toLv (ok_0g T) hr T.F_0g (zaa (pvJ 1) (zaa (ixJ zaq (pvJ 2) zac) (zaa (pvJ 3) zae zab) zar) zab))) (zai (i:=5) nd rfl (Or.inl rfl)) (zad (za6 (pvJ 5) (zaO (n:=3) rfl (zaj (zai (i:=6) nd rfl (Or.inl rfl)) (zaj (zai (i:=7) nd rfl (Or.inl rfl)) (zaj (zai (i:=8) nd rfl (Or.inl rfl)) zaJ))))) (zag (zbb (zb4 PySem.F.plainAttrs_list PySem.F.slot_list_append PySem.F.type_list_append za8 (pvJ 4) (zaa (zaz (zaa (pvJ 6) (zaa (pvJ 7) (zaa (pvJ 8) (zaa (peD L.toLv (ok_0i T) hr T.F_0i (zaa (pvJ 0) (zaa (pvJ 2) (zaa (pvJ 5) zae zab) zab) zab)) zae zaF) zab) zab) zab)) zae)))))) (zag (zap (pvJ 4))))),?_⟩;open_k0;intro lt H1 hlt s1 e2
 ((try dsimp only);refine zbE fun R hR=> ?_;(open_k0;repeat (dsimp only[zbB,zb5,zbU,zb7];open_k0)))
 refine ixT (SqT.of (s1 _ _ e1)) (zbA _ _) ⟨l,sb,e,f,dy,c,os,G,rfl,ho.same s1,h1,hG,fun r ys H2 nr s2 yA yW yS yl=> ?_⟩;refine⟨r,rfl,⟨_,SqL.of yA.1⟩,hR _ _ ?_⟩;clear hR;have s12:=s1.trans s2;have e22:=s2 _ _ e2;have rl:r≠lt:=fun z=>by rw[z,e2] at nr;cases nr
 obtain⟨Pv,hPv⟩: ∃Pv:Nat→St→Hp→Prop,Pv=fun i σ1 H7=>zam H H7∧zgj H7 r ys∧ ∃(ws:List (Addr×Rw)) (x5 x6 x7 x8:Option V),LnR zs sb se H7 lt ws∧ws.length=i∧ws.map (·.2)=(ys.take i).map (·.2)∧σ1= [some (.ref pa),some (.ref l),some (.ref p1),some (.int e),some (.ref lt),x5,x6,x7,x8]:=⟨_,rfl⟩
 refine zb3 (xs:=ys.map fun y=>V.ref y.1) Pv (by rw[hPv];exact⟨s12,yA, [],_,_,_,_,⟨e22,(fun _ h=>nomatch h)⟩,rfl,rfl,rfl⟩) (fun _ _ _ _ h=>by rw[hPv] at h;exact SqL.of h.2.1.1) (fun i x σ1 H7 hxx h=> ?_) (fun σ1 H7 h=> ?_)
 ·rw[hPv] at h;obtain⟨s7,yA7,ws,x5,x6,x7,x8,wA,wl,wm,rfl⟩:=h;obtain⟨y,hy,rfl⟩: ∃y,ys[i]? =some y∧x= .ref y.1:=by
   rw[List.getElem?_map] at hxx;obtain⟨u,e,rfl⟩:=Option.map_eq_some_iff.mp hxx;exact⟨u,e,rfl⟩
  have hm:=List.mem_of_getElem? hy;obtain⟨s,g1,g2,g3⟩:=yA7.2 y hm;obtain⟨dd,o0,o1,o2,so,ey⟩:=yS y hm;have sx:=st_x (zs:=zs) (fun t h=>by obtain⟨o,ho',rfl⟩:=List.mem_map.mp h;exact(ho.2.2.1 o ho').2.2.1) (fun t h=>by obtain⟨o,ho',rfl⟩:=List.mem_map.mp h;exact hx o ho') so;rw[←ey] at sx;obtain⟨r1,r2,r3⟩:=Rws.in hy yW
  (open_k0;repeat (dsimp only[tBM];open_k0))
  refine⟨y.1,_,rfl,SqT.of g1,rfl,?_⟩
  (open_k0;repeat (dsimp only[tBM];open_k0))
  refine⟨.inl ⟨rfl,_,SqL.of wA.1⟩,pa,la,f,dy,c,zs,_,p1,y.1,s,sb,se,_,_,rfl,hz.same s7,sx,s7 _ _ e1,g1,g2,r1,by omega,by omega,h3,h4,fun H3 s3=> ?_⟩;intro p4 H4 _ s4 e4;have s74:=s3.trans s4;have w4:=s74 _ _ wA.1;have off: ∀p xs zs',H4 p=some (.tup xs)→upd H4 lt (.lst zs') p=some (.tup xs):=fun p xs zs' h=>by
   rw[zal (fun z=>by rw[z,w4] at h;cases h)];exact h
  refine⟨lt,_,_,rfl,rfl,w4,zba (show (ws.map fun w=>V.ref w.1).length≤1000 by rw[List.length_map];have:=(List.getElem?_eq_some_iff.mp hy).1;omega),?_⟩;rw[hPv];refine⟨(s7.trans s74).put hlt _,⟨by rw[zal rl];exact s74 _ _ yA7.1,fun z hz'=>((yA7.2 z hz').same s74).put w4⟩,ws++ [(p4,y.2)],_,_,_,_,⟨by rw[zao,List.map_append];rfl,fun w hw=> ?_⟩,by rw[List.length_append,wl];rfl,?_,rfl⟩
  ·rcases List.mem_append.mp hw with h|h
   ·exact((wA.2 w h).same s74).put w4
   ·rw[List.mem_singleton.mp h];exact⟨s,off _ _ _ e4,off _ _ _ (s74 _ _ g2),g3⟩
  ·rw[List.map_append,wm,List.take_add_one,hy,Option.toList_some,List.map_append];rfl
 ·rw[hPv] at h;obtain⟨s7,yA7,ws,x5,x6,x7,x8,wA,wl,wm,rfl⟩:=h;rw[List.length_map,List.take_length] at wm;rw[List.length_map] at wl;open_k0;refine q lt ws H7 hlt s7 wA (by omega) ?_;rw[wm];exact yW
def zmj(K:Fg):Sp:=fun vs H Q _=> ∃(l:Addr) (zs:List (V×Pl)) (sb se:Int) (ws:List (Addr×Rw)),vs= [.ref l]∧LnR zs sb se H l ws∧ws.length≤64∧ ∀H',zam H H'→Q (.int ((ws.map (·.2)).map fun x=>zbT zs sb se x.1 x.2.1 x.2.2).sum) H'
theorem sc_0k:FnScope ["lines"] ["lines"] (zak s_0k):=by sl_open
theorem ok_0k(T:Txt w K mg t):FnOk P w K mg base (CXE P w) 1 t.a_0k t.d_0k ["lines"] (zmj K):=by
 refine T.F_0k.fn.okX sc_0k ?_ fun cdv A outer s H vs Q E L hr h=> ?_
 ·kdl_open
 obtain⟨l,zs,sb,se,ws,rfl,wA,wl,q⟩:=h;have nd:=sc_0k.nd;refine⟨_,(zag (zap (zaM (zkR (by rfl)) (by rfl) T.no_sum zkQ (zaa (zcS (n:=1) (N:= ["line"]) (js:= []) (by rfl) rfl rfl (zbm (pvJ 0)) (fun a=>(zai (i:=0) (show List.Nodup (["line"]:List Str) from by decide+kernel) rfl (Or.inl rfl))) (fun a=>zdi) (fun a=>(ixJ zaq (pvJ 0) zac))) zae)))),?_⟩
 (open_k0;repeat (dsimp only[zdP,zbB];open_k0))
 refine⟨⟨_,SqL.of wA.1⟩,fun l2 hl2 aa=> ?_⟩;refine zb9 (fun j xs _=>xs=(((ws.take j).map (·.2)).map fun x=>zbT zs sb se x.1 x.2.1 x.2.2).map V.int) (zbY (SqL.of wA.1)) hl2 (by rw[List.length_map];exact zbj (by omega)) (fun _ _=>rfl) (fun j y xs H8 K1 K0 hx sm pv hl k1 k0=> ?_) (fun xs H2 s2 pv _ w2=> ?_)
 ·obtain⟨w',hw,rfl⟩: ∃w',ws[j]? =some w'∧y= .ref w'.1:=by
   rw[List.getElem?_map] at hx;obtain⟨u,e,rfl⟩:=Option.map_eq_some_iff.mp hx;exact⟨u,e,rfl⟩
  obtain⟨s,a4,_,_⟩:=wA.2 w' (List.mem_of_getElem? hw);open_k0;refine ixT (SqT.of (sm _ _ a4)) (znq _ _ _ _ _) (k1 _ _ (zam.refl _) fun H5 _=> ?_);rw[pv,List.take_add_one,hw,Option.toList_some,List.map_append,List.map_append,List.map_append];rfl
 ·rw[List.length_map,List.take_length] at pv;subst pv;exact⟨l2,rfl,_,SqL.of w2,q H2 s2⟩
def zpD(f:Int)(dy:Bool)(c:Int)(ts:List Tm)(G:Int→List D):Prop:= ∀ts',(∀t,t∈ts'↔t∈ts)→IsG f dy c ts' G
theorem zmk{zs:List (V×Pl)}{os:List Or'}{ts:List Tm}(om: ∀t,t∈os.map (·.2)↔t∈ts)(hx: ∀t∈ts,TmX zs t.2.2.2): ∀o∈os,TmX zs o.2.2.2.2:=fun o h=>hx o.2 ((om o.2).mp (List.mem_map.mpr ⟨o,h,rfl⟩))
def zhQ(K:Fg)(t:Adr):Sp:=fun vs H Q E=> ∃(pa l la:Addr) (f:Int) (dy:Bool) (c:Int) (zs:List (V×Pl)) (ts:List Tm) (G:Int→List D) (k:Int),vs= [.ref pa, .ref l, .int k]∧zcy K H pa la f dy c zs∧zfA K H l f (Cal.beg f dy c 60) ts∧(∀t∈ts,TmX zs t.2.2.2)∧zpD f dy c ts G∧(0≤k→k<60→ ∀r ws H',H r=none→zam H H'→LnR zs (Cal.beg f dy c k) (Cal.beg f dy c (k+1)) H' r ws→ws.length≤64→Rws G (Cal.beg f dy c k) (ws.map (·.2)) (Cal.beg f dy c (k+1))→Q (.ref r) H')∧(k<0→ ∀H',zam H H'→E (.ref t.c_Z06) none H')∧(60≤k→ ∀H',zam H H'→E (.ref t.c_Z0c) none H')
theorem sc_0l:FnScope ["account","terms","k","span"] ["account","terms","k"] (zak s_0l):=by sl_open
theorem ok_0l(T:Txt w K mg t):FnOk P w K mg base (CXE P w) 10 t.a_0l t.d_0l ["account","terms","k"] (zhQ K t):=by
 refine T.F_0l.fn.okX sc_0l ?_ fun cdv A outer s H vs Q E L hr h=> ?_
 ·kdl_open
 obtain⟨pa,l,la,f,dy,c,zs,ts,G,k,rfl,hz,ht,hx,hG,q,q2,q3⟩:=h;have nd:=sc_0l.nd;refine⟨_,(zad (psJ 3 nd (peD L.toLv (ok_0a T) hr T.F_0a (zaa (pvJ 0) (zaa (pvJ 2) zae zab) zab))) (zag (zap (peD L.toLv (ok_0j T) hr T.F_0j (zaa (pvJ 0) (zaa (peD L.toLv (ok_0e T) hr T.F_0e (zaa (pvJ 0) (zaa (pvJ 1) zae zab) zab)) (zaa (pvJ 3) (zaa (ixJ zaq (pvJ 3) zac) zae zar) zab) zaF) zab))))),?_⟩;obtain⟨f0,f1,hc⟩:=hz.1.cyc;open_k0;refine⟨pa,la,f,dy,c,k,rfl,hz.1,fun k0 k1 p1 H1 s1 e1=> ?_,q2,q3⟩;have bw:=zfy f0 f1 hc k0 k1;refine⟨pa,l,la,f,dy,c,ts,rfl,hz.1.same s1,ht.same s1,fun l2 os H2 s2 ho om=> ?_⟩;refine ixT (SqT.of (s2 _ _ e1)) (zcb _ _ _) ?_;exact⟨pa,l2,p1,la,f,dy,c,zs,_,_,_,os,G,rfl,hz.same (s1.trans s2),ho,s2 _ _ e1,by omega,Int.le_refl _,bw.2.1,by omega,hG _ om,zmk om hx,fun r ws H3 nr s3 wA wl ws'=>q k0 k1 r ws H3 ((s1.trans s2).none nr) ((s1.trans s2).trans s3) wA wl ws'⟩
def ziH(K:Fg)(t:Adr):Sp:=fun vs H Q E=> ∃(pa l la:Addr) (f:Int) (dy:Bool) (c:Int) (zs:List (V×Pl)) (ts:List Tm) (G:Int→List D) (k:Int),vs= [.ref pa, .ref l, .int k]∧zcy K H pa la f dy c zs∧zfA K H l f (Cal.beg f dy c 60) ts∧(∀t∈ts,TmX zs t.2.2.2)∧zpD f dy c ts G∧(0≤k→k<60→ ∀H',zam H H'→Q (.int (Sb (fun o=>zbT zs (Cal.beg f dy c k) (Cal.beg f dy c (k+1)) o (o+1) (G o)) (Cal.beg f dy c k) (Cal.beg f dy c (k+1)))) H')∧(k<0→ ∀H',zam H H'→E (.ref t.c_Z06) none H')∧(60≤k→ ∀H',zam H H'→E (.ref t.c_Z0c) none H')
theorem sc_0m:FnScope ["account","terms","k"] ["account","terms","k"] (zak s_0m):=by sl_open
theorem ok_0m(T:Txt w K mg t):FnOk P w K mg base (CXE P w) 11 t.a_0m t.d_0m ["account","terms","k"] (ziH K t):=by
 refine T.F_0m.fn.okX sc_0m ?_ fun cdv A outer s H vs Q E L hr h=> ?_
 ·kdl_open
 obtain⟨pa,l,la,f,dy,c,zs,ts,G,k,rfl,hz,ht,hx,hG,q,q2,q3⟩:=h;have nd:=sc_0m.nd;refine⟨_,(zag (zap (peD L.toLv (ok_0k T) hr T.F_0k (zaa (peD L.toLv (ok_0l T) hr T.F_0l (zaa (pvJ 0) (zaa (pvJ 1) (zaa (pvJ 2) zae zab) zab) zab)) zae)))),?_⟩;open_k0;refine⟨pa,l,la,f,dy,c,zs,ts,G,k,rfl,hz,ht,hx,hG,fun k0 k1 r ws H1 _ s1 wA wl ws'=>⟨r,zs,_,_,ws,rfl,wA,wl,fun H2 s2=> ?_⟩,q2,q3⟩;rw[zfD ws'];exact q k0 k1 H2 (s1.trans s2)
def EnB(f e:Int)(zs:List En):Prop:= ∀z∈zs,zcg z.2.2.2=true→TmB f e z.2.2.2
theorem EnB.of{nms:List (List Nat)}{f e:Int}{zs:List En}(h:zct nms f e zs):EnB f e zs:=fun z hz tm=>by
 obtain⟨i,hi,ez⟩:=List.mem_iff_getElem.mp hz;have ci:=(h i z (by rw[List.getElem?_eq_getElem hi,ez])).2.2.2;cases hch:z.2.2.2 with
 |plan d nm=>rw[hch] at ci;exact⟨rfl,ci.1,ci.2.1,fun w d h=>by cases h⟩
 |seats d n=>rw[hch] at ci;exact⟨rfl,ci.1,ci.2.1,fun w d h=>by cases h⟩
 |word w d=>rw[hch] at ci;exact⟨rfl,ci.2.1,ci.2.2,fun w d h=>by cases h;exact ci.1⟩
 |undo k=>rw[hch] at tm;cases tm
 |grant k=>rw[hch] at tm;cases tm
 |back=>rw[hch] at tm;cases tm
def zjq:List (List Nat):= [[112,108,97,110], [115,101,97,116,115], [104,111,108,100], [103,111], [115,116,111,112], [108,97,115,116]]
theorem zfE(w:Nat):zcZ w∈zjq∧zcZ w≠ [112,108,97,110]∧zcZ w≠ [115,101,97,116,115]:=by
 match w with
 |0=>exact⟨by decide,by decide,by decide⟩
 |1=>exact⟨by decide,by decide,by decide⟩
 |2=>exact⟨by decide,by decide,by decide⟩
 |n+3=>exact⟨(by decide: [108,97,115,116]∈zjq),(by decide: [108,97,115,116]≠ [112,108,97,110]),(by decide: [108,97,115,116]≠ [115,101,97,116,115])⟩
theorem zml(c:Ch):decide (chW c∈zjq)=zcg c:=by
 cases c with
 |plan=>rfl
 |seats=>rfl
 |word w _=>exact decide_eq_true (zfE w).1
 |undo=>rfl
 |grant=>rfl
 |back=>rfl
def zmm(K:Fg):Sp:=fun vs H Q _=> ∃(p:Addr) (c:Ch),vs= [.ref p]∧SqT K H p ((chD c).map sv)∧Q (.bl (zcg c)) H
theorem sc_0n:FnScope ["change"] ["change"] (zak s_0n):=by sl_open
theorem ok_0n(T:Txt w K mg t):FnOk P w K mg base (CXE P w) 1 t.a_0n t.d_0n ["change"] (zmm K):=by
 refine T.F_0n.fn.okX sc_0n ?_ fun cdv A outer s H vs Q E L hr h=> ?_
 ·kdl_open
 obtain⟨p,c,rfl,hp,q⟩:=h;have nd:=sc_0n.nd;obtain⟨a_Z0b,h_Z0b,q_Z0b⟩:=T.k_Z0b;have r_Z0b:zaC (.ref a_Z0b) (.ref a_Z0b):=rfl;refine⟨_,(zag (zap (zbG zfV (ixJ zaq (pvJ 0) zac) (zbx (by rfl) h_Z0b r_Z0b) rfl))),?_⟩;obtain⟨r,er⟩:=zhl c;rw[er] at hp;open_k0;refine ixT hp (zbA _ _) ⟨a_Z0b,_,rfl, .inr (q_Z0b _),rfl,rfl,?_⟩;have e:inV (.str (SL (chW c))) (zjq.map fun x=>V.str (SL x))=zcg c:=by rw[zhj,zml]
 exact e ▸ q
def zfF(zs:List En)(k:Int):V:=((zs[k.toNat]?).map fun z=>V.ref z.2.1).getD .non
def ziI(K:Fg):Sp:=fun vs H Q _=> ∃(a:Addr) (zs:List En),vs= [.ref a]∧SqL K H a (zs.map (·.1))∧zbp K H zs∧zs.length≤63∧(∀i z k,zs[i]? =some z→z.2.2.2= .undo k→k∈zaU (chs (zs.take i)))∧ ∀r H',zam H H'→H' r=some (.dK (kvG (zfF zs) (zaU (chs zs))))→Q (.ref r) H'
theorem sc_0o:FnScope ["entries","standing","number","entry","change"] ["entries"] (zak s_0o):=by sl_open
theorem ok_0o(T:Txt w K mg t):FnOk P w K mg base (CXE P w) 2 t.a_0o t.d_0o ["entries"] (ziI K):=by
 refine T.F_0o.fn.okX sc_0o ?_ fun cdv A outer s H vs Q E L hr h=> ?_
 ·kdl_open
 obtain⟨a,zs,rfl,hS,hE,z63,hu,q⟩:=h;have nd:=sc_0o.nd;refine⟨_,(zad (psJ 1 nd zdT) (zad (zbs (by passes_own) rfl (zdU (by rfl) T.no_enumerate (zaa (pvJ 0) zae)) (zaO (n:=2) rfl (zaL (zai (i:=2) nd rfl (Or.inl rfl)) (zaL (zai (i:=3) nd rfl (Or.inl rfl)) zb0))) (zad (psJ 4 nd (ixJ zaq (pvJ 3) zac)) (zad (zdA (zay (zcF (zeH (peD L.toLv (ok_0n T) hr T.F_0n (zaa (pvJ 4) zae)))) (zag (zdS (zc3 hr) (pvJ 1) (pvJ 2) (pvJ 4) rfl)) zav)) (zag (zay (zbC (ixJ zaq (pvJ 4) zac) (zax st_13)) (zag (zbb (zlb (pvJ 1) (ixJ zaq (pvJ 4) zac) ⟨by rfl,by rfl,by rfl,by rfl⟩))) zav))))) (zag (zap (pvJ 1))))),?_⟩;open_k0;intro dd H1 hdd s1 e1
 ((try dsimp only);refine zbE fun R hR=> ?_;(open_k0;repeat (dsimp only[zbB,zb5,zbU,zb7];open_k0)))
 refine⟨⟨_,s1.seq hS⟩,hR _ _ ?_⟩;clear hR;refine zdV (xs:=zs.map (·.1)) (fun i σ1 H2=>zam H H2∧H2 dd=some (.dK (kvG (zfF zs) (zaU (chs (zs.take i)))))∧ ∃(x2 x3 x4:Option V),σ1= [some (.ref a),some (.ref dd),x2,x3,x4]) ⟨s1,e1,_,_,_,rfl⟩ (fun i σ1 H1 _ h=>h.1.seq hS) (fun i σ1 H1 H2 h s=>⟨h.1.trans s,s _ _ h.2.1,h.2.2⟩) (fun i x σ1 H2 hx h=> ?_) (fun σ1 H2 h=> ?_)
 ·obtain⟨s2,e2,x2,x3,x4,rfl⟩:=h;obtain⟨z,hz,rfl⟩: ∃z,zs[i]? =some z∧x=z.1:=by
   rw[List.getElem?_map] at hx;obtain⟨u,e,rfl⟩:=Option.map_eq_some_iff.mp hx;exact⟨u,e,rfl⟩
  obtain⟨pe,ee,q1,q2⟩:=(hE.same s2) z (List.mem_of_getElem? hz);have hi:=(List.getElem?_eq_some_iff.mp hz).1;have li:(zaU (chs (zs.take i))).length<100:=by have:=zee (chs (zs.take i));rw[zcs,List.length_take] at this;omega
  have pz:zfF zs (i:Int)= .ref z.2.1:=by unfold zfF;rw[Int.toNat_natCast,hz];rfl
  have nx:=zh9 hz;have ni:=(zch (chs (zs.take i))).2;rw[zcs,List.length_take,Nat.min_eq_left (by omega)] at ni;have nd:=(zch (chs (zs.take i))).1;have hui:=hu i z;rw[ee];open_k0;refine ixT q1 (zcb _ _ _) ?_;generalize hc:z.2.2.2=c at q2 nx hui;generalize zaU (chs (zs.take i))=S at e2 li nx ni nd hui;obtain⟨R,hR⟩: ∃R:St→Hp→Prop,R=fun σ' H'=>zam H H'∧H' dd=some (.dK (kvG (zfF zs) (if zcg c=true then S++ [(i:Int)] else S)))∧σ'= [some (.ref a),some (.ref dd),some (.int i),some (.ref pe),some (.ref z.2.1)]:=⟨_,rfl⟩
  refine⟨R,?_,fun σ3 H3 h3=> ?_⟩
  ·open_k0;refine⟨z.2.1,c,rfl,q2,_,rfl,zaX (fun tm=> ?_) (fun tm=> ?_)⟩
   ·refine⟨_,zeZ.k (k:=Sum.inl (i:Int)) e2 (zbz (show (kvG (zfF zs) S).length+1≤1000 by unfold kvG;rw[List.length_map];omega)),?_⟩;rw[hR];refine⟨s2.put hdd _,?_,rfl⟩;rw[zao,if_pos tm,←pz,zoE _ (fun y=>by have:=(ni _ y).2;omega)]
   ·rw[hR];exact⟨s2,by rw[if_neg tm];exact e2,rfl⟩
  rw[hR] at h3;obtain⟨s3,e3,rfl⟩:=h3;clear hR;open_k0;obtain⟨_,_,_,q3⟩:=(hE.same s3) z (List.mem_of_getElem? hz);rw[hc] at q3;rw[nx];obtain⟨r,er⟩:=zhl c;have q3':=q3;rw[er] at q3';refine ixT q3' (zbA _ _) ⟨rfl,?_⟩;cases c with
  |plan=>exact za0 (zbg (show [112,108,97,110]≠ [117,110,100,111] by decide)) ⟨s3,e3⟩
  |seats=>exact za0 (zbg (show [115,101,97,116,115]≠ [117,110,100,111] by decide)) ⟨s3,e3⟩
  |word w d=>exact za0 (zbg (fun z=>absurd ((zfE w).1) (by rw[show zcZ w=_ from z];decide))) ⟨s3,e3⟩
  |grant=>exact za0 (zbg (show [103,114,97,110,116]≠ [117,110,100,111] by decide)) ⟨s3,e3⟩
  |back=>exact za0 (zbg (show [98,97,99,107]≠ [117,110,100,111] by decide)) ⟨s3,e3⟩
  |undo k=>
   have q3:SqT K H3 z.2.1 [.str (SL [117,110,100,111]), .int k]:=q3;have hk:=hui k hz rfl;refine zdW rfl ⟨.inl ⟨_,Rd.of e3⟩,ixT q3 (zcb _ _ _) ⟨_,e3,Sum.inl k,rfl,_,(by show zbF (kvG (zfF zs) S) (Sum.inl k)=_;rw[zh8,if_pos hk]),s3.put hdd _,?_⟩⟩;rw[zao];show some (HO.dK (zep (kvG (zfF zs) S) (Sum.inl k)))=_;rw[ziX _ _ nd];rfl
 ·obtain⟨s2,e2,x2,x3,x4,rfl⟩:=h;rw[List.length_map,List.take_length] at e2;open_k0;exact q dd H2 s2 e2
def zmn(H:Hp)(zs:List En)(Ls:List Int)(as:List Addr):Prop:=as.length=Ls.length∧ ∀(i:Nat) (p:Addr) (k:Int),as[i]? =some p→Ls[i]? =some k→ ∃z,zs[k.toNat]? =some z∧H p=some (.tup [.int k, .ref z.2.1])
theorem zmn.same{H H':Hp}{zs:List En}{Ls:List Int}{as:List Addr}(h:zmn H zs Ls as)(s:zam H H'):zmn H' zs Ls as:=⟨h.1,fun i p k h1 h2=>let ⟨z,h3,h4⟩:=h.2 i p k h1 h2;⟨z,h3,s _ _ h4⟩⟩
def zaE(zs:List En)(mo:Int):List Int:=zaU (chs (zs.take (mOf zs mo)))
def zka(K:Fg):Sp:=fun vs H Q _=> ∃(a:Addr) (zs:List En) (mo:Int),vs= [.ref a, .int mo]∧SqL K H a (zs.map (·.1))∧zbp K H zs∧zs.length≤40∧zs.Pairwise (fun a b=>a.2.2.1≤b.2.2.1)∧zci (chs zs)∧ ∀r as H',H r=none→zam H H'→H' r=some (.lst (as.map V.ref))→zmn H' zs (zaE zs mo) as→Q (.ref r) H'
theorem sc_0p:FnScope ["entries","moment","known"] ["entries","moment"] (zak s_0p):=by sl_open
theorem ok_0p(T:Txt w K mg t):FnOk P w K mg base (CXE P w) 3 t.a_0p t.d_0p ["entries","moment"] (zka K):=by
 refine T.F_0p.fn.okX sc_0p ?_ fun cdv A outer s H vs Q E L hr h=> ?_
 ·kdl_open
 obtain⟨a,zs,mo,rfl,hS,hE,z40,hp,ho,q⟩:=h;have nd:=sc_0p.nd;refine⟨_,(zad (zgF (i:=2) nd rfl rfl (n:=1) (N:= ["entry","moment"]) (js:= [1]) (by rfl) rfl rfl (zbm (pvJ 0)) (fun a=>(zai (i:=0) (show List.Nodup (["entry","moment"]:List Str) from by decide+kernel) rfl (Or.inl rfl))) (fun a=>(zeB (zbq zio (ixJ zaq (pvJ 0) zac) (pvJ 1) (za3 _)))) (fun a=>(pvJ 0))) (zag (zap (zgI (by rfl) (by rfl) T.no_list (peD L.toLv (ok_0o T) hr T.F_0o (zaa (pvJ 2) zae)) (by rfl) (by rfl))))),?_⟩;open_k0;obtain⟨kt,kb⟩:=ze5 mo hp;have ml:mOf zs mo≤zs.length:=List.length_filter_le _ _;first|refine⟨a,rfl,⟨_,hS⟩,fun l2 hl2 aa=> ?_⟩|refine⟨_,rfl,a,rfl,⟨_,hS⟩,fun l2 hl2 aa=> ?_⟩
 refine zb9 (fun j xs _=>xs=((zs.take j).filter (enL mo)).map (·.1)) (zbY hS) hl2 (by rw[List.length_map];exact zbj (by omega)) (fun _ _=>rfl) (fun j x xs H8 K1 K0 hx sm pv hl k1 k0=> ?_) (fun xs H2 s2 pv _ w2=> ?_)
 ·obtain⟨z,hz,rfl⟩: ∃z,zs[j]? =some z∧x=z.1:=by
   rw[List.getElem?_map] at hx;obtain⟨u,e,rfl⟩:=Option.map_eq_some_iff.mp hx;exact⟨u,e,rfl⟩
  obtain⟨pe,ee,q1,q2⟩:=(hE.same sm) z (List.mem_of_getElem? hz);have ez:(zs.take (j+1)).filter (enL mo)=(zs.take j).filter (enL mo)++ [z].filter (enL mo):=by rw[List.take_add_one,hz,Option.toList_some,List.filter_append]
  rw[ee];open_k0;refine ixT q1 (zbA _ _) ⟨_,rfl,zaX (fun h=>k1 _ _ (zam.refl _) fun H' _=> ?_) (fun h=>k0 _ (zam.refl _) ?_)⟩
  ·rw[ez,List.filter_cons_of_pos (show enL mo z=true from decide_eq_true h),List.map_append,pv,←ee];rfl
  ·rw[ez,List.filter_cons_of_neg (show¬enL mo z=true from by unfold enL;simpa using h),List.map_append,pv];exact(List.append_nil _).symm
 rw[List.length_map,List.take_length,kt] at pv;subst pv;have uo:zci (chs (zs.take (mOf zs mo))):=by rw[zc9];exact ho.take _
 refine⟨l2,zs.take (mOf zs mo),rfl,SqL.of w2,(hE.same s2).take _,by rw[List.length_take];omega,fun i z k hz hk=> ?_,fun r H3 s3 e3=>⟨r,rfl,_,e3,fun l H4 as nl s4 al ak e4=>q l as H4 (by
  rcases hh:H l with _|o
  ·rfl
  ·rw[(s2.trans s3) _ _ hh] at nl;cases nl) ((s2.trans s3).trans s4) e4 ⟨?_,fun i p k hp' hk'=> ?_⟩⟩⟩
 ·rw[zc9];refine uo i k ?_;unfold chs;rw[List.getElem?_map,hz];exact congrArg some hk
 ·rw[al];exact List.length_map ..
 ·have kin:=(zch (chs (zs.take (mOf zs mo)))).2 k (List.mem_of_getElem? hk');rw[zcs,List.length_take] at kin;have kl:k.toNat<zs.length:=by omega
  refine⟨zs[k.toNat],List.getElem?_eq_getElem kl,?_⟩
  have:=ak i (Sum.inl k,zfF (zs.take (mOf zs mo)) k) p (by
   unfold kvG;rw[List.getElem?_map];show Option.map _ (zaE zs mo)[i]? =_;rw[hk'];rfl) hp'
  rw[this];show some (HO.tup [V.int k,zfF (zs.take (mOf zs mo)) k])=_;unfold zfF;rw[List.getElem?_take,if_pos (by omega),List.getElem?_eq_getElem kl];rfl
noncomputable def rtK(f:Int)(dy:Bool)(c:Int)(zs:List En)(k:Int):Rt:=rtF f dy c k (zs.getD k.toNat (.non,0,0, .back)).2.2.2
def GL(f:Int)(dy:Bool)(c:Int)(zs:List En)(mo:Int)(G:Int→List D):Prop:= ∀ts:List Tm,ts.map (rtT f dy c)=(zaE zs mo).map (rtK f dy c zs)→zpD f dy c ts G
theorem zfG{zs:List En}{mo:Int}(hp:zs.Pairwise (fun a b=>a.2.2.1≤b.2.2.1))(ho:zci (chs zs)):(zaE zs mo).Nodup∧ ∀k∈zaE zs mo,∃z,0≤k∧zs[k.toNat]? =some z∧zcg z.2.2.2=true:=by
 have ml:mOf zs mo≤zs.length:=List.length_filter_le _ _;obtain⟨cs,hcs⟩: ∃cs,cs=chs (zs.take (mOf zs mo)):=⟨_,rfl⟩
 have csl:cs.length=mOf zs mo:=by rw[hcs,zcs,List.length_take];omega
 have uo:zci cs:=by rw[hcs,zc9];exact ho.take _
 have sd:=(zf8 cs uo cs.length (Nat.le_refl _)).1;rw[List.take_length] at sd;refine⟨(zch (chs (zs.take (mOf zs mo)))).1,fun k hk=> ?_⟩;unfold zaE at hk;rw[←hcs,sd] at hk;unfold zhm at hk;obtain⟨j,hj,rfl⟩:=List.mem_map.mp hk;obtain⟨h1,h2⟩:=List.mem_filter.mp hj;have hj:=List.mem_range.mp h1;have tm:zdX cs[j]? =true:=by
  rw[Bool.and_eq_true] at h2;exact h2.1
 have jl:j<zs.length:=by omega
 refine⟨zs[j],by omega,by rw[Int.toNat_natCast];exact List.getElem?_eq_getElem jl,?_⟩;have e:cs[j]? =some (zs[j]).2.2.2:=by
  rw[hcs,zc9,List.getElem?_take,if_pos (by omega)];unfold chs;rw[List.getElem?_map,List.getElem?_eq_getElem jl];rfl
 rw[e] at tm;exact tm
theorem zfH{K:Fg}{H:Hp}{r:Addr}{zs:List En}{mo f e:Int}{as:List Addr}(dy:Bool)(c:Int)(hp:zs.Pairwise (fun a b=>a.2.2.1≤b.2.2.1))(ho:zci (chs zs))(z40:zs.length≤40)(hE:zbp K H zs)(hB:EnB f e zs)(er:H r=some (.lst (as.map V.ref)))(ht:zmn H zs (zaE zs mo) as): ∃ts:List Tm,zfA K H r f e ts∧ts.map (rtT f dy c)=(zaE zs mo).map (rtK f dy c zs)∧ ∀t∈ts,∃z∈zs,t.2.2.2=z.2.2.2:=by
 obtain⟨kn,ki⟩:=zfG (mo:=mo) hp ho;obtain⟨al,av⟩:=ht;have kl:(zaE zs mo).length≤40:=by
  have:=zee (chs (zs.take (mOf zs mo)));rw[zcs,List.length_take] at this;unfold zaE;omega
 obtain⟨g,hg⟩: ∃g:Addr×Int→Tm,g=fun x=>(x.1,(zs.getD x.2.toNat (.non,0,0, .back)).2.1,x.2,(zs.getD x.2.toNat (.non,0,0, .back)).2.2.2):=⟨_,rfl⟩
 have gd: ∀k z,zs[Int.toNat k]? =some z→zs.getD k.toNat (.non,0,0, .back)=z:=fun k z h=>by rw[List.getD_eq_getElem?_getD,h];rfl
 have zm: ∀x∈as.zip (zaE zs mo),∃z,0≤x.2∧zs[x.2.toNat]? =some z∧zcg z.2.2.2=true∧H x.1=some (.tup [.int x.2, .ref z.2.1]):=fun x hx=>by
  obtain⟨i,hi,ei⟩:=List.mem_iff_getElem.mp hx;rw[List.length_zip] at hi;rw[List.getElem_zip] at ei;have h1:as[i]? =some x.1:=by rw[List.getElem?_eq_getElem (by omega),←ei]
  have h2:(zaE zs mo)[i]? =some x.2:=by rw[List.getElem?_eq_getElem (by omega),←ei]
  obtain⟨z,e1,e2⟩:=av i x.1 x.2 h1 h2;obtain⟨z',k0,e3,tm⟩:=ki x.2 (List.mem_of_getElem? h2);rw[e1] at e3;cases e3;exact⟨z,k0,e1,tm,e2⟩
 have zl:(as.zip (zaE zs mo)).length≤40:=by rw[List.length_zip];omega
 refine⟨(as.zip (zaE zs mo)).map g,⟨?_,by rw[List.length_map];omega,fun t h=> ?_,?_⟩,?_,fun t h=> ?_⟩
 ·rw[er,List.map_map]
  have:(as.zip (zaE zs mo)).map ((fun t:Tm=>V.ref t.1) ∘ g)=((as.zip (zaE zs mo)).map (·.1)).map V.ref:=by rw[List.map_map,hg];rfl
  rw[this,List.map_fst_zip (by omega)]
 ·obtain⟨x,hx,rfl⟩:=List.mem_map.mp h;obtain⟨z,k0,e1,tm,e2⟩:=zm x hx;have hz:=List.mem_of_getElem? e1;have kl2:=(List.getElem?_eq_some_iff.mp e1).1;obtain⟨pe,_,_,q2⟩:=hE z hz;rw[hg];dsimp only;rw[gd _ _ e1];exact⟨⟨e2,q2⟩,⟨k0,by show x.2<64;omega⟩,hB z hz tm⟩
 ·rw[List.pairwise_map,hg]
  have:((as.zip (zaE zs mo)).map (·.2)).Pairwise (· ≠ ·):=by rw[List.map_snd_zip (by omega)];exact kn
  rw[List.pairwise_map] at this;exact this
 ·have:(as.zip (zaE zs mo)).map (rtT f dy c ∘ g)=((as.zip (zaE zs mo)).map (·.2)).map (rtK f dy c zs):=by rw[List.map_map,hg];rfl
  rw[List.map_map,this,List.map_snd_zip (by omega)]
 ·obtain⟨x,hx,rfl⟩:=List.mem_map.mp h;obtain⟨z,k0,e1,tm,e2⟩:=zm x hx;exact⟨z,List.mem_of_getElem? e1,by rw[hg];dsimp only;rw[gd _ _ e1]⟩
noncomputable def cK(f:Int)(dy:Bool)(c:Int)(zs:List (V×Pl))(G:Int→List D)(k:Int):Int:=Sb (fun o=>zbT zs (Cal.beg f dy c k) (Cal.beg f dy c (k+1)) o (o+1) (G o)) (Cal.beg f dy c k) (Cal.beg f dy c (k+1))
def EnX(zs:List (V×Pl))(f e:Int)(K:Fg)(H:Hp)(ys:List En):Prop:=zbp K H ys∧ys.length≤40∧ys.Pairwise (fun a b=>a.2.2.1≤b.2.2.1)∧zci (chs ys)∧EnB f e ys∧ ∀z∈ys,zcg z.2.2.2=true→TmX zs z.2.2.2
theorem EnX.same{zs:List (V×Pl)}{f e:Int}{K:Fg}{H H':Hp}{ys:List En}(h:EnX zs f e K H ys)(s:zam H H'):EnX zs f e K H' ys:=⟨h.1.same s,h.2⟩
theorem EnX.tmx{zs:List (V×Pl)}{f e:Int}{K:Fg}{H:Hp}{ys:List En}(h:EnX zs f e K H ys){ts:List Tm}(h3: ∀t∈ts,zcg t.2.2.2=true)(hz: ∀t∈ts,∃z∈ys,t.2.2.2=z.2.2.2): ∀t∈ts,TmX zs t.2.2.2:=fun t ht=>by
 obtain⟨z,h1,h2⟩:=hz t ht
 have:=h3 t ht;rw[h2] at this ⊢;exact h.2.2.2.2.2 z h1 this
def zgs(K:Fg):Sp:=fun vs H Q _=> ∃(pa le la:Addr) (f:Int) (dy:Bool) (c:Int) (zs:List (V×Pl)) (ys:List En) (G:Int→List D) (n:Nat) (mo:Int),vs= [.ref pa, .ref le, .int n, .int mo]∧n≤60∧zcy K H pa la f dy c zs∧SqL K H le (ys.map (·.1))∧EnX zs f (Cal.beg f dy c 60) K H ys∧GL f dy c ys mo G∧ ∀r H',zam H H'→H' r=some (.lst (((List.range n).map fun i:Nat=>cK f dy c zs G i).map V.int))→Q (.ref r) H'
theorem sc_0q:FnScope ["account","entries","many","moment","ordered","costs","k","span"] ["account","entries","many","moment"] (zak s_0q):=by sl_open
theorem ok_0q(T:Txt w K mg t):FnOk P w K mg base (CXE P w) 10 t.a_0q t.d_0q ["account","entries","many","moment"] (zgs K):=by
 refine T.F_0q.fn.okX sc_0q ?_ fun cdv A outer s H vs Q E L hr h=> ?_
 ·kdl_open
 obtain⟨pa,le,la,f,dy,c,zs,ys,G,n,mo,rfl,n60,hz,hS,hY,hG,q⟩:=h;have nd:=sc_0q.nd;refine⟨_,(zad (psJ 4 nd (peD L.toLv (ok_0e T) hr T.F_0e (zaa (pvJ 0) (zaa (peD L.toLv (ok_0p T) hr T.F_0p (zaa (pvJ 1) (zaa (pvJ 3) zae zab) zab)) zae zaF) zab))) (zad (psJ 5 nd (zaB zae)) (zad (zbs (by passes_own) rfl (zcc (by rfl) T.no_range (zaa (pvJ 2) zae)) (zai (i:=6) nd rfl (Or.inl rfl)) (zad (psJ 7 nd (peD L.toLv (ok_0a T) hr T.F_0a (zaa (pvJ 0) (zaa (pvJ 6) zae zab) zab))) (zag (zbb (zb4 PySem.F.plainAttrs_list PySem.F.slot_list_append PySem.F.type_list_append za8 (pvJ 5) (zaa (peD L.toLv (ok_0k T) hr T.F_0k (zaa (peD L.toLv (ok_0j T) hr T.F_0j (zaa (pvJ 0) (zaa (pvJ 4) (zaa (pvJ 7) (zaa (ixJ zaq (pvJ 7) zac) zae zar) zab) zab) zab)) zae)) zae)))))) (zag (zap (pvJ 5)))))),?_⟩;obtain⟨f0,f1,hc⟩:=hz.1.cyc;open_k0;refine⟨le,ys,mo,rfl,hS,hY.1,hY.2.1,hY.2.2.1,hY.2.2.2.1,fun r1 as H1 _ s1 e1 t1=> ?_⟩;have hY1:=hY.same s1;obtain⟨ts,ht,er,tz⟩:=zfH dy c hY.2.2.1 hY.2.2.2.1 hY.2.1 hY1.1 hY.2.2.2.2.1 e1 t1;have hx:=hY.tmx (fun t h=>(ht.2.2.1 t h).2.2.1) tz;have hGt:=hG ts er;refine⟨pa,r1,la,f,dy,c,ts,rfl,hz.1.same s1,ht,fun l2 os H2 s2 ho om=> ?_⟩;have s12:=s1.trans s2;have hox:=zmk om hx;intro lc H3 hlc s3 e3;have nlc:H lc=none:=s12.none hlc
 ((try dsimp only);refine zbE fun R hR=> ?_;(open_k0;repeat (dsimp only[zbB,zb5,zbU,zb7];open_k0)))
 refine⟨by omega,by omega,hR _ _ ?_⟩;clear hR;rw[Int.toNat_natCast];obtain⟨Pv,hPv⟩: ∃Pv:Nat→St→Hp→Prop,Pv=fun(i:Nat) σ1 H7=>zam H2 H7∧ ∃x6 x7:Option V,H7 lc=some (.lst (((List.range i).map fun i:Nat=>cK f dy c zs G i).map V.int))∧σ1= [some (.ref pa),some (.ref le),some (.int n),some (.int mo),some (.ref l2),some (.ref lc),x6,x7]:=⟨_,rfl⟩
 refine zcz (n:=n) Pv (by rw[hPv];exact⟨s3,_,_,e3,rfl⟩) (fun i σ1 H7 hi h=> ?_) (fun σ1 H7 h=> ?_)
 ·rw[hPv] at h;obtain⟨s7,x6,x7,e7,rfl⟩:=h;have s17:=s12.trans s7;have bw:=zfy (k:=(i:Int)) f0 f1 hc (by omega) (by omega)
  (open_k0;repeat (dsimp only[tBM];open_k0))
  refine⟨pa,la,f,dy,c,(i:Int),by rw[Int.zero_add],hz.1.same s17,fun _ _ p1 H8 s8 e8=> ?_,fun z=>absurd z (by omega),fun z=>absurd z (by omega)⟩;have s18:=s17.trans s8;have e78:=s8 _ _ e7;refine⟨.inl ⟨rfl,_,SqL.of e78⟩,ixT (SqT.of e8) (zcb _ _ _) ⟨pa,l2,p1,la,f,dy,c,zs,_,_,_,os,G,rfl,hz.same s18,ho.same (s7.trans s8),e8,by omega,Int.le_refl _,bw.2.1,by omega,hGt _ om,hox,fun r ws H9 _ s9 wA wl wW=>⟨r,zs,_,_,ws,rfl,wA,wl,fun H10 s10=> ?_⟩⟩⟩;have e710:=s10 _ _ (s9 _ _ e78);refine⟨lc,_,_,rfl,rfl,e710,zba (by rw[List.length_map,List.length_map,List.length_range];omega),?_⟩;rw[hPv,zfD wW];exact⟨(s7.trans (s8.trans (s9.trans s10))).put hlc _,_,_,by rw[zao,List.range_succ,List.map_append,List.map_append];rfl,rfl⟩
 ·rw[hPv] at h;obtain⟨s7,x6,x7,e7,rfl⟩:=h;open_k0;exact q lc H7 (s12.trans s7) e7
theorem zqE{K:Fg}{H:Hp}{f:Int}{dy:Bool}{c:Int}{zs:List (V×Pl)}{ys:List En}(mo:Int)(f0:0≤f)(f1:f≤3500000)(hc:Cal.CycOk dy c)(hY:EnX zs f (Cal.beg f dy c 60) K H ys): ∃G,GL f dy c ys mo G:=by
 have b6:=Cal.beg_range (k:=60) f0 f1 hc (by decide) (by decide);obtain⟨kn,ki⟩:=zfG (mo:=mo) hY.2.2.1 hY.2.2.2.1;have inj: ∀t∈(zaE ys mo).map (rtK f dy c ys),∀u∈(zaE ys mo).map (rtK f dy c ys),t.2.2.1=u.2.2.1→t=u:=fun t ht u hu e=>by
  obtain⟨k,hk,rfl⟩:=List.mem_map.mp ht;obtain⟨j,hj,rfl⟩:=List.mem_map.mp hu;obtain⟨z,k0,e1,tm⟩:=ki k hk;obtain⟨z',j0,e2,tm'⟩:=ki j hj;have kl:=(List.getElem?_eq_some_iff.mp e1).1;have jl:=(List.getElem?_eq_some_iff.mp e2).1;have l40:=hY.2.1;have g1:ys.getD k.toNat (.non,0,0, .back)=z:=by rw[List.getD_eq_getElem?_getD,e1];rfl
  have g2:ys.getD j.toNat (.non,0,0, .back)=z':=by rw[List.getD_eq_getElem?_getD,e2];rfl
  have t1:=hY.2.2.2.2.1 z (List.mem_of_getElem? e1) tm;have t2:=hY.2.2.2.2.1 z' (List.mem_of_getElem? e2) tm';have e':(cntF f dy c z.2.2.2*4000000+zbV z.2.2.2)*64+k=(cntF f dy c z'.2.2.2*4000000+zbV z'.2.2.2)*64+j:=by
   have e0:(cntF f dy c (ys.getD k.toNat (.non,0,0, .back)).2.2.2*4000000+zbV (ys.getD k.toNat (.non,0,0, .back)).2.2.2)*64+k=(cntF f dy c (ys.getD j.toNat (.non,0,0, .back)).2.2.2*4000000+zbV (ys.getD j.toNat (.non,0,0, .back)).2.2.2)*64+j:=e;rw[g1,g2] at e0;exact e0
  have:k=j:=by omega
  rw[this]
 have h: ∀d,∃x:List D,∀ts:List Tm,ts.map (rtT f dy c)=(zaE ys mo).map (rtK f dy c ys)→ ∀ts',(∀t,t∈ts'↔t∈ts)→ ∀o0 o1 o2,zfC f dy c ts' d o0 o1 o2→stT o0 o1 o2=x:=fun d=>by
  have mm: ∀{ts ts':List Tm},ts.map (rtT f dy c)=(zaE ys mo).map (rtK f dy c ys)→(∀t,t∈ts'↔t∈ts)→ ∀t,t∈ts'.map (rtT f dy c)↔t∈(zaE ys mo).map (rtK f dy c ys):=fun er m t=>by
   rw[←er];constructor
   ·intro h;obtain⟨x,hx,rfl⟩:=List.mem_map.mp h;exact List.mem_map.mpr ⟨x,(m x).mp hx,rfl⟩
   ·intro h;obtain⟨x,hx,rfl⟩:=List.mem_map.mp h;exact List.mem_map.mpr ⟨x,(m x).mpr hx,rfl⟩
  by_cases z: ∃o0 o1 o2,Bst ((zaE ys mo).map (rtK f dy c ys)) d 0 o0∧Bst ((zaE ys mo).map (rtK f dy c ys)) d 1 o1∧Bst ((zaE ys mo).map (rtK f dy c ys)) d 2 o2
  ·obtain⟨p0,p1,p2,h0,h1,h2⟩:=z;refine⟨stT p0 p1 p2,fun ts er ts' m o0 o1 o2 h=> ?_⟩;obtain rfl:=Bst.one inj (mm er m) h0 h.1;obtain rfl:=Bst.one inj (mm er m) h1 h.2.1;obtain rfl:=Bst.one inj (mm er m) h2 h.2.2;rfl
  ·exact⟨[],fun ts er ts' m o0 o1 o2 h=>absurd ⟨o0,o1,o2,h.1.mem fun t=>(mm er m t).symm,h.2.1.mem fun t=>(mm er m t).symm,h.2.2.mem fun t=>(mm er m t).symm⟩ z⟩
 exact⟨fun d=>(h d).choose,fun ts er ts' m d o0 o1 o2 hs=>(h d).choose_spec ts er ts' m o0 o1 o2 hs⟩
def fsP(g o:Int)(d:Addr):List (Str×V):= [("given", .int g),("own", .int o),("taken", .ref d)]
theorem zmo(g o x:Int)(d:Addr):zco "given" (.int x) (fsP g o d)=fsP x o d:=by unfold fsP;rw[zco,if_pos rfl]
theorem zmp(g o x:Int)(d:Addr):zco "own" (.int x) (fsP g o d)=fsP g x d:=by unfold fsP;rw[zco,if_neg (by decide),zco,if_pos rfl]
theorem zjr(g o:Int)(d:Addr):(fsP g o d).lookup (Str.ofString "given")=some (.int g):=rfl
theorem zjs(g o:Int)(d:Addr):(fsP g o d).lookup (Str.ofString "own")=some (.int o):=rfl
theorem zmq(g o:Int)(d:Addr):(fsP g o d).lookup (Str.ofString "taken")=some (.ref d):=rfl
theorem zfI(g o:Int)(d:Addr){m:Str}(h1:(m==Str.ofString "given")=false)(h2:(m==Str.ofString "own")=false)(h3:(m==Str.ofString "taken")=false):(fsP g o d).lookup m=none:=by
 unfold fsP;simp only[List.lookup,h1,h2,h3]
def Row(K:Fg)(H:Hp)(z:Int×Int×Int)(kv:Key×V):Prop:=kv.1=Sum.inl z.1∧ ∃p,kv.2= .ref p∧H p=some (.tup [.int z.2.1, .int z.2.2])
def Rows(K:Fg)(H:Hp):Tab→List (Key×V)→Prop
 | [], []=>True
 |z::r,kv::s=>Row K H z kv∧Rows K H r s
 |_,_=>False
def zaQ(K:Fg)(H H':Hp):Prop:= ∀p xs,H p=some (.tup xs)→H' p=some (.tup xs)
theorem zaQ.of_same{H H':Hp}(s:zam H H'):zaQ K H H':=fun _ _ h=>s _ _ h
theorem zaQ.trans{A B C:Hp}(a:zaQ K A B)(b:zaQ K B C):zaQ K A C:=fun p xs h=>b p xs (a p xs h)
theorem zaQ.dict{H:Hp}{a:Addr}{kvs:List (Key×V)}(e:H a=some (.dK kvs))(o:HO):zaQ K H (upd H a o):=fun p xs h=>by
 rw[zal (fun z=>by rw[z,e] at h;cases h)];exact h
theorem zaQ.ins{H:Hp}{a C dx:Addr}{fs:List (Str×V)}(e:H a=some (.ins C dx fs))(o:HO):zaQ K H (upd H a o):=fun p xs h=>by
 rw[zal (fun z=>by rw[z,e] at h;cases h)];exact h
theorem Rows.keep{H H':Hp}(k:zaQ K H H'): ∀{T:Tab} {kvs:List (Key×V)},Rows K H T kvs→Rows K H' T kvs
 | [], [],_=>trivial
 |_::_,_::_,⟨⟨h1,p,h2,h3⟩,h⟩=>⟨⟨h1,p,h2,k _ _ h3⟩,h.keep k⟩
 | [],_::_,h=>h.elim
 |_::_, [],h=>h.elim
theorem Rows.val{H:Hp}(k:Int): ∀{T:Tab} {kvs:List (Key×V)},Rows K H T kvs→(zbF kvs (Sum.inl k)=none∧zaw T k=(0,0))∨ ∃p,zbF kvs (Sum.inl k)=some (.ref p)∧H p=some (.tup [.int (zaw T k).1, .int (zaw T k).2])
 | [], [],_=> .inl ⟨rfl,rfl⟩
 |z::r,kv::s,⟨⟨h1,p,h2,h3⟩,h⟩=>by
  by_cases e:z.1=k
  ·refine .inr ⟨p,?_,?_⟩
   ·rw[zbd (by rw[h1,e]),h2]
   ·rw[zaw,if_pos e];exact h3
  ·rw[zbe (by rw[h1];exact fun q=>e (Sum.inl.inj q)),zaw,if_neg e];exact h.val k
 | [],_::_,h=>h.elim
 |_::_, [],h=>h.elim
theorem Rows.any{H:Hp}(k:Int): ∀{T:Tab} {kvs:List (Key×V)},Rows K H T kvs→(kvs.any fun kv=>decide (kv.1=Sum.inl k))=T.any fun z=>decide (z.1=k)
 | [], [],_=>rfl
 |z::r,kv::s,⟨⟨h1,p,h2,h3⟩,h⟩=>by
  rw[List.any_cons,List.any_cons,h.any k,h1];congr 1;exact decide_eq_decide.mpr ⟨fun q=>Sum.inl.inj q,fun q=>by rw[q]⟩
 | [],_::_,h=>h.elim
 |_::_, [],h=>h.elim
theorem Rows.map{H:Hp}{k g m:Int}{q:Addr}(hq:H q=some (.tup [.int g, .int m])): ∀{T:Tab} {kvs:List (Key×V)},Rows K H T kvs→Rows K H (T.map fun z=>if z.1=k then (z.1,(g,m)) else z) (kvs.map fun kv=>if kv.1=Sum.inl k then (kv.1, .ref q) else kv)
 | [], [],_=>trivial
 |z::r,kv::s,⟨⟨h1,p,h2,h3⟩,h⟩=>by
  rw[List.map_cons,List.map_cons];refine⟨?_,h.map hq⟩;by_cases e:z.1=k
  ·rw[if_pos e,if_pos (by rw[h1,e])];exact⟨h1,q,rfl,hq⟩
  ·rw[if_neg e,if_neg (by rw[h1];exact fun q=>e (Sum.inl.inj q))];exact⟨h1,p,h2,h3⟩
 | [],_::_,h=>h.elim
 |_::_, [],h=>h.elim
theorem Rows.snoc{H:Hp}{z:Int×Int×Int}{kv:Key×V}(x:Row K H z kv): ∀{T:Tab} {kvs:List (Key×V)},Rows K H T kvs→Rows K H (T++ [z]) (kvs++ [kv])
 | [], [],_=>⟨x,trivial⟩
 |_::_,_::_,⟨h1,h⟩=>⟨h1,h.snoc x⟩
 | [],_::_,h=>h.elim
 |_::_, [],h=>h.elim
theorem Rows.put{H:Hp}{k g m:Int}{q:Addr}{T:Tab}{kvs:List (Key×V)}(h:Rows K H T kvs)(hq:H q=some (.tup [.int g, .int m])):Rows K H (zbJ T k (g,m)) (zbS kvs (Sum.inl k) (.ref q)):=by
 unfold zbJ zbS;rw[h.any k];by_cases e:(T.any fun z=>decide (z.1=k))=true
 ·rw[if_pos e,if_pos e];exact h.map hq
 ·rw[if_neg e,if_neg e];exact h.snoc ⟨rfl,q,rfl,hq⟩
theorem Rows.len{H:Hp}: ∀{T:Tab} {kvs:List (Key×V)},Rows K H T kvs→kvs.length=T.length
 | [], [],_=>rfl
 |_::_,_::_,⟨_,h⟩=>congrArg Nat.succ h.len
 | [],_::_,h=>h.elim
 |_::_, [],h=>h.elim
def zpE(t:Adr):Sp:=fun vs H Q _=> ∃(p dx:Addr),vs= [.ref p]∧H p=some (.ins t.c_Z07 dx [])∧ ∀d H',H d=none→H' d=some (.dK [])→H' p=some (.ins t.c_Z07 dx (fsP 0 0 d))→(∀b o,b≠p→H b=some o→H' b=some o)→Q .non H'
theorem sc_1e:FnScope ["self"] ["self"] (zak s_1e):=by sl_open
theorem ok_1e(T:Txt w K mg t):FnOk P w K mg base (CXE P w) 1 t.a_1e t.d_1e ["self"] (zpE t):=by
 refine T.fn_1e.okX sc_1e ?_ fun cdv A outer s H vs Q E L hr h=> ?_
 ·kdl_open
 obtain⟨p,dx,rfl,hp,q⟩:=h;have nd:=sc_1e.nd;refine⟨_,(zad (zgz (pvJ 0) zac rfl) (zad (zgz (pvJ 0) zac rfl) (zag (zgz (pvJ 0) zdT rfl)))),?_⟩;open_k0;refine⟨_,_,_,hp,T.cs_Z07,T.na_Pots_given,by decide,_,_,_,zao,T.cs_Z07,T.na_Pots_own,by decide,fun d H1 hd s1 e1=> ?_⟩;have dp:d≠p:=fun z=>by rw[z,zao] at hd;cases hd
 rw[zal dp,zal dp] at hd;have ep:=s1 _ _ (zao (H:=upd H p _) (a:=p));refine⟨_,_,_,ep,T.cs_Z07,T.na_Pots_taken,by decide,q d _ hd (by rw[zal dp];exact e1) zao fun b o hb eb=> ?_⟩;rw[zal hb];exact s1 _ _ (by rw[zal hb,zal hb];exact eb)
def znu(t:Adr):Sp:=fun vs H Q _=> ∃(p dx d:Addr) (a g o:Int),vs= [.ref p, .int a]∧H p=some (.ins t.c_Z07 dx (fsP g o d))∧Q .non (upd H p (.ins t.c_Z07 dx (fsP (g+a) o d)))
theorem sc_1f:FnScope ["self","amount"] ["self","amount"] (zak s_1f):=by sl_open
theorem ok_1f(T:Txt w K mg t):FnOk P w K mg base (CXE P w) 1 t.a_1f t.d_1f ["self","amount"] (znu t):=by
 refine T.fn_1f.okX sc_1f ?_ fun cdv A outer s H vs Q E L hr h=> ?_
 ·kdl_open
 obtain⟨p,dx,d,a,g,o,rfl,hp,q⟩:=h;have nd:=sc_1f.nd;refine⟨_,(zag (zcA (pvJ 0) (pvJ 1) zh1)),?_⟩;open_k0;refine⟨_,_,_,hp,T.cs_Z07,T.na_Pots_given,_,zjr g o d,_,rfl,_,_,hp,by simp [fsP],?_⟩;rw[zmo];exact q
def zqF(t:Adr):Sp:=fun vs H Q _=> ∃(p dx d:Addr) (g o:Int),vs= [.ref p]∧H p=some (.ins t.c_Z07 dx (fsP g o d))∧Q (.int o) (upd H p (.ins t.c_Z07 dx (fsP g 0 d)))
theorem sc_1i:FnScope ["self","amount"] ["self"] (zak s_1i):=by sl_open
theorem ok_1i(T:Txt w K mg t):FnOk P w K mg base (CXE P w) 1 t.a_1i t.d_1i ["self"] (zqF t):=by
 refine T.fn_1i.okX sc_1i ?_ fun cdv A outer s H vs Q E L hr h=> ?_
 ·kdl_open
 obtain⟨p,dx,d,g,o,rfl,hp,q⟩:=h;have nd:=sc_1i.nd;refine⟨_,(zad (psJ 1 nd (zd8 (pvJ 0) rfl)) (zad (zgz (pvJ 0) zac rfl) (zag (zap (pvJ 1))))),?_⟩;open_k0;refine⟨_,_,_,hp,T.cs_Z07,T.na_Pots_own,_,zjs g o d,_,_,_,hp,T.cs_Z07,T.na_Pots_own,by simp [fsP],?_⟩;rw[zmp];exact q
def zpF(K:Fg)(t:Adr):Sp:=fun vs H Q _=> ∃(p dx d:Addr) (g o k:Int) (kvs:List (Key×V)) (Tb:Tab),vs= [.ref p, .int k]∧H p=some (.ins t.c_Z07 dx (fsP g o d))∧H d=some (.dK kvs)∧Rows K H Tb kvs∧ ∀r H',zam H H'→H' r=some (.tup [.int (zaw Tb k).1, .int (zaw Tb k).2])→Q (.ref r) H'
theorem sc_1j:FnScope ["self","k"] ["self","k"] (zak s_1j):=by sl_open
theorem ok_1j(T:Txt w K mg t):FnOk P w K mg base (CXE P w) 1 t.a_1j t.d_1j ["self","k"] (zpF K t):=by
 refine T.fn_1j.okX sc_1j ?_ fun cdv A outer s H vs Q E L hr h=> ?_
 ·kdl_open
 obtain⟨p,dx,d,g,o,k,kvs,Tb,rfl,hp,hd,hr0,q⟩:=h;have nd:=sc_1j.nd;refine⟨_,(zag (zap (ze0 (zc3 hr) (zd8 (pvJ 0) rfl) (pvJ 1) (zaz (zaa zac (zaa zac zae zaf) zaf)) ⟨by rfl,by rfl,by rfl,by rfl⟩))),?_⟩;open_k0;refine⟨_,_,_,hp,T.cs_Z07,T.na_Pots_taken,_,zmq g o d,d,rfl, .inl ⟨_,Rd.of hd⟩,fun r0 H1 _ s1 e1=>⟨_,zc8.k (k:=Sum.inl k) (s1 _ _ hd),?_⟩⟩;rcases hr0.val k with⟨e,et⟩|⟨pt,e,hs⟩
 ·rw[e];exact q r0 H1 s1 (by rw[et];exact e1)
 ·rw[e];exact q pt H1 s1 (s1 _ _ hs)
def zpG(K:Fg)(t:Adr):Sp:=fun vs H Q _=> ∃(p dx d:Addr) (g o k a:Int) (kvs:List (Key×V)) (Tb:Tab),vs= [.ref p, .int k, .int a]∧H p=some (.ins t.c_Z07 dx (fsP g o d))∧H d=some (.dK kvs)∧Rows K H Tb kvs∧Tb.length≤500∧
 ∀x y r H' kvs',x=(if g<a then g else a)→y=(if o<a - x then o else a - x)→H' r=some (.tup [.int x, .int y, .int (a - x - y)])→H' p=some (.ins t.c_Z07 dx (fsP (g - x) (o - y) d))→H' d=some (.dK kvs')→Rows K H' (zbJ Tb k ((zaw Tb k).1+x,(zaw Tb k).2+a - x)) kvs'→(∀b u,b≠p→b≠d→H b=some u→H' b=some u)→zaQ K H H'→Q (.ref r) H'
theorem sc_1g:FnScope ["self","k","amount","from_given","from_own","paid","given","money"] ["self","k","amount"] (zak s_1g):=by sl_open
theorem ok_1g(T:Txt w K mg t):FnOk P w K mg base (CXE P w) 2 t.a_1g t.d_1g ["self","k","amount"] (zpG K t):=by
 refine T.fn_1g.okX sc_1g ?_ fun cdv A outer s H vs Q E L hr h=> ?_
 ·kdl_open
 obtain⟨p,dx,d,g,o,k,a,kvs,Tb,rfl,hp,hd,hr0,hl,q⟩:=h;have nd:=sc_1g.nd;refine⟨_,(zad (psJ 3 nd (zaM (zbX (by rfl)) (by rfl) T.no_min zdz (zaa (pvJ 2) (zaa (zd8 (pvJ 0) rfl) zae) zab))) (zad (psJ 4 nd (zaM (zbX (by rfl)) (by rfl) T.no_min zdz (zaa (zah zaK (pvJ 2) (pvJ 3)) (zaa (zd8 (pvJ 0) rfl) zae) zan))) (zad (psJ 5 nd (zah zaK (zah zaK (pvJ 2) (pvJ 3)) (pvJ 4))) (zad (zcA (pvJ 0) (pvJ 3) zkt) (zad (zcA (pvJ 0) (pvJ 4) zkt) (zad (za6 (zdh (pvJ 0) T.cs_Z07 T.me_1j (ok_1j T) (hr.mono (by decide)) T.b_1j .nil zet (zaa (pvJ 1) zae)) (zaO (n:=2) rfl (zaj (zai (i:=6) nd rfl (Or.inl rfl)) (zaj (zai (i:=7) nd rfl (Or.inl rfl)) zaJ)))) (zad (zdS (zc3 hr) (zd8 (pvJ 0) rfl) (pvJ 1) (zaz (zaa (zah zat (pvJ 6) (pvJ 3)) (zaa (zah zat (zah zat (pvJ 7) (pvJ 4)) (pvJ 5)) zae zan) zan)) rfl) (zag (zap (zaz (zaa (pvJ 3) (zaa (pvJ 4) (zaa (pvJ 5) zae zab) zab) zab))))))))))),?_⟩;open_k0;refine⟨_,_,_,hp,T.cs_Z07,T.na_Pots_given,_,zjr g o d,_,rfl,_,_,_,hp,T.cs_Z07,T.na_Pots_own,_,zjs g o d,_,rfl,_,_,_,hp,T.cs_Z07,T.na_Pots_given,_,zjr g o d,_,rfl,_,_,hp,by simp [fsP],?_⟩;obtain⟨x,hx⟩: ∃x,x=(if g<a then g else a):=⟨_,rfl⟩
 rw[←hx,zmo];obtain⟨y,hy⟩: ∃y,y=(if o<a - x then o else a - x):=⟨_,rfl⟩
 rw[←hy];refine⟨_,_,_,zao,T.cs_Z07,T.na_Pots_own,_,zjs (g - x) o d,_,rfl,_,_,zao,by simp [fsP],?_⟩;rw[zmp];have dp:d≠p:=fun z=>by rw[z,hp] at hd;cases hd
 have kp:zaQ K H (upd (upd H p (.ins t.c_Z07 dx (fsP (g - x) o d))) p (.ins t.c_Z07 dx (fsP (g - x) (o - y) d))):=(zaQ.ins hp _).trans (zaQ.ins zao _);have fr: ∀b u,b≠p→H b=some u→upd (upd H p (.ins t.c_Z07 dx (fsP (g - x) o d))) p (.ins t.c_Z07 dx (fsP (g - x) (o - y) d)) b=some u:=fun b u hb e=>by rw[zal hb,zal hb];exact e
 have ep:upd (upd H p (.ins t.c_Z07 dx (fsP (g - x) o d))) p (.ins t.c_Z07 dx (fsP (g - x) (o - y) d)) p=some (.ins t.c_Z07 dx (fsP (g - x) (o - y) d)):=zao;generalize upd (upd H p (.ins t.c_Z07 dx (fsP (g - x) o d))) p (.ins t.c_Z07 dx (fsP (g - x) (o - y) d))=H2 at kp fr ep;refine⟨_,_,ep,zfI _ _ _ (by decide) (by decide) (by decide),p,dx,d,_,_,k,kvs,Tb,rfl,ep,fr _ _ dp hd,hr0.keep kp,fun r H3 s3 h3=> ?_⟩;refine⟨r,_,rfl,SqT.of h3,rfl,?_⟩;open_k0;intro q1 H4 _ s4 e4;have ep4:=s4 _ _ (s3 _ _ ep);have ed4:=s4 _ _ (s3 _ _ (fr _ _ dp hd));have rows4:=(hr0.keep kp).keep (zaQ.of_same (s3.trans s4));refine⟨_,_,_,ep4,T.cs_Z07,T.na_Pots_taken,_,zmq _ _ d,d,rfl,_,zeZ.k (k:=Sum.inl k) ed4 (zba (by rw[hr0.len];omega)),fun r5 H6 _ s6 e6=> ?_⟩;have sq5:(upd H4 d (.dK (zbS kvs (Sum.inl k) (.ref q1)))) q1=some (.tup [.int ((zaw Tb k).1+x), .int ((zaw Tb k).2+a - x)]):=zaQ.dict (K:=K) ed4 _ _ _ (by rw[e4];first|done|rfl|(congr 5;omega));have rows5:=((rows4.keep (zaQ.dict ed4 (.dK (zbS kvs (Sum.inl k) (.ref q1))))).put (k:=k) sq5).keep (zaQ.of_same s6);refine q x y r5 H6 _ hx hy e6 (s6 _ _ (by rw[zal dp.symm];exact ep4)) (s6 _ _ zao) rows5 (fun b u b1 b2 e=>s6 _ _ (by rw[zal b2];exact s4 _ _ (s3 _ _ (fr _ _ b1 e)))) (((kp.trans (zaQ.of_same (s3.trans s4))).trans (zaQ.dict ed4 _)).trans (zaQ.of_same s6))
def zpH(K:Fg)(t:Adr):Sp:=fun vs H Q _=> ∃(p dx d:Addr) (g o k a:Int) (kvs:List (Key×V)) (Tb:Tab),vs= [.ref p, .int k, .int a]∧H p=some (.ins t.c_Z07 dx (fsP g o d))∧H d=some (.dK kvs)∧Rows K H Tb kvs∧Tb.length≤500∧
 ∀y r H' kvs',y=(if (zaw Tb k).2<a then (zaw Tb k).2 else a)→H' r=some (.tup [.int (a - y), .int y])→H' p=some (.ins t.c_Z07 dx (fsP (g+(a - y)) (o+y) d))→H' d=some (.dK kvs')→Rows K H' (zbJ Tb k ((zaw Tb k).1 - (a - y),(zaw Tb k).2 - y)) kvs'→(∀b u,b≠p→b≠d→H b=some u→H' b=some u)→zaQ K H H'→Q (.ref r) H'
theorem sc_1h:FnScope ["self","k","amount","given","money","to_own","to_given"] ["self","k","amount"] (zak s_1h):=by sl_open
theorem ok_1h(T:Txt w K mg t):FnOk P w K mg base (CXE P w) 2 t.a_1h t.d_1h ["self","k","amount"] (zpH K t):=by
 refine T.fn_1h.okX sc_1h ?_ fun cdv A outer s H vs Q E L hr h=> ?_
 ·kdl_open
 obtain⟨p,dx,d,g,o,k,a,kvs,Tb,rfl,hp,hd,hr0,hl,q⟩:=h;have nd:=sc_1h.nd;refine⟨_,(zad (za6 (zdh (pvJ 0) T.cs_Z07 T.me_1j (ok_1j T) (hr.mono (by decide)) T.b_1j .nil zet (zaa (pvJ 1) zae)) (zaO (n:=2) rfl (zaj (zai (i:=3) nd rfl (Or.inl rfl)) (zaj (zai (i:=4) nd rfl (Or.inl rfl)) zaJ)))) (zad (psJ 5 nd (zaM (zbX (by rfl)) (by rfl) T.no_min zdz (zaa (pvJ 2) (zaa (pvJ 4) zae zab) zab))) (zad (psJ 6 nd (zah zaK (pvJ 2) (pvJ 5))) (zad (zcA (pvJ 0) (pvJ 5) zh1) (zad (zcA (pvJ 0) (pvJ 6) zh1) (zad (zdS (zc3 hr) (zd8 (pvJ 0) rfl) (pvJ 1) (zaz (zaa (zah zaK (pvJ 3) (pvJ 6)) (zaa (zah zaK (pvJ 4) (pvJ 5)) zae zan) zan)) rfl) (zag (zap (zaz (zaa (pvJ 6) (zaa (pvJ 5) zae zab) zab)))))))))),?_⟩;open_k0;refine⟨_,_,hp,zfI _ _ _ (by decide) (by decide) (by decide),p,dx,d,_,_,k,kvs,Tb,rfl,hp,hd,hr0,fun r H3 s3 h3=> ?_⟩;refine⟨r,_,rfl,SqT.of h3,rfl,?_⟩;open_k0;obtain⟨y,hy⟩: ∃y,y=(if (zaw Tb k).2<a then (zaw Tb k).2 else a):=⟨_,rfl⟩
 rw[←hy];have hp3:=s3 _ _ hp;refine⟨_,_,_,hp3,T.cs_Z07,T.na_Pots_own,_,zjs g o d,_,rfl,_,_,hp3,by simp [fsP],?_⟩;rw[zmp];refine⟨_,_,_,zao,T.cs_Z07,T.na_Pots_given,_,zjr g (o+y) d,_,rfl,_,_,zao,by simp [fsP],?_⟩;rw[zmo];have dp:d≠p:=fun z=>by rw[z,hp] at hd;cases hd
 have kp:zaQ K H (upd (upd H3 p (.ins t.c_Z07 dx (fsP g (o+y) d))) p (.ins t.c_Z07 dx (fsP (g+(a - y)) (o+y) d))):=((zaQ.of_same s3).trans (zaQ.ins hp3 _)).trans (zaQ.ins zao _);have fr: ∀b u,b≠p→H b=some u→upd (upd H3 p (.ins t.c_Z07 dx (fsP g (o+y) d))) p (.ins t.c_Z07 dx (fsP (g+(a - y)) (o+y) d)) b=some u:=fun b u hb e=>by rw[zal hb,zal hb];exact s3 _ _ e
 have ep:upd (upd H3 p (.ins t.c_Z07 dx (fsP g (o+y) d))) p (.ins t.c_Z07 dx (fsP (g+(a - y)) (o+y) d)) p=some (.ins t.c_Z07 dx (fsP (g+(a - y)) (o+y) d)):=zao;generalize upd (upd H3 p (.ins t.c_Z07 dx (fsP g (o+y) d))) p (.ins t.c_Z07 dx (fsP (g+(a - y)) (o+y) d))=H3' at kp fr ep;have s3:zam H3' H3':=zam.refl _;intro q1 H4 _ s4 e4;have ep4:=s4 _ _ (s3 _ _ ep);have ed4:=s4 _ _ (s3 _ _ (fr _ _ dp hd));have rows4:=(hr0.keep kp).keep (zaQ.of_same (s3.trans s4));refine⟨_,_,_,ep4,T.cs_Z07,T.na_Pots_taken,_,zmq _ _ d,d,rfl,_,zeZ.k (k:=Sum.inl k) ed4 (zba (by rw[hr0.len];omega)),fun r5 H6 _ s6 e6=> ?_⟩;have sq5:(upd H4 d (.dK (zbS kvs (Sum.inl k) (.ref q1)))) q1=some (.tup [.int ((zaw Tb k).1 - (a - y)), .int ((zaw Tb k).2 - y)]):=zaQ.dict (K:=K) ed4 _ _ _ (by rw[e4];first|done|rfl|(congr 5;omega));have rows5:=((rows4.keep (zaQ.dict ed4 (.dK (zbS kvs (Sum.inl k) (.ref q1))))).put (k:=k) sq5).keep (zaQ.of_same s6);refine q y r5 H6 _ hy e6 (s6 _ _ (by rw[zal dp.symm];exact ep4)) (s6 _ _ zao) rows5 (fun b u b1 b2 e=>s6 _ _ (by rw[zal b2];exact s4 _ _ (s3 _ _ (fr _ _ b1 e)))) (((kp.trans (zaQ.of_same (s3.trans s4))).trans (zaQ.dict ed4 _)).trans (zaQ.of_same s6))
def Pot(K:Fg)(t:Adr)(H:Hp)(p dx d:Addr)(s:Pt):Prop:=H p=some (.ins t.c_Z07 dx (fsP s.1 s.2.1 d))∧ ∃kvs,H d=some (.dK kvs)∧Rows K H s.2.2 kvs
def Kp(H H':Hp):Prop:= ∀b u,H b=some u→(∀C dx fs,u≠ .ins C dx fs)→(∀kvs,u≠ .dK kvs)→H' b=some u
theorem Kp.of_same{H H':Hp}(s:zam H H'):Kp H H':=fun b u e _ _=>s b u e
theorem Kp.trans{A B C:Hp}(x:Kp A B)(y:Kp B C):Kp A C:=fun b u e h1 h2=>y b u (x b u e h1 h2) h1 h2
theorem Kp.sqT{H H':Hp}{a:Addr}{xs:List V}(k:Kp H H')(h:SqT K H a xs):SqT K H' a xs:=by
 rcases h with(h|⟨o,h⟩)|h
 ·exact .inl (.inl (k _ _ h nofun nofun))
 ·exact .inl (.inr ⟨o,k _ _ h nofun nofun⟩)
 ·exact .inr h
theorem Kp.sqL{H H':Hp}{a:Addr}{xs:List V}(k:Kp H H')(h:SqL K H a xs):SqL K H' a xs:=by
 rcases h with(h|⟨o,h⟩)|h
 ·exact .inl (.inl (k _ _ h nofun nofun))
 ·exact .inl (.inr ⟨o,k _ _ h nofun nofun⟩)
 ·exact .inr h
theorem Kp.tup{H H':Hp}{a:Addr}{xs:List V}(k:Kp H H')(h:H a=some (.tup xs)):H' a=some (.tup xs):=k _ _ h nofun nofun
theorem Kp.lst{H H':Hp}{a:Addr}{xs:List V}(k:Kp H H')(h:H a=some (.lst xs)):H' a=some (.lst xs):=k _ _ h nofun nofun
theorem Kp.ens{H H':Hp}{ys:List En}(k:Kp H H')(h:zbp K H ys):zbp K H' ys:=fun z hz=>(let ⟨p,e,q1,q2⟩:=h z hz;⟨p,e,k.sqT q1,k.sqT q2⟩)
def Fr(H:Hp)(r:Addr):Prop:= ∀u,H r=some u→(∃C dx fs,u= .ins C dx fs)∨ ∃kvs,u= .dK kvs
theorem Kp.fr{H H':Hp}{r:Addr}(k:Kp H H')(h:H' r=none):Fr H r:=fun u e=>by
 cases u with
 |ins C dx fs=>exact .inl ⟨_,_,_,rfl⟩
 |dK kvs=>exact .inr ⟨_,rfl⟩
 |_=>rw[k _ _ e nofun nofun] at h;cases h
theorem Kp.frF{H H':Hp}{r:Addr}(k:Kp H H')(h:Fr H' r):Fr H r:=fun u e=>by
 cases u with
 |ins C dx fs=>exact .inl ⟨_,_,_,rfl⟩
 |dK kvs=>exact .inr ⟨_,rfl⟩
 |_=>rcases h _ (k _ _ e nofun nofun) with⟨_,_,_,z⟩|⟨_,z⟩<;>cases z
theorem Kp.put{H H':Hp}{r:Addr}{o:HO}(k:Kp H H')(h:Fr H r):Kp H (upd H' r o):=fun b u e h1 h2=>by
 by_cases z:b=r
 ·subst z;rcases h _ e with⟨_,_,_,z⟩|⟨_,z⟩
  ·exact absurd z (h1 _ _ _)
  ·exact absurd z (h2 _)
 ·rw[zal z];exact k _ _ e h1 h2
theorem Pot.same{p dx d:Addr}{s:Pt}{H H':Hp}(h:Pot K t H p dx d s)(sm:zam H H'):Pot K t H' p dx d s:=by
 obtain⟨h1,kvs,h2,h3⟩:=h;exact⟨sm _ _ h1,kvs,sm _ _ h2,h3.keep (zaQ.of_same sm)⟩
def LnV(z:Ln):List V:= [.int z.1, .str (SL z.2.1), .int z.2.2.1, .int z.2.2.2.1, .int z.2.2.2.2.1, .int z.2.2.2.2.2.1, .int z.2.2.2.2.2.2]
def zbw(H:Hp)(ws:List (Addr×Ln)):Prop:= ∀w∈ws,H w.1=some (.tup (LnV w.2))
theorem zbw.keep{H H':Hp}{ws:List (Addr×Ln)}(h:zbw H ws)(k:Kp H H'):zbw H' ws:=fun w hw=>k.tup (h w hw)
theorem Kp.of_but{H H':Hp}{p dx d:Addr}{s:Pt}(P:Pot K t H p dx d s)(b: ∀b u,b≠p→b≠d→H b=some u→H' b=some u):Kp H H':=fun x u e h1 h2=>by
 obtain⟨g1,kvs,g2,_⟩:=P;exact b x u (fun z=>by rw[z,g1] at e;cases e;exact h1 _ _ _ rfl) (fun z=>by rw[z,g2] at e;cases e;exact h2 _ rfl) e
theorem Pot.put{H:Hp}{p dx d:Addr}{s:Pt}(h:Pot K t H p dx d s)(g o:Int):Pot K t (upd H p (.ins t.c_Z07 dx (fsP g o d))) p dx d (g,o,s.2.2)∧Kp H (upd H p (.ins t.c_Z07 dx (fsP g o d))):=by
 obtain⟨h1,kvs,h2,h3⟩:=id h;have dp:d≠p:=fun z=>by rw[z,h1] at h2;cases h2
 exact⟨⟨zao,kvs,by rw[zal dp];exact h2,h3.keep (zaQ.ins h1 _)⟩,Kp.of_but h fun b u hb _ e=>by rw[zal hb];exact e⟩
theorem Pot.app{H:Hp}{p dx d l:Addr}{s:Pt}{xs ys:List V}(h:Pot K t H p dx d s)(e:H l=some (.lst xs)):Pot K t (upd H l (.lst ys)) p dx d s:=by
 obtain⟨h1,kvs,h2,h3⟩:=h;refine⟨by rw[zal (fun z=>by rw[z,e] at h1;cases h1)];exact h1,kvs,by rw[zal (fun z=>by rw[z,e] at h2;cases h2)];exact h2,h3.keep fun q zs g=> ?_⟩;rw[zal (fun z=>by rw[z,e] at g;cases g)];exact g
theorem zg1{H0 H1:Hp}{l0 r:Addr}{ws:List (Addr×Ln)}{z:Ln}(k:Kp H0 H1)(fr:Fr H0 l0)(e:H1 l0=some (.lst (ws.map fun w=>V.ref w.1)))(la:zbw H1 ws)(er:H1 r=some (.tup (LnV z))):Kp H0 (upd H1 l0 (.lst ((ws.map fun w=>V.ref w.1)++ [.ref r])))∧(upd H1 l0 (.lst ((ws.map fun w=>V.ref w.1)++ [.ref r]))) l0=some (.lst ((ws++ [(r,z)]).map fun w=>V.ref w.1))∧zbw (upd H1 l0 (.lst ((ws.map fun w=>V.ref w.1)++ [.ref r]))) (ws++ [(r,z)]):=by
 refine⟨k.put fr,by rw[zao,List.map_append];rfl,fun w hw=> ?_⟩;have g:H1 w.1=some (.tup (LnV w.2)):=by
  rcases List.mem_append.mp hw with q|q
  ·exact la w q
  ·rw[List.mem_singleton.mp q];exact er
 rw[zal (fun q=>by rw[q,e] at g;cases g)];exact g
theorem ziJ{H0 H1:Hp}{l0 l1:Addr}{ws vs:List (Addr×Ln)}(k:Kp H0 H1)(fr:Fr H0 l0)(e:H1 l0=some (.lst (ws.map fun w=>V.ref w.1)))(la:zbw H1 ws)(lb:zbw H1 vs):Kp H0 (upd H1 l0 (.lst ((ws.map fun w=>V.ref w.1)++vs.map fun w=>V.ref w.1)))∧(upd H1 l0 (.lst ((ws.map fun w=>V.ref w.1)++vs.map fun w=>V.ref w.1))) l0=some (.lst ((ws++vs).map fun w=>V.ref w.1))∧zbw (upd H1 l0 (.lst ((ws.map fun w=>V.ref w.1)++vs.map fun w=>V.ref w.1))) (ws++vs):=by
 refine⟨k.put fr,by rw[zao,List.map_append],fun w hw=> ?_⟩;have g:H1 w.1=some (.tup (LnV w.2)):=by
  rcases List.mem_append.mp hw with q|q
  ·exact la w q
  ·exact lb w q
 rw[zal (fun q=>by rw[q,e] at g;cases g)];exact g
theorem znv(ys:List En)(day:Int):inV (V.int day) ((ys.map fun z=>z.2.2.1).map V.int)=ys.any fun z=>decide (z.2.2.1=day):=by
 unfold inV;rw[List.map_map,List.any_map];rfl
theorem zgt: ∀zs:List Int,(zs.map V.int).all zdv=true
 | []=>rfl
 |_::r=>by rw[List.map_cons,List.all_cons,zgt r];rfl
def zpI(K:Fg):Sp:=fun vs H Q _=> ∃(le:Addr) (ys:List En),vs= [.ref le]∧SqL K H le (ys.map (·.1))∧zbp K H ys∧ys.length≤40∧ ∀r H',H r=none→zam H H'→H' r=some (.lst ((ys.map fun z=>z.2.2.1).map V.int))→Q (.ref r) H'
theorem sc_0r:FnScope ["entries"] ["entries"] (zak s_0r):=by sl_open
theorem ok_0r(T:Txt w K mg t):FnOk P w K mg base (CXE P w) 1 t.a_0r t.d_0r ["entries"] (zpI K):=by
 refine T.F_0r.fn.okX sc_0r ?_ fun cdv A outer s H vs Q E L hr h=> ?_
 ·kdl_open
 obtain⟨le,ys,rfl,hS,hE,y40,q⟩:=h;have nd:=sc_0r.nd;refine⟨_,(zag (zap (zcS (n:=1) (N:= ["entry"]) (js:= []) (by rfl) rfl rfl (zbm (pvJ 0)) (fun a=>(zai (i:=0) (show List.Nodup (["entry"]:List Str) from by decide+kernel) rfl (Or.inl rfl))) (fun a=>zdi) (fun a=>(ixJ zaq (pvJ 0) zac))))),?_⟩
 (open_k0;repeat (dsimp only[zdP,zbB];open_k0))
 refine⟨⟨_,hS⟩,fun l hl aa=> ?_⟩;refine zb9 (fun j xs _=>xs=((ys.take j).map fun z=>z.2.2.1).map V.int) (zbY hS) hl (by rw[List.length_map];exact zbj (by omega)) (fun _ _=>rfl) (fun j y xs H1 K1 K0 hxx sm pv hl1 k1 k0=> ?_) (fun xs H1 s1 pv _ w1=> ?_)
 ·rw[List.getElem?_map] at hxx;obtain⟨z,hz,rfl⟩:=Option.map_eq_some_iff.mp hxx;obtain⟨pe,e1,e2,_⟩:=hE z (List.mem_of_getElem? hz);open_k0;rw[e1];refine ixT (sm.sqT e2) (zbA _ _) (k1 _ _ (zam.refl _) fun H2 _=> ?_);rw[pv,List.take_add_one,hz,List.map_append,List.map_append];rfl
 ·rw[List.length_map,List.take_length] at pv;subst pv;exact q l H1 hl s1 w1
def zpJ(K:Fg)(t:Adr):Sp:=fun vs H Q _=> ∃(p dx d:Addr) (s:Pt) (day k a:Int),vs= [.ref p, .int day, .int k, .int a]∧Pot K t H p dx d s∧s.2.2.length≤500∧ ∀r H',Pot K t H' p dx d (zcw s k a)→Kp H H'→H' r=some (.tup (LnV (zcG s day k a)))→Q (.ref r) H'
theorem sc_0u:FnScope ["pots","day","k","amount","given","own"] ["pots","day","k","amount"] (zak s_0u):=by sl_open
theorem ok_0u(T:Txt w K mg t):FnOk P w K mg base (CXE P w) 3 t.a_0u t.d_0u ["pots","day","k","amount"] (zpJ K t):=by
 refine T.F_0u.fn.okX sc_0u ?_ fun cdv A outer s H vs Q E L hr h=> ?_
 ·kdl_open
 obtain⟨p,dx,d,s0,day,k,a,rfl,⟨hp,kvs,hd,hr0⟩,hl,q⟩:=h;have nd:=sc_0u.nd;refine⟨_,(zad (za6 (zdh (pvJ 0) T.cs_Z07 T.me_1h (ok_1h T) (hr.mono (by decide)) T.b_1h .nil zet (zaa (pvJ 2) (zaa (pvJ 3) zae zab) zab)) (zaO (n:=2) rfl (zaj (zai (i:=4) nd rfl (Or.inl rfl)) (zaj (zai (i:=5) nd rfl (Or.inl rfl)) zaJ)))) (zag (zap (zaz (zaa (pvJ 1) (zaa (zax st_15) (zaa (pvJ 2) (zaa (zeL zcW (pvJ 3)) (zaa (zeL zcW (pvJ 4)) (zaa (zeL zcW (pvJ 5)) (zaa zac zae zaf)))) zab) zaf) zab))))),?_⟩;open_k0;refine⟨_,_,hp,zfI _ _ _ (by decide) (by decide) (by decide),p,dx,d,s0.1,s0.2.1,k,a,kvs,s0.2.2,rfl,hp,hd,hr0,hl,fun y r H1 kvs' hy er ep ed rw1 fr kt=> ?_⟩;refine⟨r,_,rfl,SqT.of er,rfl,?_⟩;open_k0;intro r2 H2 _ s2 e2;have ey:y=gvY s0 k a:=hy;subst ey;exact q r2 H2 ⟨s2 _ _ ep,kvs',s2 _ _ ed,rw1.keep (zaQ.of_same s2)⟩ ((Kp.of_but ⟨hp,kvs,hd,hr0⟩ fr).trans (Kp.of_same s2)) e2
def zpK(K:Fg)(t:Adr):Sp:=fun vs H Q _=> ∃(p dx d:Addr) (s:Pt) (day:Int) (w:List Nat) (k a:Int),vs= [.ref p, .int day, .str (SL w), .int k, .int a]∧Pot K t H p dx d s∧s.2.2.length≤500∧ ∀r H',Pot K t H' p dx d (zbl s k a)→Kp H H'→H' r=some (.tup (LnV (zbk s day w k a)))→Q (.ref r) H'
theorem sc_0v:FnScope ["pots","day","kind","k","amount","given","own","paid"] ["pots","day","kind","k","amount"] (zak s_0v):=by sl_open
theorem ok_0v(T:Txt w K mg t):FnOk P w K mg base (CXE P w) 3 t.a_0v t.d_0v ["pots","day","kind","k","amount"] (zpK K t):=by
 refine T.F_0v.fn.okX sc_0v ?_ fun cdv A outer s H vs Q E L hr h=> ?_
 ·kdl_open
 obtain⟨p,dx,d,s0,day,wd,k,a,rfl,⟨hp,kvs,hd,hr0⟩,hl,q⟩:=h;have nd:=sc_0v.nd;refine⟨_,(zad (za6 (zdh (pvJ 0) T.cs_Z07 T.me_1g (ok_1g T) (hr.mono (by decide)) T.b_1g .nil zet (zaa (pvJ 3) (zaa (pvJ 4) zae zab) zab)) (zaO (n:=3) rfl (zaj (zai (i:=5) nd rfl (Or.inl rfl)) (zaj (zai (i:=6) nd rfl (Or.inl rfl)) (zaj (zai (i:=7) nd rfl (Or.inl rfl)) zaJ))))) (zag (zap (zaz (zaa (pvJ 1) (zaa (pvJ 2) (zaa (pvJ 3) (zaa (pvJ 4) (zaa (pvJ 5) (zaa (pvJ 6) (zaa (pvJ 7) zae zab) zab) zab) zab) zab) zab) zab))))),?_⟩;open_k0;refine⟨_,_,hp,zfI _ _ _ (by decide) (by decide) (by decide),p,dx,d,s0.1,s0.2.1,k,a,kvs,s0.2.2,rfl,hp,hd,hr0,hl,fun x y r H1 kvs' hx hy er ep ed rw1 fr kt=> ?_⟩;refine⟨r,_,rfl,SqT.of er,rfl,?_⟩;open_k0;intro r2 H2 _ s2 e2;have ex:x=tkX s0 a:=hx;subst ex;have ey:y=tkY s0 a:=hy;subst ey;exact q r2 H2 ⟨s2 _ _ ep,kvs',s2 _ _ ed,rw1.keep (zaQ.of_same s2)⟩ ((Kp.of_but ⟨hp,kvs,hd,hr0⟩ fr).trans (Kp.of_same s2)) e2
def zpL(K:Fg)(t:Adr):Sp:=fun vs H Q E=> ∃(pa le l:Addr) (f:Int) (dy:Bool) (c day:Int) (ys:List En),vs= [.ref pa, .ref le, .int day]∧zcL K H pa l f dy c∧SqL K H le (ys.map (·.1))∧zbp K H ys∧ys.length≤40∧(f≤day→day<Cal.beg f dy c 60→ ∀r (ws:List Int) H',zam H H'→H' r=some (.lst (ws.map V.int))→ws.Pairwise (· < ·)→(∀x,x∈ws↔(∃j:Nat,j<60∧Cal.beg f dy c j≤day∧x=Cal.beg f dy c j)∨ ∃z∈ys,z.2.2.1=x∧x≤day)→ws.length≤100→Q (.ref r) H')∧(day<f→ ∀H',zam H H'→E (.ref t.c_Z06) none H')∧(Cal.beg f dy c 60≤day→ ∀H',zam H H'→E (.ref t.c_Z0c) none H')
theorem sc_0s:FnScope ["account","entries","day","k","begin","end","begins"] ["account","entries","day"] (zak s_0s):=by sl_open
theorem ok_0s(T:Txt w K mg t):FnOk P w K mg base (CXE P w) 8 t.a_0s t.d_0s ["account","entries","day"] (zpL K t):=by
 refine T.F_0s.fn.okX sc_0s ?_ fun cdv A outer s H vs Q E L hr h=> ?_
 ·kdl_open
 obtain⟨pa,le,l,f,dy,c,day,ys,rfl,ha,hS,hE,y40,q1,q2,q3⟩:=h;have nd:=sc_0s.nd;refine⟨_,(zad (za6 (peD L.toLv (ok_0b T) hr T.F_0b (zaa (pvJ 0) (zaa (pvJ 2) zae zab) zab)) (zaO (n:=3) rfl (zaj (zai (i:=3) nd rfl (Or.inl rfl)) (zaj (zai (i:=4) nd rfl (Or.inl rfl)) (zaj (zai (i:=5) nd rfl (Or.inl rfl)) zaJ))))) (zad (zgF (i:=6) nd rfl rfl (n:=1) (N:= ["number","account"]) (js:= [0]) (by rfl) rfl rfl (zcc (by rfl) T.no_range (zaa (zah zat (pvJ 3) zac) zae)) (fun a=>(zai (i:=0) (show List.Nodup (["number","account"]:List Str) from by decide+kernel) rfl (Or.inl rfl))) (fun a=>zdi) (fun a=>(ixJ zaq (peD zkL (ok_0a T) hr T.F_0a (zaa (pvJ 1) (zaa (pvJ 0) zae zab) zab)) zac))) (zag (zap (zaM (zdx (w:=w) rfl (by rfl)) (by rfl) T.no_sorted zdj (zaa (zcd (zfc (w:=w) (K:=K) rfl rfl (by rfl)) (by rfl) T.no_set zly (zaa (zah ziV (pvJ 6) (zcS (n:=1) (N:= ["entered","day"]) (js:= [2]) (by rfl) rfl rfl (zbm (peD L.toLv (ok_0r T) hr T.F_0r (zaa (pvJ 1) zae))) (fun a=>(zai (i:=0) (show List.Nodup (["entered","day"]:List Str) from by decide+kernel) rfl (Or.inl rfl))) (fun a=>(zeB (zbq zio (pvJ 0) (pvJ 1) (za3 _)))) (fun a=>(pvJ 0)))) zae)) zae)))))),?_⟩;open_k0;refine⟨pa,l,f,dy,c,day,rfl,ha,fun k k0 k1 a b p1 H1 s1 e1=> ?_,q2,q3⟩;obtain⟨f0,f1,hc⟩:=ha.cyc;refine⟨p1,_,rfl,SqT.of e1,rfl,?_⟩
 (open_k0;repeat (dsimp only[zdP,zbU,zbB];open_k0))
 refine⟨by omega,by omega,fun lb hlb aa=> ?_⟩;refine zb9 (fun j xs _=>xs=((List.range j).map fun i:Nat=>Cal.beg f dy c i).map V.int) (zf0 0 _ H1) hlb (by rw[zb8];exact zbj (by omega)) (fun _ _=>rfl) (fun j y xs H2 K1 K0 hxx sm pv hl kk k0'=> ?_) (fun xs H2 s2 pv _ w2=> ?_)
 ·have hj:=(List.getElem?_eq_some_iff.mp hxx).1;rw[zb8] at hj;rw[zgG hj] at hxx;cases hxx;open_k0;refine⟨pa,l,f,dy,c,_,rfl,ha.same (s1.trans sm),fun _ _ p3 H3 s3 e3=> ?_,fun z=>absurd z (by omega),fun z=>absurd z (by omega)⟩;refine ixT (SqT.of e3) (zbA _ _) (kk _ _ s3 fun H4 _=> ?_);rw[pv,List.range_succ,List.map_append,List.map_append,Int.zero_add];rfl
 rw[zb8] at pv;subst pv;have s02:=s1.trans s2;refine⟨le,ys,rfl,s02.seq hS,hE.same s02,y40,fun r3 H3 hr3 s3 e3=>⟨r3,rfl,⟨_,SqL.of e3⟩,fun l4 hl4 ab=> ?_⟩⟩;refine zb9 (fun j xs _=>xs=(((ys.take j).map fun z=>z.2.2.1).filter fun x=>decide (x≤day)).map V.int) (zbY (SqL.of e3)) hl4 (by rw[List.length_map,List.length_map];exact zbj (by omega)) (fun _ _=>rfl) (fun j y xs H4 K1 K0 hxx sm pv hl kk k0'=> ?_) (fun xs H4 s4 pv _ w4=> ?_)
 ·rw[List.getElem?_map,List.getElem?_map] at hxx;obtain⟨x,hx,rfl⟩:=Option.map_eq_some_iff.mp hxx;obtain⟨z,hz,rfl⟩:=Option.map_eq_some_iff.mp hx;have nx:((ys.take (j+1)).map fun z=>z.2.2.1).filter (fun x=>decide (x≤day))=((ys.take j).map fun z=>z.2.2.1).filter (fun x=>decide (x≤day))++(if z.2.2.1≤day then [z.2.2.1] else []):=by
   rw[List.take_add_one,hz,List.map_append,List.filter_append];congr 1;by_cases g:z.2.2.1≤day
   ·simp [g]
   ·simp [g]
  open_k0;by_cases g:z.2.2.1≤day
  ·rw[if_pos g] at nx ⊢;exact kk _ _ (zam.refl _) fun H5 _=>by rw[pv,nx,List.map_append];rfl
  ·rw[if_neg g] at nx ⊢;exact k0' _ (zam.refl _) (by rw[pv,nx,List.append_nil])
 rw[List.length_map,List.length_map,List.take_length] at pv;subst pv;have wb:=(s3.trans s4) _ _ w2;refine⟨lb,l4,_,_,rfl,rfl,wb,w4,?_,fun l5 H5 _ s5 e5=> ?_⟩
 ·have:=List.length_filter_le (fun x=>decide (x≤day)) (ys.map fun z=>z.2.2.1);rw[List.length_map] at this;refine zbz ?_;rw[List.length_map,List.length_map,List.length_map,List.length_range];omega
 rw[←List.map_append] at e5;generalize hzs:((List.range (k+1).toNat).map fun i:Nat=>Cal.beg f dy c i)++(ys.map fun z=>z.2.2.1).filter (fun x=>decide (x≤day))=zs at e5;have zl:zs.length≤100:=by
  have:=List.length_filter_le (fun x=>decide (x≤day)) (ys.map fun z=>z.2.2.1);rw[List.length_map] at this;rw[←hzs,List.length_append,List.length_map,List.length_range];omega
 have zm: ∀x,x∈zs↔(∃j:Nat,j<60∧Cal.beg f dy c j≤day∧x=Cal.beg f dy c j)∨ ∃z∈ys,z.2.2.1=x∧x≤day:=fun x=>by
  rw[←hzs,List.mem_append,List.mem_map,List.mem_filter,List.mem_map];refine or_congr ⟨fun⟨j,hj,e⟩=> ?_,fun⟨j,hj,hb,e⟩=> ?_⟩ ⟨fun⟨⟨z,hz,e⟩,g⟩=>⟨z,hz,e,by simpa using g⟩,fun⟨z,hz,e,g⟩=>⟨⟨z,hz,e⟩,by simpa using g⟩⟩
  ·have:=List.mem_range.mp hj;exact⟨j,by omega,Int.le_trans (Cal.beg_le f0 f1 hc (by omega) (show (j:Int)≤k by omega) (by omega)) a,e.symm⟩
  ·refine⟨j,List.mem_range.mpr ?_,e.symm⟩
   have:(j:Int)≤k:=by
    rcases (by omega:k<j∨(j:Int)≤k) with q|q
    ·have:=Cal.beg_le f0 f1 hc (show 0≤k+1 by omega) (show k+1≤(j:Int) by omega) (by omega);omega
    ·exact q
   omega
 refine⟨l5,rfl,zs,SqL.of e5,by omega,fun q6 H6 _ s6 e6=>⟨_,e6,?_,fun ws wp wo=>fun r7 H7 _ s7 e7=> ?_⟩⟩
 ·exact Nat.le_trans (Se.met_len _ _) (by omega)
 have wn:ws.Nodup:=(wp.nodup_iff).mpr (zii zs);refine q1 ?_ ?_ r7 ws H7 (s02.trans (s3.trans (s4.trans (s5.trans (s6.trans s7))))) e7 ?_ (fun x=> ?_) ?_
 ·have:=Cal.beg_ge (k:=k) f0 f1 hc k0 (by omega);omega
 ·have:=Cal.beg_le f0 f1 hc (show 0≤k+1 by omega) (show k+1≤60 by omega) (by omega);omega
 ·refine(List.Pairwise.and wo wn).imp fun h=> ?_;omega
 ·rw[wp.mem_iff,zhz];exact zm x
 ·rw[wp.length_eq];exact Nat.le_trans (Se.met_len _ _) (by omega)
def zmr(K:Fg)(t:Adr):Sp:=fun vs H Q _=> ∃(p dx d le:Addr) (s:Pt) (day:Int) (ys:List En),vs= [.ref p, .ref le, .int day]∧Pot K t H p dx d s∧SqL K H le (ys.map (·.1))∧le≠p∧le≠d∧zbp K H ys∧ys.length≤40∧ ∀r (ws:List (Addr×Ln)) H',Fr H r→Pot K t H' p dx d (s.1+zau day ys,s.2)→Kp H H'→H' r=some (.lst (ws.map fun w=>V.ref w.1))→zbw H' ws→ws.map (·.2)=zaP day 0 ys→Q (.ref r) H'
theorem sc_0t:FnScope ["pots","entries","day","lines","number","entry","entered","change"] ["pots","entries","day"] (zak s_0t):=by sl_open
theorem ok_0t(T:Txt w K mg t):FnOk P w K mg base (CXE P w) 2 t.a_0t t.d_0t ["pots","entries","day"] (zmr K t):=by
 refine T.F_0t.fn.okX sc_0t ?_ fun cdv A outer s H vs Q E L hr h=> ?_
 ·kdl_open
 obtain⟨p,dx,d,le,s0,day,ys,rfl,hP,hS,n1,n2,hE,y40,q⟩:=h;have nd:=sc_0t.nd;refine⟨_,(zad (psJ 3 nd (zaB zae)) (zad (zbs (by passes_own) rfl (zdU (by rfl) T.no_enumerate (zaa (pvJ 1) zae)) (zaO (n:=2) rfl (zaL (zai (i:=4) nd rfl (Or.inl rfl)) (zaL (zai (i:=5) nd rfl (Or.inl rfl)) zb0))) (zad (za6 (pvJ 5) (zaO (n:=2) rfl (zaj (zai (i:=6) nd rfl (Or.inl rfl)) (zaj (zai (i:=7) nd rfl (Or.inl rfl)) zaJ)))) (zag (zay (PWQ.pq (zb2 (zbC (pvJ 6) (pvJ 2)) (zbO (zbC (ixJ zaq (pvJ 7) zac) (zax st_14))))) (zad (zbb (zdh (pvJ 0) T.cs_Z07 T.me_1f (ok_1f T) (hr.mono (by decide)) T.b_1f .nil zet (zaa (ixJ zaq (pvJ 7) zac) zae))) (zag (zbb (zb4 PySem.F.plainAttrs_list PySem.F.slot_list_append PySem.F.type_list_append za8 (pvJ 3) (zaa (zaz (zaa (pvJ 2) (zaa (zax st_14) (zaa (pvJ 4) (zaa (ixJ zaq (pvJ 7) zac) (zaa zac (zaa zac (zaa zac zae zaf) zaf) zaf) zar) zab) zaf) zab)) zae))))) zav)))) (zag (zap (pvJ 3))))),?_⟩;open_k0;intro l0 H1 hl0 s1 e1
 ((try dsimp only);refine zbE fun R hR=> ?_;(open_k0;repeat (dsimp only[zbB,zb5,zbU,zb7];open_k0)))
 refine⟨⟨_,s1.seq hS⟩,hR _ _ ?_⟩;clear hR;have k1:=Kp.of_same s1;have fr0:Fr H l0:=fun u e=>by rw[e] at hl0;cases hl0
 obtain⟨Pv,hPv⟩: ∃Pv:Nat→St→Hp→Prop,Pv=fun i σ1 H2=> ∃(ws:List (Addr×Ln)) (x4 x5 x6 x7:Option V),Pot K t H2 p dx d (s0.1+zau day (ys.take i),s0.2)∧Kp H H2∧H2 l0=some (.lst (ws.map fun w=>V.ref w.1))∧zbw H2 ws∧ws.map (·.2)=zaP day 0 (ys.take i)∧σ1= [some (.ref p),some (.ref le),some (.int day),some (.ref l0),x4,x5,x6,x7]:=⟨_,rfl⟩
 refine zdV (xs:=ys.map (·.1)) Pv (by rw[hPv];exact⟨[],_,_,_,_,by rw[List.take_zero];show Pot K t H1 p dx d (s0.1+0,s0.2);rw[Int.add_zero];exact hP.same s1,k1,e1,(fun w h=>nomatch h),rfl,rfl⟩) (fun i σ1 H2 _ h=>by rw[hPv] at h;obtain⟨_,_,_,_,_,_,k,_⟩:=h;exact k.sqL hS) (fun i σ1 H2 H3 h s=>by rw[hPv] at h ⊢;obtain⟨ws,x4,x5,x6,x7,hp,k,e,la,lm,r⟩:=h;exact⟨ws,x4,x5,x6,x7,hp.same s,k.trans (Kp.of_same s),s _ _ e,la.keep (Kp.of_same s),lm,r⟩) (fun i x σ1 H2 hx h=> ?_) (fun σ1 H2 h=> ?_)
 ·rw[hPv] at h;obtain⟨ws,x4,x5,x6,x7,hp2,k2,e2,la,lm,rfl⟩:=h;rw[List.getElem?_map] at hx;obtain⟨z,hz,rfl⟩:=Option.map_eq_some_iff.mp hx;obtain⟨pe,ee,q1,q2⟩:=(k2.ens hE) z (List.mem_of_getElem? hz);have hi:=(List.getElem?_eq_some_iff.mp hz).1;rw[ee];open_k0;refine⟨pe,_,rfl,q1,rfl,?_⟩;open_k0;obtain⟨gF,gA⟩:=ziw (day:=day) hz;have stay:zaP day 0 (ys.take (i+1))=zaP day 0 (ys.take i)→zau day (ys.take (i+1))=zau day (ys.take i)→ ∀H3,zam H2 H3→Pv (i+1) [some (V.ref p),some (V.ref le),some (V.int day),some (V.ref l0),some (V.int i),some (V.ref pe),some (V.int z.2.2.1),some (V.ref z.2.1)] H3:=fun g1 g2 H3 s3=>by
   rw[hPv];exact⟨ws,_,_,_,_,by rw[g2];exact hp2.same s3,k2.trans (Kp.of_same s3),s3 _ _ e2,la.keep (Kp.of_same s3),by rw[g1];exact lm,rfl⟩
  by_cases hd:z.2.2.1=day
  ·rw[if_pos hd];generalize hc:z.2.2.2=ch at q2 gF gA;cases ch with
   |plan a b=>exact ixT (show SqT K H2 z.2.1 (V.str (SL _)::_) from q2) (zbA _ _) ⟨rfl,za0 (zbg (by decide)) (stay (by rw[gF];exact List.append_nil _) (by rw[gA];exact Int.add_zero _) H2 (zam.refl _))⟩
   |seats a b=>exact ixT (show SqT K H2 z.2.1 (V.str (SL _)::_) from q2) (zbA _ _) ⟨rfl,za0 (zbg (by decide)) (stay (by rw[gF];exact List.append_nil _) (by rw[gA];exact Int.add_zero _) H2 (zam.refl _))⟩
   |word a b=>exact ixT (show SqT K H2 z.2.1 (V.str (SL _)::_) from q2) (zbA _ _) ⟨rfl,za0 (zbg (fun z=>absurd ((zfE a).1) (by rw[z];decide))) (stay (by rw[gF];exact List.append_nil _) (by rw[gA];exact Int.add_zero _) H2 (zam.refl _))⟩
   |undo a=>exact ixT (show SqT K H2 z.2.1 (V.str (SL _)::_) from q2) (zbA _ _) ⟨rfl,za0 (zbg (by decide)) (stay (by rw[gF];exact List.append_nil _) (by rw[gA];exact Int.add_zero _) H2 (zam.refl _))⟩
   |back=>exact ixT (show SqT K H2 z.2.1 (V.str (SL _)::_) from q2) (zbA _ _) ⟨rfl,za0 (zbg (by decide)) (stay (by rw[gF];exact List.append_nil _) (by rw[gA];exact Int.add_zero _) H2 (zam.refl _))⟩
   |grant a=>
    have q2':SqT K H2 z.2.1 [.str (SL [103,114,97,110,116]), .int a]:=q2;refine ixT q2' (zbA _ _) ⟨rfl,zdW rfl ⟨_,_,hp2.1,zfI _ _ _ (by decide) (by decide) (by decide),ixT q2' (zcb _ _ _) ⟨p,dx,d,a,_,_,rfl,hp2.1,?_⟩⟩⟩;obtain⟨P3,k3⟩:=hp2.put (s0.1+zau day (ys.take i)+a) s0.2.1
    (open_k0;repeat (dsimp only[tBM];open_k0))
    generalize upd H2 p _=H3 at P3 k3 ⊢;have e3:=k3.lst e2;refine⟨.inl ⟨rfl,_,SqL.of e3⟩,ixT (k3.sqT q2') (zcb _ _ _) fun r4 H4 _ s4 e4=> ?_⟩;have wl:ws.length≤40:=by
     have:=congrArg List.length lm;rw[List.length_map] at this;rw[this];exact Nat.le_trans (zcl day _ 0) (by rw[List.length_take];omega)
    refine⟨l0,_,_,rfl,rfl,s4 _ _ e3,by rw[List.length_map];exact zba (by omega),?_⟩;obtain⟨a1,a2,a3⟩:=zg1 (z:=(day,za9,(i:Int),a,0,0,0)) ((k2.trans k3).trans (Kp.of_same s4)) fr0 (s4 _ _ e3) (la.keep (k3.trans (Kp.of_same s4))) e4;rw[hPv];refine⟨_,_,_,_,_,?_,a1,a2,a3,by rw[List.map_append,lm,gF];simp only[hd,if_true];rfl,rfl⟩;have P5:=(P3.same s4).app (ys:=(ws.map fun w=>V.ref w.1)++ [.ref r4]) (s4 _ _ e3);rw[gA];simp only[hd,if_true];rw[←Int.add_assoc];exact P5
  ·rw[if_neg hd];refine stay ?_ ?_ H2 (zam.refl _)
   ·rw[gF];cases z.2.2.2<;>simp [hd]
   ·rw[gA];cases z.2.2.2<;>simp [hd]
 ·rw[hPv] at h;obtain⟨ws,x4,x5,x6,x7,hp2,k2,e2,la,lm,rfl⟩:=h;open_k0;rw[List.length_map,List.take_length] at hp2 lm;exact q l0 ws H2 fr0 hp2 k2 e2 la lm
def zjt(K:Fg)(t:Adr):Sp:=fun vs H Q _=> ∃(p dx d lc:Addr) (s:Pt) (day:Int) (cs:List Int),vs= [.ref p, .int day, .ref lc]∧Pot K t H p dx d s∧SqL K H lc (cs.map V.int)∧cs.length≤60∧s.2.2.length≤100∧ ∀r (ws:List (Addr×Ln)) H',Fr H r→Pot K t H' p dx d (zaZ day cs s).2→Kp H H'→H' r=some (.lst (ws.map fun w=>V.ref w.1))→zbw H' ws→ws.map (·.2)=(zaZ day cs s).1→Q (.ref r) H'
theorem sc_0w:FnScope ["pots","day","costs","more","lines","k","amount"] ["pots","day","costs"] (zak s_0w):=by sl_open
theorem ok_0w(T:Txt w K mg t):FnOk P w K mg base (CXE P w) 4 t.a_0w t.d_0w ["pots","day","costs"] (zjt K t):=by
 refine T.F_0w.fn.okX sc_0w ?_ fun cdv A outer s H vs Q E L hr h=> ?_
 ·kdl_open
 obtain⟨p,dx,d,lc,s0,day,cs,rfl,hP,hS,c60,t100,q⟩:=h;have nd:=sc_0w.nd;refine⟨_,(zad (zgF (i:=3) nd rfl rfl (n:=2) (N:= ["k","cost","pots"]) (js:= [0]) (by rfl) rfl rfl (zdU (by rfl) T.no_enumerate (zaa (pvJ 2) zae)) (fun a=>(zaO (n:=2) rfl (zaL (zai (i:=0) (show List.Nodup (["k","cost","pots"]:List Str) from by decide+kernel) rfl (Or.inl rfl)) (zaL (zai (i:=1) (show List.Nodup (["k","cost","pots"]:List Str) from by decide+kernel) rfl (Or.inl rfl)) zb0)))) (fun a=>zdi) (fun a=>(zah zaK (pvJ 1) (zaM (zjT (by rfl)) (by rfl) T.no_sum zkQ (zaa (zdh (pvJ 2) T.cs_Z07 T.me_1j (ok_1j T) (hr.mono (by decide)) T.b_1j .nil zet (zaa (pvJ 0) zae)) zae))))) (zad (psJ 4 nd (zaB zae)) (zad (zbs (by passes_own) rfl (zdU (by rfl) T.no_enumerate (zaa (pvJ 3) zae)) (zaO (n:=2) rfl (zaL (zai (i:=5) nd rfl (Or.inl rfl)) (zaL (zai (i:=6) nd rfl (Or.inl rfl)) zb0))) (zag (zay (zaV zbL (pvJ 6) zac) (zag (zbb (zb4 PySem.F.plainAttrs_list PySem.F.slot_list_append PySem.F.type_list_append za8 (pvJ 4) (zaa (peD L.toLv (ok_0u T) hr T.F_0u (zaa (pvJ 0) (zaa (pvJ 1) (zaa (pvJ 5) (zaa (zeL zcW (pvJ 6)) zae) zab) zab) zab)) zae)))) zav))) (zad (zbs (by passes_own) rfl (zdU (by rfl) T.no_enumerate (zaa (pvJ 3) zae)) (zaO (n:=2) rfl (zaL (zai (i:=5) nd rfl (Or.inl rfl)) (zaL (zai (i:=6) nd rfl (Or.inl rfl)) zb0))) (zag (zay (zaV zdu (pvJ 6) zac) (zag (zbb (zb4 PySem.F.plainAttrs_list PySem.F.slot_list_append PySem.F.type_list_append za8 (pvJ 4) (zaa (peD L.toLv (ok_0v T) hr T.F_0v (zaa (pvJ 0) (zaa (pvJ 1) (zaa (zax st_15) (zaa (pvJ 5) (zaa (pvJ 6) zae zab) zab) zaf) zab) zab)) zae)))) zav))) (zag (zap (pvJ 4))))))),?_⟩
 (open_k0;repeat (dsimp only[zdP,zb5];open_k0))
 refine⟨⟨_,hS⟩,fun lm hlm aa=> ?_⟩;refine zjS (fun i xs=>xs=((zbf s0 cs).take i).map fun z=>V.int z.2) hS hlm (by rw[List.length_map];exact zbj (by omega)) (fun v w=>by open_k0) rfl (fun i x xs H1 K1 hx sm pv kk=> ?_) (fun xs H1 s1 pv w1=> ?_)
 ·rw[List.getElem?_map] at hx;obtain⟨cv,hcv,rfl⟩:=Option.map_eq_some_iff.mp hx;open_k0;obtain⟨g1,kvs,g2,g3⟩:=hP.same sm;refine⟨_,_,g1,zfI _ _ _ (by decide) (by decide) (by decide),p,dx,d,_,_,_,kvs,_,rfl,g1,g2,g3,fun r H2 s2 e2=>⟨r,rfl, [_,_],SqT.of e2,kk _ _ s2 ?_⟩⟩;rw[pv,List.take_add_one,zlT hcv,List.map_append];show _++ [_]=_++ [_];congr 3;show cv - ((zaw s0.2.2 i).1+((zaw s0.2.2 i).2+0))=_;rw[Int.add_zero]
 rw[List.length_map,←zdo s0 cs,List.take_length] at pv;subst pv;have dl:=zdo s0 cs;have df: ∀(i:Nat) (z:Int×Int),(zbf s0 cs)[i]? =some z→z.1=i:=fun i z=>zjh;have eF:zaZ day cs s0=((zaA day (zbf s0 cs) s0).1++(zaH day (zbf s0 cs) (zaA day (zbf s0 cs) s0).2).1,(zaH day (zbf s0 cs) (zaA day (zbf s0 cs) s0).2).2):=rfl;rw[eF] at q;clear eF;generalize zbf s0 cs=Ds at w1 dl df q;intro l0 H2 hl0 s2 e2;have fr1:Fr H1 l0:=fun u e=>by rw[e] at hl0;cases hl0
 have wm:=s2 _ _ w1;have k1:=Kp.of_same s1
 ((try dsimp only);refine zbE fun R hR=> ?_;(open_k0;repeat (dsimp only[zbB,zb5,zbU,zb7];open_k0)))
 refine⟨⟨_,SqL.of wm⟩,hR _ _ ?_⟩;clear hR;obtain⟨Pv,hPv⟩: ∃Pv:Nat→St→Hp→Prop,Pv=fun i σ1 H3=> ∃(ws:List (Addr×Ln)) (x5 x6:Option V),Pot K t H3 p dx d (zaA day (Ds.take i) s0).2∧Kp H1 H3∧H3 l0=some (.lst (ws.map fun w=>V.ref w.1))∧zbw H3 ws∧ws.map (·.2)=(zaA day (Ds.take i) s0).1∧σ1= [some (.ref p),some (.int day),some (.ref lc),some (.ref lm),some (.ref l0),x5,x6]:=⟨_,rfl⟩
 refine zdV (xs:=Ds.map fun z=>V.int z.2) Pv (by rw[hPv];exact⟨[],_,_,hP.same (s1.trans s2),Kp.of_same s2,e2,(fun w h=>nomatch h),rfl,rfl⟩) (fun i σ1 H2 _ h=>by rw[hPv] at h;obtain⟨_,_,_,_,k,_⟩:=h;exact k.sqL (SqL.of w1)) (fun i σ1 H2 H3 h s=>by rw[hPv] at h ⊢;obtain⟨ws,x5,x6,hp,k,e,la,lm,r⟩:=h;exact⟨ws,x5,x6,hp.same s,k.trans (Kp.of_same s),s _ _ e,la.keep (Kp.of_same s),lm,r⟩) (fun i x σ1 H3 hx h=> ?_) (fun σ1 H3 h=> ?_)
 ·rw[hPv] at h;obtain⟨ws,x5,x6,hp3,k3,e3,la,lms,rfl⟩:=h;rw[List.getElem?_map] at hx;obtain⟨z,hz,rfl⟩:=Option.map_eq_some_iff.mp hx;have nx:=zjZ (day:=day) (s:=s0) hz;have hi:=(List.getElem?_eq_some_iff.mp hz).1;have ln:=zce day (Ds.take i) s0;rw[List.length_take] at ln;have wl:=congrArg List.length lms;rw[List.length_map] at wl;rw[df i z hz] at nx
  (open_k0;repeat (dsimp only[tBM];open_k0))
  by_cases g:z.2<0
  ·rw[if_pos g] at nx ⊢;refine⟨.inl ⟨rfl,_,SqL.of e3⟩,p,dx,d,_,day,_,_,rfl,hp3,by omega,fun r4 H4 hp4 k4 e4=> ?_⟩;refine⟨l0,_,_,rfl,rfl,k4.lst e3,by rw[List.length_map];exact zba (by omega),?_⟩;obtain⟨a1,a2,a3⟩:=zg1 (k3.trans k4) fr1 (k4.lst e3) (la.keep k4) e4;rw[hPv];exact⟨_,_,_,by rw[nx];exact hp4.app (k4.lst e3),a1,a2,a3,by rw[List.map_append,lms,nx];rfl,rfl⟩
  ·rw[if_neg g] at nx ⊢;rw[hPv];exact⟨ws,_,_,by rw[nx];exact hp3,k3,e3,la,by rw[nx];exact lms,rfl⟩
 rw[hPv] at h;obtain⟨ws,x5,x6,hp3,k3,e3,la,lms,rfl⟩:=h;clear hPv;rw[List.length_map,List.take_length] at hp3 lms;have ln3:=zce day Ds s0;generalize zaA day Ds s0=LS at hp3 lms ln3 q;obtain⟨L1,S1⟩:=LS;open_k0
 ((try dsimp only);refine zbE fun R hR=> ?_;(open_k0;repeat (dsimp only[zbB,zb5,zbU,zb7];open_k0)))
 refine⟨⟨_,k3.sqL (SqL.of w1)⟩,hR _ _ ?_⟩;clear hR;obtain⟨Pw,hPw⟩: ∃Pw:Nat→St→Hp→Prop,Pw=fun i σ1 H4=> ∃(ws:List (Addr×Ln)) (x5 x6:Option V),Pot K t H4 p dx d (zaH day (Ds.take i) S1).2∧Kp H1 H4∧H4 l0=some (.lst (ws.map fun w=>V.ref w.1))∧zbw H4 ws∧ws.map (·.2)=L1++(zaH day (Ds.take i) S1).1∧σ1= [some (.ref p),some (.int day),some (.ref lc),some (.ref lm),some (.ref l0),x5,x6]:=⟨_,rfl⟩
 refine zdV (xs:=Ds.map fun z=>V.int z.2) Pw (by rw[hPw];exact⟨ws,_,_,hp3,k3,e3,la,by rw[List.take_zero,zaH,List.append_nil];exact lms,rfl⟩) (fun i σ1 H2 _ h=>by rw[hPw] at h;obtain⟨_,_,_,_,k,_⟩:=h;exact k.sqL (SqL.of w1)) (fun i σ1 H2 H3 h s=>by rw[hPw] at h ⊢;obtain⟨ws,x5,x6,hp,k,e,la,lm,r⟩:=h;exact⟨ws,x5,x6,hp.same s,k.trans (Kp.of_same s),s _ _ e,la.keep (Kp.of_same s),lm,r⟩) (fun i x σ1 H4 hx h=> ?_) (fun σ1 H4 h=> ?_)
 ·rw[hPw] at h;obtain⟨ws,x5,x6,hp4,k4,e4,la,lms,rfl⟩:=h;rw[List.getElem?_map] at hx;obtain⟨z,hz,rfl⟩:=Option.map_eq_some_iff.mp hx;have nx:=zj0 (day:=day) (s:=S1) hz;have hi:=(List.getElem?_eq_some_iff.mp hz).1;have ln:=zcH day (Ds.take i) S1;rw[List.length_take] at ln;have wl:=congrArg List.length lms;rw[List.length_map,List.length_append] at wl;rw[df i z hz] at nx;have l1:L1.length≤Ds.length:=ln3.2;have l2:S1.2.2.length≤s0.2.2.length+Ds.length:=ln3.1
  (open_k0;repeat (dsimp only[tBM];open_k0))
  by_cases g:0<z.2
  ·rw[if_pos g] at nx ⊢;refine⟨.inl ⟨rfl,_,SqL.of e4⟩,p,dx,d,_,day,zaY,_,_,rfl,hp4,by omega,fun r5 H5 hp5 k5 e5=> ?_⟩;refine⟨l0,_,_,rfl,rfl,k5.lst e4,by rw[List.length_map];exact zba (by omega),?_⟩;obtain⟨a1,a2,a3⟩:=zg1 (k4.trans k5) fr1 (k5.lst e4) (la.keep k5) e5;rw[hPw];exact⟨_,_,_,by rw[nx];exact hp5.app (k5.lst e4),a1,a2,a3,by rw[List.map_append,lms,nx,List.append_assoc];rfl,rfl⟩
  ·rw[if_neg g] at nx ⊢;rw[hPw];exact⟨ws,_,_,by rw[nx];exact hp4,k4,e4,la,by rw[nx];exact lms,rfl⟩
 rw[hPw] at h;obtain⟨ws,x5,x6,hp4,k4,e4,la,lms,rfl⟩:=h;open_k0;rw[List.length_map,List.take_length] at hp4 lms;exact q l0 ws H4 (k1.frF fr1) hp4 (k1.trans k4) e4 la lms
theorem zms{day:Int}{z:En}:eqb 2 (enD z) (.tup [.int day, .tup [.str [98,97,99,107]]])=(decide (z.2.2.1=day) && (match z.2.2.2 with| .back=>true|_=>false)):=by
 obtain⟨v,a,e,ch⟩:=z;have e1: ∀x y:Int,(x==y)=decide (x=y):=fun x y=>rfl;cases ch with
 |word wd d=>simp [enD,chD,eqb,zcC,e1]
 |back=>simp [enD,chD,eqb,zcC,e1]
 |_=>simp [enD,chD,eqb,zcC,e1]
theorem zgu{H:Hp}: ∀{ys:List En},zbp K H ys→ ∃as:List Addr,ys.map (·.1)=as.map V.ref
 | [],_=>⟨[],rfl⟩
 |z::r,h=>by
  obtain⟨as,e⟩:=zgu (ys:=r) fun x hx=>h x (List.mem_cons_of_mem _ hx);obtain⟨p,e1,_⟩:=h z List.mem_cons_self;exact⟨p::as,by rw[List.map_cons,List.map_cons,e,e1]⟩
theorem zmt(day:Int)(z:En):zbo 2 (enD z) (.tup [.int day, .tup [.str [98,97,99,107]]]):=by
 unfold enD;simp only[zbo];intro j x y hx hy;match j,hx,hy with
 |0,hx,hy=>cases hx;cases hy;simp [zbo,zdR]
 |1,hx,hy=>
  cases hx;cases hy;simp only[zbo];intro i x y hx hy;match i,hx,hy with
  |0,hx,hy=>
   cases hy;generalize z.2.2.2=ch at hx;cases ch<;>(cases hx;simp [zbo,zdR])
  |i+1,_,hy=>simp at hy
 |j+2,hx,_=>simp at hx
def zpM(K:Fg)(t:Adr):Sp:=fun vs H Q _=> ∃(p dx d le:Addr) (s:Pt) (day:Int) (ys:List En),vs= [.ref p, .ref le, .int day]∧Pot K t H p dx d s∧SqL K H le (ys.map (·.1))∧zbp K H ys∧ys.length≤40∧ ∀r (ws:List (Addr×Ln)) H',Fr H r→Pot K t H' p dx d (za5 day ys s).2→Kp H H'→H' r=some (.lst (ws.map fun w=>V.ref w.1))→zbw H' ws→ws.map (·.2)=(za5 day ys s).1→Q (.ref r) H'
theorem sc_0x:FnScope ["pots","entries","day","amount"] ["pots","entries","day"] (zak s_0x):=by sl_open
theorem ok_0x(T:Txt w K mg t):FnOk P w K mg base (CXE P w) 2 t.a_0x t.d_0x ["pots","entries","day"] (zpM K t):=by
 refine T.F_0x.fn.okX sc_0x ?_ fun cdv A outer s H vs Q E L hr h=> ?_
 ·kdl_open
 obtain⟨p,dx,d,le,s0,day,ys,rfl,hP,hS,hE,y40,q⟩:=h;have nd:=sc_0x.nd;refine⟨_,(zad (zay (zcF (zbq (zjR hr) (zaz (zaa (pvJ 2) (zaa (zaz (zaa (zax st_16) zae)) zae zh7) zab)) (pvJ 1) rfl)) (zag (zap (zaB zae))) zav) (zad (psJ 3 nd (zky (pvJ 0) T.cs_Z07 T.me_1i (ok_1i T) (hr.mono (by decide)) T.b_1i .nil zet)) (zad (zay (zbC (pvJ 3) zac) (zag (zap (zaB zae))) zav) (zag (zap (zaB (zaa (zaz (zaa (pvJ 2) (zaa (zax st_16) (zaa (zeL zcW zac) (zaa (pvJ 3) (zaa zac (zaa zac (zaa zac zae zaf) zaf) zaf) zab)) zaf) zab)) zae))))))),?_⟩;open_k0;intro b1 H1 _ s1 e1;intro b2 H2 _ s2 e2;have s02:=s1.trans s2;obtain⟨as,ea⟩:=zgu hE;have hE2:=(hE.same s02).all2;rw[ea] at hE2;have hS2:=s02.seq hS;rw[ea] at hS2;refine⟨le,as,2,ys.map enD, .tup [.int day, .tup [.str [98,97,99,107]]],rfl,hS2,hE2,zed (SqT.of e2) ⟨by simp only[Dp],zed (s2.sqT (SqT.of e1)) ⟨zcf,trivial⟩,trivial⟩,by decide,fun e he=> ?_,?_⟩
 ·obtain⟨z,_,rfl⟩:=List.mem_map.mp he;exact zmt day z
 have eb:((ys.map enD).any fun e=>eqb 2 e (.tup [.int day, .tup [.str [98,97,99,107]]]))=zjg day ys:=by
  unfold zjg;rw[List.any_map];congr 1;funext z;exact zms
 rw[eb];simp only[if_true];refine⟨_,rfl,?_⟩;have P2:=hP.same s02;cases hb:zjg day ys with
 |false=>
  simp only[Bool.not_false,if_true];intro r H3 hr3 s3 e3;have bf:za5 day ys s0=([],s0):=by unfold za5;rw[hb];rfl
  exact q r [] H3 ((Kp.of_same s02).fr hr3) (by rw[bf];exact P2.same s3) (Kp.of_same (s02.trans s3)) e3 (fun w h=>nomatch h) (by rw[bf];rfl)
 |true=>
  simp only[Bool.not_true,Bool.false_eq_true,if_false];refine⟨_,_,P2.1,zfI _ _ _ (by decide) (by decide) (by decide),p,dx,d,s0.1,s0.2.1,rfl,P2.1,rfl,?_⟩;obtain⟨P3,b3⟩:=P2.put s0.1 0;have k03:=(Kp.of_same s02).trans b3;generalize upd H2 p (.ins t.c_Z07 dx (fsP s0.1 0 d))=H3 at P3 b3 k03 ⊢;by_cases z:s0.2.1=0
  ·rw[if_pos (by rw[z])];intro r H4 hr4 s4 e4;have bf:za5 day ys s0=([],(s0.1,0,s0.2.2)):=by unfold za5;rw[hb,if_pos rfl,if_pos z]
   exact q r [] H4 (k03.fr hr4) (by rw[bf];exact P3.same s4) (k03.trans (Kp.of_same s4)) e4 (fun w h=>nomatch h) (by rw[bf];rfl)
  ·rw[if_neg (fun h=>z (V.int.inj h))];intro r4 H4 hr4 s4 e4;intro r5 H5 hr5 s5 e5;have s45:=s4.trans s5;have bf:za5 day ys s0=([(day,zbr, -1,s0.2.1,0,0,0)],(s0.1,0,s0.2.2)):=by unfold za5;rw[hb,if_pos rfl,if_neg z]
   exact q r5 [(r4,(day,zbr, -1,s0.2.1,0,0,0))] H5 ((k03.trans (Kp.of_same s4)).fr hr5) (by rw[bf];exact P3.same s45) (k03.trans (Kp.of_same s45)) e5 (fun w h=>by rw[List.mem_singleton.mp h];exact s5 _ _ e4) (by rw[bf];rfl)
theorem zcy.kp{H H':Hp}{pa l:Addr}{f:Int}{dy:Bool}{c:Int}{zs:List (V×Pl)}(h:zcy K H pa l f dy c zs)(s:Kp H H'):zcy K H' pa l f dy c zs:=by
 obtain⟨⟨pc,h1,h2,h3,h4⟩,h5,h6,h7⟩:=h;exact⟨⟨pc,h1,h2,⟨s.sqT h3.1,h3.2⟩,s.tup h4⟩,s.lst h5,fun z hz=>(let ⟨q,e,g⟩:=h6 z hz;⟨q,e,s.sqT g⟩),h7⟩
theorem EnX.kp{zs:List (V×Pl)}{f e:Int}{H H':Hp}{ys:List En}(h:EnX zs f e K H ys)(s:Kp H H'):EnX zs f e K H' ys:=⟨s.ens h.1,h.2⟩
noncomputable def cstF(f:Int)(dy:Bool)(c:Int)(zs:List (V×Pl))(Gm:Int→Int→List D)(m k:Int):Int:=cK f dy c zs (Gm m) k
def zmu(K:Fg)(t:Adr):Sp:=fun vs H Q _=> ∃(pa le la p dx d:Addr) (f:Int) (dy:Bool) (c:Int) (zs:List (V×Pl)) (ys:List En) (Gm:Int→Int→List D) (s:Pt) (day:Int) (k:Nat) (isb:Bool),vs= [.ref pa, .ref le, .ref p, .int day]∧zcy K H pa la f dy c zs∧SqL K H le (ys.map (·.1))∧EnX zs f (Cal.beg f dy c 60) K H ys∧(∀m,GL f dy c ys m (Gm m))∧Pot K t H p dx d s∧le≠p∧le≠d∧SpAt f dy c day k isb∧s.2.2.length≤100∧ ∀r (ws:List (Addr×Ln)) H',Fr H r→Pot K t H' p dx d (za2 (cstF f dy c zs Gm) ys day k isb s).2→Kp H H'→H' r=some (.lst (ws.map fun w=>V.ref w.1))→zbw H' ws→ws.map (·.2)=(za2 (cstF f dy c zs Gm) ys day k isb s).1→Q (.ref r) H'
theorem sc_0y:FnScope ["account","entries","pots","day","k","begin","end","is_begin","lines"] ["account","entries","pots","day"] (zak s_0y):=by sl_open
theorem ok_0y(T:Txt w K mg t):FnOk P w K mg base (CXE P w) 12 t.a_0y t.d_0y ["account","entries","pots","day"] (zmu K t):=by
 refine T.F_0y.fn.okX sc_0y ?_ fun cdv A outer s H vs Q E L hr h=> ?_
 ·kdl_open
 obtain⟨pa,le,la,p,dx,d,f,dy,c,zs,ys,Gm,s0,day,k,isb,rfl,hz,hS,hY,hG,hP,n1,n2,sp,t100,q⟩:=h;have nd:=sc_0y.nd;refine⟨_,(zad (za6 (peD L.toLv (ok_0b T) hr T.F_0b (zaa (pvJ 0) (zaa (pvJ 3) zae zab) zab)) (zaO (n:=3) rfl (zaj (zai (i:=4) nd rfl (Or.inl rfl)) (zaj (zai (i:=5) nd rfl (Or.inl rfl)) (zaj (zai (i:=6) nd rfl (Or.inl rfl)) zaJ))))) (zad (psJ 7 nd (zbG zcY (pvJ 5) (pvJ 3) (za3 _))) (zad (psJ 8 nd (peD L.toLv (ok_0t T) hr T.F_0t (zaa (pvJ 2) (zaa (pvJ 1) (zaa (pvJ 3) zae zab) zab) zab))) (zad (zdA (zay (zcF (zbq zfV (pvJ 3) (peD L.toLv (ok_0r T) hr T.F_0r (zaa (pvJ 1) zae)) rfl)) (zag (zbb (zb4 PySem.F.plainAttrs_list PySem.F.slot_list_extend PySem.F.type_list_extend zea (pvJ 8) (zaa (peD L.toLv (ok_0w T) hr T.F_0w (zaa (pvJ 2) (zaa (pvJ 3) (zaa (peD L.toLv (ok_0q T) hr T.F_0q (zaa (pvJ 0) (zaa (pvJ 1) (zaa (zjX (zcF (zgT (pvJ 7))) (pvJ 4) (zah zat (pvJ 4) zac)) (zaa (pvJ 3) zae zab)) zab) zab)) zae zaF) zab) zab)) zae)))) zav)) (zad (zdA (zay (zcF (zgT (pvJ 7))) (zag (zbb (zb4 PySem.F.plainAttrs_list PySem.F.slot_list_append PySem.F.type_list_append za8 (pvJ 8) (zaa (peD L.toLv (ok_0v T) hr T.F_0v (zaa (pvJ 2) (zaa (pvJ 3) (zaa (zax st_17) (zaa (pvJ 4) (zaa (peD L.toLv (ok_0m T) hr T.F_0m (zaa (pvJ 0) (zaa (peD L.toLv (ok_0p T) hr T.F_0p (zaa (pvJ 1) (zaa (pvJ 3) zae zab) zab)) (zaa (pvJ 4) zae zab) zaF) zab)) zae zaF) zab) zaf) zab) zab)) zae)))) zav)) (zad (zbb (zb4 PySem.F.plainAttrs_list PySem.F.slot_list_extend PySem.F.type_list_extend zea (pvJ 8) (zaa (peD L.toLv (ok_0x T) hr T.F_0x (zaa (pvJ 2) (zaa (pvJ 1) (zaa (pvJ 3) zae zab) zab) zab)) zae))) (zag (zap (pvJ 8))))))))),?_⟩;open_k0;obtain⟨f0,f1,hc⟩:=hz.1.cyc;have k60:=sp.k60;have b60:=Cal.beg_le f0 f1 hc (show 0≤(k:Int)+1 by omega) (show (k:Int)+1≤60 by omega) (by decide);have bf:=Cal.beg_ge (k:=(k:Int)) f0 f1 hc (by omega) (by omega);have slo:=sp.lo;have shi:=sp.hi;refine⟨pa,la,f,dy,c,day,rfl,hz.1,fun k' k0 k1 a b p1 H1 s1 e1=> ?_,fun z=>absurd z (by omega),fun z=>absurd z (by omega)⟩;obtain rfl:k'=(k:Int):=Cal.beg_one f0 f1 hc k0 k1 (by omega) (by omega) a b slo shi;refine⟨p1,_,rfl,SqT.of e1,rfl,?_⟩;open_k0;rw[←sp.ib];refine⟨p,dx,d,le,s0,day,ys,rfl,hP.same s1,s1.seq hS,n1,n2,hY.1.same s1,hY.2.1,fun lg ws1 H2 fr2 P2 k2 e2 la2 lm2=> ?_⟩;have kk2:=(Kp.of_same s1).trans k2;have frg:=(Kp.of_same s1).frF fr2;obtain⟨R,hR⟩: ∃R:St→Hp→Prop,R=fun σ3 H3=> ∃ws:List (Addr×Ln),Pot K t H3 p dx d (if (ys.any fun z=>decide (z.2.2.1=day))=true then zaZ day ((List.range (if isb=true then k else k+1)).map fun i:Nat=>cstF f dy c zs Gm day i) (s0.1+zau day ys,s0.2) else ([],(s0.1+zau day ys,s0.2))).2∧Kp H H3∧H3 lg=some (.lst (ws.map fun w=>V.ref w.1))∧zbw H3 ws∧ws.map (·.2)=zaP day 0 ys++(if (ys.any fun z=>decide (z.2.2.1=day))=true then zaZ day ((List.range (if isb=true then k else k+1)).map fun i:Nat=>cstF f dy c zs Gm day i) (s0.1+zau day ys,s0.2) else ([],(s0.1+zau day ys,s0.2))).1∧σ3= [some (.ref pa),some (.ref le),some (.ref p),some (.int day),some (.int k),some (.int (Cal.beg f dy c k)),some (.int (Cal.beg f dy c ((k:Int)+1))),some (.bl isb),some (.ref lg)]:=⟨_,rfl⟩
 have wl2:ws1.length≤40:=by
  have h:=congrArg List.length lm2;rw[List.length_map] at h;rw[h];exact Nat.le_trans (zcl day ys 0) hY.2.1
 refine⟨R,?_,fun σ3 H3 h3=> ?_⟩
 ·open_k0;refine⟨le,ys,rfl,kk2.sqL hS,kk2.ens hY.1,hY.2.1,fun rd H3 _ s3 e3=>⟨rd,_,rfl, .inl (SqL.of e3),rfl,zgt _,_,rfl,?_⟩⟩;have kk3:=kk2.trans (Kp.of_same s3);have P3:=P2.same s3;rw[znv];simp only[Bool.false_eq_true,if_false];cases hany:(ys.any fun z=>decide (z.2.2.1=day)) with
  |false=>
   rw[hany] at hR;rw[if_neg (by decide),hR];exact⟨ws1,P3,kk3,s3 _ _ e2,la2.keep (Kp.of_same s3),by rw[lm2];exact(List.append_nil _).symm,rfl⟩
  |true=>
   rw[hany] at hR;rw[if_pos rfl]
   (open_k0;repeat (dsimp only[tBM];open_k0))
   refine⟨.inl ⟨rfl,_,SqL.of (s3 _ _ e2)⟩,?_⟩;have cb:zgs K [.ref pa, .ref le, .int ((if isb=true then k else k+1:Nat):Int), .int day] H3 (fun x H1=>zjt K t [.ref p, .int day,x] H1 (fun x H1=>ziT (.ref lg) [x] H1 fun x H1=>R [some (.ref pa),some (.ref le),some (.ref p),some (.int day),some (.int k),some (.int (Cal.beg f dy c k)),some (.int (Cal.beg f dy c ((k:Int)+1))),some (.bl isb),some (.ref lg)] H1) E) E:=by
    rw[hR];have n61:(if isb=true then k else k+1)≤60:=by split<;>omega
    generalize (if isb=true then k else k+1)=n at n61 ⊢;refine⟨pa,le,la,f,dy,c,zs,ys,Gm day,n,day,rfl,n61,hz.kp kk3,kk3.sqL hS,hY.kp kk3,hG day,fun rc H4 s4 e4=> ?_⟩;refine⟨p,dx,d,rc,_,day,_,rfl,P3.same s4,SqL.of e4,by rw[List.length_map,List.length_range];exact n61,t100,fun rr wr H5 fr5 P5 k5 e5 la5 lm5=> ?_⟩;have k35:=(Kp.of_same s4).trans k5;have e25:=k35.lst (s3 _ _ e2);have wl:wr.length≤120:=by
     have h:=congrArg List.length lm5;rw[List.length_map] at h;rw[h];refine Nat.le_trans (zdH _ _ _) ?_;rw[List.length_map,List.length_range];omega
    refine⟨lg,rr,_,_,rfl,rfl,e25,e5,by rw[List.length_map,List.length_map];exact zbz (by omega),?_⟩;obtain⟨a1,a2,a3⟩:=ziJ (l1:=rr) (kk3.trans k35) frg e25 (la2.keep ((Kp.of_same s3).trans k35)) la5;exact⟨_,P5.app e25,a1,a2,a3,by rw[List.map_append,lm2,lm5];rfl,rfl⟩
   clear hR;cases isb with
   |true=>
    rw[if_pos rfl];exact cb
   |false=>
    rw[if_neg (by decide)];exact cb
 rw[hR] at h3;obtain⟨ws3,P3,k3,e3,la3,lm3,rfl⟩:=h3;clear hR;dsimp only;obtain⟨r1,hr1⟩: ∃r1,r1=(if (ys.any fun z=>decide (z.2.2.1=day))=true then zaZ day ((List.range (if isb=true then k else k+1)).map fun i:Nat=>cstF f dy c zs Gm day i) (s0.1+zau day ys,s0.2) else ([],(s0.1+zau day ys,s0.2))):=⟨_,rfl⟩
 have r1t:r1.2.2.2.length≤300∧r1.1.length≤120:=by
  rw[hr1];split
  ·have h1:=zix day ((List.range (if isb=true then k else k+1)).map fun i:Nat=>cstF f dy c zs Gm day i) (s0.1+zau day ys,s0.2);have h2:=zdH day ((List.range (if isb=true then k else k+1)).map fun i:Nat=>cstF f dy c zs Gm day i) (s0.1+zau day ys,s0.2);rw[List.length_map,List.length_range] at h1 h2;have n61:(if isb=true then k else k+1)≤60:=by split<;>omega
   have e9:(s0.1+zau day ys,s0.2).2.2.length=s0.2.2.length:=rfl;omega
  ·exact⟨Nat.le_trans t100 (by decide),Nat.zero_le _⟩
 have wq:za2 (cstF f dy c zs Gm) ys day k isb s0=(let b:=if isb=true then ([zbk r1.2 day za1 k (cstF f dy c zs Gm day k)],zbl r1.2 k (cstF f dy c zs Gm day k)) else ([],r1.2);let e:=za5 day ys b.2;(zaP day 0 ys++r1.1++b.1++e.1,e.2)):=by
  rw[hr1];rfl
 rw[wq] at q;rw[←hr1] at P3 lm3;clear wq hr1;have wl3:ws3.length≤160:=by
  have h:=congrArg List.length lm3;rw[List.length_map,List.length_append] at h
  have:=Nat.le_trans (zcl day ys 0) hY.2.1;omega
 obtain⟨R2,hR2⟩: ∃R2:St→Hp→Prop,R2=fun σ4 H4=> ∃ws:List (Addr×Ln),Pot K t H4 p dx d (if isb=true then ([zbk r1.2 day za1 k (cstF f dy c zs Gm day k)],zbl r1.2 k (cstF f dy c zs Gm day k)) else ([],r1.2)).2∧Kp H H4∧H4 lg=some (.lst (ws.map fun w=>V.ref w.1))∧zbw H4 ws∧ws.map (·.2)=zaP day 0 ys++r1.1++(if isb=true then ([zbk r1.2 day za1 k (cstF f dy c zs Gm day k)],zbl r1.2 k (cstF f dy c zs Gm day k)) else ([],r1.2)).1∧σ4= [some (.ref pa),some (.ref le),some (.ref p),some (.int day),some (.int k),some (.int (Cal.beg f dy c k)),some (.int (Cal.beg f dy c ((k:Int)+1))),some (.bl isb),some (.ref lg)]:=⟨_,rfl⟩
 refine⟨R2,?_,fun σ4 H4 h4=> ?_⟩
 ·(open_k0;repeat (dsimp only[tBM];open_k0))
  rw[hR2];clear hR2 q;cases isb with
  |false=>
   rw[if_neg (by decide)];exact⟨ws3,P3,k3,e3,la3,by rw[lm3];exact(List.append_nil _).symm,rfl⟩
  |true=>
   rw[if_pos rfl];refine⟨.inl ⟨rfl,_,SqL.of e3⟩,le,ys,day,rfl,k3.sqL hS,k3.ens hY.1,hY.2.1,hY.2.2.1,hY.2.2.2.1,fun rt as H4 _ s4 e4 t4=> ?_⟩;have k34:=k3.trans (Kp.of_same s4);obtain⟨ts,tA,tk,tz⟩:=zfH dy c hY.2.2.1 hY.2.2.2.1 hY.2.1 (k34.ens hY.1) hY.2.2.2.2.1 e4 t4;refine⟨pa,rt,la,f,dy,c,zs,ts,Gm day,k,rfl,hz.kp k34,tA,(hY.kp k34).tmx (fun t h=>(tA.2.2.1 t h).2.2.1) tz,hG day ts tk,fun _ _ H5 s5=> ?_,fun h=>absurd h (by omega),fun h=>absurd h (by have:=sp.k60;omega)⟩;refine⟨p,dx,d,r1.2,day,za1,k,_,rfl,(P3.same s4).same s5,Nat.le_trans r1t.1 (by decide),fun rm H6 P6 k6 e6=> ?_⟩;have k36:=(Kp.of_same (s4.trans s5)).trans k6;refine⟨lg,_,_,rfl,rfl,k36.lst e3,by rw[List.length_map];exact zba (by omega),?_⟩;obtain⟨a1,a2,a3⟩:=zg1 (k3.trans k36) frg (k36.lst e3) (la3.keep k36) e6;exact⟨_,P6.app (k36.lst e3),a1,a2,a3,by rw[List.map_append,lm3];rfl,rfl⟩
 rw[hR2] at h4;obtain⟨ws4,P4,k4,e4,la4,lm4,rfl⟩:=h4;clear hR2;dsimp only at q;obtain⟨b,hb⟩: ∃b,b=(if isb=true then ([zbk r1.2 day za1 k (cstF f dy c zs Gm day k)],zbl r1.2 k (cstF f dy c zs Gm day k)) else ([],r1.2)):=⟨_,rfl⟩
 have b1:b.1.length≤1:=by
  rw[hb];split<;>simp
 rw[←hb] at P4 lm4 q;clear hb
 (open_k0;repeat (dsimp only[tBM];open_k0))
 refine⟨.inl ⟨rfl,_,SqL.of e4⟩,p,dx,d,le,b.2,day,ys,rfl,P4,k4.sqL hS,k4.ens hY.1,hY.2.1,fun rb wb H5 fr5 P5 k5 e5 la5 lm5=> ?_⟩;have wl4:ws4.length≤200:=by
  have h:=congrArg List.length lm4;rw[List.length_map,List.length_append,←lm3,List.length_map] at h;omega
 have wl5:wb.length≤1:=by
  have h:=congrArg List.length lm5;rw[List.length_map] at h;rw[h];exact zgk _ _ _
 have e45:=k5.lst e4;refine⟨lg,rb,_,_,rfl,rfl,e45,e5,by rw[List.length_map,List.length_map];exact zbz (by omega),?_⟩;obtain⟨a1,a2,a3⟩:=ziJ (l1:=rb) (k4.trans k5) frg e45 (la4.keep k5) la5;exact q lg _ _ frg (P5.app e45) a1 a2 a3 (by rw[List.map_append,lm4,lm5])
theorem zhR{f:Int}{dy:Bool}{c:Int}: ∀{ws:List Int},(∀x∈ws,∃(k:Nat) (isb:Bool),SpAt f dy c x k isb)→ ∃ds:List (Int×Nat×Bool),ds.map (·.1)=ws∧ ∀z∈ds,SpAt f dy c z.1 z.2.1 z.2.2
 | [],_=>⟨[],rfl,nofun⟩
 |x::r,h=>by
  obtain⟨ds,e,hd⟩:=zhR (ws:=r) fun y hy=>h y (List.mem_cons_of_mem _ hy);obtain⟨k,isb,hk⟩:=h x List.mem_cons_self;refine⟨(x,k,isb)::ds,by rw[List.map_cons,e],fun z hz=> ?_⟩;rcases List.mem_cons.mp hz with rfl|hz
  ·exact hk
  ·exact hd z hz
def zpN(K:Fg)(t:Adr):Sp:=fun vs H Q E=> ∃(pa le la:Addr) (f:Int) (dy:Bool) (c:Int) (zs:List (V×Pl)) (ys:List En) (Gm:Int→Int→List D) (day:Int),vs= [.ref pa, .ref le, .int day]∧zcy K H pa la f dy c zs∧H le=some (.lst (ys.map (·.1)))∧EnX zs f (Cal.beg f dy c 60) K H ys∧(∀z∈ys,f≤z.2.2.1)∧(∀m,GL f dy c ys m (Gm m))∧(f≤day→day<Cal.beg f dy c 60→ ∀r lr p dx d (ds:List (Int×Nat×Bool)) (ws:List (Addr×Ln)) H',WDays f dy c ys day ds→ds.length≤100→Kp H H'→H' r=some (.tup [.ref lr, .ref p])→Pot K t H' p dx d (zaS (cstF f dy c zs Gm) ys ds (0,0, [])).2→H' lr=some (.lst (ws.map fun w=>V.ref w.1))→zbw H' ws→ws.map (·.2)=(zaS (cstF f dy c zs Gm) ys ds (0,0, [])).1→Q (.ref r) H')∧(day<f→ ∀H',zam H H'→E (.ref t.c_Z06) none H')∧(Cal.beg f dy c 60≤day→ ∀H',zam H H'→E (.ref t.c_Z0c) none H')
theorem sc_0z:FnScope ["account","entries","day","pots","lines","work_day"] ["account","entries","day"] (zak s_0z):=by sl_open
theorem ok_0z(T:Txt w K mg t):FnOk P w K mg base (CXE P w) 13 t.a_0z t.d_0z ["account","entries","day"] (zpN K t):=by
 refine T.F_0z.fn.okX sc_0z ?_ fun cdv A outer s H vs Q E L hr h=> ?_
 ·kdl_open
 obtain⟨pa,le,la,f,dy,c,zs,ys,Gm,day,rfl,hz,hS,hY,hy0,hG,q,q2,q3⟩:=h;have nd:=sc_0z.nd;refine⟨_,(zad (psJ 3 nd (zkA T.mk_Z07 (ok_1e T) (hr.mono (by decide)) (by rfl) T.mg_Z07 T.b_1e .nil zet)) (zad (psJ 4 nd (zaB zae)) (zad (zbs (by passes_own) rfl (zbm (peD L.toLv (ok_0s T) hr T.F_0s (zaa (pvJ 0) (zaa (pvJ 1) (zaa (pvJ 2) zae zab) zab) zab))) (zai (i:=5) nd rfl (Or.inl rfl)) (zag (zbb (zb4 PySem.F.plainAttrs_list PySem.F.slot_list_extend PySem.F.type_list_extend zea (pvJ 4) (zaa (peD L.toLv (ok_0y T) hr T.F_0y (zaa (pvJ 0) (zaa (pvJ 1) (zaa (pvJ 3) (zaa (pvJ 5) zae zab) zab) zab) zab)) zae))))) (zag (zap (zaz (zaa (pvJ 4) (zaa (pvJ 3) zae zab) zab))))))),?_⟩;open_k0;intro p dx hp hdx ndx;refine⟨p,dx,rfl,zao,fun d H1 hd e1 ep b1=>⟨rfl,?_⟩⟩;have s1:zam H H1:=fun b u e=>b1 b u (fun z=>by rw[z,hp] at e;cases e) (by rw[zal (fun z=>by rw[z,hp] at e;cases e),zal (fun z=>by rw[z,hdx] at e;cases e)];exact e);clear b1 hd hdx ndx;intro l0 H2 hl0 s2 e2;have s12:=s1.trans s2;have fr2:Fr H l0:=fun u e=>by rw[s1 _ _ e] at hl0;cases hl0
 have P2:Pot K t H2 p dx d (0,0, []):=⟨s2 _ _ ep, [],s2 _ _ e1,trivial⟩
 clear hl0 s1 s2 ep e1 hp
 ((try dsimp only);refine zbE fun R hR=> ?_;(open_k0;repeat (dsimp only[zbB,zb5,zbU,zb7];open_k0)))
 obtain⟨f0,f1,hc⟩:=hz.1.cyc;refine⟨pa,le,la,f,dy,c,day,ys,rfl,hz.1.same s12,SqL.of (s12 _ _ hS),hY.1.same s12,hY.2.1,fun d0 d1 lw ws H3 s3 e3 up mem l100=> ?_,fun z H' s'=>q2 z H' (s12.trans s'),fun z H' s'=>q3 z H' (s12.trans s')⟩;obtain⟨ds,eds,hds⟩:=zhR (f:=f) (dy:=dy) (c:=c) (ws:=ws) fun x hx=>by
  have x0:f≤x∧x≤day:=by
   rcases (mem x).mp hx with⟨j,j1,j2,rfl⟩|⟨z,hz,rfl,z2⟩
   ·exact⟨Cal.beg_ge f0 f1 hc (by omega) (by omega),j2⟩
   ·exact⟨hy0 z hz,z2⟩
  obtain⟨k,k0,k1,a,b⟩:=zd5 (f:=f) (dy:=dy) (c:=c) (d:=x) (by rw[Cal.beg_zero f0 f1];exact x0.1) 60 (by show x<Cal.beg f dy c 60;omega);obtain⟨k,rfl⟩:=Int.eq_ofNat_of_zero_le k0;exact⟨k,_,by omega,a,b,rfl⟩
 have wd:WDays f dy c ys day ds:=⟨by rw[eds];exact up,hds,fun x=>by
  rw[eds,mem];constructor
  ·rintro(⟨j,j1,j2,rfl⟩|⟨z,hz,rfl,z2⟩)
   ·exact⟨j2, .inl ⟨j,j1,rfl⟩⟩
   ·exact⟨z2, .inr ⟨z,hz,rfl⟩⟩
  ·rintro⟨h,⟨j,j1,rfl⟩|⟨z,hz,rfl⟩⟩
   ·exact .inl ⟨j,j1,h,rfl⟩
   ·exact .inr ⟨z,hz,rfl,h⟩⟩
 have dl:ds.length≤100:=by
  have:=congrArg List.length eds;rw[List.length_map] at this;omega
 have dk: ∀z∈ds,z.2.1<60:=fun z hz=>(hds z hz).k60;have fw:f∈ws:=(mem f).mpr (.inl ⟨0,by decide,by show Cal.beg f dy c 0≤day;rw[Cal.beg_zero f0 f1];exact d0,(Cal.beg_zero f0 f1).symm⟩);have nl:lw≠l0:=fun z=>by
  have h:=s3 _ _ e2;rw[←z,e3] at h;injection h with h
  injection h with h
  rw[List.map_eq_nil_iff.mp h] at fw;cases fw
 subst eds;clear up mem fw;refine⟨lw,rfl,⟨_,SqL.of e3⟩,hR _ _ ?_⟩;clear hR;have P3:=P2.same s3;have k3:=Kp.of_same (s12.trans s3);have e23:=s3 _ _ e2;clear P2 e2 s12 s3;obtain⟨Pw,hPw⟩: ∃Pw:Nat→St→Hp→Prop,Pw=fun i σ1 H4=> ∃(ws:List (Addr×Ln)) (x5:Option V),Pot K t H4 p dx d (zaS (cstF f dy c zs Gm) ys (ds.take i) (0,0, [])).2∧Kp H H4∧H4 lw=some (.lst ((ds.map (·.1)).map V.int))∧H4 l0=some (.lst (ws.map fun w=>V.ref w.1))∧zbw H4 ws∧ws.map (·.2)=(zaS (cstF f dy c zs Gm) ys (ds.take i) (0,0, [])).1∧σ1= [some (.ref pa),some (.ref le),some (.int day),some (.ref p),some (.ref l0),x5]:=⟨_,rfl⟩
 refine zb3 (xs:=(ds.map (·.1)).map V.int) Pw (by rw[hPw];exact⟨[],_,P3,k3,e3,e23,nofun,rfl,rfl⟩) (fun _ _ _ _ h=>by rw[hPw] at h;obtain⟨_,_,_,_,k,_⟩:=h;exact SqL.of k) (fun i x σ1 H4 hxx h=> ?_) (fun σ1 H4 h=> ?_)
 ·rw[hPw] at h;obtain⟨ws,x5,P4,k4,k34,e4,la4,lm4,rfl⟩:=h;rw[List.getElem?_map,List.getElem?_map] at hxx;obtain⟨y,hy,rfl⟩:=Option.map_eq_some_iff.mp hxx;obtain⟨z,hz1,rfl⟩:=Option.map_eq_some_iff.mp hy;have nx:=zj2 (cstF f dy c zs Gm) ys (0,0, []) hz1;have zm:=List.mem_of_getElem? hz1;have il:=(List.getElem?_eq_some_iff.mp hz1).1;have tk: ∀z∈ds.take i,z.2.1<60:=fun z h=>dk z (List.mem_of_mem_take h);have tO:=(zhD (cstF f dy c zs Gm) ys (ds.take i) (0,0, []) tk ⟨List.Pairwise.nil,nofun⟩).len;have wl:ws.length≤20000:=by
   have h1:=zej (cstF f dy c zs Gm) hY.2.1 (ds.take i) (0,0, []) tk;have h2:=congrArg List.length lm4;rw[List.length_map] at h2;rw[List.length_take] at h1;omega
  have wl2:=zgm (cstF f dy c zs Gm) (ys:=ys) z.1 z.2.2 (zaS (cstF f dy c zs Gm) ys (ds.take i) (0,0, [])).2 (dk z zm) hY.2.1;have eS:=k4.lst hS
  (open_k0;repeat (dsimp only[tBM];open_k0))
  refine⟨.inl ⟨rfl,_,SqL.of e4⟩,pa,le,la,p,dx,d,f,dy,c,zs,ys,Gm,_,z.1,z.2.1,z.2.2,rfl,hz.kp k4,SqL.of eS,hY.kp k4,hG,P4,(fun z=>by rw[z,P4.1] at eS;cases eS),(fun z=>by obtain⟨_,kvs,g,_⟩:=P4;rw[z,g] at eS;cases eS),hds z zm,by omega,fun rw wr H5 fr5 P5 k5 e5 la5 lm5=> ?_⟩;have e45:=k5.lst e4;refine⟨l0,rw,_,_,rfl,rfl,e45,e5,by rw[List.length_map,List.length_map,sizeLine_eq];have h:=congrArg List.length lm5;rw[List.length_map] at h;omega,?_⟩;obtain⟨a1,a2,a3⟩:=ziJ (l1:=rw) (k4.trans k5) fr2 e45 (la4.keep k5) la5;rw[hPw];exact⟨_,_,by rw[nx];exact P5.app e45,a1,by rw[zal nl];exact k5.lst k34,a2,a3,by rw[List.map_append,lm4,lm5,nx],rfl⟩
 rw[hPw] at h;obtain⟨ws,x5,P4,k4,k34,e4,la4,lm4,rfl⟩:=h;open_k0;rw[List.length_map,List.length_map,List.take_length] at P4 lm4;exact fun r H5 hr s5 e5=>q d0 d1 r l0 p dx d ds ws H5 wd dl (k4.trans (Kp.of_same s5)) e5 (P4.same s5) (s5 _ _ e4) (la4.keep (Kp.of_same s5)) lm4
def zg2:Sp:=fun vs H Q _=> ∃c k:Int,vs= [.int c, .int k]∧0≤k∧k≤1000∧ ∀r,0≤r→r<10 ^ 16→Q (.int r) H
theorem sc_11:FnScope ["_law_cell","_law_k","_law_number"] ["_law_cell","_law_k"] (zak s_11):=by sl_open
theorem ok_11(T:Txt w K mg t):FnOk P w K mg base (CXE P w) 1 t.a_11 t.d_11 ["_law_cell","_law_k"] (zg2):=by
 refine T.F_11.fn.okX sc_11 ?_ fun cdv A outer s H vs Q E L hr h=> ?_
 ·kdl_open
 obtain⟨c,k,rfl,k0,k1,q⟩:=h;have nd:=sc_11.nd;refine⟨_,(zad (psJ 2 nd (zah zas (zah zat (zah zat (zah zbi (zah zas (pvJ 0) zac) zac) (zah zbi (pvJ 1) zac)) zac) zac)) (zad (psJ 2 nd (zah zas (zah zat (zah zbi (pvJ 2) (pvJ 2)) (pvJ 1)) zac)) (zag (zap (zah zat (zah zbi (zah zas (zah zbi (pvJ 2) (zah zat (pvJ 2) zac)) zac) zac) (pvJ 2)))))),?_⟩;open_k0;generalize h1:(c % 2147483647*48271+k*69621+7919) % 2147483629=n1;have b1:0≤n1∧n1<2147483629:=by omega
 generalize h2:(n1*n1+k) % 2147483587=n2;have b2:0≤n2∧n2<2147483587:=by
  rw[←h2];exact⟨Int.emod_nonneg _ (by decide),Int.emod_lt_of_pos _ (by decide)⟩
 generalize h3:n2*(n2+69621) % 2147483563=n3;have b3:0≤n3∧n3<2147483563:=by
  rw[←h3];exact⟨Int.emod_nonneg _ (by decide),Int.emod_lt_of_pos _ (by decide)⟩
 refine⟨.inl ⟨by omega,by omega⟩, .inl ⟨by omega,by omega⟩, .inl ⟨by omega,by omega⟩, .inl ⟨by omega,by omega⟩, .inl ⟨by omega,by omega⟩,q _ (by omega) (by omega)⟩
def ziK(K:Fg):Sp:=fun vs H Q _=> ∃(l:Addr) (cs:List Int) (k:Int),vs= [.ref l, .int k]∧SqL K H l (cs.map V.int)∧0≤k∧k≤1000∧cs.length≤10000∧ ∀r,Q (.int r) H
theorem sc_12:FnScope ["_law_script","_law_k"] ["_law_script","_law_k"] (zak s_12):=by sl_open
theorem ok_12(T:Txt w K mg t):FnOk P w K mg base (CXE P w) 2 t.a_12 t.d_12 ["_law_script","_law_k"] (ziK K):=by
 refine T.F_12.fn.okX sc_12 ?_ fun cdv A outer s H vs Q E L hr h=> ?_
 ·kdl_open
 obtain⟨l,cs,k,rfl,hl,k0,k1,c1,q⟩:=h;have nd:=sc_12.nd;refine⟨_,(zad (zay (PWQ.pq (zb2 (zaV zbL (pvJ 1) (zaM zby (by rfl) T.no_len zdy (zaa (pvJ 0) zae))) (zbO (zbC (zah zas (ixJ zaR (pvJ 0) (zah zas zac (zaM zby (by rfl) T.no_len zdy (zaa (pvJ 0) zae)))) zac) zac)))) (zag (zap (ixJ zaR (pvJ 0) (pvJ 1)))) zav) (zad (zay (zbC (zaM zby (by rfl) T.no_len zdy (zaa (pvJ 0) zae)) zac) (zag (zap (peD L.toLv (ok_11 T) hr T.F_11 (zaa zac (zaa (pvJ 1) zae zab) zaf)))) zav) (zag (zap (peD L.toLv (ok_11 T) hr T.F_11 (zaa (ixJ zaR (pvJ 0) (zah zas (pvJ 1) (zaM zby (by rfl) T.no_len zdy (zaa (pvJ 0) zae)))) (zaa (pvJ 1) zae zab) zar)))))),?_⟩;open_k0;have mixed: ∀c,zg2 [V.int c,V.int k] H Q E:=fun c=>⟨c,k,rfl,k0,k1,fun r _ _=>q r⟩
 have tail: ∃x,(SqL K H l x∨SqT K H l x)∧if (x.length:Int)=0 then zg2 [V.int 0,V.int k] H Q E else∃x,(SqL K H l x∨SqT K H l x)∧0<(x.length:Int)∧zkD K (V.ref l) (V.int (k % x.length)) H fun x H1=>zg2 [x,V.int k] H1 Q E:=by
  refine⟨_, .inl hl,?_⟩;rw[List.length_map];split
  ·exact mixed 0
  ·rename_i n0;refine⟨_, .inl hl,?_⟩;rw[List.length_map];exact⟨by omega,ixL hl (zdN (Int.emod_nonneg _ n0) (Int.emod_lt_of_pos _ (by omega))) (mixed _)⟩
 refine⟨_, .inl hl,?_⟩;rw[List.length_map];split
 ·refine⟨_, .inl hl,?_⟩;rw[List.length_map];refine⟨by omega,ixL hl (zdN (Int.emod_nonneg _ (by omega)) (Int.emod_lt_of_pos _ (by omega))) ⟨_,rfl,?_⟩⟩;split
  ·exact ixL hl (zdN k0 (by omega)) (q _)
  ·exact tail
 ·exact tail
def zhS(K:Fg):Sp:=fun vs H Q _=> ∃c:Int,vs= [.int c]∧ ∀l (ws:List (List Nat)) H',zam H H'→ws.length=8→H' l=some (.lst (ws.map fun w=> .str (SL w)))→Q (.ref l) H'
theorem sc_13:FnScope ["_law_cell","_law_size","_law_at","_law_other","_law_letters","_law_names_here","_law_k","_law_one"] ["_law_cell"] (zak s_13):=by sl_open
theorem ok_13(T:Txt w K mg t):FnOk P w K mg base (CXE P w) 1 t.a_13 t.d_13 ["_law_cell"] (zhS K):=by
 refine T.F_13.fn.okX sc_13 ?_ fun cdv A outer s H vs Q E L hr h=> ?_
 ·kdl_open
 obtain⟨c,rfl,q⟩:=h;have nd:=sc_13.nd;refine⟨_,(zad (psJ 1 nd (zah zat zac (zah zas (pvJ 0) zac))) (zad (psJ 2 nd (zah zas (zah zaN (pvJ 0) zac) (pvJ 1))) (zad (psJ 3 nd (ixJ zqd (zax st_19) (zah zas (zah zaN (pvJ 0) zac) zac))) (zad (psJ 4 nd (zax st_18)) (zad (psJ 5 nd (zaB zae)) (zad (zbs (by passes_own) rfl (zcc (by rfl) T.no_range (zaa zac zae)) (zai (i:=6) nd rfl (Or.inl rfl)) (zad (psJ 7 nd (ixJ zqd (pvJ 4) (zah zas (zah zat (zah zaN (pvJ 0) zac) (zah zbi zac (pvJ 6))) zac))) (zag (zbb (zb4 PySem.F.plainAttrs_list PySem.F.slot_list_append PySem.F.type_list_append za8 (pvJ 5) (zaa (zah zhb (zah zhb (zah zhg (pvJ 3) (pvJ 2)) (pvJ 7)) (zah zhg (pvJ 3) (zah zaK (zah zaK (pvJ 1) zac) (pvJ 2)))) zae)))))) (zag (zap (pvJ 5))))))))),?_⟩;open_k0;have sb:1≤1+c % 8∧1+c % 8≤8:=by omega
 generalize 1+c % 8=sz at sb ⊢;have ab:0≤c / 8 % sz∧c / 8 % sz<sz:=⟨Int.emod_nonneg _ (by omega),Int.emod_lt_of_pos _ (by omega)⟩
 generalize c / 8 % sz=at' at ab ⊢;obtain⟨ot,eo⟩: ∃ot,atI [97,98,99,100,101,102,103,104] (c / 64 % 8)=some ot:=by
  obtain⟨r,hr⟩: ∃r:Nat,c / 64 % 8=r:=⟨(c / 64 % 8).toNat,by omega⟩
  have r8:r<8:=by omega
  rw[hr];exact⟨_,zb1 (List.getElem?_eq_getElem (by show r<8;exact r8))⟩
 refine⟨by omega,ot,eo,fun ln H1 hln s1 e1=> ?_⟩;clear eo;obtain⟨a,rfl⟩:=Int.eq_ofNat_of_zero_le ab.1
 ((try dsimp only);refine zbE fun R hR=> ?_;(open_k0;repeat (dsimp only[zbB,zb5,zbU,zb7];open_k0)))
 refine⟨by omega,by omega,hR _ _ ?_⟩;clear hR;obtain⟨Pv,hPv⟩: ∃Pv:Nat→St→Hp→Prop,Pv=fun i σ1 H5=>zam H H5∧ ∃ws:List (List Nat),ws.length=i∧H5 ln=some (.lst (ws.map fun w=>V.str (SL w)))∧ ∃x6 x7,σ1= [some (.int c),some (.int sz),some (.int (a:Nat)),some (.str (SL [ot])),some (.str (SL azL)),some (.ref ln),x6,x7]:=⟨_,rfl⟩
 refine zcz Pv (by rw[hPv];exact⟨s1, [],rfl,e1,_,_,rfl⟩) (fun i σ1 H5 hi h=> ?_) (fun σ1 H5 h=> ?_)
 ·rw[hPv] at h;obtain⟨s5,ws,wl,e5,x6,x7,rfl⟩:=h;open_k0;have rb:0≤(c / 512+3*(0+(i:Int))) % 26∧(c / 512+3*(0+(i:Int))) % 26<26:=⟨Int.emod_nonneg _ (by decide),Int.emod_lt_of_pos _ (by decide)⟩
  refine⟨.inl ⟨by omega,by omega⟩,_,zqj rb.1 rb.2,?_⟩;generalize 97+((c / 512+3*(0+(i:Int))) % 26).toNat=u
  (open_k0;repeat (dsimp only[tBM];open_k0))
  have rl: ∀n:Nat,(List.replicate n [ot]).flatten.length=n:=fun n=>by simp
  obtain⟨b,hb⟩: ∃b:Nat,sz - 1 - (a:Int)=b:=⟨(sz - 1 - (a:Int)).toNat,by omega⟩
  refine⟨.inl ⟨rfl,_,SqL.of e5⟩,a,rfl,by omega,zbz (by rw[rl];omega),b,hb,by omega,zbz (by rw[List.length_append,rl,rl];show a+1+b≤1000;omega),?_⟩;refine⟨ln,_,_,rfl,rfl,e5,by rw[List.length_map];exact zba (by omega),?_⟩;rw[hPv];exact⟨zdO s5 hln,ws++ [_],by rw[List.length_append,wl];rfl,by rw[zao,List.map_append];rfl,_,_,rfl⟩
 ·rw[hPv] at h;obtain⟨s5,ws,wl,e5,x6,x7,rfl⟩:=h;open_k0;exact q ln ws H5 s5 (by omega) e5
theorem zcM{i:Int}(h:i.natAbs≤10 ^ 30):Sm i:=Sm.pow10 (k:=30) (by decide) h
theorem zds{H:Hp}{xs:List Int}{lo hi i:Int}{Q:VK}(b: ∀x∈xs,lo≤x∧x≤hi)(h0:0≤i)(h1:i<xs.length)(q: ∀v H',zam H H'→lo≤v→v≤hi→Q (.int v) H'):New H (.lst (xs.map V.int)) fun x H1=>zkD K x (.int i) H1 Q:=fun p H1 _ s1 e1=>ixL (SqL.of e1) (zdN h0 h1) (q _ _ s1 (zgE b h0 h1).1 (zgE b h0 h1).2)
theorem zpO{H:Hp}{z:V×Pl}{lp:Addr}{xs:List V}{o:HO}(h:zjJ K H z)(e:H lp=some (.lst xs)):zjJ K (upd H lp o) z:=by
 obtain⟨p,e1,q⟩:=h;refine⟨p,e1,?_⟩;rcases q with(h|⟨o',h⟩)|h
 ·exact .inl (.inl (by rw[zal (fun z=>by rw[z,e] at h;cases h)];exact h))
 ·exact .inl (.inr ⟨o',by rw[zal (fun z=>by rw[z,e] at h;cases h)];exact h⟩)
 ·exact .inr h
def zhT(K:Fg):Sp:=fun vs H Q _=> ∃(c:Int) (ln:Addr) (ws:List (List Nat)),vs= [.int c, .ref ln]∧ws.length=8∧H ln=some (.lst (ws.map fun w=> .str (SL w)))∧ ∀l (zs:List (V×Pl)) H',zam H H'→H' l=some (.lst (zs.map (·.1)))→zdw K H' zs→zgr zs→Q (.ref l) H'
theorem sc_14:FnScope ["_law_cell","_law_names_here","_law_many","_law_plans_here","_law_k","_law_price","_law_count"] ["_law_cell","_law_names_here"] (zak s_14):=by sl_open
theorem ok_14(T:Txt w K mg t):FnOk P w K mg base (CXE P w) 1 t.a_14 t.d_14 ["_law_cell","_law_names_here"] (zhT K):=by
 refine T.F_14.fn.okX sc_14 ?_ fun cdv A outer s H vs Q E L hr h=> ?_
 ·kdl_open
 obtain⟨c,ln,ws,rfl,w8,hn,q⟩:=h;have nd:=sc_14.nd;refine⟨_,(zad (psJ 2 nd (ixJ zaR (zaB (zaa (zah zat zac (zah zas (pvJ 0) zac)) (zaa zac zae zaf) zan)) (zcd zdg (by rfl) T.no_int zgD (zaa (zbG zcY (zah zas (zah zaG (pvJ 0) zac) zac) zac (za3 _)) zae)))) (zad (psJ 0 nd (zah zaG (pvJ 0) zac)) (zad (psJ 3 nd (zaB zae)) (zad (zbs (by passes_own) rfl (zcc (by rfl) T.no_range (zaa (pvJ 2) zae)) (zai (i:=4) nd rfl (Or.inl rfl)) (zad (psJ 5 nd (ixJ zaR (zaB (zaa (zah zas (zah zaG (pvJ 0) zac) zac) (zaa (zah zas (zah zaG (pvJ 0) zac) (zah zgS zac zac)) (zaa (zah zas (zah zaG (pvJ 0) zac) zac) (zaa zac zae zaf) zan) zan) zan)) (zah zas (pvJ 0) zac))) (zad (psJ 0 nd (zah zaG (zah zaG (pvJ 0) zac) (ixJ zaR (zaB (zaa zac (zaa (zah zgS zac zac) (zaa zac (zaa zac zae zaf) zaf) zan) zaf)) (zah zas (pvJ 0) zac)))) (zad (psJ 6 nd (ixJ zaR (zaB (zaa zac (zaa zac (zaa (ixJ zaR (zaB (zaa zac (zaa zac (zaa zac (zaa zac zae zaf) zaf) zaf) zaf)) (zah zas (zah zaG (pvJ 0) zac) zac)) (zaa (zah zat zac (zah zas (zah zaG (pvJ 0) zac) zac)) zae zan) zar) zaf) zaf)) (zah zas (pvJ 0) zac))) (zad (psJ 0 nd (zah zaG (zah zaG (pvJ 0) zac) (ixJ zaR (zaB (zaa zac (zaa zac (zaa zac (zaa zac zae zaf) zaf) zaf) zaf)) (zah zas (pvJ 0) zac)))) (zag (zbb (zb4 PySem.F.plainAttrs_list PySem.F.slot_list_append PySem.F.type_list_append za8 (pvJ 3) (zaa (zaz (zaa (ixJ zaR (pvJ 1) (pvJ 4)) (zaa (pvJ 5) (zaa (pvJ 6) zae zab) zab) zar)) zae))))))))) (zag (zap (pvJ 3))))))),?_⟩;open_k0;intro p1 H1 _ s1 e1;have e1':H1 p1=some (.lst (([1+c % 4,8]:List Int).map V.int)):=e1;obtain⟨ix,hix⟩: ∃ix:Int,ix=if c / 4 % 8=5 then 1 else 0:=⟨_,rfl⟩
 rw[←hix];have ib:0≤ix∧ix<2:=by rw[hix];split<;>decide
 have bn:=zgE (xs:= [1+c % 4,8]) (lo:=1) (hi:=8) (fun x hx=>by
  simp only[List.mem_cons,List.not_mem_nil,or_false] at hx;rcases hx with rfl|rfl<;>omega) ib.1 ib.2
 refine⟨zcM (by decide),ixL (SqL.of e1') (zdN ib.1 ib.2) ?_⟩;clear e1 e1' hix;generalize ([1+c % 4,8]:List Int).getD ix.toNat 0=n at bn ⊢;refine⟨zcM (by decide),fun lp H2 hlp s2 e2=> ?_⟩;have s12:=s1.trans s2;have nlp:H lp=none:=by
  cases h:H lp with
  |none=>rfl
  |some u=>rw[s1 _ _ h] at hlp;cases hlp
 ((try dsimp only);refine zbE fun R hR=> ?_;(open_k0;repeat (dsimp only[zbB,zb5,zbU,zb7];open_k0)))
 refine⟨by omega,by omega,hR _ _ ?_⟩;clear hR;obtain⟨Pv,hPv⟩: ∃Pv:Nat→St→Hp→Prop,Pv=fun i σ1 H5=>zam H H5∧ ∃(c':Int) (zs:List (V×Pl)),zs.length=i∧H5 lp=some (.lst (zs.map (·.1)))∧zdw K H5 zs∧(∀z∈zs,(0≤z.2.2.1∧z.2.2.1<10 ^ 30)∧0≤z.2.2.2∧z.2.2.2≤400)∧ ∃x4 x5 x6,σ1= [some (.int c'),some (.ref ln),some (.int n),some (.ref lp),x4,x5,x6]:=⟨_,rfl⟩
 refine zcz Pv (by rw[hPv];exact⟨s12,_, [],rfl,e2,nofun,nofun,_,_,_,rfl⟩) (fun i σ1 H5 hi h=> ?_) (fun σ1 H5 h=> ?_)
 ·rw[hPv] at h;obtain⟨s5,c',zs,zl,e5,pa5,pb5,x4,x5,x6,rfl⟩:=h;open_k0;have i4: ∀x:Int,0≤x % 4∧x % 4<4:=fun x=>by omega
  have S4:Sm 4:=zcM (by decide);have cp:zhZ 10 30:=by unfold zhZ;decide
  refine⟨S4,S4,cp,by decide,S4,zds (xs:= [c' / 4 % 1000,c' / 4 % 10 ^ 30,c' / 4 % 7,0]) (lo:=0) (hi:=10 ^ 30 - 1) (fun x hx=>by
   simp only[List.mem_cons,List.not_mem_nil,or_false] at hx;rcases hx with rfl|rfl|rfl|rfl<;>omega) (i4 c').1 (i4 c').2 fun pr H6 s6 pr0 pr1=>⟨S4,cp,zds (xs:= [1000,10 ^ 30,7,1]) (lo:=1) (hi:=10 ^ 30) (fun x hx=>by
   simp only[List.mem_cons,List.not_mem_nil,or_false] at hx;rcases hx with rfl|rfl|rfl|rfl<;>decide) (i4 c').1 (i4 c').2 fun d1 H7 s7 d10 d11=>⟨d1,rfl,by omega,zcM (by omega),?_⟩⟩⟩
  generalize c' / 4 / d1=c2;refine fun p9 H9 h9 s9 e9=>⟨S4,zds (xs:= [7,28,30,31]) (lo:=0) (hi:=400) (fun x hx=>by
   simp only[List.mem_cons,List.not_mem_nil,or_false] at hx;rcases hx with rfl|rfl|rfl|rfl<;>decide) (i4 (c2 / 4)).1 (i4 (c2 / 4)).2 (fun n1 H8 s8 n10 n11=> ?_) p9 H9 h9 s9 e9⟩
  refine⟨S4,zds (xs:= [0,0,n1,1+c2 / 4 % 400]) (lo:=0) (hi:=400) (fun x hx=>by
   simp only[List.mem_cons,List.not_mem_nil,or_false] at hx;rcases hx with rfl|rfl|rfl|rfl<;>omega) (i4 c2).1 (i4 c2).2 fun ct HA sA ct0 ct1=>⟨S4,zds (xs:= [1,1,4,400]) (lo:=1) (hi:=400) (fun x hx=>by
   simp only[List.mem_cons,List.not_mem_nil,or_false] at hx;rcases hx with rfl|rfl|rfl|rfl<;>decide) (i4 c2).1 (i4 c2).2 fun d2 HB sB d20 d21=>⟨d2,rfl,by omega,zcM (by omega),?_⟩⟩⟩
  have s5B:=s6.trans (s7.trans (s8.trans (sA.trans sB)));have sHB:=s5.trans s5B;have e5B:=s5B _ _ e5;have iw:i<ws.length:=by omega
  (open_k0;repeat (dsimp only[tBM];open_k0))
  refine⟨.inl ⟨rfl,_,SqL.of e5B⟩,ixL (v:= .str (SL ws[i])) (SqL.of (sHB _ _ hn)) (by rw[Int.zero_add];exact zb1 (by rw[List.getElem?_map,List.getElem?_eq_getElem iw];rfl)) ?_⟩;intro pt HC _ sC eC;refine⟨lp,_,_,rfl,rfl,sC _ _ e5B,by rw[List.length_map];exact zba (by omega),?_⟩;rw[hPv];refine⟨zdO (sHB.trans sC) nlp,_,zs++ [(.ref pt,ws[i],pr,ct)],by rw[List.length_append,zl];rfl,by rw[zao,List.map_append];rfl,fun z hz=> ?_,fun z hz=> ?_,_,_,_,rfl⟩
  ·refine zpO ?_ (sC _ _ e5B);rcases List.mem_append.mp hz with h|h
   ·exact(pa5 z h).same (s5B.trans sC)
   ·rw[List.mem_singleton.mp h];exact⟨pt,rfl,SqT.of eC⟩
  ·rcases List.mem_append.mp hz with h|h
   ·exact pb5 z h
   ·rw[List.mem_singleton.mp h];exact⟨⟨pr0,by show pr<10 ^ 30;omega⟩,ct0,ct1⟩
 ·rw[hPv] at h;obtain⟨s5,c',zs,zl,e5,pa5,pb5,x4,x5,x6,rfl⟩:=h;open_k0;exact q lp zs H5 s5 e5 pa5 ⟨by omega,by omega,pb5⟩
def zpP(K:Fg):Sp:=fun vs H Q _=> ∃(a:Addr) (cs:List Int),vs= [.ref a]∧SqL K H a (cs.map V.int)∧cs.length≤10000∧ ∀p l (zs:List (V×Pl)) (f:Int) dy cc H',zam H H'→zcy K H' p l f dy cc zs→Q (.ref p) H'
theorem sc_15:FnScope ["_law_script","_law_x","_law_y","_law_first","_law_cycle"] ["_law_script"] (zak s_15):=by sl_open
theorem ok_15(T:Txt w K mg t):FnOk P w K mg base (CXE P w) 3 t.a_15 t.d_15 ["_law_script"] (zpP K):=by
 refine T.F_15.fn.okX sc_15 ?_ fun cdv A outer s H vs Q E L hr h=> ?_
 ·kdl_open
 obtain⟨a,cs,rfl,hS,cl,q⟩:=h;have nd:=sc_15.nd;refine⟨_,(zad (psJ 1 nd (peD L.toLv (ok_12 T) hr T.F_12 (zaa (pvJ 0) (zaa zac zae zaf) zab))) (zad (psJ 2 nd (peD L.toLv (ok_12 T) hr T.F_12 (zaa (pvJ 0) (zaa zac zae zaf) zab))) (zad (psJ 3 nd (ixJ zaR (zaB (zaa zac (zaa zac (zaa zac (zaa zac (zaa (zah zas (zah zaN (pvJ 1) zac) zac) (zaa (zah zat zac (zah zas (zah zaN (pvJ 1) zac) zac)) zae zan) zan) zaf) zaf) zaf) zaf)) (zah zas (pvJ 1) zac))) (zad (psJ 4 nd (zaz (zaa (zax st_4) (zaa (ixJ zaR (zaB (zaa zac (zaa (zah zat zac (zah zas (zah zaN (pvJ 2) zac) zac)) (zaa (zah zat zac (zah zas (zah zaN (pvJ 2) zac) zac)) (zaa zac zae zaf) zan) zan) zaf)) (zah zas (zah zaN (pvJ 2) zac) zac)) zae zar) zaf))) (zad (zay (zbC (zah zas (pvJ 2) zac) zac) (zag (psJ 4 nd (zaz (zaa (zax st_20) (zaa (ixJ zaR (zaB (zaa (zah zat zac (zah zas (zah zaN (pvJ 2) zac) zac)) (zaa zac (zaa zac (zaa (zah zat zac (zah zas (zah zaN (pvJ 2) zac) zac)) zae zan) zaf) zaf) zan)) (zah zas (zah zaN (pvJ 2) zac) zac)) zae zar) zaf)))) zav) (zag (zap (zaz (zaa (peD L.toLv (ok_14 T) hr T.F_14 (zaa (peD L.toLv (ok_12 T) hr T.F_12 (zaa (pvJ 0) (zaa zac zae zaf) zab)) (zaa (peD L.toLv (ok_13 T) hr T.F_13 (zaa (zah zaN (pvJ 2) zac) zae)) zae zaF) zaF)) (zaa (pvJ 3) (zaa (pvJ 4) zae zab) zab) zaF))))))))),?_⟩;open_k0;refine⟨a,cs,0,rfl,hS,by decide,by decide,cl,fun x=> ?_⟩;refine⟨a,cs,1,rfl,hS,by decide,by decide,cl,fun y=> ?_⟩;try open_k0
 have last: ∀(f:Int) (dy:Bool) (cc:Int) (pc:Addr) (H1:Hp),zam H H1→0≤f→f≤3500000→H1 pc=some (.tup [.str (SL (if dy then [100,97,121,115] else [109,111,110,116,104,115])), .int cc])→Cal.CycOk dy cc→ziK K [V.ref a,V.int 2] H1 (fun x_8 H1=>zhS K [V.int (y / 3)] H1 (fun x_9 H1=>zhT K [x_8,x_9] H1 (fun x_10 H1=>New H1 (HO.tup [x_10, .int f, .ref pc]) Q) E) E) E:=fun f dy cc pc H1 s1 f0 f1 e1 hc=>
  ⟨a,cs,2,rfl,(Kp.of_same s1).sqL hS,by decide,by decide,cl,fun z=>⟨y / 3,rfl,fun ln ws H2 s2 w8 e2=>⟨z,ln,ws,rfl,w8,e2,fun l zs H3 s3 e3 p3 i3 p H4 _ s4 e4=>q p l zs f dy cc H4 (s1.trans (s2.trans (s3.trans s4))) ⟨⟨pc,f0,f1,⟨SqT.of ((s2.trans (s3.trans s4)) _ _ e1),hc⟩,e4⟩,s4 _ _ e3,p3.same s4,i3⟩⟩⟩⟩
 refine zds (xs:= [738915,738944,0,3500000,x / 6 % 3500001,738915+x / 6 % 1461]) (lo:=0) (hi:=3500000) (fun x hx=>by
  simp only[List.mem_cons,List.not_mem_nil,or_false] at hx;rcases hx with rfl|rfl|rfl|rfl|rfl|rfl<;>omega) (Int.emod_nonneg x (show (6:Int)≠0 by decide)) (Int.emod_lt_of_pos x (show (0:Int)<6 by decide)) fun f H1 s1 f0 f1=> ?_
 refine zds (xs:= [1,1+y / 4 % 3,1+y / 4 % 12,1]) (lo:=1) (hi:=12) (fun x hx=>by
  simp only[List.mem_cons,List.not_mem_nil,or_false] at hx;rcases hx with rfl|rfl|rfl|rfl<;>omega) (Int.emod_nonneg _ (show (4:Int)≠0 by decide)) (Int.emod_lt_of_pos _ (show (0:Int)<4 by decide)) fun m H2 s2 m0 m1=> ?_
 refine fun p3 H3 _ s3 e3=>zaX (fun _=> ?_) (fun _=>last f false m p3 H3 (s1.trans (s2.trans s3)) f0 f1 e3 (Cal.cyc_months (by omega) (by omega)));refine zds (xs:= [1+y / 2 % 31,7,30,1+y / 2 % 400]) (lo:=1) (hi:=400) (fun x hx=>by
  simp only[List.mem_cons,List.not_mem_nil,or_false] at hx;rcases hx with rfl|rfl|rfl|rfl<;>omega) (Int.emod_nonneg _ (show (4:Int)≠0 by decide)) (Int.emod_lt_of_pos _ (show (0:Int)<4 by decide)) fun dd H4 s4 d0 d1=> ?_
 exact fun p5 H5 _ s5 e5=>last f true dd p5 H5 (s1.trans (s2.trans (s3.trans (s4.trans s5)))) f0 f1 e5 (Cal.cyc_days (by omega) (by omega))
def zhU(K:Fg):Sp:=fun vs H Q _=> ∃(pa l:Addr) (f:Int) (dy:Bool) (c:Int) (b:Bool),vs= [.ref pa, .bl b]∧zcL K H pa l f dy c∧ ∀k:Int,2≤k→k≤60→ ∀H',zam H H'→Q (.int (Cal.beg f dy c k - f)) H'
theorem sc_16:FnScope ["_law_account_here","_law_far","_law_word","_law_many","_law_spans"] ["_law_account_here","_law_far"] (zak s_16):=by sl_open
theorem ok_16(T:Txt w K mg t):FnOk P w K mg base (CXE P w) 6 t.a_16 t.d_16 ["_law_account_here","_law_far"] (zhU K):=by
 refine T.F_16.fn.okX sc_16 ?_ fun cdv A outer s H vs Q E L hr h=> ?_
 ·kdl_open
 obtain⟨pa,l,f,dy,c,b,rfl,⟨pc,f0,f1,hc,ep⟩,q⟩:=h;have nd:=sc_16.nd;refine⟨_,(zad (za6 (ixJ zaq (pvJ 0) zac) (zaO (n:=2) rfl (zaj (zai (i:=2) nd rfl (Or.inl rfl)) (zaj (zai (i:=3) nd rfl (Or.inl rfl)) zaJ)))) (zad (psJ 4 nd zac) (zad (zay (zaV zdu (pvJ 3) (ixJ zaR (zaB (zaa zac (zaa zac zae zaf) zaf)) (zcd zdg (by rfl) T.no_int zgD (zaa (zbG zcY (pvJ 2) (zax st_20) (za3 _)) zae)))) (zag (psJ 4 nd zac)) zav) (zad (zay (PWQ.pq (zb2 (zcF (zgT (pvJ 1))) (zbO (zaV zkp (pvJ 3) (ixJ zaR (zaB (zaa zac (zaa zac zae zaf) zaf)) (zcd zdg (by rfl) T.no_int zgD (zaa (zbG zcY (pvJ 2) (zax st_20) (za3 _)) zae))))))) (zag (psJ 4 nd zac)) zav) (zag (zap (zah zaK (peD L.toLv (ok_08 T) hr T.F_08 (zaa (ixJ zaq (pvJ 0) zac) (zaa (ixJ zaq (pvJ 0) zac) (zaa (pvJ 4) zae zab) zar) zar)) (ixJ zaq (pvJ 0) zac)))))))),?_⟩;open_k0;refine ixT (SqT.of ep) (zd4 _ _ _ _) ⟨pc,_,rfl,hc.1,rfl,?_⟩;open_k0;obtain⟨ix,hix⟩: ∃ix:Int,ix=if (if dy=true then [100,97,121,115] else [109,111,110,116,104,115])= [100,97,121,115] then 1 else 0:=⟨_,rfl⟩
 rw[←hix];have ib:0≤ix∧ix<2:=by rw[hix];split<;>decide
 clear hix;have last: ∀(k:Int) (H2:Hp),zam H H2→2≤k→k≤60→zfN K (V.ref pa) (V.int 1) H2 fun x H1=>zfN K (V.ref pa) (V.int 2) H1 fun x_1 H1=>zjo K t [x,x_1,V.int k] H1 (fun x H1=>zfN K (V.ref pa) (V.int 1) H1 fun y H2=> ∃i,x=V.int i∧ ∃x,y=V.int x∧Q (V.int (i - x)) H2) E:=fun k H2 s2 k0 k1=>
  ixT (SqT.of (s2 _ _ ep)) (zcb _ _ _) (ixT (SqT.of (s2 _ _ ep)) (zd4 _ _ _ _) ⟨f,pc,dy,c,k,rfl,f0,f1,hc.same s2,fun _ _ H3 s3=>ixT (SqT.of (s3 _ _ (s2 _ _ ep))) (zcb _ _ _) ⟨_,rfl,_,rfl,q k k0 k1 H3 (s2.trans s3)⟩,fun z=>absurd z (by omega),fun z=>absurd z (by omega)⟩)
 have bd: ∀a d:Int,∀x∈ [a,d],min a d≤x∧x≤max a d:=fun a d x hx=>by
  simp only[List.mem_cons,List.not_mem_nil,or_false] at hx;rcases hx with rfl|rfl<;>omega
 refine zds (xs:= [3,40]) (bd 3 40) ib.1 ib.2 fun v H2 s2 _ _=>⟨_,rfl,?_⟩
 refine zaX (fun _=>zaX (fun _=>zds (xs:= [1,31]) (bd 1 31) ib.1 ib.2 fun w H3 s3 _ _=>⟨_,rfl,zaX (fun _=>last 60 H3 (s2.trans s3) (by decide) (by decide)) (fun _=>last 2 H3 (s2.trans s3) (by decide) (by decide))⟩) (fun _=>last 2 H2 s2 (by decide) (by decide)))
  (fun _=>zaX (fun _=>zds (xs:= [1,31]) (bd 1 31) ib.1 ib.2 fun w H3 s3 _ _=>⟨_,rfl,zaX (fun _=>last 60 H3 (s2.trans s3) (by decide) (by decide)) (fun _=>last 8 H3 (s2.trans s3) (by decide) (by decide))⟩) (fun _=>last 8 H2 s2 (by decide) (by decide)))
theorem zhV: ∀{L:List Int} {i:Nat} {k:Int},L.Nodup→L[i]? =some k→L.erase k=L.eraseIdx i
 | [],i,k,_,h=>by simp at h
 |x::r,0,k,_,h=>by cases h;exact List.erase_cons_head ..
 |x::r,i+1,k,d,h=>by
  have h':r[i]? =some k:=h;have ne: ¬x=k:=fun z=>(List.nodup_cons.mp d).1 (z ▸ List.mem_of_getElem? h');rw[List.erase_cons_tail (by simpa using ne),List.eraseIdx_cons_succ,zhV (List.nodup_cons.mp d).2 h']
theorem zqG{j n:Nat}(h:j<n):PySem.seqIndex? (j:Int) n=some j:=by
 have c0: ¬((j:Int)<0):=by omega
 simp [PySem.seqIndex?,c0,h]
theorem zpQ{a i:Int}(a0:0≤a)(a1:a<2)(i0:0≤i)(i1:i<4): ∃w,w<4∧ ∃v,atI [V.str (SL [115,116,111,112]),V.str (SL [108,97,115,116])] a=some v∧atI [V.str (SL [104,111,108,100]),V.str (SL [103,111]),v,V.str (SL [103,111])] i=some (.str (SL (zcZ w))):=by
 have h:i=0∨i=1∨i=2∨i=3:=by omega
 have g:a=0∨a=1:=by omega
 rcases g with rfl|rfl
 ·rcases h with rfl|rfl|rfl|rfl
  ·exact⟨0,by decide,_,rfl,rfl⟩
  ·exact⟨1,by decide,_,rfl,rfl⟩
  ·exact⟨2,by decide,_,rfl,rfl⟩
  ·exact⟨1,by decide,_,rfl,rfl⟩
 ·rcases h with rfl|rfl|rfl|rfl
  ·exact⟨0,by decide,_,rfl,rfl⟩
  ·exact⟨1,by decide,_,rfl,rfl⟩
  ·exact⟨3,by decide,_,rfl,rfl⟩
  ·exact⟨1,by decide,_,rfl,rfl⟩
def zkb(K:Fg):Sp:=fun vs H Q _=> ∃(x n en:Int) (pa la ll:Addr) (f:Int) (dy:Bool) (c:Int) (zs:List (V×Pl)) (re:Int) (N:Nat) (L:List Int),vs= [.int x, .int n, .int en, .ref pa, .int re, .ref ll]∧n=N∧zcy K H pa la f dy c zs∧0<re∧re<10 ^ 9∧f+re≤Cal.beg f dy c 60∧0≤en∧en<re∧H ll=some (.lst (L.map V.int))∧L.length≤40∧L.Nodup∧ ∀p ch H',(∀b o,b≠ll→H b=some o→H' b=some o)→H' ll=some (.lst ((zcr N L ch).map V.int))→H' p=some (.tup ((chD ch).map sv))→zmZ (zs.map fun z=>z.2.1) f (Cal.beg f dy c 60) L ch→Q (.ref p) H'
theorem sc_17:FnScope ["_law_x","_law_number","_law_entered","_law_account_here","_law_reach_here","_law_open_terms","_law_own","_law_way"] ["_law_x","_law_number","_law_entered","_law_account_here","_law_reach_here","_law_open_terms"] (zak s_17):=by sl_open
theorem ok_17(T:Txt w K mg t):FnOk P w K mg base (CXE P w) 1 t.a_17 t.d_17 ["_law_x","_law_number","_law_entered","_law_account_here","_law_reach_here","_law_open_terms"] (zkb K):=by
 refine T.F_17.fn.okX sc_17 ?_ fun cdv A outer s H vs Q E L hr h=> ?_
 ·kdl_open
 obtain⟨x,n,en,pa,la,ll,f,dy,c,zs,re,N,L,rfl,rfl,hz,r0,r1,r2,en0,en1,el,l40,nd,q⟩:=h;have nd:=sc_17.nd;refine⟨_,(zad (psJ 6 nd (zah zat (ixJ zaq (pvJ 3) zac) (ixJ zaR (zaB (zaa (zah zas (zah zaG (pvJ 0) zac) (pvJ 4)) (zaa (pvJ 2) (zaa (zaM (zbX (by rfl)) (by rfl) T.no_min zdz (zaa (zah zaK (pvJ 4) zac) (zaa (zah zat (pvJ 2) (zah zas (zah zaG (pvJ 0) zac) zac)) zae zan) zan)) zae zaF) zab) zan)) (zah zas (zah zaG (pvJ 0) zac) zac)))) (zad (psJ 7 nd (zah zas (pvJ 0) zac)) (zad (zdA (zay (PWQ.pq (zb2 (zbC (pvJ 7) zac) (zbO (zcF (zbq (zkV hr) (pvJ 5) (zaB zae) (za3 _)))))) (zag (zap (zaz (zaa (zax st_13) (zaa (zb4 PySem.F.plainAttrs_list PySem.F.slot_list_pop PySem.F.type_list_pop zkG (pvJ 5) (zaa (zah zas (zah zaG (pvJ 0) zac) (zaM zby (by rfl) T.no_len zdy (zaa (pvJ 5) zae))) zae)) zae zaF) zaf)))) zav)) (zad (zdA (zay (PWQ.pq (zb2 (zaV zdu (pvJ 7) zac) (zbO (zaV zbL (pvJ 7) zac)))) (zag (zap (zaz (zaa (zax st_14) (zaa (zah zat zac (ixJ zaR (zaB (zaa (zah zas (zah zaG (pvJ 0) zac) zac) (zaa (zah zas (zah zaG (pvJ 0) zac) (zah zaK (zah zgS zac zac) zac)) zae zan) zan)) (zah zas (zah zaG (pvJ 0) zac) zac))) zae zan) zaf)))) zav)) (zad (zay (zbC (pvJ 7) zac) (zag (zap (zaz (zaa (zax st_16) zae)))) zav) (zad (zbb (zb4 PySem.F.plainAttrs_list PySem.F.slot_list_append PySem.F.type_list_append za8 (pvJ 5) (zaa (pvJ 1) zae))) (zad (psJ 0 nd (zah zaG (zah zaG (pvJ 0) zac) (pvJ 4))) (zad (zay (zaV zbL (pvJ 7) zac) (zag (zap (zaz (zaa (zax st_11) (zaa (pvJ 6) (zaa (ixJ zaq (ixJ zaR (ixJ zaq (pvJ 3) zac) (zah zas (pvJ 0) (zaM zby (by rfl) T.no_len zdy (zaa (ixJ zaq (pvJ 3) zac) zae)))) zac) zae zar) zab) zaf)))) zav) (zad (zay (zaV zbL (pvJ 7) zac) (zag (zap (zaz (zaa (zax st_12) (zaa (pvJ 6) (zaa (ixJ zaR (zaB (zaa (zah zas (pvJ 0) zac) (zaa (zah zas (pvJ 0) zac) zae zan) zan)) (zah zaK (pvJ 7) zac)) zae zar) zab) zaf)))) zav) (zag (zap (zaz (zaa (ixJ zaR (zaB (zaa (zax st_21) (zaa (zax st_22) (zaa (ixJ zaR (zaB (zaa (zax st_23) (zaa (zax st_9) zae zaf) zaf)) (zah zas (pvJ 0) zac)) (zaa (zax st_22) zae zaf) zar) zaf) zaf)) (zah zaK (pvJ 7) zac)) (zaa (pvJ 6) zae zab) zar))))))))))))),?_⟩;obtain⟨⟨pc,_,_,_,ep⟩,ela,za,zi⟩:=hz;have hT:=SqT.of (K:=K) ep;have hW: ∀i:Int,i.natAbs≤10 ^ 30→Sm i:=fun i h=>zcM h;open_k0;refine ixT hT (zcb _ _ _) ⟨hW _ (by decide),r0,hW _ (by decide),fun p1 H1 h1 s1 e1=>⟨hW _ (by decide),?_⟩⟩;refine zds (xs:= [x / 72 % re,en,if en+x / 72 % 9<re - 1 then en+x / 72 % 9 else re - 1]) (lo:=0) (hi:=re - 1) (fun y hy=>by
  have q1:=Int.emod_nonneg (x / 72) (show re≠0 by omega);have q2:=Int.emod_lt_of_pos (x / 72) r0;simp only[List.mem_cons,List.not_mem_nil,or_false] at hy;rcases hy with rfl|rfl|rfl
  ·omega
  ·omega
  ·split<;>omega) (show 0≤x / 24 % 3 by omega) (show x / 24 % 3<3 by omega) (fun o H2 s2 o0 o1=>⟨_,rfl,_,rfl,?_⟩) p1 H1 h1 s1 e1
 clear e1 s1 h1;obtain⟨R,hR⟩: ∃R:St→Hp→Prop,R=fun σ' H'=>zam H H'∧σ'= [some (.int x),some (.int (N:Int)),some (.int en),some (.ref pa),some (.int re),some (.ref ll),some (.int (f+o)),some (.int (x % 12))]:=⟨_,rfl⟩
 refine⟨R,?_,fun σ2 H3 h3=> ?_⟩
 ·open_k0;refine zaX (fun _=>fun p3 H3 _ s3 e3=> ?_) (fun _=>by rw[hR];exact⟨s2,rfl⟩);have s23:=s2.trans s3;refine⟨0, .lst (L.map D.int), .lst [],zkW (SqL.of (s23 _ _ el)) (zf1 _),zkW (SqL.of e3) trivial,rfl,rfl,by decide,fun j a b _ h=>by simp at h,_,rfl,?_⟩;cases L with
  |nil=>rw[hR];exact⟨s23,rfl⟩
  |cons u r=>
   refine zdW rfl ?_
   (open_k0;repeat (dsimp only[tBM];open_k0))
   refine⟨.inl ⟨rfl,_,SqL.of (s23 _ _ el)⟩,hW _ (by decide),_, .inl (SqL.of (s23 _ _ el)),?_⟩;rw[List.length_map];have l0:0<((u::r).length:Int):=by rw[List.length_cons];omega
   have i1:0≤x / 72 % ((u::r).length:Int)∧x / 72 % ((u::r).length:Int)<(u::r).length:=⟨Int.emod_nonneg _ (by omega),Int.emod_lt_of_pos _ l0⟩
   obtain⟨j,hj⟩:=Int.eq_ofNat_of_zero_le i1.1;rw[hj] at i1 ⊢;have jl:j<(u::r).length:=by omega
   have gk:(u::r)[j]? =some ((u::r)[j]):=List.getElem?_eq_getElem jl;refine⟨l0,ll,_,(j:Int),j, .int ((u::r)[j]),rfl,rfl,s23 _ _ el,by omega,by omega,?_,by rw[List.getElem?_map,gk];rfl,?_⟩
   ·rw[List.length_map];exact zqG jl
   ·intro p4 H4 h4 s4 e4;refine q p4 (.undo ((u::r)[j])) H4 (fun b o hb e=>s4 _ _ (by rw[zal hb];exact s23 _ _ e)) ?_ e4 (List.getElem_mem jl);rw[s4 _ _ zao,←zf5];show some (HO.lst (((u::r).eraseIdx j).map V.int))=some (HO.lst (((u::r).erase ((u::r)[j])).map V.int));rw[zhV nd gk]
 rw[hR] at h3;obtain⟨s3,rfl⟩:=h3;clear hR;have kp: ∀{H'},zam H3 H'→ ∀b o,b≠ll→H b=some o→H' b=some o:=fun s b o _ e=>s _ _ (s3 _ _ e);obtain⟨R,hR⟩: ∃R:St→Hp→Prop,R=fun σ' H'=>(x % 12≤8∨x % 12=11)∧H'=H3∧σ'= [some (.int x),some (.int (N:Int)),some (.int en),some (.ref pa),some (.int re),some (.ref ll),some (.int (f+o)),some (.int (x % 12))]:=⟨_,rfl⟩
 refine⟨R,?_,fun σ4 H4 h4=> ?_⟩
 ·open_k0;have cp:zhZ 10 30:=by unfold zhZ;decide
  have gr:Sm 72∧Sm 72∧zhZ 10 30∧(0:Int)<10 ^ 30 - 1∧New H3 (HO.lst [V.int (x / 72 % 2000),V.int (x / 72 % (10 ^ 30 - 1))]) fun x_1 H1=>Sm 12∧zkD K x_1 (V.int (x / 12 % 2)) H1 fun y H2=> ∃x,y=V.int x∧New H2 (HO.tup [V.str (SL [103,114,97,110,116]),V.int (1+x)]) Q:=by
   refine⟨hW _ (by decide),hW _ (by decide),cp,by decide,fun p5 H5 h5 s5 e5=>⟨hW _ (by decide),?_⟩⟩;refine zds (xs:= [x / 72 % 2000,x / 72 % (10 ^ 30 - 1)]) (lo:=0) (hi:=10 ^ 30 - 2) (fun y hy=>by
    simp only[List.mem_cons,List.not_mem_nil,or_false] at hy;rcases hy with rfl|rfl<;>omega) (show 0≤x / 12 % 2 by omega) (show x / 12 % 2<2 by omega) (fun a H6 s6 a0 a1=>⟨_,rfl,fun p7 H7 _ s7 e7=> ?_⟩) p5 H5 h5 s5 e5
   exact q p7 (.grant (1+a)) H7 (kp (s6.trans s7)) ((s6.trans s7) _ _ (s3 _ _ el)) e7 ⟨by omega,by omega⟩
  refine zaX (fun _=>zaX (fun _=>gr) (fun _=>by rw[hR];exact⟨by omega,rfl,rfl⟩)) (fun _=>by rw[hR];exact⟨by omega,rfl,rfl⟩)
 rw[hR] at h4;obtain⟨x8,rfl,rfl⟩:=h4;clear hR
 (open_k0;repeat (dsimp only[tBM];open_k0))
 refine zaX (fun _=>fun p5 H5 _ s5 e5=>q p5 .back H5 (kp s5) (s5 _ _ (s3 _ _ el)) e5 trivial) (fun x11=>⟨.inl ⟨rfl,_,SqL.of (s3 _ _ el)⟩,ll,_,_,rfl,rfl,s3 _ _ el,by rw[List.length_map];exact zba (by omega),hW _ (by decide),r0,hW _ (by omega),?_⟩);have kp5: ∀b o,b≠ll→H b=some o→upd H4 ll (.lst (L.map V.int++ [.int (N:Int)])) b=some o:=fun b o hb e=>by rw[zal hb];exact s3 _ _ e
 have el5:upd H4 ll (.lst (L.map V.int++ [.int (N:Int)])) ll=some (.lst ((L++ [(N:Int)]).map V.int)):=by rw[zao,List.map_append];rfl
 generalize upd H4 ll (.lst (L.map V.int++ [.int (N:Int)]))=H5 at kp5 el5 ⊢;have tp: ∀{p:Addr} {xs:List V},SqT K H p xs→SqT K H5 p xs:=fun {p xs} h=>zmY h el kp5;have nla:la≠ll:=fun z=>by
  rw[z,el] at ela;have e:L.map V.int=zs.map (·.1):=by injection ela with e;injection e
  obtain⟨z0,hz0⟩: ∃z0,zs[0]? =some z0:=⟨zs[0]'(by have:=zi.1;omega),List.getElem?_eq_getElem _⟩
  obtain⟨p,ez,_⟩:=za z0 (List.mem_of_getElem? hz0);have h:(L.map V.int)[0]? =(zs.map (·.1))[0]? :=by rw[e]
  rw[List.getElem?_map,List.getElem?_map,hz0,Option.map_some,ez] at h;obtain⟨k,_,hk⟩:=Option.map_eq_some_iff.mp h;cases hk
 have ela5:=kp5 _ _ nla ela;refine zaX (fun _=> ?_) (fun _=>zaX (fun _=> ?_) (fun _=> ?_))
 ·have l1:=zi.1;refine ixT (tp hT) (zbA _ _) (ixT (tp hT) (zbA _ _) ⟨la,rfl,_, .inl (SqL.of ela5),?_⟩);rw[List.length_map];generalize x / 72 / re=y;have i1:0≤y % (zs.length:Int)∧y % (zs.length:Int)<zs.length:=⟨Int.emod_nonneg _ (by omega),Int.emod_lt_of_pos _ (by omega)⟩
  obtain⟨j,hj⟩:=Int.eq_ofNat_of_zero_le i1.1;rw[hj] at i1 ⊢;obtain⟨z,hz⟩: ∃z,zs[j]? =some z:=⟨zs[j]'(by omega),List.getElem?_eq_getElem _⟩
  obtain⟨p,ez,hq⟩:=za z (List.mem_of_getElem? hz);refine⟨by omega,ixL (v:=z.1) (SqL.of ela5) (zb1 (by rw[List.getElem?_map,hz];rfl)) ?_⟩;rw[ez];exact ixT (tp hq) (v:= .str (SL z.2.1)) rfl fun p1 H1 _ s1 e1=>q p1 (.plan (f+o) z.2.1) H1 (fun b o hb e=>s1 _ _ (kp5 b o hb e)) (s1 _ _ el5) e1 ⟨by omega,by omega,List.mem_map.mpr ⟨z,List.mem_of_getElem? hz,rfl⟩⟩
 ·generalize x / 72 / re=y;refine zds (xs:= [y % 4,y % 1000001]) (lo:=0) (hi:=1000000) (fun y hy=>by
   simp only[List.mem_cons,List.not_mem_nil,or_false] at hy;rcases hy with rfl|rfl<;>omega) (show 0≤x % 12 - 3 by omega) (show x % 12 - 3<2 by omega) fun a H6 s6 a0 a1=> ?_
  exact fun p1 H1 _ s1 e1=>q p1 (.seats (f+o) a) H1 (fun b o hb e=>(s6.trans s1) _ _ (kp5 b o hb e)) ((s6.trans s1) _ _ el5) e1 ⟨by omega,by omega,a0,a1⟩
 ·generalize x / 72 / re=y;intro p6 H6 _ s6 e6;obtain⟨w,w4,v,ev,ew⟩:=zpQ (a:=y % 2) (i:=x % 12 - 5) (by omega) (by omega) (by omega) (by omega);refine ixL (SqL.of e6) ev fun p7 H7 _ s7 e7=>ixL (SqL.of e7) ew fun p8 H8 _ s8 e8=> ?_;exact q p8 (.word w (f+o)) H8 (fun b o hb e=>((s6.trans s7).trans s8) _ _ (kp5 b o hb e)) (((s6.trans s7).trans s8) _ _ el5) e8 ⟨w4,by omega,by omega⟩
theorem zmv{K:Fg}{H0 H H':Hp}{le ll:Addr}{nms:List (List Nat)}{f e:Int}{zs:List En}{pe p:Addr}{en:Int}{ch:Ch}(I:EnInv K H0 H le ll nms f e zs)(ep:H' pe=some (.tup [.int en, .ref p]))(ec:H' p=some (.tup ((chD ch).map sv)))
  (kp: ∀b o,b≠le→b≠ll→H b=some o→H' b=some o) (e1:H' le=some (.lst (zs.map (·.1)++ [.ref pe]))) (e2:H' ll=some (.lst ((zcr zs.length (zaU (chs zs)) ch).map V.int)))
  (h1:f≤en) (h2:en<e) (h3: ∀y∈zs,y.2.2.1≤en) (h4:zmZ nms f e (zaU (chs zs)) ch):EnInv K H0 H' le ll nms f e (zs++ [(.ref pe,p,en,ch)]):=by
 refine⟨fun b o eb=>kp b o (zaD eb I.n1) (zaD eb I.n2) (I.same b o eb),I.n1,I.n2,I.ne,by rw[e1,List.map_append];rfl,?_,fun z hz=> ?_,I.ok.snoc h1 h2 h3 h4⟩
 ·have ec:chs (zs++ [(V.ref pe,p,en,ch)])=chs zs++ [ch]:=by unfold chs;rw[List.map_append];rfl
  rw[e2,ec,zdC,zcs]
 ·rcases List.mem_append.mp hz with y|y
  ·obtain⟨q,ez,q1,q2⟩:=I.at' z y;exact⟨q,ez,zhk q1 I.e1 I.e2 kp,zhk q2 I.e1 I.e2 kp⟩
  ·rw[List.mem_singleton.mp y];exact⟨pe,rfl,SqT.of ep,SqT.of ec⟩
def zfJ(K:Fg):Sp:=fun vs H Q _=> ∃(a:Addr) (cs:List Int) (pa la:Addr) (f:Int) (dy:Bool) (c:Int) (zs:List (V×Pl)) (re:Int) (mn:Nat),vs= [.ref a, .ref pa, .int re, .int 5, .int mn]∧SqL K H a (cs.map V.int)∧cs.length≤10000∧zcy K H pa la f dy c zs∧0<re∧re<10 ^ 9∧f+re≤Cal.beg f dy c 60∧mn≤24∧ ∀le ys H',zam H H'→zbp K H' ys→zct (zs.map fun z=>z.2.1) f (Cal.beg f dy c 60) ys→ys.length≤40→H' le=some (.lst (ys.map (·.1)))→Q (.ref le) H'
theorem sc_18:FnScope ["_law_script","_law_account_here","_law_reach_here","_law_start","_law_many","_law_days","_law_found","_law_open_terms","_law_k","_law_x"] ["_law_script","_law_account_here","_law_reach_here","_law_start","_law_many"] (zak s_18):=by sl_open
theorem ok_18(T:Txt w K mg t):FnOk P w K mg base (CXE P w) 3 t.a_18 t.d_18 ["_law_script","_law_account_here","_law_reach_here","_law_start","_law_many"] (zfJ K):=by
 refine T.F_18.fn.okX sc_18 ?_ fun cdv A outer s H vs Q E L hr h=> ?_
 ·kdl_open
 obtain⟨a,cs,pa,la,f,dy,c,zs,re,mn,rfl,hS,cl,hz,r0,r1,r2,m24,q⟩:=h;have nd:=sc_18.nd;refine⟨_,(zad (psJ 5 nd (zaM zgL (by rfl) T.no_sorted zdj (zaa (zcS (n:=1) (N:= ["_law_k","_law_script","_law_start","_law_reach_here"]) (js:= [0,3,2]) (by rfl) rfl rfl (zcc (by rfl) T.no_range (zaa (pvJ 4) zae)) (fun a=>(zai (i:=0) (show List.Nodup (["_law_k","_law_script","_law_start","_law_reach_here"]:List Str) from by decide+kernel) rfl (Or.inl rfl))) (fun a=>zdi) (fun a=>(zah zas (peD zkL (ok_12 T) hr T.F_12 (zaa (pvJ 1) (zaa (zah zat (pvJ 2) (zah zbi zac (pvJ 0))) zae zan) zab)) (pvJ 3)))) zae))) (zad (psJ 6 nd (zaB zae)) (zad (psJ 7 nd (zaB zae)) (zad (zbs (by passes_own) rfl (zcc (by rfl) T.no_range (zaa (pvJ 4) zae)) (zai (i:=8) nd rfl (Or.inl rfl)) (zad (psJ 9 nd (peD L.toLv (ok_12 T) hr T.F_12 (zaa (pvJ 0) (zaa (zah zat (zah zat (pvJ 3) (zah zbi zac (pvJ 8))) zac) zae zan) zab))) (zag (zbb (zb4 PySem.F.plainAttrs_list PySem.F.slot_list_append PySem.F.type_list_append za8 (pvJ 6) (zaa (zaz (zaa (zah zat (ixJ zaq (pvJ 1) zac) (ixJ zaR (pvJ 5) (pvJ 8))) (zaa (peD L.toLv (ok_17 T) hr T.F_17 (zaa (pvJ 9) (zaa (pvJ 8) (zaa (ixJ zaR (pvJ 5) (pvJ 8)) (zaa (pvJ 1) (zaa (pvJ 2) (zaa (pvJ 7) zae zab) zab) zab) zar) zab) zab)) zae zaF) zan)) zae)))))) (zag (zap (pvJ 6))))))),?_⟩;open_k0
 (open_k0;repeat (dsimp only[zdP,zbU,zbB];open_k0))
 refine⟨by omega,by omega,fun lc hlc aa=> ?_⟩;rw[Int.toNat_natCast];refine zb9 (fun j ys _=> ∃ds:List Int,ys=ds.map V.int∧ds.length=j∧ ∀d∈ds,0≤d∧d<re) (zf0 0 _ H) hlc (by rw[zb8];exact zbj (by omega)) (fun _ _=>⟨[],rfl,rfl,(fun _ h=>nomatch h)⟩) (fun j y ys H8 K1 K0 hx sm pv hl k1 k0=> ?_) (fun ys H7 s7 pv _ w7=> ?_)
 ·have hj:=(List.getElem?_eq_some_iff.mp hx).1;rw[zb8] at hj;rw[zgG hj] at hx;cases hx;obtain⟨ds,rfl,dl,db⟩:=pv;open_k0;refine⟨.inl ⟨by omega,by omega⟩,a,cs,_,rfl,sm.seq hS,by omega,by omega,cl,fun r=>⟨_,rfl,r0,?_⟩⟩;have b0:=Int.emod_nonneg r (show re≠0 by omega);have b1:=Int.emod_lt_of_pos r r0;refine k1 _ _ (zam.refl _) fun H5 _=>⟨ds++ [r % re],by rw[List.map_append];rfl,by rw[List.length_append,dl];rfl,fun d hd=> ?_⟩
  rcases List.mem_append.mp hd with z|z
  ·exact db d z
  ·rw[List.mem_singleton.mp z];exact⟨b0,b1⟩
 rw[zb8] at pv;obtain⟨ds,rfl,dl,db⟩:=pv;refine⟨lc,rfl,ds,w7,by omega,fun ws wp wo lw H8 hlw s8 e8 le H9 hle s9 e9 ll H10 hll s10 e10=> ?_⟩;have wl:ws.length=mn:=wp.length_eq.trans dl;have wb: ∀d∈ws,0≤d∧d<re:=fun d hd=>db d (wp.mem_iff.mp hd);have s08:=s7.trans s8;have I0:EnInv K H8 H10 le ll (zs.map fun z=>z.2.1) f (Cal.beg f dy c 60) []:=by
  refine⟨s9.trans s10,hle,s9.none hll,fun z=> ?_,s10 _ _ e9,e10,fun z hz=>(nomatch hz),zct.nil⟩;rw[←z,e9] at hll;cases hll
 have hz8:=hz.same s08;have hS8:=s08.seq hS;clear hS hz
 ((try dsimp only);refine zbE fun R hR=> ?_;(open_k0;repeat (dsimp only[zbB,zb5,zbU,zb7];open_k0)))
 refine⟨by omega,by omega,hR _ _ ?_⟩;clear hR;rw[Int.toNat_natCast];obtain⟨Pw,hPw⟩: ∃Pw:Nat→St→Hp→Prop,Pw=fun i σ1 H5=> ∃(ys:List En) (x8 x9:Option V),EnInv K H8 H5 le ll (zs.map fun z=>z.2.1) f (Cal.beg f dy c 60) ys∧ys.length=i∧(∀(j:Nat) y,ys[j]? =some y→ws[j]? =some (y.2.2.1 - f))∧σ1= [some (.ref a),some (.ref pa),some (.int re),some (.int 5),some (.int mn),some (.ref lw),some (.ref le),some (.ref ll),x8,x9]:=⟨_,rfl⟩
 refine zcz (n:=mn) Pw (by rw[hPw];exact⟨[],_,_,I0,rfl,(fun j y h=>by rw[List.getElem?_nil] at h;cases h),rfl⟩) (fun i σ1 H5 hi hv=> ?_) (fun σ1 H5 hv=> ?_)
 ·rw[hPw] at hv;obtain⟨ys,x8,x9,I5,rfl,yw,rfl⟩:=hv;obtain⟨en,hen⟩: ∃en,ws[ys.length]? =some en:=⟨ws[ys.length]'(by omega),List.getElem?_eq_getElem _⟩
  have eb:=wb en (List.mem_of_getElem? hen);have yle: ∀y∈ys,y.2.2.1≤f+en:=fun y hy=>by
   obtain⟨j,hj,ej⟩:=List.mem_iff_getElem.mp hy;have h1:=yw j y (by rw[List.getElem?_eq_getElem hj,ej]);obtain⟨j1,e1⟩:=List.getElem?_eq_some_iff.mp h1;obtain⟨j2,e2⟩:=List.getElem?_eq_some_iff.mp hen
   have:=List.pairwise_iff_getElem.mp wo j ys.length j1 j2 hj;rw[e1,e2] at this;omega
  have aw:atI (ws.map V.int) (0+(ys.length:Int))=some (.int en):=by rw[Int.zero_add];exact zb1 (by rw[List.getElem?_map,hen];rfl)
  have w5:=SqL.of (K:=K) (I5.same _ _ e8);have sl:=zee (chs ys);rw[zcs] at sl;obtain⟨pc,f0,f1,hc,ep⟩:=id hz8.1;have ep5:=SqT.of (K:=K) (I5.same _ _ ep)
  (open_k0;repeat (dsimp only[tBM];open_k0))
  refine⟨.inl ⟨by omega,by omega⟩,a,cs,_,rfl,I5.same.seq hS8,by omega,by omega,cl,fun x=>⟨.inl ⟨rfl,_,SqL.of I5.e1⟩,ixT ep5 (zcb _ _ _) (ixL w5 aw ⟨_,rfl,_,rfl,ixL w5 aw ?_⟩)⟩⟩;refine⟨x,_,en,pa,la,ll,f,dy,c,zs,re,ys.length,_,rfl,by omega,hz8.same I5.same,r0,r1,r2,eb.1,eb.2,I5.e2,by omega,(zch (chs ys)).1,fun p ch H6 kp6 el6 ec6 ci=> ?_⟩;intro pe H7 _ s7 e7;have ele7:=s7 _ _ (kp6 _ _ I5.ne I5.e1);refine⟨le,_,_,rfl,rfl,ele7,by rw[List.length_map];exact zba (by omega),?_⟩;have ne1:pe≠le:=fun z=>by rw[z,ele7] at e7;cases e7
  have ec7:=s7 _ _ ec6;have ne2:p≠le:=fun z=>by rw[z,ele7] at ec7;cases ec7
  rw[hPw];refine⟨_,_,_,zmv I5 (pe:=pe) (p:=p) (en:=f+en) (ch:=ch) (by rw[zal ne1];exact e7) (by rw[zal ne2];exact ec7) (fun b o b1 b2 e=>by rw[zal b1];exact s7 _ _ (kp6 b o b2 e)) zao (by rw[zal I5.ne.symm];exact s7 _ _ el6) (by omega) (by omega) yle ci,by rw[List.length_append];rfl,fun j y h=> ?_,rfl⟩;rw[List.getElem?_append] at h;by_cases jl:j<ys.length
  ·rw[if_pos jl] at h;exact yw j y h
  ·rw[if_neg jl] at h;have j0:j - ys.length=0:=by
    rcases Nat.lt_or_ge (j - ys.length) 1 with z|z
    ·omega
    ·rw[List.getElem?_eq_none (by simpa using z)] at h;cases h
   rw[j0] at h;cases h;obtain rfl:j=ys.length:=by omega
   rw[hen];exact congrArg some (by show en=f+en - f;omega)
 ·rw[hPw] at hv;obtain⟨ys,x8,x9,I5,yl,yw,rfl⟩:=hv;open_k0;exact q le ys H5 (s08.trans I5.same) I5.at' I5.ok (by omega) I5.e1
def znw(K:Fg):Sp:=fun vs H Q _=> ∃(a:Addr) (cs:List Int),vs= [.ref a]∧SqL K H a (cs.map V.int)∧cs.length≤10000∧ ∀p pa la le (f:Int) dy c (zs:List (V×Pl)) (ys:List En) (day:Int) H',zam H H'→zcy K H' pa la f dy c zs→zbp K H' ys→zct (zs.map fun z=>z.2.1) f (Cal.beg f dy c 60) ys→ys.length≤40→H' le=some (.lst (ys.map (·.1)))→f≤day→day<Cal.beg f dy c 60→H' p=some (.tup [.ref pa, .ref le, .int day])→Q (.ref p) H'
theorem sc_19:FnScope ["_law_script","_law_account_here","_law_head","_law_far","_law_many","_law_reach_here"] ["_law_script"] (zak s_19):=by sl_open
theorem ok_19(T:Txt w K mg t):FnOk P w K mg base (CXE P w) 7 t.a_19 t.d_19 ["_law_script"] (znw K):=by
 refine T.F_19.fn.okX sc_19 ?_ fun cdv A outer s H vs Q E L hr h=> ?_
 ·kdl_open
 obtain⟨a,cs,rfl,hS,cl,q⟩:=h;have nd:=sc_19.nd;refine⟨_,(zad (psJ 1 nd (peD L.toLv (ok_15 T) hr T.F_15 (zaa (pvJ 0) zae))) (zad (psJ 2 nd (zah zaN (peD L.toLv (ok_12 T) hr T.F_12 (zaa (pvJ 0) (zaa zac zae zaf) zab)) zac)) (zad (psJ 3 nd (zbG zcY (zah zas (zah zaN (pvJ 2) zac) zac) zac (za3 _))) (zad (psJ 4 nd (ixJ zaR (zaB (zaa (zah zas (pvJ 2) zac) (zaa zac zae zaf) zan)) (zcd zdg (by rfl) T.no_int zgD (zaa (zi8 (zbG zcY (zah zas (zah zaN (pvJ 2) zac) zac) zac (za3 _)) (zhX (zm9 (pvJ 3)))) zae)))) (zad (psJ 5 nd (peD L.toLv (ok_16 T) hr T.F_16 (zaa (pvJ 1) (zaa (pvJ 3) zae zab) zab))) (zag (zap (zaz (zaa (pvJ 1) (zaa (peD L.toLv (ok_18 T) hr T.F_18 (zaa (pvJ 0) (zaa (pvJ 1) (zaa (pvJ 5) (zaa zac (zaa (pvJ 4) zae zab) zaf) zab) zab) zab)) (zaa (zah zat (ixJ zaq (pvJ 1) zac) (zah zas (peD L.toLv (ok_12 T) hr T.F_12 (zaa (pvJ 0) (zaa zac zae zaf) zab)) (pvJ 5))) zae zan) zaF) zab))))))))),?_⟩;open_k0;refine⟨a,cs,rfl,hS,cl,fun pa la zs f dy c H1 s1 hz=> ?_⟩;refine⟨a,cs,3,rfl,s1.seq hS,by decide,by decide,cl,fun h=>⟨_,rfl,?_⟩⟩;generalize h / 2=h;obtain⟨pc,f0,f1,hc,ep⟩:=id hz.1;have b0:Cal.beg f dy c 0=f:=Cal.beg_zero f0 f1;have last: ∀(b:Bool) (m:Int) (H2:Hp),zam H1 H2→0≤m→m≤24→zhU K [.ref pa, .bl b] H2 (fun x_4 H1=>zfJ K [V.ref a, .ref pa,x_4,V.int 5, .int m] H1 (fun x_5 H1=>zfN K (.ref pa) (V.int 1) H1 fun x_6 H1=>ziK K [V.ref a,V.int 4] H1 (fun x_7 H1=> ∃i,x_7=V.int i∧ ∃x_8,x_4=V.int x_8∧0<x_8∧ ∃i_1,x_6=V.int i_1∧New H1 (HO.tup [.ref pa,x_5,V.int (i_1+i % x_8)]) Q) E) E) E:=fun b m H2 s2 m0 m1=>by
  refine⟨pa,la,f,dy,c,b,rfl,hz.1.same s2,fun k k0 k1 H3 s3=> ?_⟩;obtain⟨mn,rfl⟩:=Int.eq_ofNat_of_zero_le m0;have g1:=Cal.beg_lt (k:=0) (j:=k) f0 f1 hc.2 (by decide) (by omega) (by omega);have g2:=Cal.beg_le (k:=k) (j:=60) f0 f1 hc.2 (by omega) (by omega) (by decide);have g3:=Cal.beg_range (k:=k) f0 f1 hc.2 (by omega) (by omega);rw[b0] at g1;have s03:=s2.trans s3;refine⟨a,cs,pa,la,f,dy,c,zs,_,mn,rfl,s03.seq (s1.seq hS),cl,hz.same s03,by omega,by omega,by omega,by omega,fun le ys H4 s4 ea ok yl el=> ?_⟩;have s04:=s03.trans s4;refine ixT (SqT.of (s04 _ _ ep)) (zcb _ _ _) ⟨a,cs,4,rfl,s04.seq (s1.seq hS),by decide,by decide,cl,fun d=>⟨_,rfl,_,rfl,by omega,_,rfl,fun p H5 _ s5 e5=> ?_⟩⟩;have d0:=Int.emod_nonneg d (show Cal.beg f dy c k - f≠0 by omega);have d1:=Int.emod_lt_of_pos d (show 0<Cal.beg f dy c k - f by omega);exact q p pa la le f dy c zs ys _ H5 ((s1.trans s04).trans s5) (hz.same (s04.trans s5)) (ea.same s5) ok yl (s5 _ _ el) (by omega) (by omega) e5
 have bd: ∀x∈ [h % 13,24],0≤x∧x≤24:=fun x hx=>by
  simp only[List.mem_cons,List.not_mem_nil,or_false] at hx;rcases hx with rfl|rfl<;>omega
 intro p2 H2 h2 s2 e2;refine zaX (fun _=>zds (xs:= [h % 13,24]) bd (by split<;>decide) (by split<;>show (_:Int)<2<;>decide) (fun m H3 s3 m0 m1=>last _ m H3 s3 m0 m1) p2 H2 h2 s2 e2) (fun _=>zds (xs:= [h % 13,24]) bd (by decide) (show (0:Int)<2 by decide) (fun m H3 s3 m0 m1=>last _ m H3 s3 m0 m1) p2 H2 h2 s2 e2)
def znx(K:Fg)(t:Adr):Sp:=fun vs H Q E=> ∃(pa le la:Addr) (f:Int) (dy:Bool) (c:Int) (zs:List (V×Pl)) (ys:List En) (Gm:Int→Int→List D) (day:Int),vs= [.ref pa, .ref le, .int day]∧zcy K H pa la f dy c zs∧H le=some (.lst (ys.map (·.1)))∧EnX zs f (Cal.beg f dy c 60) K H ys∧(∀z∈ys,f≤z.2.2.1)∧(∀m,GL f dy c ys m (Gm m))∧(f≤day→day<Cal.beg f dy c 60→ ∀lr (ds:List (Int×Nat×Bool)) (ws:List (Addr×Ln)) H',WDays f dy c ys day ds→ds.length≤100→Kp H H'→H' lr=some (.lst (ws.map fun w=>V.ref w.1))→zbw H' ws→ws.map (·.2)=(zaS (cstF f dy c zs Gm) ys ds (0,0, [])).1→Q (.ref lr) H')∧(day<f→ ∀H',zam H H'→E (.ref t.c_Z06) none H')∧(Cal.beg f dy c 60≤day→ ∀H',zam H H'→E (.ref t.c_Z0c) none H')
theorem sc_10:FnScope ["account","entries","day","lines","pots"] ["account","entries","day"] (zak s_10):=by sl_open
theorem ok_10(T:Txt w K mg t):FnOk P w K mg base (CXE P w) 14 t.a_10 t.d_10 ["account","entries","day"] (znx K t):=by
 refine T.F_10.fn.okX sc_10 ?_ fun cdv A outer s H vs Q E L hr h=> ?_
 ·kdl_open
 obtain⟨pa,le,la,f,dy,c,zs,ys,Gm,day,rfl,hz,hS,hY,hy0,hG,q,q2,q3⟩:=h;have nd:=sc_10.nd;refine⟨_,(zad (za6 (peD L.toLv (ok_0z T) hr T.F_0z (zaa (pvJ 0) (zaa (pvJ 1) (zaa (pvJ 2) zae zab) zab) zab)) (zaO (n:=2) rfl (zaj (zai (i:=3) nd rfl (Or.inl rfl)) (zaj (zai (i:=4) nd rfl (Or.inl rfl)) zaJ)))) (zag (zap (pvJ 3)))),?_⟩;open_k0;refine⟨pa,le,la,f,dy,c,zs,ys,Gm,day,rfl,hz,hS,hY,hy0,hG,fun d0 d1 r lr p dx d ds ws H1 wd dl k1 e1 _ e2 la2 lm=>⟨r,_,rfl,SqT.of e1,rfl,?_⟩,q2,q3⟩;open_k0;exact q d0 d1 lr ds ws H1 wd dl k1 e2 la2 lm
theorem zmw{nms:List (List Nat)}{f e:Int}{zs:List En}(h:zct nms f e zs):zci (chs zs):=fun i k hi=>by
 unfold chs at hi;rw[List.getElem?_map] at hi;obtain⟨z,hz,e⟩:=Option.map_eq_some_iff.mp hi
 have:=(h i z hz).2.2.2;rw[e,zc9] at this;exact this
theorem zpR{K:Fg}{H:Hp}{f e:Int}{zs:List (V×Pl)}{ys:List En}(yA:zbp K H ys)(yO:zct (zs.map fun z=>z.2.1) f e ys)(yl:ys.length≤40):EnX zs f e K H ys∧ ∀z∈ys,f≤z.2.2.1:=by
 refine⟨⟨yA,yl,yO.pair,zmw yO,EnB.of yO,fun z hz' tm=> ?_⟩,fun z hz'=> ?_⟩
 ·obtain⟨i,hi,ez⟩:=List.mem_iff_getElem.mp hz';have ci:=(yO i z (by rw[List.getElem?_eq_getElem hi,ez])).2.2.2;exact⟨fun d nm h'=>by rw[h'] at ci;exact ci.2.2,fun d n h'=>by rw[h'] at ci;exact ci.2.2⟩
 ·obtain⟨i,hi,ez⟩:=List.mem_iff_getElem.mp hz';exact(yO i z (by rw[List.getElem?_eq_getElem hi,ez])).1
noncomputable def dcF(f:Int)(dy:Bool)(c:Int)(zs:List (V×Pl))(G:Int→List D)(o:Int):Int:=open Classical in if h: ∃k:Int,(0≤k∧k<60)∧Cal.beg f dy c k≤o∧o<Cal.beg f dy c (k+1) then zbT zs (Cal.beg f dy c h.choose) (Cal.beg f dy c (h.choose+1)) o (o+1) (G o) else 0
theorem ziL{ys:List En}{x y:Int}(h:x≤y)(no: ∀e∈ys,¬(x<e.2.2.1∧e.2.2.1≤y)):zaE ys x=zaE ys y:=by
 have e:mOf ys x=mOf ys y:=by
  unfold mOf;congr 1;refine List.filter_congr fun z hz=> ?_
  have:=no z hz;unfold enL;rw[decide_eq_decide];omega
 unfold zaE;rw[e]
theorem zhW{f:Int}{dy:Bool}{c:Int}{ys:List En}{day:Int}{ds:List (Int×Nat×Bool)}{k:Nat}(f0:0≤f)(f1:f≤3500000)(hc:Cal.CycOk dy c)(hy0: ∀z∈ys,f≤z.2.2.1)(wd:WDays f dy c ys day ds)(k1:k<60)(a:Cal.beg f dy c k≤day)(b:day<Cal.beg f dy c ((k:Int)+1)):zgn ys day (k+1) (f - 1) 0 ds:=by
 have b0:Cal.beg f dy c ((0:Nat):Int)=f:=Cal.beg_zero f0 f1;have fd:f≤day:=by have:=Cal.beg_ge (k:=k) f0 f1 hc (by omega) (by omega);omega
 have hm: ∀i j:Nat,i<j→j≤60→Cal.beg f dy c i<Cal.beg f dy c j:=fun i j h1 h2=>Cal.beg_lt f0 f1 hc (by omega) (by omega) (by omega);refine zhF (bg:=fun j:Nat=>Cal.beg f dy c j) hm (by omega) (by show day<Cal.beg f dy c ((k+1:Nat):Int);exact b) (fun j hj=> ?_) ds (f - 1) 0 wd.up (fun t=> ?_) (fun z hz=> ?_) (by omega) (by omega) (by show f - 1<Cal.beg f dy c ((0:Nat):Int);omega) (fun j hj=>absurd hj (by omega))
 ·have:=Cal.beg_le (k:=j) (j:=k) f0 f1 hc (by omega) (by omega) (by omega);show Cal.beg f dy c j≤day;omega
 ·rw[wd.mem];refine⟨fun h=>⟨?_,h⟩,fun h=>h.2⟩;rcases h.2 with⟨j,j1,rfl⟩|⟨z,hz,rfl⟩
  ·have:=Cal.beg_ge (k:=j) f0 f1 hc (by omega) (by omega);omega
  ·have:=hy0 z hz;omega
 ·obtain⟨h1,h2,h3,h4⟩:=wd.sp z hz;exact⟨h1,h2,h3,by rw[h4];exact decide_eq_true_iff⟩
theorem zpS{zs:List (V×Pl)}(h:zgr zs)(nm:List Nat):0≤(plF zs nm).1∧0≤(plF zs nm).2:=by
 unfold plF;cases e:(zs.filter fun z=>decide (z.2.1=nm))[0]? with
 |none=>exact⟨Int.le_refl _,Int.le_refl _⟩
 |some z=>
  have:=h.2.2 z (List.mem_filter.mp (List.mem_of_getElem? e)).1;exact⟨this.1.1,this.2.1⟩
theorem zny{zs:List (V×Pl)}(hz:zgr zs){sb se b e:Int}{d:List D}(hd:StX zs d)(h2:b≤e)(h3:sb<se):0≤zbT zs sb se b e d:=by
 obtain⟨d0,n,wd,rfl,_,n0,_⟩:=hd;unfold zbT;split
 ·rename_i nm st wd' heq;split
  ·have p:=zpS hz nm;have e1:st=n:=by injection heq with _ h;injection h with h _;injection h with h;exact h.symm
   unfold zhN;have q:0≤(plF zs nm).1*st:=Int.mul_nonneg p.1 (by omega);have m:(plF zs nm).1*st*(b - sb)≤(plF zs nm).1*st*(e - sb):=Int.mul_le_mul_of_nonneg_left (by omega) q;have c0:0<(if (plF zs nm).2=0 then se - sb else (plF zs nm).2):=by split<;>omega
   have:=Int.ediv_le_ediv c0 m;omega
  ·exact Int.le_refl _
 ·exact Int.le_refl _
theorem zqH{K:Fg}{H:Hp}{f:Int}{dy:Bool}{c:Int}{zs:List (V×Pl)}{ys:List En}(mo:Int)(f0:0≤f)(f1:f≤3500000)(hc:Cal.CycOk dy c)(hz:zgr zs)(hY:EnX zs f (Cal.beg f dy c 60) K H ys): ∃G,GL f dy c ys mo G∧ ∀o sb se b e,b≤e→sb<se→0≤zbT zs sb se b e (G o):=by
 obtain⟨G,hG⟩:=zqE mo f0 f1 hc hY;obtain⟨ts0,h0⟩: ∃ts0:List Tm,ts0=(zaE ys mo).map fun k=>((0:Addr),(0:Addr),k,(ys.getD k.toNat (.non,0,0, .back)).2.2.2):=⟨_,rfl⟩
 have e0:ts0.map (rtT f dy c)=(zaE ys mo).map (rtK f dy c ys):=by rw[h0,List.map_map];rfl
 obtain⟨_,ki⟩:=zfG (mo:=mo) hY.2.2.1 hY.2.2.2.1;have at0: ∀t∈ts0,∃z∈ys,zcg z.2.2.2=true∧t.2.2.2=z.2.2.2:=fun t ht=>by
  rw[h0] at ht;obtain⟨k,hk,rfl⟩:=List.mem_map.mp ht;obtain⟨z,k0,e1,tm⟩:=ki k hk;refine⟨z,List.mem_of_getElem? e1,tm,?_⟩;show (ys.getD k.toNat (.non,0,0, .back)).2.2.2=_;rw[List.getD_eq_getElem?_getD,e1];rfl
 refine⟨fun o=>open Classical in if StX zs (G o) then G o else [],fun ts er ts' m d o0 o1 o2 hs=> ?_,fun o sb se b e h1 h2=> ?_⟩
 ·have g:=hG ts er ts' m d o0 o1 o2 hs;have mm: ∀t,t∈ts0.map (rtT f dy c)↔t∈ts'.map (rtT f dy c):=fun t=>by
   rw[e0,←er];constructor
   ·intro h;obtain⟨x,hx,rfl⟩:=List.mem_map.mp h;exact List.mem_map.mpr ⟨x,(m x).mpr hx,rfl⟩
   ·intro h;obtain⟨x,hx,rfl⟩:=List.mem_map.mp h;exact List.mem_map.mpr ⟨x,(m x).mp hx,rfl⟩
  have sx:=st_x (zs:=zs) (fun t ht=>by obtain⟨z,_,h2,h3⟩:=at0 t ht;rw[h3];exact h2) (fun t ht=>by obtain⟨z,h1,h2,h3⟩:=at0 t ht;rw[h3];exact hY.2.2.2.2.2 z h1 h2) (show zfC f dy c ts0 d o0 o1 o2 from⟨hs.1.mem mm,hs.2.1.mem mm,hs.2.2.mem mm⟩);rw[g] at sx ⊢;exact(if_pos sx).symm
 ·dsimp only;split
  ·rename_i sx;exact zny hz sx h1 h2
  ·exact Int.le_refl _
theorem zqI{K:Fg}{H:Hp}{f:Int}{dy:Bool}{c:Int}{zs:List (V×Pl)}{ys:List En}(f0:0≤f)(f1:f≤3500000)(hc:Cal.CycOk dy c)(hz:zgr zs)(hY:EnX zs f (Cal.beg f dy c 60) K H ys): ∃Gm:Int→Int→List D,(∀m,GL f dy c ys m (Gm m))∧(∀x y,zaE ys x=zaE ys y→Gm x=Gm y)∧ ∀m o sb se b e,b≤e→sb<se→0≤zbT zs sb se b e (Gm m o):=by
 obtain⟨Gn,hn⟩: ∃Gn:List Int→Int→List D,∀L,(∀m,zaE ys m=L→GL f dy c ys m (Gn L))∧ ∀o sb se b e,b≤e→sb<se→0≤zbT zs sb se b e (Gn L o):=Classical.axiomOfChoice (r:=fun(L:List Int) (G:Int→List D)=>(∀m,zaE ys m=L→GL f dy c ys m G)∧ ∀o sb se b e,b≤e→sb<se→0≤zbT zs sb se b e (G o)) fun L=>by
  by_cases h: ∃m,zaE ys m=L
  ·obtain⟨m,rfl⟩:=h;obtain⟨G,hG,hn⟩:=zqH m f0 f1 hc hz hY;exact⟨G,fun m' e=>fun ts et=>hG ts (by rw[et,e]),hn⟩
  ·exact⟨fun _=> [],fun m e=>absurd ⟨m,e⟩ h,fun _ _ _ _ _ _ _=>Int.le_refl _⟩
 exact⟨fun m=>Gn (zaE ys m),fun m=>(hn _).1 m rfl,fun x y e=>by dsimp only;rw[e],fun m=>(hn _).2⟩
theorem zpT{f:Int}{dy:Bool}{c:Int}{zs:List (V×Pl)}{Gm:Int→Int→List D}(f0:0≤f)(f1:f≤3500000)(hc:Cal.CycOk dy c)(nn: ∀m o sb se b e,b≤e→sb<se→0≤zbT zs sb se b e (Gm m o))(m:Int){k:Int}(k0:0≤k)(k1:k<60):0≤cstF f dy c zs Gm m k:=by
 have bw:=zfy f0 f1 hc k0 k1;unfold cstF cK Sb;generalize (Cal.beg f dy c (k+1) - Cal.beg f dy c k).toNat=n;induction n with
 |zero=>exact Int.le_refl _
 |succ n ih=>exact Int.add_nonneg ih (nn _ _ _ _ _ _ (by omega) bw.2.1)
theorem zfK{a b:List Nat}(h:V.str (SL a)=V.str (SL b)):a=b:=by
 rw[V.str.injEq,zcR] at h;exact h
theorem zkc{a b c d:Int}:(HT.lexLt [a,b] [c,d]=true)=(a<c∨a=c∧b<d):=by
 rw[HT.lexLt_cons,HT.lexLt_cons,HT.lexLt_nil_nil];by_cases h:a=c
 ·rw[if_pos h];by_cases g:b=d
  ·rw[if_pos g];exact propext ⟨fun z=>absurd z (by decide),fun z=>by omega⟩
  ·rw[if_neg g,decide_eq_true_eq];exact propext ⟨fun z=> .inr ⟨h,z⟩,fun z=>by omega⟩
 ·rw[if_neg h,decide_eq_true_eq];exact propext ⟨fun z=> .inl z,fun z=>by omega⟩
theorem zmx(kvs:List (Key×V))(k:Key)(v:V):(zbS kvs k v).length≤kvs.length+1:=by
 unfold zbS;split
 ·rw[List.length_map];exact Nat.le_succ _
 ·rw[List.length_append];exact Nat.le_refl _
theorem znz{w:List Nat}(h:w=za9∨w=zaY∨w=za1∨w=zbr): ∃j:Nat, [za9,zaY,za1,zbr][j]? =some w∧(∀m,m<j→ [za9,zaY,za1,zbr][m]? ≠some w)∧j<1000∧(j:Int)=kNo w:=by
 rcases h with rfl|rfl|rfl|rfl
 ·exact⟨0,rfl,fun m h=>absurd h (by omega),by decide,rfl⟩
 ·exact⟨1,rfl,fun m h=>by
                 obtain rfl:m=0:=by omega
                 decide,by decide,rfl⟩
 ·exact⟨2,rfl,fun m h=>by
   rcases (show m=0∨m=1 by omega) with rfl|rfl<;>decide,by decide,rfl⟩
 ·exact⟨3,rfl,fun m h=>by
   rcases (show m=0∨m=1∨m=2 by omega) with rfl|rfl|rfl<;>decide,by decide,rfl⟩
def zqJ(K:Fg):Sp:=fun vs H Q _=> ∃(lr:Addr) (ws:List (Addr×Ln)),vs= [.ref lr]∧H lr=some (.lst (ws.map fun w=>V.ref w.1))∧zbw H ws∧ws.length≤20000∧zbP (ws.map (·.2)) (-1) 0∧zbW (ws.map (·.2)) (fun _=>none)∧ ∀H',Kp H H'→Q (.bl true) H'
theorem sc_1a:FnScope ["_law_lines","_law_last","_law_seen","_law_line","_law_place"] ["_law_lines"] (zak s_1a):=by sl_open
theorem ok_1a(T:Txt w K mg t):FnOk P w K mg base (CXE P w) 1 t.a_1a t.d_1a ["_law_lines"] (zqJ K):=by
 refine T.F_1a.fn.okX sc_1a ?_ fun cdv A outer s H vs Q E L hr h=> ?_
 ·kdl_open
 obtain⟨lr,ws,rfl,hl,hW,w2,hP,hS,q⟩:=h;have nd:=sc_1a.nd;refine⟨_,(zad (psJ 1 nd (zaz (zaa (zeL zcW zac) (zaa zac zae zaf)))) (zad (psJ 2 nd zdT) (zad (zbs (by passes_own) rfl (zbm (pvJ 0)) (zai (i:=3) nd rfl (Or.inl rfl)) (zad (psJ 4 nd (zaz (zaa (ixJ zaq (pvJ 3) zac) (zaa (zb4 PySem.F.plainAttrs_list PySem.F.slot_list_index PySem.F.type_list_index zjY (zaB (zaa (zax st_14) (zaa (zax st_15) (zaa (zax st_17) (zaa (zax st_16) zae zaf) zaf) zaf) zaf)) (zaa (ixJ zaq (pvJ 3) zac) zae)) zae zaF) zar))) (zad (zdA (zay (PWQ.pq (zck (zcF (zbq (zol hr.units0) (pvJ 4) (pvJ 1) (za3 _))) (zca (PWQ.pq (zb2 (zcF (znY (zk5 (zc3 hr) (ixJ zaq (pvJ 3) zac) (pvJ 2)))) (zb2 (zbC (zmX (zc3 hr) (pvJ 2) (ixJ zaq (pvJ 3) zac) (fun _ _=>rfl)) (ixJ zaq (pvJ 3) zac)) (zbO (zgg (ixJ zaq (pvJ 3) zac) (zax st_14))))))))) (zag (zap zdJ)) zav)) (zad (psJ 1 nd (pvJ 4)) (zag (zay (PWQ.pq (zck (zbC (ixJ zaq (pvJ 3) zac) (zax st_15)) (zca (zbC (ixJ zaq (pvJ 3) zac) (zax st_17))))) (zad (zdA (zay (zgg (znX (zk5 (zc3 hr) (ixJ zaq (pvJ 3) zac) (pvJ 2))) (zbG zcY (ixJ zaq (pvJ 3) zac) (zax st_15) (za3 _))) (zag (zap zdJ)) zav)) (zag (zdS (zc3 hr) (pvJ 2) (ixJ zaq (pvJ 3) zac) (ixJ zaq (pvJ 3) zac) rfl))) zav)))))) (zag (zap zdJ))))),?_⟩;open_k0;intro p0 H1 _ s1 e1 sd H2 hsd s2 e2;have s12:=s1.trans s2
 ((try dsimp only);refine zbE fun R hR=> ?_;(open_k0;repeat (dsimp only[zbB,zb5,zbU,zb7];open_k0)))
 refine⟨⟨_,SqL.of (s12 _ _ hl)⟩,hR _ _ ?_⟩;clear hR;obtain⟨Pv,hPv⟩: ∃Pv:Nat→St→Hp→Prop,Pv=fun i σ1 H5=>Kp H H5∧ ∃(p:Addr) (d0 i0:Int) (kvs:List (Key×V)) (g:Int→Option Int) (x3 x4:Option V),H5 p=some (.tup [.int d0, .int i0])∧H5 sd=some (.dK kvs)∧(∀j:Int,zbF kvs (Sum.inl j)=(g j).map V.int)∧kvs.length≤i∧zbP ((ws.drop i).map (·.2)) d0 i0∧zbW ((ws.drop i).map (·.2)) g∧σ1= [some (.ref lr),some (.ref p),some (.ref sd),x3,x4]:=⟨_,rfl⟩
 refine zb3 (xs:=ws.map fun w=>V.ref w.1) Pv (by rw[hPv];exact⟨Kp.of_same s12,p0, -1,0, [],fun _=>none,_,_,s2 _ _ e1,e2,fun _=>rfl,Nat.le_refl _,hP,hS,rfl⟩) (fun _ _ _ _ h=>by rw[hPv] at h;exact SqL.of (h.1.lst hl)) (fun i x σ1 H5 hx h=> ?_) (fun σ1 H5 h=> ?_)
 ·rw[hPv] at h;obtain⟨k5,p,d0,i0,kvs,g,x3,x4,ep,es,hv,kl,hp,hs,rfl⟩:=h;rw[List.getElem?_map] at hx;obtain⟨y,hy,rfl⟩:=Option.map_eq_some_iff.mp hx;have il:=(List.getElem?_eq_some_iff.mp hy).1;have ed:ws.drop i=y::ws.drop (i+1):=by rw[List.drop_eq_getElem_cons il,(List.getElem?_eq_some_iff.mp hy).2]
  rw[ed,List.map_cons] at hp hs;have ey:=hW.keep k5 y (List.mem_of_getElem? hy);unfold LnV at ey;have ty:=SqT.of (K:=K) ey
  (open_k0;repeat (dsimp only[tBM];open_k0))
  refine ixT ty (zbA _ _) fun lk H6 _ s6 e6=>⟨.inl ⟨rfl,_,SqL.of e6⟩,ixT (s6.sqT ty) (zcb _ _ _) ?_⟩
  obtain⟨j,hj,hno,j4,jk⟩: ∃j:Nat, [za9,zaY,za1,zbr][j]? =some y.2.2.1∧(∀m,m<j→ [za9,zaY,za1,zbr][m]? ≠some y.2.2.1)∧j<1000∧(j:Int)=kNo y.2.2.1:=znz (by
   rcases hs.1 with h|h|h|h
   ·exact .inl h
   ·exact .inr (.inr (.inr h.1))
   ·exact .inr (.inr (.inl h.1))
   ·exact .inr (.inl h.1))
  refine⟨lk, [za9,zaY,za1,zbr],_,j,rfl,rfl,e6,hj,hno,j4,fun pl H7 _ s7 e7=> ?_⟩;rw[jk] at e7;have s57:=s6.trans s7;have t7:=s57.sqT ty;obtain⟨R,hR⟩: ∃R:St→Hp→Prop,R=fun σ' H'=>zam H7 H'∧σ'= [some (.ref lr),some (.ref p),some (.ref sd),some (.ref y.1),some (.ref pl)]:=⟨_,rfl⟩
  refine⟨R,?_,fun σ2 H8 h8=> ?_⟩
  ·open_k0;refine⟨pl,p, [y.2.1,kNo y.2.2.1], [d0,i0],rfl,rfl,SqT.of e7,SqT.of (s57 _ _ ep),_,rfl,za0 ?_ ?_⟩
   ·rw[zkc]
    have:=hp.1;omega
   refine ixT t7 (zd4 _ _ _ _) ⟨_,zc8.k (k:=Sum.inl y.2.2.2.1) (s57 _ _ es),?_⟩;rw[hv];refine zaX (fun h1=>ixT t7 (zd4 _ _ _ _) ?_) (fun _=>by rw[hR];exact⟨zam.refl _,rfl⟩);obtain⟨d,hd⟩: ∃d,g y.2.2.2.1=some d:=by
    cases h:g y.2.2.2.1 with
    |none=>rw[h] at h1;cases h1
    |some d=>exact⟨d,rfl⟩
   refine⟨.int d,(show zbF kvs (Sum.inl y.2.2.2.1)=some (.int d) by rw[hv,hd];rfl) ▸ zc8.k (k:=Sum.inl y.2.2.2.1) (s57 _ _ es),ixT t7 (zbA _ _) ⟨rfl,zaX (fun h2=>ixT t7 (zcb _ _ _) ⟨rfl,?_⟩) (fun _=>by rw[hR];exact⟨zam.refl _,rfl⟩)⟩⟩;rcases hs.1 with h|h|h|⟨h,d',e',n'⟩
   ·exact za0 (fun z=>z (by rw[h];rfl)) (by rw[hR];exact⟨zam.refl _,rfl⟩)
   ·rw[h.2] at hd;cases hd
   ·rw[h.2] at hd;cases hd
   ·rw[hd] at e';cases e';exact absurd (V.int.inj h2) n'
  rw[hR] at h8;obtain⟨s8,rfl⟩:=h8;open_k0;clear hR;have s58:=s57.trans s8;have t8:=s58.sqT ty;have k8:=k5.trans (Kp.of_same s58);have es8:=s58 _ _ es;have e78:=s8 _ _ e7;have fr:Fr H sd:=(Kp.of_same s1).fr hsd;have nx: ∀H9,zam H8 H9→zbP ((ws.drop (i+1)).map (·.2)) y.2.1 (kNo y.2.2.1):=fun _ _=>hp.2;have go:y.2.2.1=zaY∨y.2.2.1=za1→zqb (zhC (zlI (zoA (tOp (zfN K) (zdc 3) (tC (V.int 2))) (zdc 2)) (tOp rEq (tOp (zfN K) (zdc 3) (tC (V.int 1))) (tC (V.str (SL [114,105,103,104,116]))))) (zkk (tC (V.bl false))) zkh) {nx:=zk4 (zdc 2) (tOp (zfN K) (zdc 3) (tC (V.int 2))) (tOp (zfN K) (zdc 3) (tC (V.int 0))) {nx:=Pv (i+1),rt:=Q,bk:=zkk (tC (V.bl true)) {nx:=fun x H'=>Q V.non H',rt:=Q},ct:=Pv (i+1)},rt:=Q,bk:=zkk (tC (V.bl true)) {nx:=fun x H'=>Q V.non H',rt:=Q},ct:=Pv (i+1)} [some (.ref lr),some (.ref pl),some (.ref sd),some (.ref y.1),some (.ref pl)] H8:=fun hw=>by
   obtain⟨R,hR⟩: ∃R:St→Hp→Prop,R=fun σ' H'=>H'=H8∧σ'= [some (.ref lr),some (.ref pl),some (.ref sd),some (.ref y.1),some (.ref pl)]:=⟨_,rfl⟩
   refine⟨R,?_,fun σ2 H9 h9=> ?_⟩
   ·open_k0;refine ixT t8 (zd4 _ _ _ _) ⟨_,zc8.k (k:=Sum.inl y.2.2.2.1) es8,ixT t8 (zcb _ _ _) ⟨rfl,za0 (fun z=>z ?_) (by rw[hR];exact⟨rfl,rfl⟩)⟩⟩;rw[hv];rcases hw with hw|hw
    ·obtain⟨d,e⟩: ∃d,g y.2.2.2.1=some d:=by
      rcases hs.1 with h|h|h|⟨_,d,e,_⟩
      ·rw[hw] at h;exact absurd h (by decide)
      ·have:=h.1;rw[hw] at this;exact absurd this (by decide)
      ·have:=h.1;rw[hw] at this;exact absurd this (by decide)
      ·exact⟨d,e⟩
     rw[e,hw];exact(decide_eq_true rfl).symm
    ·have e:g y.2.2.2.1=none:=by
      rcases hs.1 with h|h|h|⟨h,_⟩
      ·rw[hw] at h;exact absurd h (by decide)
      ·have:=h.1;rw[hw] at this;exact absurd this (by decide)
      ·exact h.2
      ·rw[hw] at h;exact absurd h (by decide)
     rw[e,hw];exact(decide_eq_false (zbg (by decide))).symm
   rw[hR] at h9;obtain⟨rfl,rfl⟩:=h9;open_k0;refine ixT t8 (zbA _ _) (ixT t8 (zd4 _ _ _ _) ⟨_,zeZ.k (k:=Sum.inl y.2.2.2.1) es8 (by rw[sizeLine_eq];omega),?_⟩);rw[hPv];refine⟨k8.put fr,pl,y.2.1,kNo y.2.2.1,_,zcI g y.2,_,_,zaQ.dict (K:=K) es8 _ _ _ e78,zao,fun j'=> ?_,Nat.le_trans (zmx ..) (by omega),hp.2,hs.2,rfl⟩;rw[zkZ];unfold zcI;by_cases e:j'=y.2.2.2.1
   ·rw[if_pos (by rw[e]),if_pos ⟨hw,e⟩];rfl
   ·rw[if_neg (fun z=>e (Sum.inl.inj z)),if_neg (fun z=>e z.2)];exact hv j'
  refine ixT t8 (zcb _ _ _) ⟨rfl,zaX (fun h=>go (.inl (zfK h))) fun n1=>ixT t8 (zcb _ _ _) ⟨rfl,zaX (fun h=>go (.inr (zfK h))) fun n2=> ?_⟩⟩;rw[hPv];have e1:zcI g y.2=g:=by
   funext j';unfold zcI;rw[if_neg (fun z=>by
    rcases z.1 with h|h
    ·exact n1 (by rw[h];rfl)
    ·exact n2 (by rw[h];rfl))]
  rw[zbW,e1] at hs;exact⟨k8,pl,_,_,kvs,g,_,_,e78,es8,hv,by omega,hp.2,hs.2,rfl⟩
 ·rw[hPv] at h;obtain⟨k5,p,d0,i0,kvs,g,x3,x4,ep,es,hv,kl,hp,hs,rfl⟩:=h;open_k0;exact q H5 k5
def zbR(day:Int)(ls:List Ln):Pt:=(ls.filter fun z=>decide (z.1≤day)).foldl tk1 (0,0, [])
theorem ziM{day:Int}{ls:List Ln}{z:Ln}:zbR day (ls++ [z])=if z.1≤day then tk1 (zbR day ls) z else zbR day ls:=by
 unfold zbR;rw[List.filter_append,List.foldl_append];by_cases h:z.1≤day
 ·rw[if_pos h,List.filter_cons,if_pos (decide_eq_true h)];rfl
 ·rw[if_neg h,List.filter_cons,if_neg (fun q=>h (of_decide_eq_true q))];rfl
theorem zg3(s:Pt)(z:Ln):(tk1 s z).2.2.length≤s.2.2.length+1:=by
 unfold tk1;split
 ·exact Nat.le_succ _
 ·split
  ·exact Nat.le_succ _
  ·exact zfi ..
def znA(K:Fg):Sp:=fun vs H Q _=> ∃(lr:Addr) (ws:List (Addr×Ln)) (day:Int),vs= [.ref lr, .int day]∧H lr=some (.lst (ws.map fun w=>V.ref w.1))∧zbw H ws∧ws.length≤20000∧(∀w∈ws,znl w.2)∧ ∀r d kvs H',Kp H H'→H' r=some (.tup [.ref d, .int (zbR day (ws.map (·.2))).2.1, .int (zbR day (ws.map (·.2))).1])→H' d=some (.dK kvs)→Rows K H' (zbR day (ws.map (·.2))).2.2 kvs→Q (.ref r) H'
theorem sc_1b:FnScope ["_law_lines","_law_day","_law_took","_law_own","_law_given","_law_line","_law_one","_law_other"] ["_law_lines","_law_day"] (zak s_1b):=by sl_open
theorem ok_1b(T:Txt w K mg t):FnOk P w K mg base (CXE P w) 1 t.a_1b t.d_1b ["_law_lines","_law_day"] (znA K):=by
 refine T.F_1b.fn.okX sc_1b ?_ fun cdv A outer s H vs Q E L hr h=> ?_
 ·kdl_open
 obtain⟨lr,ws,day,rfl,hl,hW,w2,hA,q⟩:=h;have nd:=sc_1b.nd;refine⟨_,(zad (psJ 2 nd zdT) (zad (psJ 3 nd zac) (zad (psJ 4 nd zac) (zad (zbs (by passes_own) rfl (zbm (pvJ 0)) (zai (i:=5) nd rfl (Or.inl rfl)) (zag (zay (zaV zkp (ixJ zaq (pvJ 5) zac) (pvJ 1)) (zag (zay (zbC (ixJ zaq (pvJ 5) zac) (zax st_14)) (zag (psJ 4 nd (zah zat (pvJ 4) (ixJ zaq (pvJ 5) zac)))) (zag (zay (zbC (ixJ zaq (pvJ 5) zac) (zax st_16)) (zag (psJ 3 nd (zah zaK (pvJ 3) (ixJ zaq (pvJ 5) zac)))) (zad (zay (zgg (ixJ zaq (pvJ 5) zac) (zah zat (zah zat (ixJ zaq (pvJ 5) zac) (ixJ zaq (pvJ 5) zac)) (ixJ zaq (pvJ 5) zac))) (zag (zap zgw)) zav) (zad (za6 (ze0 (zc3 hr) (pvJ 2) (ixJ zaq (pvJ 5) zac) (zaz (zaa zac (zaa zac zae zaf) zaf)) ⟨by rfl,by rfl,by rfl,by rfl⟩) (zaO (n:=2) rfl (zaj (zai (i:=6) nd rfl (Or.inl rfl)) (zaj (zai (i:=7) nd rfl (Or.inl rfl)) zaJ)))) (zad (zdS (zc3 hr) (pvJ 2) (ixJ zaq (pvJ 5) zac) (zaz (zaa (zah zat (pvJ 6) (ixJ zaq (pvJ 5) zac)) (zaa (zah zat (zah zat (pvJ 7) (ixJ zaq (pvJ 5) zac)) (ixJ zaq (pvJ 5) zac)) zae zan) zan)) rfl) (zad (psJ 4 nd (zah zaK (pvJ 4) (ixJ zaq (pvJ 5) zac))) (zag (psJ 3 nd (zah zaK (pvJ 3) (ixJ zaq (pvJ 5) zac)))))))))))) zav))) (zag (zap (zaz (zaa (pvJ 2) (zaa (pvJ 3) (zaa (pvJ 4) zae zab) zab) zab)))))))),?_⟩;open_k0;intro d H1 hd s1 e1
 ((try dsimp only);refine zbE fun R hR=> ?_;(open_k0;repeat (dsimp only[zbB,zb5,zbU,zb7];open_k0)))
 refine⟨⟨_,SqL.of (s1 _ _ hl)⟩,hR _ _ ?_⟩;clear hR;have fr:Fr H d:=fun u e=>by rw[hd] at e;cases e
 obtain⟨Pv,hPv⟩: ∃Pv:Nat→St→Hp→Prop,Pv=fun i σ1 H5=>Kp H H5∧ ∃(kvs:List (Key×V)) (S:Pt) (x5 x6 x7:Option V),S=zbR day ((ws.take i).map (·.2))∧H5 d=some (.dK kvs)∧Rows K H5 S.2.2 kvs∧S.2.2.length≤i∧σ1= [some (.ref lr),some (.int day),some (.ref d),some (.int S.2.1),some (.int S.1),x5,x6,x7]:=⟨_,rfl⟩
 refine zb3 (xs:=ws.map fun w=>V.ref w.1) Pv (by rw[hPv];exact⟨Kp.of_same s1, [],_,_,_,_,rfl,e1,trivial,Nat.le_refl _,rfl⟩) (fun _ _ _ _ h=>by rw[hPv] at h;exact SqL.of (h.1.lst hl)) (fun i x σ1 H5 hx h=> ?_) (fun σ1 H5 h=> ?_)
 ·rw[hPv] at h;obtain⟨k5,kvs,S,x5,x6,x7,hS,ed,hr0,sl,rfl⟩:=h;rw[List.getElem?_map] at hx;obtain⟨y,hy,rfl⟩:=Option.map_eq_some_iff.mp hx;have ym:=List.mem_of_getElem? hy;have il:=(List.getElem?_eq_some_iff.mp hy).1;have ey:=hW.keep k5 y ym;unfold LnV at ey;have ty:=SqT.of (K:=K) ey;have nx:zbR day ((ws.take (i+1)).map (·.2))=if y.2.1≤day then tk1 S y.2 else S:=by
   rw[List.take_add_one,hy,Option.toList_some,List.map_append,hS];exact ziM
  have am:=hA y ym;open_k0;refine ixT ty (zbA _ _) ⟨_,rfl,zaX (fun c=> ?_) (fun c=> ?_)⟩
  ·rw[if_pos c] at nx;refine ixT ty (zcb _ _ _) ⟨rfl,zaX (fun g1=> ?_) fun g1=>ixT ty (zcb _ _ _) ⟨rfl,zaX (fun g2=> ?_) fun g2=> ?_⟩⟩
   ·refine ixT ty (znq _ _ _ _ _) ⟨_,rfl,?_⟩;rw[hPv];have e:tk1 S y.2=(S.1+y.2.2.2.2.1,S.2):=by unfold tk1;rw[if_pos (show y.2.2.1=za9 from zfK g1)]
    exact⟨k5,kvs,_,_,_,_,nx.symm,ed,by rw[e];exact hr0,Nat.le_trans (zg3 ..) (by omega),by rw[e]⟩
   ·refine ixT ty (znq _ _ _ _ _) ⟨_,rfl,?_⟩;rw[hPv];have e:tk1 S y.2=(S.1,S.2.1 - y.2.2.2.2.1,S.2.2):=by unfold tk1;rw[if_neg (fun h=>g1 (by rw[h];rfl)),if_pos (show y.2.2.1=zbr from zfK g2)]
    exact⟨k5,kvs,_,_,_,_,nx.symm,ed,by rw[e];exact hr0,Nat.le_trans (zg3 ..) (by omega),by rw[e]⟩
   have n1: ¬y.2.2.1=za9:=fun h=>g1 (by rw[h];rfl);have n2: ¬y.2.2.1=zbr:=fun h=>g2 (by rw[h];rfl);have ae:y.2.2.2.2.1=y.2.2.2.2.2.1+y.2.2.2.2.2.2.1+y.2.2.2.2.2.2.2:=by
    rcases am with h|h|h
    ·exact absurd h n1
    ·exact absurd h n2
    ·exact h.2
   refine ixT ty (znq _ _ _ _ _) (ixT ty (v:= .int y.2.2.2.2.2.1) rfl (ixT ty (v:= .int y.2.2.2.2.2.2.1) rfl ⟨_,rfl,_,rfl,ixT ty (v:= .int y.2.2.2.2.2.2.2) rfl ⟨_,rfl,rfl,za0 (fun z=>z (by rw[ae])) ⟨.inl ⟨_,Rd.of ed⟩,ixT ty (zd4 _ _ _ _) fun z0 H6 _ s6 e6=>⟨_,zc8.k (k:=Sum.inl y.2.2.2.1) (s6 _ _ ed),?_⟩⟩⟩⟩));obtain⟨pt,hpt,ept⟩: ∃pt,(zbF kvs (Sum.inl y.2.2.2.1)).getD (.ref z0)= .ref pt∧H6 pt=some (.tup [.int (zaw S.2.2 y.2.2.2.1).1, .int (zaw S.2.2 y.2.2.2.1).2]):=by
    rcases hr0.val y.2.2.2.1 with⟨e,et⟩|⟨pt,e,hs⟩
    ·exact⟨z0,by rw[e];rfl,by rw[et];exact e6⟩
    ·exact⟨pt,by rw[e];rfl,s6 _ _ hs⟩
   rw[hpt];refine⟨pt,_,rfl,SqT.of ept,rfl,?_⟩;open_k0;have ty6:=s6.sqT ty;refine ixT ty6 (v:= .int y.2.2.2.2.2.1) rfl ⟨_,rfl,ixT ty6 (v:= .int y.2.2.2.2.2.2.1) rfl ⟨_,rfl,ixT ty6 (v:= .int y.2.2.2.2.2.2.2) rfl ⟨_,rfl,fun pq H7 _ s7 e7=> ?_⟩⟩⟩;have s67:=s6.trans s7;have ty7:=s67.sqT ty;have ed7:=s67 _ _ ed;refine ixT ty7 (zd4 _ _ _ _) ⟨_,zeZ.k (k:=Sum.inl y.2.2.2.1) ed7 (by rw[hr0.len,sizeLine_eq];omega),?_⟩;have kd:=zaQ.dict (K:=K) ed7 (.dK (zbS kvs (Sum.inl y.2.2.2.1) (.ref pq)));have ty8:=SqT.of (K:=K) (kd _ _ (s67 _ _ ey));have rows8:=((hr0.keep (zaQ.of_same s67)).keep kd).put (k:=y.2.2.2.1) (kd _ _ e7);refine ixT ty8 (v:= .int y.2.2.2.2.2.1) rfl ⟨_,rfl,ixT ty8 (v:= .int y.2.2.2.2.2.2.1) rfl ⟨_,rfl,?_⟩⟩;rw[hPv];have e:tk1 S y.2=(S.1 - y.2.2.2.2.2.1,S.2.1 - y.2.2.2.2.2.2.1,zbJ S.2.2 y.2.2.2.1 ((zaw S.2.2 y.2.2.2.1).1+y.2.2.2.2.2.1,(zaw S.2.2 y.2.2.2.1).2+y.2.2.2.2.2.2.1+y.2.2.2.2.2.2.2)):=by unfold tk1;rw[if_neg n1,if_neg n2]
   exact⟨(k5.trans (Kp.of_same s67)).put fr,_,_,_,_,_,nx.symm,zao,by rw[e];exact rows8,Nat.le_trans (zg3 ..) (by omega),by rw[e]⟩
  ·rw[hPv];rw[if_neg c] at nx;exact⟨k5,kvs,S,_,_,_,nx.symm,ed,hr0,by omega,rfl⟩
 ·rw[hPv] at h;obtain⟨k5,kvs,S,x5,x6,x7,hS,ed,hr0,sl,rfl⟩:=h;rw[List.length_map,List.take_length] at hS;open_k0;intro r H6 _ s6 e6;subst hS;exact q r d kvs H6 (k5.trans (Kp.of_same s6)) e6 (s6 _ _ ed) (hr0.keep (zaQ.of_same s6))
theorem Rows.has{H:Hp}(k:Int): ∀{T:Tab} {kvs:List (Key×V)},Rows K H T kvs→k∈T.map (·.1)→zbF kvs (Sum.inl k)≠none
 | [], [],_,h=>nomatch h
 |z::r,kv::s,⟨⟨h1,p,h2,h3⟩,h⟩,m=>by
  by_cases e:z.1=k
  ·rw[zbd (by rw[h1,e])];exact nofun
  ·rw[zbe (by rw[h1];exact fun q=>e (Sum.inl.inj q))];rw[List.map_cons] at m;rcases List.mem_cons.mp m with q|q
   ·exact absurd q.symm e
   ·exact h.has k q
 | [],_::_,h,_=>h.elim
 |_::_, [],h,_=>h.elim
def zq5(K:Fg):Sp:=fun vs H Q _=> ∃(lr pa le la:Addr) (f:Int) (dy:Bool) (c:Int) (zs:List (V×Pl)) (ys:List En) (Gm:Int→Int→List D) (e:Int) (ws:List (Addr×Ln)) (C:Nat) (S:Pt),vs= [.ref lr, .ref pa, .ref le, .int e]∧zcy K H pa la f dy c zs∧H le=some (.lst (ys.map (·.1)))∧EnX zs f (Cal.beg f dy c 60) K H ys∧(∀m,GL f dy c ys m (Gm m))∧H lr=some (.lst (ws.map fun w=>V.ref w.1))∧zbw H ws∧ws.length≤20000∧(∀w∈ws,znl w.2)∧(C≤60∧(∀i:Nat,i<C→Cal.beg f dy c i≤e)∧e<Cal.beg f dy c C)∧S=zbR e (ws.map (·.2))∧(0≤S.1∧0≤S.2.1∧zbv S.2.2 C)∧(∀i:Nat,i<C→0≤(zaw S.2.2 i).1∧0≤(zaw S.2.2 i).2∧tkS S i=cstF f dy c zs Gm e i)∧ ∀H',Kp H H'→Q (.bl true) H'
theorem sc_1c:FnScope ["_law_lines","_law_account_here","_law_entries_here","_law_day","_law_known","_law_terms","_law_begun","_law_one","_law_other"] ["_law_lines","_law_account_here","_law_entries_here","_law_day"] (zak s_1c):=by sl_open
theorem ok_1c(T:Txt w K mg t):FnOk P w K mg base (CXE P w) 12 t.a_1c t.d_1c ["_law_lines","_law_account_here","_law_entries_here","_law_day"] (zq5 K):=by
 refine T.F_1c.fn.okX sc_1c ?_ fun cdv A outer s H vs Q E L hr h=> ?_
 ·kdl_open
 obtain⟨lr,pa,le,la,f,dy,c,zs,ys,Gm,e,ws,C,S,rfl,hz,hS,hY,hG,hl,hW,w2,hA,⟨C60,c1,c2⟩,rfl,⟨S1,S2,hK⟩,hC,q⟩:=h;have nd:=sc_1c.nd;refine⟨_,(zad (psJ 4 nd (peD L.toLv (ok_1b T) hr T.F_1b (zaa (pvJ 0) (zaa (pvJ 3) zae zab) zab))) (zad (zay (PWQ.pq (zck (zcF (zbq zkq (pvJ 4) zgw (za3 _))) (zck (zaV zbL (ixJ zaq (pvJ 4) zac) zac) (zca (zaV zbL (ixJ zaq (pvJ 4) zac) zac))))) (zag (zap zdJ)) zav) (zad (psJ 5 nd (peD L.toLv (ok_0p T) hr T.F_0p (zaa (pvJ 2) (zaa (pvJ 3) zae zab) zab))) (zad (psJ 6 nd zac) (zad (zeJ (by passes_own) (zbq zio (peD L.toLv (ok_08 T) hr T.F_08 (zaa (ixJ zaq (pvJ 1) zac) (zaa (ixJ zaq (pvJ 1) zac) (zaa (pvJ 6) zae zab) zar) zar)) (pvJ 3) (za3 _)) (zad (za6 (ze0 (zc3 hr) (ixJ zaq (pvJ 4) zac) (pvJ 6) (zaz (zaa (zeL zcW zac) (zaa zac zae zaf))) ⟨by rfl,by rfl,by rfl,by rfl⟩) (zaO (n:=2) rfl (zaj (zai (i:=7) nd rfl (Or.inl rfl)) (zaj (zai (i:=8) nd rfl (Or.inl rfl)) zaJ)))) (zad (zay (PWQ.pq (zck (zaV zbL (pvJ 7) zac) (zck (zaV zbL (pvJ 8) zac) (zca (zgg (zah zat (pvJ 7) (pvJ 8)) (peD L.toLv (ok_0m T) hr T.F_0m (zaa (pvJ 1) (zaa (pvJ 5) (zaa (pvJ 6) zae zab) zab) zab))))))) (zag (zap zdJ)) zav) (zag (psJ 6 nd (zah zat (pvJ 6) zac)))))) (zag (zap (zbG zcY (zaM zik (by rfl) T.no_len zdy (zaa (ixJ zaq (pvJ 4) zac) zae)) (pvJ 6) (za3 _))))))))),?_⟩;obtain⟨pc,f0,f1,hc,ep⟩:=id hz.1;open_k0;refine⟨lr,ws,e,rfl,hl,hW,w2,hA,fun r d kvs H1 k1 e1 ed hr0=> ?_⟩;generalize zbR e (ws.map (·.2))=S at*;have t1:=SqT.of (K:=K) e1;refine za0 (fun z=>nomatch z) (ixT t1 (zcb _ _ _) ⟨_,rfl,za0 (by omega) (ixT t1 (zd4 _ _ _ _) ⟨_,rfl,za0 (by omega) ?_⟩)⟩);have hY1:=hY.kp k1;refine⟨le,ys,e,rfl,SqL.of (k1.lst hS),hY1.1,hY.2.1,hY.2.2.1,hY.2.2.2.1,fun rt as H2 _ s2 e2 t2=> ?_⟩;obtain⟨ts,tA,tk,tz⟩:=zfH dy c hY.2.2.1 hY.2.2.2.1 hY.2.1 (hY1.1.same s2) hY.2.2.2.2.1 e2 t2;have hx:=(hY1.same s2).tmx (fun t h=>(tA.2.2.1 t h).2.2.1) tz;have hGt:=hG e ts tk;have hz2:=(hz.kp k1).same s2;have hT2:=SqT.of (K:=K) (s2 _ _ (k1.tup ep));have hc2:zew K H2 pc dy c:=⟨s2.sqT (k1.sqT hc.1),hc.2⟩
 have ed2:=s2 _ _ ed;have r2:=hr0.keep (zaQ.of_same s2);have t12:=s2.sqT t1;obtain⟨Pv,hPv⟩: ∃Pv:St→Hp→Prop,Pv=fun σ1 H5=>zam H2 H5∧ ∃(n:Nat) (x7 x8:Option V),n≤C∧σ1= [some (.ref lr),some (.ref pa),some (.ref le),some (.int e),some (.ref r),some (.ref rt),some (.int (n:Int)),x7,x8]:=⟨_,rfl⟩
 obtain⟨mu,hmu⟩: ∃mu:St→Hp→Nat,mu=fun σ1 _=>(match σ1 with| [_,_,_,_,_,_,some (.int n),_,_]=>(60 - n).toNat|_=>0):=⟨_,rfl⟩
 refine zg9 Pv mu (by rw[hPv];exact⟨zam.refl _,0,_,_,Nat.zero_le _,rfl⟩) (fun σ1 H5 h=> ?_) ?_
 ·rw[hPv] at h;obtain⟨s5,n,x7,x8,nC,rfl⟩:=h;open_k0;have hT5:=s5.sqT hT2;refine ixT hT5 (zcb _ _ _) (ixT hT5 (zd4 _ _ _ _) ⟨f,pc,dy,c,n,rfl,f0,f1,hc2.same s5,fun _ _ H6 s6=>⟨_,rfl,?_⟩,fun z=>absurd z (by omega),fun z=>absurd z (by omega)⟩);have s26:=s5.trans s6;refine zaX (fun cb=> ?_) fun cb=> ?_
  ·have nlt:n<C:=by
    rcases Nat.lt_or_ge n C with h|h
    ·exact h
    ·obtain rfl:n=C:=by omega
     omega
   obtain⟨g1,g2,g3⟩:=hC n nlt;refine ixT (s26.sqT t12) (zbA _ _) ⟨d,rfl, .inl ⟨_,Rd.of (s26 _ _ ed2)⟩,fun z0 H7 _ s7 e7=>⟨_,zc8.k (k:=Sum.inl (n:Int)) (s7 _ _ (s26 _ _ ed2)),?_⟩⟩;have s27:=s26.trans s7;obtain⟨pt,hpt,ept⟩: ∃pt,(zbF kvs (Sum.inl (n:Int))).getD (.ref z0)= .ref pt∧H7 pt=some (.tup [.int (zaw S.2.2 n).1, .int (zaw S.2.2 n).2]):=by
    rcases r2.val n with⟨e,_⟩|⟨pt,e,hs⟩
    ·exact absurd e (r2.has n (hK.mem.mpr ⟨by omega,by omega⟩))
    ·exact⟨pt,by rw[e];rfl,s27 _ _ hs⟩
   rw[hpt];refine⟨pt,_,rfl,SqT.of ept,rfl,?_⟩;open_k0;refine za0 (by omega) (za0 (by omega) ⟨pa,rt,la,f,dy,c,zs,ts,Gm e,n,rfl,hz2.same s27,tA.same s27,hx,hGt,fun _ _ H8 s8=> ?_,fun z=>absurd z (by omega),fun z=>absurd z (by omega)⟩);refine⟨rfl,za0 (fun z=>z (by rw[show (zaw S.2.2 n).1+(zaw S.2.2 n).2=_ from g3];rfl)) ⟨?_,?_⟩⟩
   ·rw[hPv];exact⟨s27.trans s8,n+1,_,_,nlt,rfl⟩
   ·rw[hmu];show (60 - ((n:Int)+1)).toNat<(60 - (n:Int)).toNat;omega
  ·have ne:n=C:=by
    rcases Nat.lt_or_ge n C with h|h
    ·have:=c1 n h;omega
    ·omega
   refine ixT (s26.sqT t12) (zbA _ _) ⟨d,rfl,kvs,s26 _ _ ed2,?_⟩;exact Eq.mpr (congrArg (fun z=>Q (V.bl z) H6) (decide_eq_true (by rw[r2.len,hK.len,ne]))) (q H6 (k1.trans (Kp.of_same (s2.trans s26))))
 ·intro σ1 H1 Q1 Q2 hm h;dsimp only[zdd,tOp,zgC,zkv,zku,zdc,tC,rJ0] at h ⊢;simp only[zdY,zcv,zim] at h ⊢;obtain⟨v,hv,p1,y1,i1,u1,a1,a2,a3,a4,v',hv',p2,y2,i2,u2,b1,b2,b3,b4,v3,hv3,f',p',dy',c',k',g1,g2,g3,g4,g5,g6⟩:=h;refine⟨v,hv,p1,y1,i1,u1,a1,a2,a3,a4,v',hv',p2,y2,i2,u2,b1,b2,b3,b4,v3,hv3,f',p',dy',c',k',g1,g2,g3,g4,fun x y H' s=> ?_,g6⟩;obtain⟨v4,hv4,i',e',j',e2',z⟩:=g5 x y H' s;exact⟨v4,hv4,i',e',j',e2',hm _ _ z⟩
theorem ziN{f:Int}{dy:Bool}{c:Int}{ys:List En}{day e:Int}{ds:List (Int×Nat×Bool)}(wd:WDays f dy c ys day ds)(he:e≤day)(cst:Int→Int→Int): ∃a,WDays f dy c ys e a∧zbR e (zaS cst ys ds (0,0, [])).1=(zaS cst ys a (0,0, [])).2:=by
 obtain⟨a,b,rfl,wa,hb⟩:=zpy wd he;refine⟨a,wa,?_⟩;rw[zei];unfold zbR;rw[List.filter_append];have f1:(zaS cst ys a (0,0, [])).1.filter (fun z=>decide (z.1≤e))=(zaS cst ys a (0,0, [])).1:=List.filter_eq_self.mpr fun z hz=>by
  obtain⟨y,hy,e1,_⟩:=zdr cst ys a (0,0, []) z hz
  have:=((wa.mem y.1).mp (List.mem_map.mpr ⟨y,hy,rfl⟩)).1;exact decide_eq_true (by omega)
 have f2:(zaS cst ys b (zaS cst ys a (0,0, [])).2).1.filter (fun z=>decide (z.1≤e))= []:=List.filter_eq_nil_iff.mpr fun z hz q=>by
  obtain⟨y,hy,e1,_⟩:=zdr cst ys b _ z hz
  have:=hb y hy
  have:=of_decide_eq_true q;omega
 rw[f1,f2,List.append_nil];exact(zfu cst ys a (0,0, [])).1
theorem znB{f:Int}{dy:Bool}{c:Int}{zs:List (V×Pl)}{ys:List En}{Gm:Int→Int→List D}{day e:Int}{ds:List (Int×Nat×Bool)}(f0:0≤f)(f1:f≤3500000)(hc:Cal.CycOk dy c)(hy0: ∀z∈ys,f≤z.2.2.1)(hg: ∀x y,zaE ys x=zaE ys y→Gm x=Gm y)(nn: ∀m o sb se b e,b≤e→sb<se→0≤zbT zs sb se b e (Gm m o))(gr0: ∀z∈ys,∀x,z.2.2.2= .grant x→0≤x)(wd:WDays f dy c ys day ds)(he:e≤day)(e0:f≤e)(e1:e<Cal.beg f dy c 60):
  ∃C:Nat,(C≤60∧(∀i:Nat,i<C→Cal.beg f dy c i≤e)∧e<Cal.beg f dy c C)∧ ∃S,S=zbR e (zaS (cstF f dy c zs Gm) ys ds (0,0, [])).1∧(0≤S.1∧0≤S.2.1∧zbv S.2.2 C)∧ ∀i:Nat,i<C→0≤(zaw S.2.2 i).1∧0≤(zaw S.2.2 i).2∧tkS S i=cstF f dy c zs Gm e i:=by
 obtain⟨a,wa,et⟩:=ziN wd he (cstF f dy c zs Gm);obtain⟨k,k0,k1,ka,kb⟩:=zd5 (f:=f) (dy:=dy) (c:=c) (d:=e) (by rw[Cal.beg_zero f0 f1];exact e0) 60 (by show e<Cal.beg f dy c 60;omega);obtain⟨k,rfl⟩:=Int.eq_ofNat_of_zero_le k0;have ch:=zhW f0 f1 hc hy0 wa (by omega) ka kb;obtain⟨_,po⟩:=zhI (cstF f dy c zs Gm) ys gr0 a (0,0, []) Pos.zero (fun z hz=>(wa.sp z hz).k60) (fun z _ i hi=>zpT f0 f1 hc nn z.1 (by omega) (by omega));have tk:=(zjm (cstF f dy c zs Gm) (fun x y h no i=>by unfold cstF;rw[hg x y (ziL h no)]) a (0,0, []) (f - 1) 0 ch (fun i h=>absurd h (Nat.not_lt_zero i)) (fun _ _=>rfl)).1;refine⟨k+1,⟨by omega,fun i hi=> ?_,kb⟩,_,et.symm,⟨po.g,po.o,zhM _ _ a (0,0, []) (f - 1) 0 ch rfl⟩,fun i hi=>⟨(po.t i).1,(po.t i).2,tk i hi⟩⟩
 have:=Cal.beg_le (k:=i) (j:=k) f0 f1 hc (by omega) (by omega) (by omega);omega
def zmy(K:Fg):Sp:=fun vs H Q _=> ∃(a:Addr) (ns:List Int),vs= [.ref a]∧SqL K H a (ns.map V.int)∧ns.length≤63∧ ∀H',Q (.bl true) H'
theorem sc_1d:FnScope ["_law_script","_law_account_here","_law_entries_here","_law_day","_law_lines","_law_one","_law_line"] ["_law_script"] (zak s_1d):=by sl_open
theorem ok_1d(T:Txt w K mg t):FnOk P w K mg base (CXE P w) 15 t.a_1d t.d_1d ["_law_script"] (zmy K):=by
 refine T.F_1d.fn.okX sc_1d ?_ fun cdv A outer s H vs Q E L hr h=> ?_
 ·kdl_open
 obtain⟨a,ns,rfl,hS,h63,q⟩:=h;have nd:=sc_1d.nd;refine⟨_,(zad (za6 (peD L.toLv (ok_19 T) hr T.F_19 (zaa (pvJ 0) zae)) (zaO (n:=3) rfl (zaj (zai (i:=1) nd rfl (Or.inl rfl)) (zaj (zai (i:=2) nd rfl (Or.inl rfl)) (zaj (zai (i:=3) nd rfl (Or.inr rfl)) zaJ))))) (zad (psJ 4 nd (peD L.toLv (ok_10 T) hr T.F_10 (zaa (pvJ 1) (zaa (pvJ 2) (zaa (pvJ 3) zae zab) zab) zab))) (zad (zay (zlM (zeH (peD L.toLv (ok_1a T) hr T.F_1a (zaa (pvJ 4) zae)))) (zag (zap zdJ)) zav) (zad (zbs (by passes_own) rfl (zbm (zah ziV (zaM (zdx (w:=w) rfl (by rfl)) (by rfl) T.no_sorted zdj (zaa (zcd (zfc (w:=w) (K:=K) rfl rfl (by rfl)) (by rfl) T.no_set zly (zaa (zcS (n:=2) (N:= ["_law_entered","_law_change_here","_law_day"]) (js:= [3]) (by rfl) rfl rfl (zbm (pvJ 2)) (fun a=>(zaO (n:=2) rfl (zaL (zai (i:=0) (show List.Nodup (["_law_entered","_law_change_here","_law_day"]:List Str) from by decide+kernel) rfl (Or.inl rfl)) (zaL (zai (i:=1) (show List.Nodup (["_law_entered","_law_change_here","_law_day"]:List Str) from by decide+kernel) rfl (Or.inl rfl)) zb0)))) (fun a=>(zeB (zbq zo0 (pvJ 0) (pvJ 2) (za3 _)))) (fun a=>(pvJ 0))) zae)) zae)) (zaB (zaa (pvJ 3) zae)))) (zai (i:=5) nd rfl (Or.inl rfl)) (zag (zay (zlM (zeH (peD L.toLv (ok_1c T) hr T.F_1c (zaa (pvJ 4) (zaa (pvJ 1) (zaa (pvJ 2) (zaa (pvJ 5) zae zab) zab) zab) zab)))) (zag (zap zdJ)) zav))) (zad (zbs (by passes_own) rfl (zbm (pvJ 4)) (zai (i:=6) nd rfl (Or.inl rfl)) (zag (zay (PWQ.pq (zb2 (zbC (ixJ zaq (pvJ 6) zac) (zax st_17)) (zbO (zgg (peD L.toLv (ok_08 T) hr T.F_08 (zaa (ixJ zaq (pvJ 1) zac) (zaa (ixJ zaq (pvJ 1) zac) (zaa (ixJ zaq (pvJ 6) zac) zae zar) zar) zar)) (ixJ zaq (pvJ 6) zac))))) (zag (zap zdJ)) zav))) (zag (zap zdJ))))))),?_⟩;open_k0;refine⟨a,ns,rfl,hS,by omega,fun p pa la le f dy c zs ys day H1 s1 hz yA yO yl el d0 d1 ep=>⟨p,_,rfl,SqT.of ep,rfl,?_⟩⟩;obtain⟨hY,hy0⟩:=zpR yA yO yl;obtain⟨pc,f0,f1,hc,epa⟩:=id hz.1;have hT:=SqT.of (K:=K) epa;obtain⟨Gm,hG,hg,nn⟩:=zqI f0 f1 hc.2 hz.2.2.2 hY;have gr0: ∀z∈ys,∀x,z.2.2.2= .grant x→0≤x:=fun z hz' x e=>by
  obtain⟨i,hi,ez⟩:=List.mem_iff_getElem.mp hz';have ci:=(yO i z (by rw[List.getElem?_eq_getElem hi,ez])).2.2.2;rw[e] at ci;exact Int.le_trans (by decide) ci.1
 open_k0;refine⟨pa,le,la,f,dy,c,zs,ys,Gm,day,rfl,hz,el,hY,hy0,hG,fun _ _ lr ds ws H2 wd dl k2 e2 la2 lm=> ?_,fun z=>absurd z (by omega),fun z=>absurd z (by omega)⟩;have wl:ws.length≤20000:=by
  have h1:=zej (cstF f dy c zs Gm) hY.2.1 ds (0,0, []) fun z hz=>(wd.sp z hz).k60;have h2:=congrArg List.length lm;rw[List.length_map] at h2;omega
 have at_:=fun e he e0 e1=>znB (zs:=zs) (Gm:=Gm) (e:=e) f0 f1 hc.2 hy0 hg nn gr0 wd he e0 e1;obtain⟨pl,se⟩:zbP (ws.map (·.2)) (-1) 0∧zbW (ws.map (·.2)) (fun _=>none):=by
  obtain⟨k,k0,k1,ka,kb⟩:=zd5 (f:=f) (dy:=dy) (c:=c) (d:=day) (by rw[Cal.beg_zero f0 f1];exact d0) 60 (by show day<Cal.beg f dy c 60;omega);obtain⟨k,rfl⟩:=Int.eq_ofNat_of_zero_le k0;rw[lm];exact ok_book _ _ ds _ (f - 1) 0 (-1) 0 _ (zhW f0 f1 hc.2 hy0 wd (by omega) ka kb) (by omega) ⟨fun _ _=>rfl,fun j a b=>absurd b (by omega)⟩
 have hA: ∀w∈ws,znl w.2:=fun w hw=>(zfu (cstF f dy c zs Gm) ys ds (0,0, [])).2 w.2 (by rw[←lm];exact List.mem_map.mpr ⟨w,hw,rfl⟩);have bl: ∀w∈ws,w.2.2.1=za1→ ∃k:Nat,w.2.2.2.1=k∧k<60∧Cal.beg f dy c k=w.2.1:=fun w hw e=>by
  obtain⟨y,hy,e1,e2⟩:=zdr (cstF f dy c zs Gm) ys ds (0,0, []) w.2 (by rw[←lm];exact List.mem_map.mpr ⟨w,hw,rfl⟩);obtain⟨h1,_,_,h4⟩:=wd.sp y hy;rw[(e2 e).2] at h4;exact⟨y.2.1,(e2 e).1,h1,by rw[e1];exact of_decide_eq_true h4.symm⟩
 rw[←lm] at at_;refine⟨lr,ws,rfl,e2,la2,wl,pl,se,fun H3 k3=>⟨_,rfl,za0 (by decide) ?_⟩⟩;have k13:=k2.trans k3;have el3:=k13.lst el;have hY3:=hY.kp k13;clear pl se
 ((try dsimp only);refine zbE fun R hR=> ?_;(open_k0;repeat (dsimp only[zbB,zdP];open_k0)))
 have y40:=hY.2.1;refine⟨⟨_,SqL.of el3⟩,fun l hl aa=> ?_⟩;refine zb9 (fun j xs _=>xs=(((ys.take j).filter fun z=>decide (z.2.2.1<day)).map fun z=>z.2.2.1).map V.int) (zbY (SqL.of el3)) hl (by rw[List.length_map];exact zbj (by omega)) (fun _ _=>rfl) (fun j y xs H4 K1 K0 hxx sm pv hl kk k0'=> ?_) (fun xs H4 s4 pv _ w4=> ?_)
 ·rw[List.getElem?_map] at hxx;obtain⟨z,hz,rfl⟩:=Option.map_eq_some_iff.mp hxx;obtain⟨pe,e1,e2,_⟩:=hY3.1 z (List.mem_of_getElem? hz);have nx:((ys.take (j+1)).filter fun z=>decide (z.2.2.1<day)).map (fun z=>z.2.2.1)=(((ys.take j).filter fun z=>decide (z.2.2.1<day)).map fun z=>z.2.2.1)++(if z.2.2.1<day then [z.2.2.1] else []):=by
   rw[List.take_add_one,hz,Option.toList_some,List.filter_append,List.map_append];congr 1;by_cases g:z.2.2.1<day
   ·simp [g]
   ·simp [g]
  rw[e1];refine⟨pe,_,rfl,sm.sqT e2,rfl,?_⟩;open_k0;by_cases g:z.2.2.1<day
  ·rw[if_pos g] at nx ⊢;exact kk _ _ (zam.refl _) fun H5 _=>by rw[pv,nx,List.map_append];rfl
  ·rw[if_neg g] at nx ⊢;exact k0' _ (zam.refl _) (by rw[pv,nx,List.append_nil])
 rw[List.length_map,List.take_length] at pv;subst pv;obtain⟨xs,hxs⟩: ∃xs,xs=(ys.filter fun z=>decide (z.2.2.1<day)).map fun z=>z.2.2.1:=⟨_,rfl⟩
 rw[←hxs] at w4;have xl:xs.length≤40:=by
  have:=List.length_filter_le (fun z:En=>decide (z.2.2.1<day)) ys;rw[hxs,List.length_map];omega
 refine⟨l,rfl,xs,SqL.of w4,by omega,fun q6 H6 _ s6 e6=>⟨_,e6,Nat.le_trans (Se.met_len _ _) (by omega),fun os wp wo l7 H7 _ s7 e7 l8 H8 _ s8 e8=> ?_⟩⟩;have ol:os.length≤40:=by
  rw[wp.length_eq];exact Nat.le_trans (Se.met_len _ _) xl
 refine⟨l7,l8,_,_,rfl,rfl,s8 _ _ e7,e8,zbz (by rw[List.length_map];show os.length+1≤_;omega),fun l9 H9 _ s9 e9=>⟨l9,rfl,⟨_,SqL.of e9⟩,hR _ _ ?_⟩⟩;clear hR;have om: ∀x∈os++ [day],f≤x∧x≤day:=fun x hx=>by
  rcases List.mem_append.mp hx with h|h
  ·have:=zhz.mp (wp.mem_iff.mp h);rw[hxs] at this;obtain⟨z,hz,rfl⟩:=List.mem_map.mp this;obtain⟨z1,z2⟩:=List.mem_filter.mp hz
   have:=of_decide_eq_true z2;exact⟨hy0 z z1,by omega⟩
  ·rw[List.mem_singleton.mp h];exact⟨d0,Int.le_refl _⟩
 have s49:=(((s4.trans s6).trans s7).trans s8).trans s9;have k9:=k13.trans (Kp.of_same s49);have k29:=k3.trans (Kp.of_same s49);have e9':H9 l9=some (.lst ((os++ [day]).map V.int)):=by rw[List.map_append];exact e9
 clear e9 hxs xl ol wp wo w4 s4 s6 s7 s8 s9 e6 e7 e8 hl;obtain⟨Pv,hPv⟩: ∃Pv:Nat→St→Hp→Prop,Pv=fun _ σ1 H5=>Kp H9 H5∧ ∃x5,σ1= [some (.ref a),some (.ref pa),some (.ref le),some (.int day),some (.ref lr),x5,none]:=⟨_,rfl⟩
 have e29:=k29.lst e2;have la9:=la2.keep k29;have hz9:=hz.kp k9;have el9:=k9.lst el;have hY9:=hY.kp k9;have hT9:=k9.sqT hT;have hc9:zew K H9 pc dy c:=⟨k9.sqT hc.1,hc.2⟩
 clear k9 k29 k13 k2 k3 s49 hY3 el3 hz hY el hT e2 la2;refine zb3 (xs:=(os++ [day]).map V.int) Pv (by rw[hPv];exact⟨Kp.of_same (zam.refl _),_,rfl⟩) (fun _ _ _ _ h=>by rw[hPv] at h;exact SqL.of (h.1.lst e9')) (fun i x σ1 H5 hx h=> ?_) (fun σ1 H5 h=> ?_)
 ·rw[hPv] at h;obtain⟨k5,x5,rfl⟩:=h;rw[List.getElem?_map] at hx;obtain⟨o,ho,rfl⟩:=Option.map_eq_some_iff.mp hx;have oo:=om o (List.mem_of_getElem? ho);obtain⟨C,hC,S,eS,h1,h2⟩:=at_ o oo.2 oo.1 (by omega);open_k0;refine⟨lr,pa,le,la,f,dy,c,zs,ys,Gm,o,ws,C,S,rfl,hz9.kp k5,k5.lst el9,hY9.kp k5,hG,k5.lst e29,la9.keep k5,wl,hA,hC,eS,h1,h2,fun H6 k6=>⟨_,rfl,za0 (by decide) ?_⟩⟩;rw[hPv];exact⟨k5.trans k6,_,rfl⟩
 rw[hPv] at h;obtain⟨k5,x5,rfl⟩:=h;clear hPv;open_k0
 ((try dsimp only);refine zbE fun R hR=> ?_;(open_k0;repeat (dsimp only[zbB,zb5,zbU,zb7];open_k0)))
 refine⟨⟨_,SqL.of (k5.lst e29)⟩,hR _ _ ?_⟩;clear hR;obtain⟨Pw,hPw⟩: ∃Pw:Nat→St→Hp→Prop,Pw=fun _ σ1 H6=>Kp H9 H6∧ ∃x5 x6,σ1= [some (.ref a),some (.ref pa),some (.ref le),some (.int day),some (.ref lr),x5,x6]:=⟨_,rfl⟩
 refine zb3 (xs:=ws.map fun w=>V.ref w.1) Pw (by rw[hPw];exact⟨k5,_,_,rfl⟩) (fun _ _ _ _ h=>by rw[hPw] at h;exact SqL.of (h.1.lst e29)) (fun i x σ1 H6 hx h=> ?_) (fun σ1 H6 h=> ?_)
 ·rw[hPw] at h;obtain⟨k6,x5,x6,rfl⟩:=h;rw[List.getElem?_map] at hx;obtain⟨y,hy,rfl⟩:=Option.map_eq_some_iff.mp hx;have ym:=List.mem_of_getElem? hy;have ey:=la9.keep k6 y ym;unfold LnV at ey;have ty:=SqT.of (K:=K) ey;have hT6:=k6.sqT hT9;open_k0;refine ixT ty (zcb _ _ _) ⟨rfl,zaX (fun c1=> ?_) fun _=>by rw[hPw];exact⟨k6,_,_,rfl⟩⟩;obtain⟨k,ek,k60,eb⟩:=bl y ym (zfK c1);refine ixT hT6 (zcb _ _ _) (ixT hT6 (zd4 _ _ _ _) (ixT ty (zd4 _ _ _ _) ⟨f,pc,dy,c,y.2.2.2.1,rfl,f0,f1,⟨k6.sqT hc9.1,hc9.2⟩,fun _ _ H7 s7=> ?_,fun z=>absurd z (by omega),fun z=>absurd z (by omega)⟩));refine ixT (s7.sqT ty) (zbA _ _) ⟨rfl,za0 (fun z=>z (by rw[ek,eb])) ?_⟩;rw[hPw];exact⟨k6.trans (Kp.of_same s7),_,_,rfl⟩
 rw[hPw] at h;obtain⟨k6,x5,x6,rfl⟩:=h;open_k0;exact q H6
end
theorem zdf{α:Type}{P:List α→Prop}(h: ∀a0,P [a0])(us:List α)(l:us.length=1):P us:=match us,l with| [a0],_=>h a0
theorem zdt{α:Type}{P:List α→Prop}(h: ∀a0 a1,P [a0,a1])(us:List α)(l:us.length=2):P us:=match us,l with| [a0,a1],_=>h a0 a1
theorem zdI{α:Type}{P:List α→Prop}(h: ∀a0 a1 a2,P [a0,a1,a2])(us:List α)(l:us.length=3):P us:=match us,l with| [a0,a1,a2],_=>h a0 a1 a2
theorem zkd{α:Type}{P:List α→Prop}(h: ∀a0 a1 a2 a3,P [a0,a1,a2,a3])(us:List α)(l:us.length=4):P us:=match us,l with| [a0,a1,a2,a3],_=>h a0 a1 a2 a3
theorem zqK{α:Type}{P:List α→Prop}(h: ∀a0 a1 a2 a3 a4,P [a0,a1,a2,a3,a4])(us:List α)(l:us.length=5):P us:=match us,l with| [a0,a1,a2,a3,a4],_=>h a0 a1 a2 a3 a4
theorem zq6{α:Type}{P:List α→Prop}(h: ∀a0 a1 a2 a3 a4 a5,P [a0,a1,a2,a3,a4,a5])(us:List α)(l:us.length=6):P us:=match us,l with| [a0,a1,a2,a3,a4,a5],_=>h a0 a1 a2 a3 a4 a5
open PySem.W in
theorem txt_mk{w:World}{K:Fg}{h:Heap}{mg:Str→Option Value}(X:K.In h)(G:h.Ns mainGlobals mg)
  (h0:L2.FA K "_wall" s_00)
  (h1:L2.FA K "has_leap_day" s_01)
  (h2:L2.FA K "days_in" s_02)
  (h3:L2.FA K "days_ahead_of_year" s_03)
  (h4:L2.FA K "day_of" s_04)
  (h5:L2.FA K "year_of" s_05)
  (h6:L2.FA K "date_of" s_06)
  (h7:L2.FA K "months_on" s_07)
  (h8:L2.FA K "begin_of" s_08)
  (h9:L2.FA K "span_on" s_09)
  (h10:L2.FA K "span_days" s_0a)
  (h11:L2.FA K "span_with" s_0b)
  (h12:L2.FA K "share" s_0c)
  (h13:L2.FA K "counts_from" s_0d)
  (h14:L2.FA K "in_order" s_0e)
  (h15:L2.FA K "state_by" s_0f)
  (h16:L2.FA K "stretches_by" s_0g)
  (h17:L2.FA K "price_and_count" s_0h)
  (h18:L2.FA K "stretch_cost" s_0i)
  (h19:L2.FA K "lines_ahead" s_0j)
  (h20:L2.FA K "cost_of" s_0k)
  (h21:L2.FA K "span_lines" s_0l)
  (h22:L2.FA K "span_cost" s_0m)
  (h23:L2.FA K "is_term" s_0n)
  (h24:L2.FA K "standing_terms" s_0o)
  (h25:L2.FA K "terms_at" s_0p)
  (h26:L2.FA K "costs_by" s_0q)
  (h27:L2.FA K "days_entered" s_0r)
  (h28:L2.FA K "work_days" s_0s)
  (h29:L2.FA K "grant_lines" s_0t)
  (h30:L2.FA K "line_of_less" s_0u)
  (h31:L2.FA K "line_of_more" s_0v)
  (h32:L2.FA K "right_lines" s_0w)
  (h33:L2.FA K "back_lines" s_0x)
  (h34:L2.FA K "work_of_day" s_0y)
  (h35:L2.FA K "keep_book" s_0z)
  (h36:L2.FA K "book_lines" s_10)
  (h37:L2.FA K "_law_mixed" s_11)
  (h38:L2.FA K "_law_draw" s_12)
  (h39:L2.FA K "_law_names" s_13)
  (h40:L2.FA K "_law_plans" s_14)
  (h41:L2.FA K "_law_account" s_15)
  (h42:L2.FA K "_law_reach" s_16)
  (h43:L2.FA K "_law_change" s_17)
  (h44:L2.FA K "_law_entries" s_18)
  (h45:L2.FA K "_law_case" s_19)
  (h46:L2.FA K "_law_in_order" s_1a)
  (h47:L2.FA K "_law_taken" s_1b)
  (h48:L2.FA K "_law_right" s_1c)
  (h49:L2.FA K "law" s_1d)
  (h50:L2.FM K C_Z07 "__init__" "Pots.__init__" s_1e)
  (h51:L2.FM K C_Z07 "grant" "Pots.grant" s_1f)
  (h52:L2.FM K C_Z07 "take" "Pots.take" s_1g)
  (h53:L2.FM K C_Z07 "give" "Pots.give" s_1h)
  (h54:L2.FM K C_Z07 "pay_back" "Pots.pay_back" s_1i)
  (h55:L2.FM K C_Z07 "took" "Pots.took" s_1j)
  (h56:L2.FM K C_Z07 "left" "Pots.left" s_1k)
  (g_Z0a:nsIn K mainGlobals "SpanError"=some (some (.ref C_Z0a)))
  (gc_Z0a:clsIn K C_Z0a=some cd_Z0a)
  (gt_Z0a:typeIn K (.ref C_Z0a)=some (.type "type"))
  (gm_Z0a:mroIn K C_Z0a (.ref C_Z0a)=some true)
  (g_Z05:nsIn K mainGlobals "NoDate"=some (some (.ref C_Z05)))
  (gc_Z05:clsIn K C_Z05=some cd_Z05)
  (gt_Z05:typeIn K (.ref C_Z05)=some (.type "type"))
  (gm_Z05:mroIn K C_Z05 (.ref C_Z05)=some true)
  (g_Z06:nsIn K mainGlobals "NoSpan"=some (some (.ref C_Z06)))
  (gc_Z06:clsIn K C_Z06=some cd_Z06)
  (gt_Z06:typeIn K (.ref C_Z06)=some (.type "type"))
  (gm_Z06:mroIn K C_Z06 (.ref C_Z06)=some true)
  (g_Z0c:nsIn K mainGlobals "TooLong"=some (some (.ref C_Z0c)))
  (gc_Z0c:clsIn K C_Z0c=some cd_Z0c)
  (gt_Z0c:typeIn K (.ref C_Z0c)=some (.type "type"))
  (gm_Z0c:mroIn K C_Z0c (.ref C_Z0c)=some true)
  (g_Z07:nsIn K mainGlobals "Pots"=some (some (.ref C_Z07)))
  (gc_Z07:clsIn K C_Z07=some cd_Z07)
  (gt_Z07:typeIn K (.ref C_Z07)=some (.type "type"))
  (gm_Z07:mroIn K C_Z07 (.ref C_Z07)=some true)
  (op_Pots:plainGet K C_Z07 Str.empty=true)
  (od_Z07:hasDictIn K C_Z07=true)
  (oo_Pots:plainOver K C_Z07=true)
  (os_Pots:findIn K (.ref C_Z07) "__setattr__"=some (some (.builtin "object.__setattr__")))
  (om_Pots:makesIn K C_Z07=true)
  (ok_Z07:keepIn K (.ref C_Z07)=true)
  (on_Pots_given:findIn K (.ref C_Z07) "given"=some none)
  (on_Pots_own:findIn K (.ref C_Z07) "own"=some none)
  (on_Pots_taken:findIn K (.ref C_Z07) "taken"=some none)
  (gx_Z05:excIn K C_Z05 [.type "ValueError", .type "Exception", .type "BaseException", .type "object"] "ValueError.__new__"=true)
  (gx_Z06:excIn K C_Z06 [.type "ValueError", .type "Exception", .type "BaseException", .type "object"] "ValueError.__new__"=true)
  (gx_Z0c:excIn K C_Z0c [.type "ValueError", .type "Exception", .type "BaseException", .type "object"] "ValueError.__new__"=true)
  (k_Z03:nsIn K mainGlobals "LAST_YEAR"=some (some (.int 9999 tk_Z03)))
  (k_Z02:nsIn K mainGlobals "LAST_DAY"=some (some (.int 3652058 tk_Z02)))
  (k_Z04:nsIn K mainGlobals "MONTH_DAYS"=some (some (.ref A_Z04)))
  (kl_Z04:K.lookup A_Z04=some ⟨.type "tuple",od_Z04, .seq its_Z04 n_Z04,sl_Z04⟩)
  (kz_Z04:its_Z04.size≤sizeLine)
  (kv_Z04:zaI [.int 31, .int 28, .int 31, .int 30, .int 31, .int 30, .int 31, .int 31, .int 30, .int 31, .int 30, .int 31] its_Z04.toList)
  (k_Z08:nsIn K mainGlobals "ROUND_DAYS"=some (some (.int 146097 tk_Z08)))
  (k_Z01:nsIn K mainGlobals "HUNDRED_YEARS_DAYS"=some (some (.int 36524 tk_Z01)))
  (k_Z00:nsIn K mainGlobals "FOUR_YEARS_DAYS"=some (some (.int 1461 tk_Z00)))
  (k_Z0e:nsIn K mainGlobals "YEAR_DAYS"=some (some (.int 365 tk_Z0e)))
  (k_Z09:nsIn K mainGlobals "SPANS"=some (some (.int 60 tk_Z09)))
  (k_Z0d:nsIn K mainGlobals "WORDS"=some (some (.ref A_Z0d)))
  (kl_Z0d:K.lookup A_Z0d=some ⟨.type "dict",none, .dict es_Z0d n_Z0d, #[]⟩)
  (kv_Z0d:zm1 w es_Z0d.toList [(SL [104,111,108,100], .str (SL [104,101,108,100])),(SL [103,111], .str (SL [111,110])),(SL [115,116,111,112], .str (SL [111,102,102])),(SL [108,97,115,116], .str (SL [111,102,102]))])
  (k_Z0b:nsIn K mainGlobals "TERMS"=some (some (.ref A_Z0b)))
  (kl_Z0b:K.lookup A_Z0b=some ⟨.type "tuple",od_Z0b, .seq its_Z0b n_Z0b,sl_Z0b⟩)
  (kz_Z0b:its_Z0b.size≤sizeLine)
  (kv_Z0b:zaI [.str (SL [112,108,97,110]), .str (SL [115,101,97,116,115]), .str (SL [104,111,108,100]), .str (SL [103,111]), .str (SL [115,116,111,112]), .str (SL [108,97,115,116])] its_Z0b.toList)
  (z_range:nsIn K mainGlobals "range"=some none)
  (z_divmod:nsIn K mainGlobals "divmod"=some none)
  (z_min:nsIn K mainGlobals "min"=some none)
  (z_sorted:nsIn K mainGlobals "sorted"=some none)
  (z_sum:nsIn K mainGlobals "sum"=some none)
  (z_enumerate:nsIn K mainGlobals "enumerate"=some none)
  (z_list:nsIn K mainGlobals "list"=some none)
  (z_set:nsIn K mainGlobals "set"=some none)
  (z_len:nsIn K mainGlobals "len"=some none)
  (z_int:nsIn K mainGlobals "int"=some none)
  (xga_NoSpan:findIn K (.ref C_Z06) "__getattribute__"=some (some (.builtin "BaseException.__getattribute__")))
  (xgt_NoSpan:findIn K (.ref C_Z06) "__getattr__"=some none)
  (xcl_NoSpan:findIn K (.ref C_Z06) "__class__"=some (some (.builtin "object.__class__")))
  (xmo_NoSpan:mroIn K C_Z06 (.type "object")=some true)
  (xmb_NoSpan:mroIn K C_Z06 (.type "BaseException")=some true)
  (xga_TooLong:findIn K (.ref C_Z0c) "__getattribute__"=some (some (.builtin "BaseException.__getattribute__")))
  (xgt_TooLong:findIn K (.ref C_Z0c) "__getattr__"=some none)
  (xcl_TooLong:findIn K (.ref C_Z0c) "__class__"=some (some (.builtin "object.__class__")))
  (xmo_TooLong:mroIn K C_Z0c (.type "object")=some true)
  (xmb_TooLong:mroIn K C_Z0c (.type "BaseException")=some true)
  (m_NoSpan_SpanError:mroIn K C_Z06 (.ref C_Z0a)=some true)
  (m_NoSpan_NoDate:mroIn K C_Z06 (.ref C_Z05)=some false)
  (m_NoSpan_NoSpan:mroIn K C_Z06 (.ref C_Z06)=some true)
  (m_NoSpan_TooLong:mroIn K C_Z06 (.ref C_Z0c)=some false)
  (m_NoSpan_Pots:mroIn K C_Z06 (.ref C_Z07)=some false)
  (m_NoSpan_ValueError:mroIn K C_Z06 (.type "ValueError")=some true)
  (m_TooLong_SpanError:mroIn K C_Z0c (.ref C_Z0a)=some true)
  (m_TooLong_NoDate:mroIn K C_Z0c (.ref C_Z05)=some false)
  (m_TooLong_NoSpan:mroIn K C_Z0c (.ref C_Z06)=some false)
  (m_TooLong_TooLong:mroIn K C_Z0c (.ref C_Z0c)=some true)
  (m_TooLong_Pots:mroIn K C_Z0c (.ref C_Z07)=some false)
  (m_TooLong_ValueError:mroIn K C_Z0c (.type "ValueError")=some true)
  (m_SpanError_BaseException:mroIn K C_Z0a (.type "BaseException")=some true)
  : ∃t,Txt w K mg t:=
 ⟨{a_00:=h0.f,d_00:=h0.d,
   a_01:=h1.f,d_01:=h1.d,
   a_02:=h2.f,d_02:=h2.d,
   a_03:=h3.f,d_03:=h3.d,
   a_04:=h4.f,d_04:=h4.d,
   a_05:=h5.f,d_05:=h5.d,
   a_06:=h6.f,d_06:=h6.d,
   a_07:=h7.f,d_07:=h7.d,
   a_08:=h8.f,d_08:=h8.d,
   a_09:=h9.f,d_09:=h9.d,
   a_0a:=h10.f,d_0a:=h10.d,
   a_0b:=h11.f,d_0b:=h11.d,
   a_0c:=h12.f,d_0c:=h12.d,
   a_0d:=h13.f,d_0d:=h13.d,
   a_0e:=h14.f,d_0e:=h14.d,
   a_0f:=h15.f,d_0f:=h15.d,
   a_0g:=h16.f,d_0g:=h16.d,
   a_0h:=h17.f,d_0h:=h17.d,
   a_0i:=h18.f,d_0i:=h18.d,
   a_0j:=h19.f,d_0j:=h19.d,
   a_0k:=h20.f,d_0k:=h20.d,
   a_0l:=h21.f,d_0l:=h21.d,
   a_0m:=h22.f,d_0m:=h22.d,
   a_0n:=h23.f,d_0n:=h23.d,
   a_0o:=h24.f,d_0o:=h24.d,
   a_0p:=h25.f,d_0p:=h25.d,
   a_0q:=h26.f,d_0q:=h26.d,
   a_0r:=h27.f,d_0r:=h27.d,
   a_0s:=h28.f,d_0s:=h28.d,
   a_0t:=h29.f,d_0t:=h29.d,
   a_0u:=h30.f,d_0u:=h30.d,
   a_0v:=h31.f,d_0v:=h31.d,
   a_0w:=h32.f,d_0w:=h32.d,
   a_0x:=h33.f,d_0x:=h33.d,
   a_0y:=h34.f,d_0y:=h34.d,
   a_0z:=h35.f,d_0z:=h35.d,
   a_10:=h36.f,d_10:=h36.d,
   a_11:=h37.f,d_11:=h37.d,
   a_12:=h38.f,d_12:=h38.d,
   a_13:=h39.f,d_13:=h39.d,
   a_14:=h40.f,d_14:=h40.d,
   a_15:=h41.f,d_15:=h41.d,
   a_16:=h42.f,d_16:=h42.d,
   a_17:=h43.f,d_17:=h43.d,
   a_18:=h44.f,d_18:=h44.d,
   a_19:=h45.f,d_19:=h45.d,
   a_1a:=h46.f,d_1a:=h46.d,
   a_1b:=h47.f,d_1b:=h47.d,
   a_1c:=h48.f,d_1c:=h48.d,
   a_1d:=h49.f,d_1d:=h49.d,
   a_1e:=h50.f,d_1e:=h50.d,
   a_1f:=h51.f,d_1f:=h51.d,
   a_1g:=h52.f,d_1g:=h52.d,
   a_1h:=h53.f,d_1h:=h53.d,
   a_1i:=h54.f,d_1i:=h54.d,
   a_1j:=h55.f,d_1j:=h55.d,
   a_1k:=h56.f,d_1k:=h56.d,
   c_Z0a:=C_Z0a,
   c_Z05:=C_Z05,
   c_Z06:=C_Z06,
   c_Z0c:=C_Z0c,
   c_Z07:=C_Z07},
  {F_00:=h0.df X G (h0.fn.binds fun _ _ _ _ _ _=>zdf fun _=>rfl),
   F_01:=h1.df X G (h1.fn.binds fun _ _ _ _ _ _=>zdf fun _=>rfl),
   F_02:=h2.df X G (h2.fn.binds fun _ _ _ _ _ _=>zdt fun _ _=>rfl),
   F_03:=h3.df X G (h3.fn.binds fun _ _ _ _ _ _=>zdf fun _=>rfl),
   F_04:=h4.df X G (h4.fn.binds fun _ _ _ _ _ _=>zdI fun _ _ _=>rfl),
   F_05:=h5.df X G (h5.fn.binds fun _ _ _ _ _ _=>zdf fun _=>rfl),
   F_06:=h6.df X G (h6.fn.binds fun _ _ _ _ _ _=>zdf fun _=>rfl),
   F_07:=h7.df X G (h7.fn.binds fun _ _ _ _ _ _=>zdt fun _ _=>rfl),
   F_08:=h8.df X G (h8.fn.binds fun _ _ _ _ _ _=>zdI fun _ _ _=>rfl),
   F_09:=h9.df X G (h9.fn.binds fun _ _ _ _ _ _=>zdI fun _ _ _=>rfl),
   F_0a:=h10.df X G (h10.fn.binds fun _ _ _ _ _ _=>zdt fun _ _=>rfl),
   F_0b:=h11.df X G (h11.fn.binds fun _ _ _ _ _ _=>zdt fun _ _=>rfl),
   F_0c:=h12.df X G (h12.fn.binds fun _ _ _ _ _ _=>zkd fun _ _ _ _=>rfl),
   F_0d:=h13.df X G (h13.fn.binds fun _ _ _ _ _ _=>zdt fun _ _=>rfl),
   F_0e:=h14.df X G (h14.fn.binds fun _ _ _ _ _ _=>zdt fun _ _=>rfl),
   F_0f:=h15.df X G (h15.fn.binds fun _ _ _ _ _ _=>zdt fun _ _=>rfl),
   F_0g:=h16.df X G (h16.fn.binds fun _ _ _ _ _ _=>zdI fun _ _ _=>rfl),
   F_0h:=h17.df X G (h17.fn.binds fun _ _ _ _ _ _=>zdt fun _ _=>rfl),
   F_0i:=h18.df X G (h18.fn.binds fun _ _ _ _ _ _=>zdI fun _ _ _=>rfl),
   F_0j:=h19.df X G (h19.fn.binds fun _ _ _ _ _ _=>zkd fun _ _ _ _=>rfl),
   F_0k:=h20.df X G (h20.fn.binds fun _ _ _ _ _ _=>zdf fun _=>rfl),
   F_0l:=h21.df X G (h21.fn.binds fun _ _ _ _ _ _=>zdI fun _ _ _=>rfl),
   F_0m:=h22.df X G (h22.fn.binds fun _ _ _ _ _ _=>zdI fun _ _ _=>rfl),
   F_0n:=h23.df X G (h23.fn.binds fun _ _ _ _ _ _=>zdf fun _=>rfl),
   F_0o:=h24.df X G (h24.fn.binds fun _ _ _ _ _ _=>zdf fun _=>rfl),
   F_0p:=h25.df X G (h25.fn.binds fun _ _ _ _ _ _=>zdt fun _ _=>rfl),
   F_0q:=h26.df X G (h26.fn.binds fun _ _ _ _ _ _=>zkd fun _ _ _ _=>rfl),
   F_0r:=h27.df X G (h27.fn.binds fun _ _ _ _ _ _=>zdf fun _=>rfl),
   F_0s:=h28.df X G (h28.fn.binds fun _ _ _ _ _ _=>zdI fun _ _ _=>rfl),
   F_0t:=h29.df X G (h29.fn.binds fun _ _ _ _ _ _=>zdI fun _ _ _=>rfl),
   F_0u:=h30.df X G (h30.fn.binds fun _ _ _ _ _ _=>zkd fun _ _ _ _=>rfl),
   F_0v:=h31.df X G (h31.fn.binds fun _ _ _ _ _ _=>zqK fun _ _ _ _ _=>rfl),
   F_0w:=h32.df X G (h32.fn.binds fun _ _ _ _ _ _=>zdI fun _ _ _=>rfl),
   F_0x:=h33.df X G (h33.fn.binds fun _ _ _ _ _ _=>zdI fun _ _ _=>rfl),
   F_0y:=h34.df X G (h34.fn.binds fun _ _ _ _ _ _=>zkd fun _ _ _ _=>rfl),
   F_0z:=h35.df X G (h35.fn.binds fun _ _ _ _ _ _=>zdI fun _ _ _=>rfl),
   F_10:=h36.df X G (h36.fn.binds fun _ _ _ _ _ _=>zdI fun _ _ _=>rfl),
   F_11:=h37.df X G (h37.fn.binds fun _ _ _ _ _ _=>zdt fun _ _=>rfl),
   F_12:=h38.df X G (h38.fn.binds fun _ _ _ _ _ _=>zdt fun _ _=>rfl),
   F_13:=h39.df X G (h39.fn.binds fun _ _ _ _ _ _=>zdf fun _=>rfl),
   F_14:=h40.df X G (h40.fn.binds fun _ _ _ _ _ _=>zdt fun _ _=>rfl),
   F_15:=h41.df X G (h41.fn.binds fun _ _ _ _ _ _=>zdf fun _=>rfl),
   F_16:=h42.df X G (h42.fn.binds fun _ _ _ _ _ _=>zdt fun _ _=>rfl),
   F_17:=h43.df X G (h43.fn.binds fun _ _ _ _ _ _=>zq6 fun _ _ _ _ _ _=>rfl),
   F_18:=h44.df X G (h44.fn.binds fun _ _ _ _ _ _=>zqK fun _ _ _ _ _=>rfl),
   F_19:=h45.df X G (h45.fn.binds fun _ _ _ _ _ _=>zdf fun _=>rfl),
   F_1a:=h46.df X G (h46.fn.binds fun _ _ _ _ _ _=>zdf fun _=>rfl),
   F_1b:=h47.df X G (h47.fn.binds fun _ _ _ _ _ _=>zdt fun _ _=>rfl),
   F_1c:=h48.df X G (h48.fn.binds fun _ _ _ _ _ _=>zkd fun _ _ _ _=>rfl),
   F_1d:=h49.df X G (h49.fn.binds fun _ _ _ _ _ _=>zdf fun _=>rfl),
   me_1e:=h50.me,
   fn_1e:=h50.fn,
   b_1e:=h50.fn.binds fun _ _ _ _ _ _=>zdf fun _=>rfl,
   me_1f:=h51.me,
   fn_1f:=h51.fn,
   b_1f:=h51.fn.binds fun _ _ _ _ _ _=>zdt fun _ _=>rfl,
   me_1g:=h52.me,
   fn_1g:=h52.fn,
   b_1g:=h52.fn.binds fun _ _ _ _ _ _=>zdI fun _ _ _=>rfl,
   me_1h:=h53.me,
   fn_1h:=h53.fn,
   b_1h:=h53.fn.binds fun _ _ _ _ _ _=>zdI fun _ _ _=>rfl,
   me_1i:=h54.me,
   fn_1i:=h54.fn,
   b_1i:=h54.fn.binds fun _ _ _ _ _ _=>zdf fun _=>rfl,
   me_1j:=h55.me,
   fn_1j:=h55.fn,
   b_1j:=h55.fn.binds fun _ _ _ _ _ _=>zdt fun _ _=>rfl,
   me_1k:=h56.me,
   fn_1k:=h56.fn,
   b_1k:=h56.fn.binds fun _ _ _ _ _ _=>zdf fun _=>rfl,
   mg_Z0a:=mg_of X G g_Z0a,
   cl_Z0a:=⟨by rw[gc_Z0a];rfl,gt_Z0a,gm_Z0a⟩,
   mg_Z05:=mg_of X G g_Z05,
   cl_Z05:=⟨by rw[gc_Z05];rfl,gt_Z05,gm_Z05⟩,
   mg_Z06:=mg_of X G g_Z06,
   cl_Z06:=⟨by rw[gc_Z06];rfl,gt_Z06,gm_Z06⟩,
   mg_Z0c:=mg_of X G g_Z0c,
   cl_Z0c:=⟨by rw[gc_Z0c];rfl,gt_Z0c,gm_Z0c⟩,
   mg_Z07:=mg_of X G g_Z07,
   cl_Z07:=⟨by rw[gc_Z07];rfl,gt_Z07,gm_Z07⟩,
   cs_Z07:=⟨op_Pots,od_Z07,oo_Pots,os_Pots⟩,
   mk_Z07:=⟨om_Pots,h50.me.at_,h50.me.fn,ok_Z07⟩,
   na_Pots_given:=on_Pots_given,
   na_Pots_own:=on_Pots_own,
   na_Pots_taken:=on_Pots_taken,
   ex_Z05:=⟨_,_,_,PySem.F.excBase_ValueError,gx_Z05⟩,
   ex_Z06:=⟨_,_,_,PySem.F.excBase_ValueError,gx_Z06⟩,
   ex_Z0c:=⟨_,_,_,PySem.F.excBase_ValueError,gx_Z0c⟩,
   k_Z03:=⟨_,mg_of X G k_Z03,⟨_,rfl⟩⟩,
   k_Z02:=⟨_,mg_of X G k_Z02,⟨_,rfl⟩⟩,
   k_Z04:=⟨A_Z04,mg_of X G k_Z04,fun H=> .inr ⟨_,its_Z04,n_Z04,kl_Z04,rfl,rfl,kz_Z04,kv_Z04⟩⟩,
   k_Z08:=⟨_,mg_of X G k_Z08,⟨_,rfl⟩⟩,
   k_Z01:=⟨_,mg_of X G k_Z01,⟨_,rfl⟩⟩,
   k_Z00:=⟨_,mg_of X G k_Z00,⟨_,rfl⟩⟩,
   k_Z0e:=⟨_,mg_of X G k_Z0e,⟨_,rfl⟩⟩,
   k_Z09:=⟨_,mg_of X G k_Z09,⟨_,rfl⟩⟩,
   k_Z0d:=⟨A_Z0d,es_Z0d,n_Z0d,mg_of X G k_Z0d,kl_Z0d,kv_Z0d,by decide⟩,
   k_Z0b:=⟨A_Z0b,mg_of X G k_Z0b,fun H=> .inr ⟨_,its_Z0b,n_Z0b,kl_Z0b,rfl,rfl,kz_Z0b,kv_Z0b⟩⟩,
   no_range:=mg_none_of X G z_range,
   no_divmod:=mg_none_of X G z_divmod,
   no_min:=mg_none_of X G z_min,
   no_sorted:=mg_none_of X G z_sorted,
   no_sum:=mg_none_of X G z_sum,
   no_enumerate:=mg_none_of X G z_enumerate,
   no_list:=mg_none_of X G z_list,
   no_set:=mg_none_of X G z_set,
   no_len:=mg_none_of X G z_len,
   no_int:=mg_none_of X G z_int,
   xc_NoSpan:=⟨by rw[gc_Z06];rfl,xga_NoSpan,xgt_NoSpan,xcl_NoSpan,xmo_NoSpan,xmb_NoSpan⟩,
   xc_TooLong:=⟨by rw[gc_Z0c];rfl,xga_TooLong,xgt_TooLong,xcl_TooLong,xmo_TooLong,xmb_TooLong⟩,
   m_NoSpan_SpanError:=m_NoSpan_SpanError,
   m_NoSpan_NoDate:=m_NoSpan_NoDate,
   m_NoSpan_NoSpan:=m_NoSpan_NoSpan,
   m_NoSpan_TooLong:=m_NoSpan_TooLong,
   m_NoSpan_Pots:=m_NoSpan_Pots,
   m_NoSpan_ValueError:=m_NoSpan_ValueError,
   m_TooLong_SpanError:=m_TooLong_SpanError,
   m_TooLong_NoDate:=m_TooLong_NoDate,
   m_TooLong_NoSpan:=m_TooLong_NoSpan,
   m_TooLong_TooLong:=m_TooLong_TooLong,
   m_TooLong_Pots:=m_TooLong_Pots,
   m_TooLong_ValueError:=m_TooLong_ValueError,
   m_SpanError_BaseException:=m_SpanError_BaseException}⟩
theorem bind_law{w:World}{K:Fg}{mg:Str→Option Value}{t:Adr}(T:Txt w K mg t): ∀(s:Shared) (u:Value),BindsTo s t.d_1d ⟨[u], []⟩ [("_law_script",u)]:=by
 obtain⟨oc,od,kV,doc,pm,an,cdv,ct,osl,e,lk,hcd⟩:=T.F_1d.fn.ex;intro s u;rw[e];exact .of_eq rfl
theorem walk{l:PySem.W.OpenLaw}{q:Program}{loose:List Str}{XP:(Str→Option Value)→Heap→Prop}{YP:World→Heap→Prop}{d:DefRec}{K:Params→Fg}(hn:l.most=some 63)(hdf:d.params.defaults= [])
  (hY: ∀(w:World) (h:Heap),YP w h→(K w.params).In h)
  (F: ∀(w:World) (mg:Str→Option Value) (fa:Addr) (h:Heap),(K w.params).In h→h.Ns mainGlobals mg→mg d.name=some (.ref fa)→
   ∃fd:FuncData,(∀(s:Shared) (u:Value),BindsTo s fd ⟨[u], []⟩ [("_law_script",u)])∧ ∀base:Heap,(K w.params).In base→base.Ns mainGlobals mg→FnOk l.prog w (K w.params) mg base (CXE l.prog w) 30 fa fd ["_law_script"] (zmy (K w.params))):
  PySem.W.WalkO q loose XP YP l.row.toRowW d [] (fun f vs=>PySem.call f vs):=
 L2.walk_of (n:=63) (k:=30) (x:="_law_script") (CX:=fun w=>CXE l.prog w) (sp:=fun w=>zmy (K w.params)) hn (by decide) hdf ⟨rfl,by decide,by decide⟩ hY F (fun _ _ a ns hl _ hS=>⟨a,ns,rfl,hS,hl,fun _=>rfl⟩) fun _ _ _ _ _ ⟨_,_,_,_,_,z⟩=>z
end K64
namespace PySem.W.Fast
theorem tw18362794107741143502:True:=⟨⟩
theorem tw17241600212252782252:True:=⟨⟩
theorem tw8560244291035622060:True:=⟨⟩
theorem tw17136430389435061473:True:=⟨⟩
theorem tw503837985405386577:True:=⟨⟩
theorem tw17276926511103973026:True:=⟨⟩
theorem tw8577726717982907530:True:=⟨⟩
theorem tw7476612082251355070:True:=⟨⟩
theorem tw12449877081802031635:True:=⟨⟩
theorem tw4392342164146906831:True:=⟨⟩
theorem tw16521305340732273386:True:=⟨⟩
theorem tw3526080178886305501:True:=⟨⟩
theorem tw981076306034009495:True:=⟨⟩
theorem tw472861909701605326:True:=⟨⟩
theorem tw13837777337105426367:True:=⟨⟩
theorem tw7551877257755159800:True:=⟨⟩
theorem tw17378739428094713674:True:=⟨⟩
theorem tw5094657765804605580:True:=⟨⟩
theorem tw11542692576330147265:True:=⟨⟩
theorem tw9322747609609348705:True:=⟨⟩
theorem tw16707436930041263243:True:=⟨⟩
theorem tw5388307569127272118:True:=⟨⟩
theorem tw6880136794175859173:True:=⟨⟩
theorem tw16996626907017279060:True:=⟨⟩
theorem tw13051910817676230355:True:=⟨⟩
theorem tw10986454281755566406:True:=⟨⟩
theorem tw18074945583750667977:True:=⟨⟩
theorem tw11391754794845025726:True:=⟨⟩
theorem tw17833967852995935551:True:=⟨⟩
theorem tw13536762308351476009:True:=⟨⟩
theorem tw4408688396121907846:True:=⟨⟩
theorem tw10069224526962037490:True:=⟨⟩
theorem tw13423278573488870561:True:=⟨⟩
theorem tw15121938536040717529:True:=⟨⟩
theorem tw7416181057926309068:True:=⟨⟩
theorem tw17140218563250954526:True:=⟨⟩
theorem tw1404804746321434664:True:=⟨⟩
theorem tw15111632957612879891:True:=⟨⟩
theorem tw14677320297807017626:True:=⟨⟩
theorem tw11081802798916001071:True:=⟨⟩
theorem tw4245773459211897155:True:=⟨⟩
theorem tw16435131115879822470:True:=⟨⟩
theorem tw6425477210492312620:True:=⟨⟩
theorem tw7276163016843817819:True:=⟨⟩
theorem tw16161980434704674112:True:=⟨⟩
theorem tw1352051847831757722:True:=⟨⟩
theorem tw14726730775789701425:True:=⟨⟩
theorem tw3894075773745607396:True:=⟨⟩
theorem tw499511452415530925:True:=⟨⟩
theorem tw17764237150708557354:True:=⟨⟩
theorem tw7065269268947754986:True:=⟨⟩
theorem tw2158400827389196450:True:=⟨⟩
theorem tw1707653415116943529:True:=⟨⟩
theorem tw7750902367890203112:True:=⟨⟩
theorem tw16408431436006703181:True:=⟨⟩
theorem tw5235795989547548075:True:=⟨⟩
theorem tw6810433087754350376:True:=⟨⟩
theorem tw16653187674124973596:True:=⟨⟩
theorem tw11893351134286588902:True:=⟨⟩
theorem tw11354707944957982168:True:=⟨⟩
theorem tw11557634182360834220:True:=⟨⟩
theorem tw10901979915425794040:True:=⟨⟩
theorem tw15048452786490910425:True:=⟨⟩
theorem tw673912257720539457:True:=⟨⟩
theorem tw17488582865816866082:True:=⟨⟩
theorem tw18035763147652029652:True:=⟨⟩
theorem tw5477630928638632924:True:=⟨⟩
theorem tw14313530104980394543:True:=⟨⟩
theorem tw11365804405879493148:True:=⟨⟩
theorem tw16384093154886466385:True:=⟨⟩
theorem tw14801044213672241209:True:=⟨⟩
theorem tw7085943328736926418:True:=⟨⟩
theorem tw12446204142008903263:True:=⟨⟩
theorem tw3331336372851762344:True:=⟨⟩
theorem tw11537206179028635103:True:=⟨⟩
theorem tw7602259083241415696:True:=⟨⟩
theorem tw1740972107604872617:True:=⟨⟩
theorem tw5100654555518025690:True:=⟨⟩
theorem tw8650669583955879196:True:=⟨⟩
theorem tw3116391141192689466:True:=⟨⟩
theorem tw2222286331406027620:True:=⟨⟩
theorem tw1085290145613534001:True:=⟨⟩
theorem tw10241371855365783984:True:=⟨⟩
theorem tw2196447433200160659:True:=⟨⟩
theorem tw3754718742077454002:True:=⟨⟩
theorem tw18212656286632682569:True:=⟨⟩
theorem tw7474883954706123456:True:=⟨⟩
theorem tw12454606013892366089:True:=⟨⟩
theorem tw15496397126158471649:True:=⟨⟩
theorem tw17990599944797579434:True:=⟨⟩
theorem tw17720348714140974149:True:=⟨⟩
theorem tw14963901857259802553:True:=⟨⟩
theorem tw9280197844245083832:True:=⟨⟩
theorem tw4271343492956859480:True:=⟨⟩
theorem tw8893320513868968404:True:=⟨⟩
theorem tw15154887857883867727:True:=⟨⟩
theorem tw16664533958437330883:True:=⟨⟩
theorem tw8611790665473634966:True:=⟨⟩
theorem tw7366280121189497455:True:=⟨⟩
theorem tw10629603526375696532:True:=⟨⟩
theorem tw9360293820677586293:True:=⟨⟩
theorem tw9097971697426675806:True:=⟨⟩
theorem tw4929729982226645045:True:=⟨⟩
theorem tw13888751019359370904:True:=⟨⟩
theorem tw9419621635351563650:True:=⟨⟩
theorem tw1358351054183416322:True:=⟨⟩
theorem tw1955965253531575886:True:=⟨⟩
theorem tw10350213552771013883:True:=⟨⟩
theorem tw10402270706587101690:True:=⟨⟩
theorem tw3400674227220808001:True:=⟨⟩
theorem tw15719531168592154384:True:=⟨⟩
theorem tw2899581894683221384:True:=⟨⟩
theorem tw1434360870571344136:True:=⟨⟩
theorem tw15910134302119612482:True:=⟨⟩
theorem tw9523543800104853254:True:=⟨⟩
theorem tw1839688317790165089:True:=⟨⟩
theorem tw17641060315684170654:True:=⟨⟩
theorem tw17514611862043225332:True:=⟨⟩
theorem tw9001289444441933590:True:=⟨⟩
theorem tw17553318014624319995:True:=⟨⟩
theorem tw12038641064203778384:True:=⟨⟩
theorem tw9803148306689257775:True:=⟨⟩
theorem tw6445036547517737859:True:=⟨⟩
theorem tw17364423508864593457:True:=⟨⟩
theorem tw5038079365040946573:True:=⟨⟩
theorem tw15523092833988243361:True:=⟨⟩
theorem tw13104147641029171650:True:=⟨⟩
theorem tw14726249500383099276:True:=⟨⟩
theorem tw8351771876592552979:True:=⟨⟩
theorem tw17760656658937057709:True:=⟨⟩
theorem tw16286504867096953209:True:=⟨⟩
theorem tw9977023631748294855:True:=⟨⟩
theorem tw13628404475669674331:True:=⟨⟩
theorem tw1396875458158689421:True:=⟨⟩
theorem tw7808629306193115728:True:=⟨⟩
theorem tw1147841742210812211:True:=⟨⟩
theorem tw4036798341985741633:True:=⟨⟩
theorem tw16059078791326584933:True:=⟨⟩
theorem tw8027797188913043975:True:=⟨⟩
theorem tw16653842390843588084:True:=⟨⟩
theorem tw3278552977676411861:True:=⟨⟩
theorem tw18359213133807079823:True:=⟨⟩
theorem tw18130363484011538240:True:=⟨⟩
theorem tw12297514099420760910:True:=⟨⟩
theorem tw16098773852800670194:True:=⟨⟩
theorem tw7315495210322800704:True:=⟨⟩
theorem tw10005068266436574981:True:=⟨⟩
theorem tw2106093527239680578:True:=⟨⟩
theorem tw2646795765274639957:True:=⟨⟩
theorem tw9773053436427981688:True:=⟨⟩
theorem tw827961531889875704:True:=⟨⟩
theorem tw851335403133214738:True:=⟨⟩
theorem tw6698394246000125432:True:=⟨⟩
theorem tw13645741151328686272:True:=⟨⟩
theorem tw3670749805857388914:True:=⟨⟩
theorem tw8090053717028525346:True:=⟨⟩
theorem tw3122425712367052732:True:=⟨⟩
theorem tw11278310515002930687:True:=⟨⟩
theorem tw17866015419236216408:True:=⟨⟩
theorem tw14700155092086624161:True:=⟨⟩
theorem tw16948195351217410657:True:=⟨⟩
theorem tw9937124486868918824:True:=⟨⟩
theorem tw17303139264601848900:True:=⟨⟩
theorem tw16493383133197272738:True:=⟨⟩
theorem tw18254950890629654990:True:=⟨⟩
theorem tw18234770837291822802:True:=⟨⟩
theorem tw14111836192212211999:True:=⟨⟩
theorem tw6842971571261701852:True:=⟨⟩
theorem tw9688051665499167645:True:=⟨⟩
theorem tw15406588367442058736:True:=⟨⟩
theorem tw6735326509450506967:True:=⟨⟩
theorem tw16614107327969176124:True:=⟨⟩
theorem tw6183036167848321284:True:=⟨⟩
theorem tw6537422232309960433:True:=⟨⟩
theorem tw8656239135356883932:True:=⟨⟩
theorem tw14030689916010954197:True:=⟨⟩
theorem tw6878425320629916943:True:=⟨⟩
theorem tw974040673744976963:True:=⟨⟩
theorem tw6180155593451831475:True:=⟨⟩
theorem tw8768255797725803836:True:=⟨⟩
theorem tw5528506477572114567:True:=⟨⟩
theorem tw14811438725499754312:True:=⟨⟩
theorem tw5095792176245456217:True:=⟨⟩
theorem tw12042666885333287661:True:=⟨⟩
theorem tw1721189679449861744:True:=⟨⟩
theorem tw7786464798102386743:True:=⟨⟩
theorem tw11518902314555238153:True:=⟨⟩
theorem tw473353431355413128:True:=⟨⟩
theorem tw10025263426684997624:True:=⟨⟩
theorem tw833781912012565742:True:=⟨⟩
theorem tw6370314166023897601:True:=⟨⟩
theorem tw15113639716979550968:True:=⟨⟩
theorem tw6500516440759888247:True:=⟨⟩
theorem tw3293753249845907375:True:=⟨⟩
theorem tw5777668710887123656:True:=⟨⟩
theorem tw9978738267628219777:True:=⟨⟩
theorem tw17621670133758127934:True:=⟨⟩
theorem tw3478312449353173357:True:=⟨⟩
theorem tw15845322188884440898:True:=⟨⟩
theorem tw7055874467244805863:True:=⟨⟩
theorem tw7286739267967113161:True:=⟨⟩
theorem tw1157999964431113741:True:=⟨⟩
theorem tw6144175117539944437:True:=⟨⟩
theorem tw2981571743544356924:True:=⟨⟩
theorem tw15465015262521471569:True:=⟨⟩
theorem tw14154436261072407327:True:=⟨⟩
theorem tw181116812063967821:True:=⟨⟩
theorem tw11733220541264427657:True:=⟨⟩
theorem tw13290149176707488196:True:=⟨⟩
theorem tw17987006478840097345:True:=⟨⟩
theorem tw4865475498767599529:True:=⟨⟩
theorem tw5053743469452972844:True:=⟨⟩
theorem tw16466091504114694893:True:=⟨⟩
theorem tw16384380717186696240:True:=⟨⟩
theorem tw2069590861168168899:True:=⟨⟩
theorem tw7613374538614737268:True:=⟨⟩
theorem tw15614680545918175242:True:=⟨⟩
theorem tw1273459949079352891:True:=⟨⟩
set_option maxRecDepth 100000 in
def tw3781198827303360223:PySem.Program:=PySem.Challenge.pw_paidspan_k64_one_line_a_span_a_day
set_option maxRecDepth 100000 in
theorem te3781198827303360223:PySem.Challenge.pw_paidspan_k64_one_line_a_span_a_day=tw3781198827303360223:=rfl
end PySem.W.Fast
open PySem PySem.W PyProof.Rows
set_option maxRecDepth 100000 in
set_option maxHeartbeats 0 in
theorem PySem.Challenge.cw_paidspan_k64_one_line_a_span_a_day_holds : PySem.Challenge.rw_paidspan_k64_one_line_a_span_a_day.Holds := by
 w_on;o_law;k_head;(case hw=>w_witness2)
 k_fill
 refine K64.walk (l:=PySem.Challenge.rw_paidspan_k64_one_line_a_span_a_day) rfl rfl (fun w h Y=>PySem.W.kIn_of Y) ?F
 case F=>
  intro w mg fa h KX G hmg
  have T: ∃t,K64.Txt w (L2.KOf KX) mg t:=by
   dsimp only[L2.KOf]
   refine' K64.txt_mk KX G ?h0 ?h1 ?h2 ?h3 ?h4 ?h5 ?h6 ?h7 ?h8 ?h9 ?h10 ?h11 ?h12 ?h13 ?h14 ?h15 ?h16 ?h17 ?h18 ?h19 ?h20 ?h21 ?h22 ?h23 ?h24 ?h25 ?h26 ?h27 ?h28 ?h29 ?h30 ?h31 ?h32 ?h33 ?h34 ?h35 ?h36 ?h37 ?h38 ?h39 ?h40 ?h41 ?h42 ?h43 ?h44 ?h45 ?h46 ?h47 ?h48 ?h49 ?h50 ?h51 ?h52 ?h53 ?h54 ?h55 ?h56 ?g_Z0a ?gc_Z0a ?gt_Z0a ?gm_Z0a ?g_Z05 ?gc_Z05 ?gt_Z05 ?gm_Z05 ?g_Z06 ?gc_Z06 ?gt_Z06 ?gm_Z06 ?g_Z0c ?gc_Z0c ?gt_Z0c ?gm_Z0c ?g_Z07 ?gc_Z07 ?gt_Z07 ?gm_Z07 ?op_Pots ?od_Z07 ?oo_Pots ?os_Pots ?om_Pots ?ok_Z07 ?on_Pots_given ?on_Pots_own ?on_Pots_taken ?gx_Z05 ?gx_Z06 ?gx_Z0c ?k_Z03 ?k_Z02 ?k_Z04 ?kl_Z04 ?kz_Z04 ?kv_Z04 ?k_Z08 ?k_Z01 ?k_Z00 ?k_Z0e ?k_Z09 ?k_Z0d ?kl_Z0d ?kv_Z0d ?k_Z0b ?kl_Z0b ?kz_Z0b ?kv_Z0b ?z_range ?z_divmod ?z_min ?z_sorted ?z_sum ?z_enumerate ?z_list ?z_set ?z_len ?z_int ?xga_NoSpan ?xgt_NoSpan ?xcl_NoSpan ?xmo_NoSpan ?xmb_NoSpan ?xga_TooLong ?xgt_TooLong ?xcl_TooLong ?xmo_TooLong ?xmb_TooLong ?m_NoSpan_SpanError ?m_NoSpan_NoDate ?m_NoSpan_NoSpan ?m_NoSpan_TooLong ?m_NoSpan_Pots ?m_NoSpan_ValueError ?m_TooLong_SpanError ?m_TooLong_NoDate ?m_TooLong_NoSpan ?m_TooLong_TooLong ?m_TooLong_Pots ?m_TooLong_ValueError ?m_SpanError_BaseException
   (case g_Z0a|g_Z05|g_Z06|g_Z0c|g_Z07=>k_is)
   (case h0|h1|h2|h3|h4|h5|h6|h7=>(refine' L2.FA.mk ?a ?l ?c ?k;(case a|l|c|k=>k_is)))
   (case h8|h9|h10|h11|h12|h13|h14|h15=>(refine' L2.FA.mk ?a ?l ?c ?k;(case a|l|c|k=>k_is)))
   (case h16|h17|h18|h19|h20|h21|h22|h23=>(refine' L2.FA.mk ?a ?l ?c ?k;(case a|l|c|k=>k_is)))
   (case h24|h25|h26|h27|h28|h29|h30|h31=>(refine' L2.FA.mk ?a ?l ?c ?k;(case a|l|c|k=>k_is)))
   (case h32|h33|h34|h35|h36|h37|h38|h39=>(refine' L2.FA.mk ?a ?l ?c ?k;(case a|l|c|k=>k_is)))
   (case h40|h41|h42|h43|h44|h45|h46|h47=>(refine' L2.FA.mk ?a ?l ?c ?k;(case a|l|c|k=>k_is)))
   (case h48|h49=>(refine' L2.FA.mk ?a ?l ?c ?k;(case a|l|c|k=>k_is)))
   (case h50|h51|h52|h53|h54|h55|h56=>(refine' L2.FM.mk ?a ?l ?c ?k ?i;(case a|l|c|k|i=>k_is)))
   (case gc_Z0a|gt_Z0a|gm_Z0a|gc_Z05|gt_Z05|gm_Z05|gc_Z06|gt_Z06=>k_is)
   (case gm_Z06|gc_Z0c|gt_Z0c|gm_Z0c|gc_Z07|gt_Z07|gm_Z07|op_Pots=>k_is)
   (case od_Z07|oo_Pots|os_Pots|om_Pots|ok_Z07|on_Pots_given|on_Pots_own|on_Pots_taken=>k_is)
   (case gx_Z05=>k_exc)
   (case gx_Z06=>k_exc)
   (case gx_Z0c=>k_exc)
   (case k_Z03|k_Z02|k_Z04|kl_Z04=>k_is)
   (case kz_Z04=>decide)
   (case kv_Z04=>exact(.cons ⟨_,rfl⟩ (.cons ⟨_,rfl⟩ (.cons ⟨_,rfl⟩ (.cons ⟨_,rfl⟩ (.cons ⟨_,rfl⟩ (.cons ⟨_,rfl⟩ (.cons ⟨_,rfl⟩ (.cons ⟨_,rfl⟩ (.cons ⟨_,rfl⟩ (.cons ⟨_,rfl⟩ (.cons ⟨_,rfl⟩ (.cons ⟨_,rfl⟩ .nil)))))))))))))
   (case k_Z08|k_Z01|k_Z00|k_Z0e|k_Z09|k_Z0d|kl_Z0d=>k_is)
   (case kv_Z0d=>exact⟨⟨_,rfl⟩,rfl,⟨_,rfl⟩,⟨⟨_,rfl⟩,rfl,⟨_,rfl⟩,⟨⟨_,rfl⟩,rfl,⟨_,rfl⟩,⟨⟨_,rfl⟩,rfl,⟨_,rfl⟩,trivial⟩⟩⟩⟩)
   (case k_Z0b|kl_Z0b=>k_is)
   (case kz_Z0b=>decide)
   (case kv_Z0b=>exact(.cons ⟨_,rfl⟩ (.cons ⟨_,rfl⟩ (.cons ⟨_,rfl⟩ (.cons ⟨_,rfl⟩ (.cons ⟨_,rfl⟩ (.cons ⟨_,rfl⟩ .nil)))))))
   (case z_range|z_divmod|z_min|z_sorted|z_sum|z_enumerate|z_list|z_set=>k_is)
   (case z_len|z_int|xga_NoSpan|xgt_NoSpan|xcl_NoSpan|xmo_NoSpan|xmb_NoSpan|xga_TooLong=>k_is)
   (case xgt_TooLong|xcl_TooLong|xmo_TooLong|xmb_TooLong|m_NoSpan_SpanError|m_NoSpan_NoDate|m_NoSpan_NoSpan|m_NoSpan_TooLong=>k_is)
   (case m_NoSpan_Pots|m_NoSpan_ValueError|m_TooLong_SpanError|m_TooLong_NoDate|m_TooLong_NoSpan|m_TooLong_TooLong|m_TooLong_Pots|m_TooLong_ValueError=>k_is)
   (case m_SpanError_BaseException=>k_is)
  obtain⟨t,T⟩:=T
  have e0:=hmg.symm.trans T.F_1d.mg
  cases e0
  refine⟨_,?b,fun base _ _=>(K64.ok_1d T).mono (by decide)⟩
  exact K64.bind_law T
