import PyProof.Rows.All
import Wide.All
import OpenK.AllK
import Wide.FinOn
import HandS.ForMost
import HandS.Exc
import HandS.WordsExc
import HandS.CallSlots
import HandS.Lambda
import HandS.OwnEq
import HandS.ForExc
import HandS.ExcInit
import HandS.TryMany
import HandS.TupAny
import HandS.Conv
import HandS.Gcd
import HandS.Zip
import HandS.IsInst
import HandS.Wide
import HandS.TupMul
import HandS.Defaults
import HandS.FStr
import HandS.ExcField
import HandS.SlotsOwn
import HandS.RevRange
import HandS.Style
import HandS.TryOnly
import HandS.ExcIs
import KE.KDictZip
import KE.DatumOrd
import PyProof.InstNe
import KE.GoesMore
import PyProof.EnumMake
import PyProof.Draws
import HandS.SortInts
import HandS.Dict
import HandS.Small
import HandS.Nested
import KE.DataCmp
import KE.DataEq
import HandS.Deep
import HandS.RaiseMore
import PyProof.ReprRoads
import PyProof.ReprLen
import OpenK.KMeth
import PyProof.ReprBulk
import KE.BitLaws
import PyProof.Rows.Walk
import HandS.EndTab
import PySem.Challenge.RW_fourread_k21_solutions
set_option Elab.async false
set_option linter.all false
set_option maxRecDepth 100000
set_option maxHeartbeats 4000000
/-! PLX: room and promises where nothing is being shown (repr). -/
namespace L2
namespace PL
open PySem PySem.Spec PyProof.Rows
/-- room, and no repr is under way -/
structure Room (k : Nat) (A : Around) : Prop extends L2.Room k A where
  gd : A.guards = some []
variable {k j : Nat} {A : Around}
theorem Room.mono (r : Room k A) (h : j ≤ k) : Room j A := ⟨L2.Room.mono r.toRoom h, r.gd⟩
theorem Room.deeper (r : Room (k + 1) A) (env : Env) : Room k (A.deeper env) := ⟨L2.Room.deeper r.toRoom env, r.gd⟩
theorem Room.in1 (r : Room (k + 1) A) : Room k A.in1 := ⟨L2.Room.in1 r.toRoom, r.gd⟩
theorem make_guards {C : Addr} {us : List Value} {kw : List (Str × Value)} : (A.under (.builtin "type.__call__" ⟨.ref C :: us, kw⟩)).guards = A.guards := by
  cases h : A.guards <;> simp [Around.under, Code.guards, Code.isGuard, guardIds, pushGuards, h]
theorem Room.make (r : Room (k + 1) A) (C : Addr) (us : List Value) (kw : List (Str × Value)) : Room k (A.under (.builtin "type.__call__" ⟨.ref C :: us, kw⟩)) := ⟨L2.Room.make r.toRoom C us kw, make_guards.trans r.gd⟩
/-- what a def promises, called where there is such room -/
structure FnOk (P : Program) (w : World) (K : PySem.W.Frag) (mg : Str → Option Value) (base : Heap) (CX : CXT) (k : Nat) (f : Addr) (fd : FuncData) (ps : List Str) (sp : Sp) : Prop where
  len : ∀ vs H Q E, sp vs H Q E → vs.length = ps.length
  run : ∀ (A : Around) (outer : List Env) (s : Shared) (H : Hp) (args : Args) (us : List Value) (vs : List V) (Q : VK) (E : XK), PL.Room k A → Env0 P w K mg base A outer s H →
    BindsTo s fd args (ps.zip us) → Vals vs us → sp vs H Q E → codeAny (model P w) A (.call (.ref f) args) (CR CX outer P w H s Q E) s
section
variable {P : Program} {w : World} {K : PySem.W.Frag} {mg : Str → Option Value} {base : Heap} {CX : CXT} {f : Addr} {fd : FuncData} {ps : List Str} {sp sp' : Sp}
theorem FnOk.mono (F : FnOk P w K mg base CX j f fd ps sp) (h : j ≤ k) : FnOk P w K mg base CX k f fd ps sp where
  len := F.len
  run A outer s H args us vs Q E r := F.run A outer s H args us vs Q E (r.mono h)
theorem FnOk.imp (F : FnOk P w K mg base CX k f fd ps sp) (h : ∀ vs H Q E, sp' vs H Q E → sp vs H Q E) : FnOk P w K mg base CX k f fd ps sp' where
  len vs H Q E q := F.len vs H Q E (h _ _ _ _ q)
  run A outer s H args us vs Q E r e b v q := F.run A outer s H args us vs Q E r e b v (h _ _ _ _ q)
/-- the kit's own promise is one -/
theorem FnOk.of (F : L2.FnOk P w K mg base CX k f fd ps sp) : FnOk P w K mg base CX k f fd ps sp where
  len := F.len
  run A outer s H args us vs Q E r := F.run A outer s H args us vs Q E r.toRoom
theorem _root_.L2.Fun.okG {x qual : Str} {st : Stmt} {N : List Str} (F : Fun K x qual st f fd) (S : FnScope N ps (defScope st)) (len : ∀ vs H Q E, sp vs H Q E → vs.length = ps.length)
    (body : ∀ (cdv : Value) (A : Around) (outer : List Env) (s : Shared) (H : Hp) (vs : List V) (Q : VK) (E : XK), PL.Room k (A.deeper (envOfC qual (defScope st) s.heap.objs.size f cdv)) → sp vs H Q E →
      ∃ t, PSs (cxOf (L2.CX P w) P w K mg base N qual (defScope st) f cdv A outer s H E) (defBody st) t ∧ t { nx := fun _ H' => Q .non H', rt := Q } (start N vs) H) :
    PL.FnOk P w K mg base (L2.CX P w) (k + 1) f fd ps sp := by
  refine ⟨len, fun A outer s H args us vs Q E r e b v q => ?_⟩
  obtain ⟨_, _, _, _, _, _, cdv, _, _, rfl, lk, hcd⟩ := F.ex
  exact LamX.run_ofS (N := N) lk hcd S r.toRoom e b v (len _ _ _ _ q) fun _ => body cdv A outer s H vs Q E (r.deeper _) q
end
section
variable {X : Cx} {CX : CXT} {f : Addr} {fd : FuncData} {ps : List Str} {sp : Sp} {dvs : List V} {ds : List Value} {E : St → XK} {x : Str} {p pos : Pos} {e : Expr} {es : List Expr} {t : TA}
theorem run_fnSD {pins : List (Addr × Obj)} {σ : St} {H : Hp} {s : Shared} {Q : VK} {us : List Value} {vs : List V} (F : PL.FnOk X.prog X.w X.K X.mg X.base CX k f fd ps sp) (hr : PL.Room k X.A) (hb : Binds X.K fd ps ds)
    (hd : Vals dvs ds) (hx : PassesAt CX X σ (E σ)) (I : Inv X pins σ H s) (r : Vals vs us) (h : sp (vs ++ dvs) H Q (E σ)) : wpAny (model X.prog X.w) X.A (call (.ref f) us) (EP X pins σ Q) X.xe s := by
  have r2 := r.append hd
  have n : (us ++ ds).length = ps.length := r2.length.symm.trans (F.len _ _ _ _ h)
  have run := F.run X.A X.stack s H ⟨us, []⟩ (us ++ ds) (vs ++ dvs) Q (E σ) hr I.env0 (hb s us I.kIn n) r2 h
  refine wpAny_call (codeAny_mono run fun r' s' q => ?_)
  rcases r' with er | fl
  · exact hx pins H s er s' I q
  · rcases fl with _ | _ | _ | u
    all_goals first | exact I.after q | exact (show False from q).elim
theorem pe_callSD (F : PL.FnOk X.prog X.w X.K X.mg X.base CX k f fd ps sp) (hr : PL.Room k X.A) (hg : Gl X x) (hm : X.mg x = some (.ref f)) (hk : PySem.W.keepIn X.K (.ref f) = true) (hb : Binds X.K fd ps ds) (hd : Vals dvs ds)
    (hx : ∀ σ, PassesAt CX X σ (E σ)) (ha : PA X (e :: es) t) (hdb : (x == ("__debug__" : Str)) = false := by decide) (he : starEach (e :: es) X.env = (false, eval e X.env) :: starEach es X.env := by rfl)
    (hpl : (backTo pos (starEach es X.env)).any (·.1) = false := by rfl) : PE X (.Call (.Name x p) (e :: es) [] pos) (tCallSD sp dvs E t) := by
  constructor
  intro pins s σ H Q I h
  have go := ha.run pos pins s σ H _ I h
  exact wpAny_Call_Name_kw (ld_glob I hg hm (PySem.W.callWith_K (h₀ := X.base) I.ok.mod.kin hk (thn go fun us s1 ⟨vs, H1, I1, r, q⟩ => ⟨I1.kIn, PL.run_fnSD F hr hb hd (hx σ) I1 r q⟩) he hpl) hdb)
end
end PL
end L2

/-! PL: values as pure data over the hand layer. -/
namespace L2
namespace PL
open PySem PySem.Spec PyProof.Rows

/-- what is drawn from: none, or the list [draws, at] at tok -/
structure G where
  tok : Addr
  hk : Nat
/-- the tables of code objects, by the name that the codes bear -/
class Tabl where
  T : List (Addr × Str)
/-- neither the hand nor a table -/
def Kp [Tabl] (g : G) (a : Addr) : Prop := (g.hk = 0 ∨ a ≠ g.tok) ∧ ∀ p ∈ Tabl.T, a ≠ p.1
theorem Kp.ne [Tabl] {g : G} {a b : Addr} (h : Kp g b) (n : ¬ Kp g a) : a ≠ b := fun e => n (by rw [e]; exact h)
inductive D where
  | non | bl (b : Bool) | int (i : Int) | str (x : Str)
  | tup (l : List D) | lst (l : List D)
  | obj (C : Addr) (ns : List Str) (l : List D)
  | tok (k : Nat)
  | scr (ns : List Int)
  /-- a def of the text -/
  | fn (a : Addr)

mutual
/-- v stands for the datum d, over what is frozen -/
inductive Rep (K : PySem.W.Frag) (t : G) (F : Hp) : V → D → Prop
  | non : Rep K t F .non .non
  | bl (b : Bool) : Rep K t F (.bl b) (.bl b)
  | int (i : Int) : Rep K t F (.int i) (.int i)
  | str (x : Str) : Rep K t F (.str x) (.str x)
  | tup {a : Addr} {xs : List V} {ds : List D} : SqT K F a xs → Reps K t F xs ds → Rep K t F (.ref a) (.tup ds)
  | lst {a : Addr} {xs : List V} {ds : List D} : F a = some (.lst xs) → Reps K t F xs ds → Rep K t F (.ref a) (.lst ds)
  | scr {a : Addr} {ns : List Int} : SqL K F a (ns.map V.int) → Rep K t F (.ref a) (.scr ns)
  | obj {a C dx : Addr} {ns : List Str} {xs : List V} {ds : List D} : F a = some (.ins C dx (ns.zip xs)) → ns.length = xs.length → Reps K t F xs ds → Rep K t F (.ref a) (.obj C ns ds)
  | tok : Rep K t F (.ref t.tok) (.tok t.hk)
  | fn (a : Addr) : Rep K t F (.ref a) (.fn a)
inductive Reps (K : PySem.W.Frag) (t : G) (F : Hp) : List V → List D → Prop
  | nil : Reps K t F [] []
  | cons {v : V} {vs : List V} {d : D} {ds : List D} : Rep K t F v d → Reps K t F vs ds → Reps K t F (v :: vs) (d :: ds)
end

theorem same_tup {K : PySem.W.Frag} {F F' : Hp} {a : Addr} {xs : List V} (e : Same F F') (h : SqT K F a xs) : SqT K F' a xs := by
  rcases h with (h | ⟨o, h⟩) | h
  · exact .inl (.inl (e _ _ h))
  · exact .inl (.inr ⟨o, e _ _ h⟩)
  · exact .inr h

section
variable {K : PySem.W.Frag} {t : G} {F F' : Hp}
mutual
theorem Rep.mono (e : Same F F') : ∀ {v : V} {d : D}, Rep K t F v d → Rep K t F' v d
  | _, _, .non => .non
  | _, _, .bl b => .bl b
  | _, _, .int i => .int i
  | _, _, .str x => .str x
  | _, _, .tup h r => .tup (same_tup e h) (Reps.mono e r)
  | _, _, .lst h r => .lst (e _ _ h) (Reps.mono e r)
  | _, _, .scr h => .scr (e.seq h)
  | _, _, .obj h l r => .obj (e _ _ h) l (Reps.mono e r)
  | _, _, .tok => .tok
  | _, _, .fn a => .fn a
theorem Reps.mono (e : Same F F') : ∀ {vs : List V} {ds : List D}, Reps K t F vs ds → Reps K t F' vs ds
  | _, _, .nil => .nil
  | _, _, .cons h r => .cons (Rep.mono e h) (Reps.mono e r)
end
theorem Reps.length : ∀ {vs : List V} {ds : List D}, Reps K t F vs ds → vs.length = ds.length
  | _, _, .nil => rfl
  | _, _, .cons _ r => by simp [Reps.length r]
theorem Reps.get : ∀ {vs : List V} {ds : List D} {i : Nat} {d : D}, Reps K t F vs ds → ds[i]? = some d → ∃ v, vs[i]? = some v ∧ Rep K t F v d
  | _, _, _, _, .nil, e => by simp at e
  | _, _, 0, _, .cons h _, e => by
    simp at e; subst e; exact ⟨_, rfl, h⟩
  | _, _, i + 1, d, .cons _ r, e => by
    obtain ⟨v, h1, h2⟩ := Reps.get (i := i) (d := d) r (by simpa using e)
    exact ⟨v, by simpa using h1, h2⟩
theorem Reps.get' : ∀ {vs : List V} {ds : List D} {i : Nat} {v : V}, Reps K t F vs ds → vs[i]? = some v → ∃ d, ds[i]? = some d ∧ Rep K t F v d
  | _, _, _, _, .nil, e => by simp at e
  | _, _, 0, _, .cons h _, e => by
    simp at e; subst e; exact ⟨_, rfl, h⟩
  | _, _, i + 1, v, .cons _ r, e => by
    obtain ⟨d, h1, h2⟩ := Reps.get' (i := i) (v := v) r (by simpa using e)
    exact ⟨d, by simpa using h1, h2⟩
theorem Reps.append : ∀ {vs ws : List V} {ds es : List D}, Reps K t F vs ds → Reps K t F ws es → Reps K t F (vs ++ ws) (ds ++ es)
  | _, _, _, _, .nil, s => s
  | _, _, _, _, .cons h r, s => .cons h (Reps.append r s)
theorem Reps.take : ∀ {vs : List V} {ds : List D} (n : Nat), Reps K t F vs ds → Reps K t F (vs.take n) (ds.take n)
  | _, _, 0, _ => by simpa using Reps.nil
  | _, _, _ + 1, .nil => .nil
  | _, _, n + 1, .cons h r => .cons h (Reps.take n r)
theorem Reps.drop : ∀ {vs : List V} {ds : List D} (n : Nat), Reps K t F vs ds → Reps K t F (vs.drop n) (ds.drop n)
  | _, _, 0, r => r
  | _, _, _ + 1, .nil => .nil
  | _, _, n + 1, .cons _ r => Reps.drop n r
theorem Reps.set {x : V} {d : D} (h : Rep K t F x d) : ∀ {vs : List V} {ds : List D} (i : Nat), Reps K t F vs ds → Reps K t F (vs.set i x) (ds.set i d)
  | _, _, _, .nil => .nil
  | _, _, 0, .cons _ r => .cons h r
  | _, _, i + 1, .cons q r => .cons q (Reps.set h i r)
theorem Reps.reverse : ∀ {vs : List V} {ds : List D}, Reps K t F vs ds → Reps K t F vs.reverse ds.reverse
  | _, _, .nil => by simpa using Reps.nil
  | _, _, .cons h r => by
    simp only [List.reverse_cons]
    exact (Reps.reverse r).append (.cons h .nil)
end

/-- what is drawn from, by its kind: [draws, at]; [cells, at, great, left, seed]; the dict of cells, at, great, left, seed, turn -/
def HandO (k : Nat) (F : Hp) (o : HO) : Prop :=
  (k = 1 ∧ ∃ (dr : Addr) (n : Nat) (ns : List Int), o = .lst [.ref dr, .int (n : Int)] ∧ F dr = some (.lst (ns.map V.int))) ∨
  (k = 2 ∧ ∃ (dr : Addr) (n : Nat) (a b c : Int) (ns : List Int), o = .lst [.ref dr, .int (n : Int), .int a, .int b, .int c] ∧ F dr = some (.lst (ns.map V.int))) ∨
  (k = 3 ∧ ∃ (dr : Addr) (n : Nat) (a b c d : Int) (ns : List Int), o = .dK [(.inr "cells", .ref dr), (.inr "at", .int (n : Int)), (.inr "great", .int a), (.inr "left", .int b), (.inr "seed", .int c), (.inr "turn", .int d)] ∧ F dr = some (.lst (ns.map V.int)))
theorem HandO.mono {k : Nat} {F F' : Hp} {o : HO} (e : Same F F') (h : HandO k F o) : HandO k F' o := by
  rcases h with ⟨h1, dr, n, ns, h2, h3⟩ | ⟨h1, dr, n, a, b, c, ns, h2, h3⟩ | ⟨h1, dr, n, a, b, c, d, ns, h2, h3⟩
  · exact .inl ⟨h1, dr, n, ns, h2, e _ _ h3⟩
  · exact .inr (.inl ⟨h1, dr, n, a, b, c, ns, h2, e _ _ h3⟩)
  · exact .inr (.inr ⟨h1, dr, n, a, b, c, d, ns, h2, e _ _ h3⟩)
def HandO0 (g : G) (F H : Hp) : Prop := g.hk = 0 ∨ (F g.tok = none ∧ g.hk ≠ 0 ∧ ∃ o : HO, H g.tok = some o ∧ HandO g.hk F o)
variable [Tabl]
/-- the tables: nothing frozen; their code objects are frozen -/
def TabOk (g : G) (F H : Hp) : Prop := ∀ p ∈ Tabl.T, F p.1 = none ∧ ∃ ps : Array Value, H p.1 = some (.tbl ps) ∧ TriplesOk ps.toList ∧ ∀ (pos : Pos) (cv : Value), codeAmong pos ps.toList = some cv → ∃ c, cv = .ref c ∧ F c = some (LamX.CodeO c p.2)
def HandOk (g : G) (F H : Hp) : Prop := HandO0 g F H ∧ TabOk g F H
theorem TabOk.keep {g : G} {F H F' H' : Hp} (h : TabOk g F H) (e : Same F F') (n : ∀ p ∈ Tabl.T, F p.1 = none → F' p.1 = none) (k : ∀ p ∈ Tabl.T, ∀ o, H p.1 = some o → H' p.1 = some o) : TabOk g F' H' := fun p hp => by
  obtain ⟨h1, ps, h2, h3, h4⟩ := h p hp
  refine ⟨n p hp h1, ps, k p hp _ h2, h3, fun pos cv hc => ?_⟩
  obtain ⟨c, e1, e2⟩ := h4 pos cv hc
  exact ⟨c, e1, e _ _ e2⟩
theorem HandO0.keep {g : G} {F H F' H' : Hp} (h : HandO0 g F H) (e : Same F F') (n : F g.tok = none → F' g.tok = none) (k : ∀ o, H g.tok = some o → H' g.tok = some o) : HandO0 g F' H' := by
  rcases h with h | ⟨h1, h2, o, h3, h4⟩
  · exact .inl h
  · exact .inr ⟨n h1, h2, o, k _ h3, h4.mono e⟩
theorem HandOk.keep {g : G} {F H F' H' : Hp} (h : HandOk g F H) (e : Same F F') (n : ∀ a, F a = none → ¬ Kp g a → F' a = none) (k : ∀ a o, H a = some o → ¬ Kp g a → H' a = some o) : HandOk g F' H' := by
  refine ⟨?_, h.2.keep e (fun p hp z => n _ z fun q => q.2 p hp rfl) fun p hp o z => k _ _ z fun q => q.2 p hp rfl⟩
  rcases h.1 with h | ⟨h1, h2, o, h3, h4⟩
  · exact .inl h
  · have nk : ¬ Kp g g.tok := fun q => q.1.elim (fun z => h2 z) fun z => z rfl
    exact .inr ⟨n _ h1 nk, h2, o, k _ _ h3 nk, h4.mono e⟩

/-- from one state to a later one -/
structure Step (g : G) (F0 H0 F H : Hp) : Prop where
  ff : Same F0 F
  fh : Same F H
  keep : ∀ a o, H0 a = some o → Kp g a → H a = some o
  fresh : ∀ a o, F a = some o → F0 a = some o ∨ H0 a = none
  hand : HandOk g F H
theorem HandOk.noF {g : G} {F H : Hp} (h : HandOk g F H) {a : Addr} {o : HO} (e : F a = some o) : Kp g a := by
  refine ⟨?_, fun p hp z => ?_⟩
  · rcases h.1 with h | ⟨h1, _⟩
    · exact .inl h
    · refine .inr fun z => ?_
      rw [z, h1] at e
      cases e
  · have n := (h.2 p hp).1
    rw [← z, e] at n
    cases n
/-- what is not there is neither -/
theorem HandOk.kp {g : G} {F H : Hp} (h : HandOk g F H) {a : Addr} (n : H a = none) : Kp g a := by
  refine ⟨?_, fun p hp z => ?_⟩
  · rcases h.1 with k | ⟨_, _, _, h3, _⟩
    · exact .inl k
    · exact .inr (ne_of_none h3 n).symm
  · obtain ⟨_, ps, h2, _⟩ := h.2 p hp
    rw [← z, n] at h2
    cases h2
theorem Step.refl {g : G} {F H : Hp} (h : Same F H) (k : HandOk g F H) : Step g F H F H := ⟨Same.refl _, h, fun _ _ e _ => e, fun _ _ e => .inl e, k⟩
theorem Step.trans {g : G} {F0 H0 F1 H1 F2 H2 : Hp} (a : Step g F0 H0 F1 H1) (b : Step g F1 H1 F2 H2) : Step g F0 H0 F2 H2 where
  ff := a.ff.trans b.ff
  fh := b.fh
  keep := fun x o e n => b.keep x o (a.keep x o e n) n
  fresh := fun x o e => by
    rcases b.fresh x o e with h | h
    · exact a.fresh x o h
    · refine .inr ?_
      cases q : H0 x with
      | none => rfl
      | some u =>
        have n := b.hand.noF e
        rw [a.keep x u q n] at h
        cases h
  hand := b.hand

/-! ### slots -/
/-- nothing; a datum; an owned list, a list that is read alone, an owned instance, an owned dict of data; an address -/
inductive SD where
  | no | d (x : D) | ol (l : List D) | ro (l : List D) | oi (a C : Addr) (ns : List Str) (l : List D) | ad (a : Addr)
  | oa (a : Addr) (l : List D)
  | od (a : Addr) (ks : List Key) (l : List D) | rd (a : Addr) (ks : List Key) (l : List D)
  | ot (a : Addr) (ks : List (List Key)) (l : List D) | rt (a : Addr) (ks : List (List Key)) (l : List D)
def isO : SD → Bool
  | .ol _ => true
  | .ro _ => true
  | .oi _ _ _ _ => true
  | .oa _ _ => true
  | .od _ _ _ => true
  | .rd _ _ _ => true
  | .ot _ _ _ => true
  | .rt _ _ _ => true
  | _ => false
def isW : SD → Bool
  | .ol _ => true
  | .oi _ _ _ _ => true
  | .oa _ _ => true
  | .od _ _ _ => true
  | .ot _ _ _ => true
  | _ => false
def Con (K : PySem.W.Frag) (g : G) (F : Hp) : SD → Addr → HO → Prop
  | .ol l, _, o => ∃ vs, o = .lst vs ∧ Reps K g F vs l
  | .ro l, _, o => ∃ vs, o = .lst vs ∧ Reps K g F vs l
  | .oi a C ns l, p, o => p = a ∧ ∃ dx vs, o = .ins C dx (ns.zip vs) ∧ ns.length = vs.length ∧ Reps K g F vs l
  | .oa a l, p, o => p = a ∧ ∃ vs, o = .lst vs ∧ Reps K g F vs l
  | .od a ks l, p, o => p = a ∧ ∃ vs, o = .dK (ks.zip vs) ∧ ks.length = vs.length ∧ Reps K g F vs l
  | .rd a ks l, p, o => p = a ∧ ∃ vs, o = .dK (ks.zip vs) ∧ ks.length = vs.length ∧ Reps K g F vs l
  | .ot a ks l, p, o => p = a ∧ ∃ vs, o = .dT (ks.zip vs) ∧ ks.length = vs.length ∧ Reps K g F vs l
  | .rt a ks l, p, o => p = a ∧ ∃ vs, o = .dT (ks.zip vs) ∧ ks.length = vs.length ∧ Reps K g F vs l
  | _, _, _ => False
def asD : SD → D
  | .ol l => .lst l
  | .ro l => .lst l
  | .oa _ l => .lst l
  | .oi _ C ns l => .obj C ns l
  | .d x => x
  | _ => .non
def isZ : SD → Bool
  | .ol _ => true
  | .ro _ => true
  | .oi _ _ _ _ => true
  | .oa _ _ => true
  | _ => false
theorem Con.mono {K : PySem.W.Frag} {g : G} {F F' : Hp} (e : Same F F') {x : SD} {p : Addr} {o : HO} (h : Con K g F x p o) : Con K g F' x p o := by
  cases x with
  | ol l => obtain ⟨vs, e1, r⟩ := h; exact ⟨vs, e1, r.mono e⟩
  | ro l => obtain ⟨vs, e1, r⟩ := h; exact ⟨vs, e1, r.mono e⟩
  | oi a C ns l => obtain ⟨e0, dx, vs, e1, e2, r⟩ := h; exact ⟨e0, dx, vs, e1, e2, r.mono e⟩
  | oa a l => obtain ⟨e0, vs, e1, r⟩ := h; exact ⟨e0, vs, e1, r.mono e⟩
  | od a ks l => obtain ⟨e0, vs, e1, e2, r⟩ := h; exact ⟨e0, vs, e1, e2, r.mono e⟩
  | rd a ks l => obtain ⟨e0, vs, e1, e2, r⟩ := h; exact ⟨e0, vs, e1, e2, r.mono e⟩
  | ot a ks l => obtain ⟨e0, vs, e1, e2, r⟩ := h; exact ⟨e0, vs, e1, e2, r.mono e⟩
  | rt a ks l => obtain ⟨e0, vs, e1, e2, r⟩ := h; exact ⟨e0, vs, e1, e2, r.mono e⟩
  | _ => exact h
theorem Con.rep {K : PySem.W.Frag} {g : G} {F : Hp} {x : SD} {o : HO} {p : Addr} (h : Con K g F x p o) (hp : F p = some o) (hz : isZ x = true) : Rep K g F (.ref p) (asD x) := by
  cases x with
  | ol l => obtain ⟨vs, e1, r⟩ := h; subst e1; exact .lst hp r
  | ro l => obtain ⟨vs, e1, r⟩ := h; subst e1; exact .lst hp r
  | oi a C ns l => obtain ⟨_, dx, vs, e1, e2, r⟩ := h; subst e1; exact .obj hp e2 r
  | oa a l => obtain ⟨_, vs, e1, r⟩ := h; subst e1; exact .lst hp r
  | _ => cases hz
def gt : List SD → Nat → SD
  | [], _ => .no
  | x :: _, 0 => x
  | _ :: r, n + 1 => gt r n
def st : List SD → Nat → SD → List SD
  | [], _, _ => []
  | _ :: r, 0, y => y :: r
  | x :: r, n + 1, y => x :: st r n y
theorem st_len : ∀ (r : List SD) (n : Nat) (y : SD), (st r n y).length = r.length
  | [], _, _ => rfl
  | _ :: _, 0, _ => rfl
  | x :: r, n + 1, y => by simp [st, st_len r n y]
theorem gt_st_same : ∀ {r : List SD} {n : Nat} {y : SD}, n < r.length → gt (st r n y) n = y
  | [], _, _, h => by simp at h
  | _ :: _, 0, _, _ => rfl
  | x :: r, n + 1, y, h => by
    simp only [st, gt]
    exact gt_st_same (by simpa using h)
theorem gt_st_ne : ∀ {r : List SD} {n m : Nat} {y : SD}, m ≠ n → gt (st r n y) m = gt r m
  | [], _, _, _, _ => rfl
  | _ :: _, 0, 0, _, h => absurd rfl h
  | _ :: _, 0, _ + 1, _, _ => rfl
  | _ :: _, _ + 1, 0, _, _ => rfl
  | x :: r, n + 1, m + 1, y, h => by
    simp only [st, gt]
    exact gt_st_ne (by omega)
theorem gt_out : ∀ {r : List SD} {n : Nat}, r.length ≤ n → gt r n = .no
  | [], _, _ => rfl
  | _ :: _, 0, h => by simp at h
  | _ :: r, n + 1, h => by
    simp only [gt]
    exact gt_out (by simpa using h)
theorem gt_lt {r : List SD} {n : Nat} (h : gt r n ≠ .no) : n < r.length := by
  by_cases z : n < r.length
  · exact z
  · exact absurd (gt_out (by omega)) h
theorem isO_no {x : SD} (h : isO x = true) : x ≠ .no := by
  rintro rfl; cases h
theorem isW_O {x : SD} (h : isW x = true) : isO x = true := by
  cases x <;> first | rfl | cases h

/-- a def's context: what is drawn from, what stood at its entry -/
structure C where
  g : G
  F0 : Hp
  H0 : Hp

/-- what an owned slot holds -/
def OwnOk (K : PySem.W.Frag) (c : C) (F H : Hp) (v : Option V) (x : SD) : Prop :=
  ∃ (p : Addr) (o : HO), v = some (.ref p) ∧ H p = some o ∧ F p = none ∧ (isW x = true → c.H0 p = none) ∧ Kp c.g p ∧ Con K c.g F x p o
def SlotOk (K : PySem.W.Frag) (c : C) (F H : Hp) (v : Option V) : SD → Prop
  | .no => True
  | .d x => ∃ u, v = some u ∧ Rep K c.g F u x
  | .ad a => v = some (.ref a)
  | x => OwnOk K c F H v x
theorem SlotOk.own {K : PySem.W.Frag} {c : C} {F H : Hp} {v : Option V} {x : SD} (h : isO x = true) : SlotOk K c F H v x ↔ OwnOk K c F H v x := by
  cases x <;> first | exact Iff.rfl | cases h
theorem isO_cases {P : SD → Prop} {x : SD} (no : x = .no → P x) (d : ∀ y, x = .d y → P x) (ad : ∀ a, x = .ad a → P x) (ow : isO x = true → P x) : P x := by
  cases x with
  | no => exact no rfl
  | d y => exact d y rfl
  | ad a => exact ad a rfl
  | _ => exact ow rfl

structure Rel (K : PySem.W.Frag) (c : C) (F : Hp) (σ : St) (H : Hp) (ρ : List SD) : Prop where
  step : Step c.g c.F0 c.H0 F H
  len : σ.length = ρ.length
  slot : ∀ i, SlotOk K c F H (σ[i]?.join) (gt ρ i)
  own : ∀ i j p, isW (gt ρ i) = true → isO (gt ρ j) = true → σ[i]?.join = some (.ref p) → σ[j]?.join = some (.ref p) → i = j

section
variable {K : PySem.W.Frag} {c : C} {F F' : Hp} {σ : St} {H H' : Hp} {ρ : List SD}
theorem Rel.owns (r : Rel K c F σ H ρ) {i : Nat} (h : isO (gt ρ i) = true) : OwnOk K c F H (σ[i]?.join) (gt ρ i) := (SlotOk.own h).mp (r.slot i)
/-- the slots over other frozen things and another heap -/
theorem SlotOk.to {c' : C} {v : Option V} {x : SD} (h : SlotOk K c F H v x) (hg : c'.g = c.g) (s : Same F F') (k : isO x = true → ∀ p o, v = some (.ref p) → H p = some o → F p = none → (isW x = true → c.H0 p = none) → Kp c.g p → H' p = some o ∧ F' p = none ∧ (isW x = true → c'.H0 p = none)) : SlotOk K c' F' H' v x := by
  obtain ⟨g', F0', H0'⟩ := c'
  cases hg
  have ow : isO x = true → SlotOk K ⟨c.g, F0', H0'⟩ F' H' v x := fun e => by
    rw [SlotOk.own e] at h ⊢
    obtain ⟨p, o, e1, e2, e3, e4, e5, e6⟩ := h
    obtain ⟨k1, k2, k3⟩ := k e p o e1 e2 e3 e4 e5
    exact ⟨p, o, e1, k1, k2, k3, e5, e6.mono s⟩
  cases x with
  | no => trivial
  | d y => obtain ⟨u, e1, r⟩ := h; exact ⟨u, e1, r.mono s⟩
  | ad a => exact h
  | _ => exact ow rfl
theorem free_step {g : G} {p : Addr} {o : HO} (s : Step g F H F' H') (e : H p = some o) (n : F p = none) : F' p = none := by
  cases q : F' p with
  | none => rfl
  | some u =>
    rcases s.fresh p u q with z | z
    · rw [z] at n; cases n
    · rw [e] at z; cases z
/-- what a call does -/
theorem Rel.after (r : Rel K c F σ H ρ) (s : Step c.g F H F' H') : Rel K c F' σ H' ρ :=
  ⟨r.step.trans s, r.len, fun i => (r.slot i).to rfl s.ff fun _ p o _ e n k1 k2 => ⟨s.keep p o e k2, free_step s e n, k1⟩, r.own⟩
theorem Step.laid {g : G} {p : Addr} {o : HO} (h : Same F H) (k : HandOk g F H) (n : H p = none) : Step g F H (upd F p o) (upd H p o) where
  ff := fun b u e => by
    rw [upd_ne (ne_of_none (h _ _ e) n)]; exact e
  fh := fun b u e => by
    by_cases z : b = p
    · subst z; rw [upd_same] at e ⊢; exact e
    · rw [upd_ne z] at e ⊢; exact h _ _ e
  keep := fun a u e _ => by
    rw [upd_ne (ne_of_none e n)]; exact e
  fresh := fun a u e => by
    by_cases z : a = p
    · subst z; exact .inr n
    · rw [upd_ne z] at e; exact .inl e
  hand := k.keep (fun b u e => by rw [upd_ne (ne_of_none (h _ _ e) n)]; exact e) (fun a z q => by rw [upd_ne ((k.kp n).ne q)]; exact z) fun a o z q => by rw [upd_ne (ne_of_none z n)]; exact z
/-- a new object, frozen at once -/
theorem Rel.laid (r : Rel K c F σ H ρ) {p : Addr} {o : HO} (n : H p = none) : Rel K c (upd F p o) σ (upd H p o) ρ := r.after (.laid r.step.fh r.step.hand n)
theorem Rel.freeF (r : Rel K c F σ H ρ) {p : Addr} (n : H p = none) : F p = none := by
  cases q : F p with
  | none => rfl
  | some o => rw [r.step.fh _ _ q] at n; cases n
theorem same_laid {p : Addr} {o : HO} (n : F p = none) : Same F (upd F p o) := fun b u e => by
  rw [upd_ne (ne_of_none e n)]; exact e
/-- a slot is set: to a datum, an address, nothing -/
theorem Rel.setx (r : Rel K c F σ H ρ) {i : Nat} {v : Option V} {x : SD} (nx : isO x = false) (h : SlotOk K c F H v x) : Rel K c F (σ.set i v) H (st ρ i x) := by
  have nO : ∀ {j}, j = i → isO (gt (st ρ i x) j) = false := fun {j} e => by
    subst e
    by_cases hl : j < ρ.length
    · rw [gt_st_same hl]; exact nx
    · rw [gt_out (by rw [st_len]; omega)]; rfl
  refine ⟨r.step, by rw [List.length_set, st_len]; exact r.len, fun j => ?_, fun a b p e1 e2 e3 e4 => ?_⟩
  · by_cases hj : j = i
    · subst hj
      by_cases hl : j < ρ.length
      · rw [gt_st_same hl, List.getElem?_set_self (by rw [r.len]; exact hl)]
        exact h
      · rw [gt_out (by rw [st_len]; omega)]; trivial
    · rw [gt_st_ne hj, List.getElem?_set_ne (Ne.symm hj)]
      exact r.slot j
  · have na : a ≠ i := fun z => absurd (isW_O e1) (by rw [nO z]; exact Bool.false_ne_true)
    have nb : b ≠ i := fun z => absurd e2 (by rw [nO z]; exact Bool.false_ne_true)
    rw [gt_st_ne na] at e1
    rw [gt_st_ne nb] at e2
    rw [List.getElem?_set_ne (Ne.symm na)] at e3
    rw [List.getElem?_set_ne (Ne.symm nb)] at e4
    exact r.own a b p e1 e2 e3 e4
theorem Rel.setd (r : Rel K c F σ H ρ) {i : Nat} {v : V} {x : D} (h : Rep K c.g F v x) : Rel K c F (σ.set i (some v)) H (st ρ i (.d x)) := r.setx rfl ⟨v, rfl, h⟩
theorem Rel.seta (r : Rel K c F σ H ρ) {i : Nat} {a : Addr} : Rel K c F (σ.set i (some (.ref a))) H (st ρ i (.ad a)) := r.setx rfl rfl
/-- a slot's value is forgotten -/
theorem Rel.wipe1 (r : Rel K c F σ H ρ) {i : Nat} : Rel K c F (σ.set i none) H (st ρ i .no) := r.setx rfl trivial
/-- what no tracked thing is -/
structure Fresh0 (c : C) (F : Hp) (σ : St) (ρ : List SD) (p : Addr) : Prop where
  nf : F p = none
  n0 : c.H0 p = none
  nt : Kp c.g p
  ns : ∀ k, isO (gt ρ k) = true → σ[k]?.join ≠ some (.ref p)
theorem Rel.fresh0 (r : Rel K c F σ H ρ) {p : Addr} (n : H p = none) : Fresh0 c F σ ρ p := by
  have nt : Kp c.g p := r.step.hand.kp n
  refine ⟨r.freeF n, ?_, nt, fun k e1 e2 => ?_⟩
  · cases q : c.H0 p with
    | none => rfl
    | some o => rw [r.step.keep p o q nt] at n; cases n
  · obtain ⟨p', o, e3, h1, _⟩ := r.owns e1
    rw [e2] at e3; cases e3
    rw [n] at h1; cases h1
/-- another content of an object that no slot holds and nothing frozen -/
theorem Rel.wr0 (r : Rel K c F σ H ρ) {p : Addr} {o : HO} (f : Fresh0 c F σ ρ p) : Rel K c F σ (upd H p o) ρ := by
  refine ⟨⟨r.step.ff, fun b u e => ?_, fun a u e k => ?_, r.step.fresh, ?_⟩, r.len, fun i => (r.slot i).to rfl (Same.refl _) fun ho p' o' e1 e2 e3 e4 e5 => ⟨?_, e3, e4⟩, r.own⟩
  · rw [upd_ne (ne_of_none e f.nf)]; exact r.step.fh _ _ e
  · rw [upd_ne (ne_of_none e f.n0)]; exact r.step.keep a u e k
  · exact r.step.hand.keep (Same.refl _) (fun _ z _ => z) fun a o z q => by rw [upd_ne (f.nt.ne q)]; exact z
  · rw [upd_ne]
    · exact e2
    · rintro rfl
      exact f.ns i ho e1
/-- it comes to a slot -/
theorem Rel.adopt (r : Rel K c F σ H ρ) {p : Addr} {o : HO} {x : SD} {i : Nat} (f : Fresh0 c F σ ρ p) (e : H p = some o) (k : Con K c.g F x p o) (hx : isW x = true) : Rel K c F (σ.set i (some (.ref p))) H (st ρ i x) := by
  refine ⟨r.step, by rw [List.length_set, st_len]; exact r.len, fun j => ?_, fun a b q e1 e2 e3 e4 => ?_⟩
  · by_cases hj : j = i
    · subst hj
      by_cases hl : j < ρ.length
      · rw [gt_st_same hl, List.getElem?_set_self (by rw [r.len]; exact hl), SlotOk.own (isW_O hx)]
        exact ⟨p, o, rfl, e, f.nf, fun _ => f.n0, f.nt, k⟩
      · rw [gt_out (by rw [st_len]; omega)]; trivial
    · rw [gt_st_ne hj, List.getElem?_set_ne (Ne.symm hj)]
      exact r.slot j
  · have inn : ∀ k, isO (gt (st ρ i x) k) = true → (σ.set i (some (V.ref p)))[k]?.join = some (.ref q) → (k = i ∧ q = p) ∨ (k ≠ i ∧ q ≠ p ∧ isO (gt ρ k) = true ∧ σ[k]?.join = some (.ref q)) := fun k e5 e6 => by
      by_cases hk : k = i
      · subst hk
        by_cases hl : k < ρ.length
        · rw [List.getElem?_set_self (by rw [r.len]; exact hl)] at e6
          cases e6
          exact .inl ⟨rfl, rfl⟩
        · rw [gt_out (by rw [st_len]; omega)] at e5; cases e5
      · rw [gt_st_ne hk] at e5
        rw [List.getElem?_set_ne (Ne.symm hk)] at e6
        exact .inr ⟨hk, fun z => f.ns k e5 (by rw [← z]; exact e6), e5, e6⟩
    rcases inn a (isW_O e1) e3 with ⟨x1, x2⟩ | ⟨x1, x2, x3, x4⟩
    · rcases inn b e2 e4 with ⟨y1, y2⟩ | ⟨y1, y2, _⟩
      · rw [x1, y1]
      · exact absurd x2 y2
    · rcases inn b e2 e4 with ⟨y1, y2⟩ | ⟨y1, y2, y3, y4⟩
      · exact absurd y2 x2
      · rw [gt_st_ne x1] at e1
        exact r.own a b q e1 y3 x4 y4
/-- a new list, owned by a slot -/
theorem Rel.seto (r : Rel K c F σ H ρ) {i : Nat} {p : Addr} {vs : List V} {l : List D} (n : H p = none) (h : Reps K c.g F vs l) : Rel K c F (σ.set i (some (.ref p))) (upd H p (.lst vs)) (st ρ i (.ol l)) :=
  (r.wr0 (r.fresh0 n)).adopt (r.fresh0 n) upd_same ⟨vs, rfl, h⟩ rfl
/-- an owned object is written -/
theorem Rel.write (r : Rel K c F σ H ρ) {i : Nat} {p : Addr} {o' : HO} {x' : SD} (e : isW (gt ρ i) = true) (es : σ[i]?.join = some (.ref p)) (hx : isW x' = true) (h : Con K c.g F x' p o') : Rel K c F σ (upd H p o') (st ρ i x') := by
  obtain ⟨p', o, e1, h1, h2, h30, h4, _⟩ := r.owns (isW_O e)
  have h3 := h30 e
  clear h30
  rw [es] at e1
  cases e1
  have hl : i < ρ.length := gt_lt (isO_no (isW_O e))
  refine ⟨⟨r.step.ff, fun b u z => ?_, fun a u z k => ?_, r.step.fresh, ?_⟩, by rw [st_len]; exact r.len, fun j => ?_, fun a b q e1 e2 e3 e4 => ?_⟩
  · rw [upd_ne (ne_of_none z h2)]; exact r.step.fh _ _ z
  · rw [upd_ne (ne_of_none z h3)]; exact r.step.keep a u z k
  · exact r.step.hand.keep (Same.refl _) (fun _ z _ => z) fun a o z q => by rw [upd_ne (h4.ne q)]; exact z
  · by_cases hj : j = i
    · subst hj
      rw [gt_st_same hl, SlotOk.own (isW_O hx)]
      exact ⟨p, o', es, upd_same, h2, fun _ => h3, h4, h⟩
    · rw [gt_st_ne hj]
      refine (r.slot j).to rfl (Same.refl _) fun ho p' o2 y1 y2 y3 y4 y5 => ⟨?_, y3, y4⟩
      rw [upd_ne]
      · exact y2
      · rintro rfl
        exact hj (r.own i j _ e ho es y1).symm
  · have g : ∀ k, isO (gt (st ρ i x') k) = true → isO (gt ρ k) = true := fun k z => by
      by_cases hk : k = i
      · subst hk; exact isW_O e
      · rw [gt_st_ne hk] at z; exact z
    have g1 : isW (gt ρ a) = true := by
      by_cases hk : a = i
      · subst hk; exact e
      · rw [gt_st_ne hk] at e1; exact e1
    exact r.own a b q g1 (g b e2) e3 e4
/-- a tracked object that no slot holds and nothing frozen is frozen -/
theorem Rel.freeze0 (r : Rel K c F σ H ρ) {p : Addr} {o : HO} (f : Fresh0 c F σ ρ p) (e : H p = some o) : Same F (upd F p o) ∧ Rel K c (upd F p o) σ H ρ := by
  have sF : Same F (upd F p o) := same_laid f.nf
  refine ⟨sF, ⟨r.step.ff.trans sF, fun b u z => ?_, r.step.keep, fun a u z => ?_, ?_⟩, r.len, fun j => (r.slot j).to rfl sF fun ho p' o2 y1 y2 y3 y4 y5 => ⟨y2, ?_, y4⟩, r.own⟩
  · by_cases hb : b = p
    · subst hb; rw [upd_same] at z; cases z; exact e
    · rw [upd_ne hb] at z; exact r.step.fh _ _ z
  · by_cases hb : a = p
    · subst hb; exact .inr f.n0
    · rw [upd_ne hb] at z; exact r.step.fresh a u z
  · exact r.step.hand.keep sF (fun a z q => by rw [upd_ne (f.nt.ne q)]; exact z) fun _ _ z _ => z
  · rw [upd_ne]
    · exact y3
    · rintro rfl
      exact f.ns j ho y1
/-- an owned object is frozen -/
theorem Rel.frz (r : Rel K c F σ H ρ) {i : Nat} (e : isW (gt ρ i) = true) (ez : isZ (gt ρ i) = true) : ∃ p F', σ[i]?.join = some (.ref p) ∧ Same F F' ∧ Rep K c.g F' (.ref p) (asD (gt ρ i)) ∧ Rel K c F' σ H (st ρ i (.d (asD (gt ρ i)))) := by
  obtain ⟨p, o, e1, h1, h2, h3, h4, h5⟩ := r.owns (isW_O e)
  have h3 := h3 e
  have hl : i < ρ.length := gt_lt (isO_no (isW_O e))
  have r0 : Rel K c F (σ.set i none) H (st ρ i .no) := r.wipe1
  have f : Fresh0 c F (σ.set i none) (st ρ i .no) p := ⟨h2, h3, h4, fun k e2 e3 => by
    by_cases hk : k = i
    · subst hk
      rw [gt_st_same hl] at e2; cases e2
    · rw [gt_st_ne hk] at e2
      rw [List.getElem?_set_ne (Ne.symm hk)] at e3
      exact hk (r.own i k p e e2 e1 e3).symm⟩
  obtain ⟨sF, r1⟩ := r0.freeze0 f h1
  have rep : Rep K c.g (upd F p o) (.ref p) (asD (gt ρ i)) := (h5.mono sF).rep upd_same ez
  have r2 := r1.setd (i := i) rep
  have q1 : (σ.set i none).set i (some (V.ref p)) = σ := by
    rw [List.set_set]
    have hs : i < σ.length := by rw [r.len]; exact hl
    apply List.ext_getElem?
    intro j
    by_cases hj : j = i
    · subst hj
      rw [List.getElem?_set_self hs]
      rw [List.getElem?_eq_getElem hs] at e1 ⊢
      exact congrArg some e1.symm
    · rw [List.getElem?_set_ne (Ne.symm hj)]
  have q2 : ∀ (r : List SD) (n : Nat) (x y : SD), st (st r n x) n y = st r n y := by
    intro r
    induction r with
    | nil => intro n x y; rfl
    | cons a r ih => intro n x y; cases n with
      | zero => rfl
      | succ n => simp only [st, ih]
  rw [q1, q2] at r2
  exact ⟨p, _, e1, sF, rep, r2⟩
end
end PL
end L2

namespace L2
open PySem PySem.Spec PyProof.Rows
/-! a tuple times 1 is the tuple -/
theorem tuple_mulOne (l : Addr) (items : Array Value) (n : Nat) (dd : Option Addr) (sl : Array (Option Value)) (u : Tok) :
    Meets (Builtin.«tuple.__mul__» ⟨[.ref l, .int 1 u], []⟩) (fun _ R s => s.heap.get? l = some { cls := .type "tuple", dict := dd, data := .seq items n, slots := sl } ∧ R (.ok (.ret (Value.ref l))) s) :=
  .of_wp fun prog w A R s h => by
    obtain ⟨hp, g, d, tk, os⟩ := s
    obtain ⟨hl, h⟩ := h
    have f1 := AutoSeq1.idx_int
    have c1 : (items.isEmpty || (1 : Int) == 1) = true := by simp
    wp_walk using wpAny_loadPart' hl
    exact ⟨_, rfl, h⟩
def rRep1 (K : PySem.W.Frag) : R2 := fun x y H Q => ∃ l xs, x = .ref l ∧ y = .int 1 ∧ SqT K H l xs ∧ Q (.ref l) H
theorem op_rep1 {X : Cx} : OpR X (binaryOp .Mult) (rRep1 X.K) := by
  intro pins s σ H x y v u Q I rx ry h
  obtain ⟨l, xs, rfl, rfl, hT, q⟩ := h
  cases rx
  obtain ⟨t, rfl⟩ := ry
  obtain ⟨its, r, ⟨⟨cls, dd, data, sl⟩, ho, hc, n, hd⟩, hs⟩ := I.tuple hT
  simp only at hc hd
  subst hc hd
  exact wpAny_binaryOp_repeat_ref (T := "tuple") (U := "int") (by decide) ⟨_, ho, rfl⟩ (fun s' => typeIs_int s' 1 t) noFill_tuple_mul F.fills_int_mul F.slot_int_rmul repeat_tuple F.slot_int_index.lookup
    (call_meets F.slot_int_rmul (typeIs_int s 1 t) F.entry_int_rmul (F.args_int_rmul_2 _ _) (int_rmul_tuple 1 t l its.toArray n dd sl)
      ⟨ho, rfl, ⟨_, ho, rfl⟩, call_meets F.slot_tuple_mul ⟨_, ho, rfl⟩ F.entry_tuple_mul (F.args_tuple_mul_2 _ _) (tuple_mulOne l its.toArray n dd sl t) ⟨ho, ⟨.ref l, H, I, rfl, q⟩⟩⟩)
end L2

namespace L2
namespace PL
open PySem PySem.Spec PyProof.Rows
variable [Tabl]

abbrev DW := List SD → (D → List SD → Prop) → Prop
abbrev DT := List SD → (Bool → List SD → Prop) → Prop
abbrev DA := List SD → (List D → List SD → Prop) → Prop
def Mono {α : Type} (w : List SD → (α → List SD → Prop) → Prop) : Prop := ∀ ρ Q Q', (∀ d ρ', Q d ρ' → Q' d ρ') → w ρ Q → w ρ Q'

section
variable (K : PySem.W.Frag) (c : C)
def tOf (w : DW) : TE := fun σ H Q => ∃ F ρ, Rel K c F σ H ρ ∧ w ρ fun d ρ' => ∀ v F' H', Rel K c F' σ H' ρ' → Same F F' → Rep K c.g F' v d → Q v H'
def tOfT (w : DT) : TT := fun σ H Q => ∃ F ρ, Rel K c F σ H ρ ∧ w ρ fun b ρ' => ∀ F' H', Rel K c F' σ H' ρ' → Same F F' → Q b H'
def tOfA (w : DA) : TA := fun σ H Q => ∃ F ρ, Rel K c F σ H ρ ∧ w ρ fun ds ρ' => ∀ vs F' H', Rel K c F' σ H' ρ' → Same F F' → Reps K c.g F' vs ds → Q vs H'
end
structure PD (c : C) (X : Cx) (e : Expr) (w : DW) : Prop where
  pe : PE X e (tOf X.K c w)
  mo : Mono w
structure PDT (c : C) (X : Cx) (e : Expr) (w : DT) : Prop where
  pe : PT X e (tOfT X.K c w)
  mo : Mono w
structure PDA (c : C) (X : Cx) (es : List Expr) (w : DA) : Prop where
  pe : PA X es (tOfA X.K c w)
  mo : Mono w
theorem _root_.L2.PE.imp {X : Cx} {e : Expr} {t t' : TE} (h : PE X e t) (i : ∀ σ H Q, t' σ H Q → t σ H Q) : PE X e t' := ⟨fun pins s σ H Q I q => h.run pins s σ H Q I (i _ _ _ q)⟩
theorem _root_.L2.PT.imp {X : Cx} {e : Expr} {t t' : TT} (h : PT X e t) (i : ∀ σ H Q, t' σ H Q → t σ H Q) : PT X e t' := ⟨fun pins s σ H Q I q => h.run pins s σ H Q I (i _ _ _ q)⟩
theorem _root_.L2.PA.imp {X : Cx} {e : List Expr} {t t' : TA} (h : PA X e t) (i : ∀ σ H Q, t' σ H Q → t σ H Q) : PA X e t' := ⟨fun pos pins s σ H Q I q => h.run pos pins s σ H Q I (i _ _ _ q)⟩
theorem _root_.L2.PS.imp {X : Cx} {e : Stmt} {t t' : TS} (h : PS X e t) (i : ∀ Dn σ H, t' Dn σ H → t Dn σ H) : PS X e t' := ⟨fun pins s σ H Dn I q => h.run pins s σ H Dn I (i _ _ _ q)⟩
theorem _root_.L2.PSs.imp {X : Cx} {e : List Stmt} {t t' : TS} (h : PSs X e t) (i : ∀ Dn σ H, t' Dn σ H → t Dn σ H) : PSs X e t' := ⟨fun pins s σ H Dn I q => h.run pins s σ H Dn I (i _ _ _ q)⟩

/-- a partial answer: none; this; this, where something holds -/
inductive R1 where
  | no | ok (d : D) | gd (P : Prop) (d : D)
def R1.run : R1 → (D → Prop) → Prop
  | .no, _ => False
  | .ok d, Q => Q d
  | .gd P d, Q => P ∧ Q d
theorem R1.mo {r : R1} {Q Q' : D → Prop} (h : ∀ d, Q d → Q' d) (q : r.run Q) : r.run Q' := by
  cases r with
  | no => exact q
  | ok d => exact h d q
  | gd P d => exact ⟨q.1, h d q.2⟩

section
variable {X : Cx} {c : C} {a b : Expr} {wa wb : DW} {pos : Pos}
/-! ### constants, names -/
def wC (d : D) : DW := fun ρ Q => Q d ρ
theorem mo_C {d : D} : Mono (wC d) := fun _ _ _ h q => h _ _ q
theorem pd_const {e : Expr} {v : V} {d : D} (h : PE X e (tC v)) (r : ∀ F, Rep X.K c.g F v d) : PD c X e (wC d) :=
  ⟨h.imp fun σ H Q ⟨F, ρ, rl, q⟩ => q v F H rl (Same.refl _) (r F), mo_C⟩
theorem pd_int {i j pos} : PD c X (.Constant (.int i) j pos) (wC (.int i)) := pd_const pe_int fun _ => .int i
theorem pd_bl {i j pos} : PD c X (.Constant (.bool i) j pos) (wC (.bl i)) := pd_const pe_bl fun _ => .bl i
theorem pd_non {j pos} : PD c X (.Constant .none j pos) (wC .non) := pd_const pe_non fun _ => .non
theorem pd_str {x j pos} : PD c X (.Constant (.str x) j pos) (wC (.str x)) := pd_const pe_str fun _ => .str x
theorem pd_glob {x : Str} {v : V} {u : Value} {d : D} {pos : Pos} (hg : Gl X x) (hm : X.mg x = some u) (r : RelV v u) (k : ∀ F, Rep X.K c.g F v d) (hd : (x == ("__debug__" : Str)) = false := by decide) : PD c X (.Name x pos) (wC d) :=
  pd_const (pe_glob hg hm r hd) k
/-- a name: what it holds; an owned thing is frozen -/
def wV (i : Nat) : DW := fun ρ Q => match gt ρ i with
  | .d x => Q x ρ
  | .ol l => Q (.lst l) (st ρ i (.d (.lst l)))
  | .oi _ C ns l => Q (.obj C ns l) (st ρ i (.d (.obj C ns l)))
  | _ => False
theorem mo_V {i : Nat} : Mono (wV i) := fun ρ Q Q' h q => by
  unfold wV at q ⊢
  cases e : gt ρ i <;> rw [e] at q <;> first | exact (show False from q).elim | exact h _ _ q
theorem join_some {σ : St} {i : Nat} {v : V} (e : σ[i]?.join = some v) : σ[i]? = some (some v) := by
  cases z : σ[i]? with
  | none => rw [z] at e; cases e
  | some w => rw [z] at e; cases w with
    | none => cases e
    | some y => cases e; rfl
theorem pd_var {x : Str} {pos : Pos} (i : Nat) (h : PE X (.Name x pos) (tVar i)) : PD c X (.Name x pos) (wV i) := by
  refine ⟨h.imp fun σ H Q ⟨F, ρ, rl, q⟩ => ?_, mo_V⟩
  unfold wV at q
  cases e : gt ρ i with
  | d x =>
    rw [e] at q
    have sl := rl.slot i
    rw [e] at sl
    obtain ⟨u, e1, r⟩ := sl
    exact ⟨u, join_some e1, q u F H rl (Same.refl _) r⟩
  | ol l =>
    rw [e] at q
    obtain ⟨p, F', e1, sF, hp, rl'⟩ := rl.frz (i := i) (by rw [e]; rfl) (by rw [e]; rfl)
    rw [e] at hp rl'
    exact ⟨_, join_some e1, q _ F' H rl' sF hp⟩
  | oi a C ns l =>
    rw [e] at q
    obtain ⟨p, F', e1, sF, hp, rl'⟩ := rl.frz (i := i) (by rw [e]; rfl) (by rw [e]; rfl)
    rw [e] at hp rl'
    exact ⟨_, join_some e1, q _ F' H rl' sF hp⟩
  | _ => rw [e] at q; exact (show False from q).elim

/-! ### operators -/
def wOp (f : D → D → R1) (wa wb : DW) : DW := fun ρ Q => wa ρ fun x ρ1 => wb ρ1 fun y ρ2 => (f x y).run fun d => Q d ρ2
theorem mo_Op {f : D → D → R1} (ha : Mono wa) (hb : Mono wb) : Mono (wOp f wa wb) := fun ρ Q Q' h q =>
  ha ρ _ _ (fun x ρ1 q => hb ρ1 _ _ (fun y ρ2 q => R1.mo (fun d => h d ρ2) q) q) q
/-- by values -/
def BrO (c : C) (K : PySem.W.Frag) (r : R2) (f : D → D → R1) : Prop := ∀ (F : Hp) (σ : St) (H : Hp) (ρ : List SD) (x y : V) (a b : D) (Q : VK), Rel K c F σ H ρ → Rep K c.g F x a → Rep K c.g F y b →
  (f a b).run (fun d => ∀ v F' H', Rel K c F' σ H' ρ → Same F F' → Rep K c.g F' v d → Q v H') → r x y H Q
theorem bin_br {r : R2} {f : D → D → R1} (br : BrO c X.K r f) (ma : Mono wa) (mb : Mono wb) (σ : St) (H : Hp) (Q : VK) (q : tOf X.K c (wOp f wa wb) σ H Q) : tOp r (tOf X.K c wa) (tOf X.K c wb) σ H Q := by
  obtain ⟨F, ρ, rl, q⟩ := q
  refine ⟨F, ρ, rl, ma ρ _ _ (fun x ρ1 q v F1 H1 r1 s1 e1 => ?_) q⟩
  refine ⟨F1, ρ1, r1, mb ρ1 _ _ (fun y ρ2 q u F2 H2 r2 s2 e2 => ?_) q⟩
  refine br F2 σ H2 ρ2 v u x y Q r2 (e1.mono s2) e2 (R1.mo (fun d q w F3 H3 r3 s3 e3 => ?_) q)
  exact q w F3 H3 r3 ((s1.trans s2).trans s3) e3
theorem pd_op {op : Operator} {r : R2} {f : D → D → R1} (ho : OpR X (binaryOp op) r) (br : BrO c X.K r f) (ha : PD c X a wa) (hb : PD c X b wb) : PD c X (.BinOp a op b pos) (wOp f wa wb) :=
  ⟨(pe_op ho ha.pe hb.pe).imp (bin_br br ha.mo hb.mo), mo_Op ha.mo hb.mo⟩
theorem pd_cmp {op : CmpOp} {r : R2} {f : D → D → R1} (ho : OpR X (compareOp op) r) (br : BrO c X.K r f) (ha : PD c X a wa) (hb : PD c X b wb) (hm : behindInMarks op b = false) : PD c X (.Compare a [op] [b] pos) (wOp f wa wb) :=
  ⟨(pe_cmpR ho ha.pe hb.pe hm).imp (bin_br br ha.mo hb.mo), mo_Op ha.mo hb.mo⟩
end

/-! ### the functions by values -/
def fAdd : D → D → R1
  | .int i, .int j => .ok (.int (i + j))
  | .str x, .str y => .gd (x.length + y.length ≤ 16777216) (.str (x ++ y))
  | .tup x, .tup y => .gd (x.length + y.length ≤ 16777216) (.tup (x ++ y))
  | .lst x, .lst y => .gd (x.length + y.length ≤ 16777216) (.lst (x ++ y))
  | _, _ => .no
def fSub : D → D → R1
  | .int i, .int j => .ok (.int (i - j))
  | _, _ => .no
def MulB (i j : Int) : Prop := (i.natAbs < 2 ^ 64 ∨ j.natAbs < 2 ^ 64) ∨ (i.natAbs < 2 ^ 9000 ∧ j.natAbs < 2 ^ 9000)
def fMul : D → D → R1
  | .int i, .int j => .gd (MulB i j) (.int (i * j))
  | .tup x, .int k => .gd (x ≠ [] ∧ 1 ≤ k ∧ k ≤ 1000 ∧ x.length ≤ 1000) (.tup (List.replicate k.toNat x).flatten)
  | .lst x, .int k => .gd (0 ≤ k ∧ k < 2 ^ 60 ∧ x.length * k.toNat ≤ 16777216) (.lst (List.replicate k.toNat x).flatten)
  | _, _ => .no
def DivB (j : Int) : Prop := j ≠ 0 ∧ (j.natAbs < 1073741824 ∨ (0 < j ∧ j.natAbs < 2 ^ 9000))
def fDiv : D → D → R1
  | .int i, .int j => .gd (DivB j) (.int (i.fdiv j))
  | _, _ => .no
def fMod : D → D → R1
  | .int i, .int j => .gd (j ≠ 0) (.int (i.fmod j))
  | _, _ => .no
def fAnd : D → D → R1
  | .int i, .int j => .ok (.int (Builtin.bitAnd i j))
  | _, _ => .no
def fXor : D → D → R1
  | .int i, .int j => .ok (.int (Builtin.bitXor i j))
  | _, _ => .no
def fShl : D → D → R1
  | .int i, .int j => .gd (0 ≤ j ∧ j ≤ 1000000 ∧ i.natAbs < 2 ^ 64) (.int (i * 2 ^ j.toNat))
  | _, _ => .no
def fShr : D → D → R1
  | .int i, .int j => .gd (0 ≤ j) (.int (i / 2 ^ j.toNat))
  | _, _ => .no
def fPow : D → D → R1
  | .int i, .int j => .gd (0 ≤ j ∧ j ≤ 1000000 ∧ i.natAbs < 2 ^ 64) (.int (i ^ j.toNat))
  | _, _ => .no
def fLt : D → D → R1
  | .int i, .int j => .ok (.bl (decide (i < j)))
  | _, _ => .no
def fLe : D → D → R1
  | .int i, .int j => .ok (.bl (decide (i ≤ j)))
  | _, _ => .no
def fGt : D → D → R1
  | .int i, .int j => .ok (.bl (decide (j < i)))
  | _, _ => .no
def fGe : D → D → R1
  | .int i, .int j => .ok (.bl (decide (j ≤ i)))
  | _, _ => .no
theorem sizeLine16 : sizeLine = 16777216 := sizeLine_eq

section
variable {K : PySem.W.Frag} {c : C} {F : Hp} {σ : St} {H : Hp} {ρ : List SD} {x y : V} {a b : D}
theorem Rep.seqT {t : G} {l : List D} (h : Rep K t F x (.tup l)) : ∃ p vs, x = .ref p ∧ SqT K F p vs ∧ Reps K t F vs l := by
  cases h with
  | tup h r => exact ⟨_, _, rfl, h, r⟩
theorem Rep.seqL {t : G} {l : List D} (h : Rep K t F x (.lst l)) : ∃ p vs, x = .ref p ∧ F p = some (.lst vs) ∧ Reps K t F vs l := by
  cases h with
  | lst h r => exact ⟨_, _, rfl, h, r⟩
theorem Rep.int_eq {t : G} {i : Int} (h : Rep K t F x (.int i)) : x = .int i := by cases h; rfl
theorem Rep.str_eq {t : G} {i : Str} (h : Rep K t F x (.str i)) : x = .str i := by cases h; rfl
theorem Rep.bl_eq {t : G} {i : Bool} (h : Rep K t F x (.bl i)) : x = .bl i := by cases h; rfl
theorem Rep.non_eq {t : G} (h : Rep K t F x .non) : x = .non := by cases h; rfl
/-- the answer is a new tuple, a new list -/
theorem new_tup {Q : VK} {vs : List V} {l : List D} (rl : Rel K c F σ H ρ) (r : Reps K c.g F vs l) (q : ∀ v F' H', Rel K c F' σ H' ρ → Same F F' → Rep K c.g F' v (.tup l) → Q v H') {p : Addr} (n : H p = none) : Q (.ref p) (upd H p (.tup vs)) := by
  have s : Same F (upd F p (.tup vs)) := same_laid (rl.freeF n)
  exact q _ _ _ (rl.laid n) s (.tup (SqT.of upd_same) (r.mono s))
theorem new_lst {Q : VK} {vs : List V} {l : List D} (rl : Rel K c F σ H ρ) (r : Reps K c.g F vs l) (q : ∀ v F' H', Rel K c F' σ H' ρ → Same F F' → Rep K c.g F' v (.lst l) → Q v H') {p : Addr} (n : H p = none) : Q (.ref p) (upd H p (.lst vs)) := by
  have s : Same F (upd F p (.lst vs)) := same_laid (rl.freeF n)
  exact q _ _ _ (rl.laid n) s (.lst upd_same (r.mono s))
end

section
variable {K : PySem.W.Frag} {c : C}
/-- two ints -/
theorem br_int {C' : Int → Int → Prop} {g : Int → Int → V} {gd : Int → Int → D} {f : D → D → R1} (hf : ∀ a b Q, (f a b).run Q → ∃ i j, a = .int i ∧ b = .int j ∧ C' i j ∧ Q (gd i j)) (hg : ∀ i j F, Rep K c.g F (g i j) (gd i j)) : BrO c K (rI C' g) f := by
  intro F σ H ρ x y a b Q rl r1 r2 q
  obtain ⟨i, j, rfl, rfl, hc, q⟩ := hf _ _ _ q
  cases r1
  cases r2
  exact ⟨i, j, rfl, rfl, hc, q _ F H rl (Same.refl _) (hg i j F)⟩
theorem br_int0 {g : Int → Int → V} {gd : Int → Int → D} {f : D → D → R1} (hf : ∀ a b Q, (f a b).run Q → ∃ i j, a = .int i ∧ b = .int j ∧ Q (gd i j)) (hg : ∀ i j F, Rep K c.g F (g i j) (gd i j)) : BrO c K (rI0 g) f := by
  intro F σ H ρ x y a b Q rl r1 r2 q
  obtain ⟨i, j, rfl, rfl, q2⟩ := hf _ _ _ q
  cases r1
  cases r2
  exact ⟨i, j, rfl, rfl, q2 _ F H rl (Same.refl _) (hg i j F)⟩
end

section
variable {X : Cx} {c : C} {a b : Expr} {wa wb : DW} {pos : Pos}
theorem or_add : OpR X (binaryOp .Add) (fun x y H Q => (rI0 (fun i j => .int (i + j)) x y H Q ∨ (∃ i j, x = .str i ∧ y = .str j ∧ i.length + j.length ≤ sizeLine ∧ Q (.str (i ++ j)) H)) ∨ (rCatA X.K x y H Q ∨ rCat x y H Q)) :=
  OpR.or (OpR.or op_add op_add_str) (OpR.or op_catA op_cat)
theorem br_add : BrO c X.K (fun x y H Q => (rI0 (fun i j => .int (i + j)) x y H Q ∨ (∃ i j, x = .str i ∧ y = .str j ∧ i.length + j.length ≤ sizeLine ∧ Q (.str (i ++ j)) H)) ∨ (rCatA X.K x y H Q ∨ rCat x y H Q)) fAdd := by
  intro F σ H ρ x y a b Q rl r1 r2 q
  cases a <;> cases b <;> first | exact (show False from q).elim | skip
  · cases r1; cases r2
    exact .inl (.inl ⟨_, _, rfl, rfl, q _ F H rl (Same.refl _) (.int _)⟩)
  · cases r1; cases r2
    obtain ⟨hl, q⟩ := q
    exact .inl (.inr ⟨_, _, rfl, rfl, by rw [sizeLine16]; exact hl, q _ F H rl (Same.refl _) (.str _)⟩)
  · obtain ⟨hl, q⟩ := q
    obtain ⟨p, vs, rfl, h1, k1⟩ := r1.seqT
    obtain ⟨p', ws, rfl, h2, k2⟩ := r2.seqT
    have n1 := k1.length
    have n2 := k2.length
    refine .inr (.inl ⟨p, p', vs, ws, rfl, rfl, same_tup rl.step.fh h1, same_tup rl.step.fh h2, by rw [sizeLine16]; omega, fun z => ?_, fun _ z => ?_, fun _ _ u n => ?_⟩)
    · subst z
      cases k1
      exact q _ F H rl (Same.refl _) (.tup h2 k2)
    · subst z
      cases k2
      rw [List.append_nil] at q
      exact q _ F H rl (Same.refl _) (.tup h1 k1)
    · exact new_tup rl (k1.append k2) q n
  · obtain ⟨hl, q⟩ := q
    obtain ⟨p, vs, rfl, h1, k1⟩ := r1.seqL
    obtain ⟨p', ws, rfl, h2, k2⟩ := r2.seqL
    have n1 := k1.length
    have n2 := k2.length
    refine .inr (.inr ⟨p, p', vs, ws, rfl, rfl, rl.step.fh _ _ h1, rl.step.fh _ _ h2, by rw [sizeLine16]; omega, fun u n => ?_⟩)
    exact new_lst rl (k1.append k2) q n
theorem pd_add (ha : PD c X a wa) (hb : PD c X b wb) : PD c X (.BinOp a .Add b pos) (wOp fAdd wa wb) := pd_op or_add br_add ha hb
theorem pd_sub (ha : PD c X a wa) (hb : PD c X b wb) : PD c X (.BinOp a .Sub b pos) (wOp fSub wa wb) :=
  pd_op op_sub (br_int0 (gd := fun i j => .int (i - j)) (fun a b Q q => by cases a <;> cases b <;> first | exact (show False from q).elim | exact ⟨_, _, rfl, rfl, q⟩) fun i j F => .int _) ha hb
theorem flat_reps {t : G} {F : Hp} {vs : List V} {l : List D} (h : Reps X.K t F vs l) : ∀ n : Nat, Reps X.K t F (List.replicate n vs).flatten (List.replicate n l).flatten
  | 0 => .nil
  | n + 1 => by
    rw [List.replicate_succ, List.replicate_succ, List.flatten_cons, List.flatten_cons]
    exact h.append (flat_reps h n)
theorem or_mul : OpR X (binaryOp .Mult) (fun x y H Q => (rI CMul (fun i j => .int (i * j)) x y H Q ∨ rI CMulW (fun i j => .int (i * j)) x y H Q) ∨ ((rRepT X.K x y H Q ∨ rRep1 X.K x y H Q) ∨ rRep x y H Q)) :=
  OpR.or (OpR.or op_mul op_mulW) (OpR.or (OpR.or op_repT op_rep1) op_rep)
theorem br_mul : BrO c X.K (fun x y H Q => (rI CMul (fun i j => .int (i * j)) x y H Q ∨ rI CMulW (fun i j => .int (i * j)) x y H Q) ∨ ((rRepT X.K x y H Q ∨ rRep1 X.K x y H Q) ∨ rRep x y H Q)) fMul := by
  intro F σ H ρ x y a b Q rl r1 r2 q
  cases a <;> cases b <;> first | exact (show False from q).elim | skip
  · cases r1; cases r2
    obtain ⟨hl, q⟩ := q
    have q := q _ F H rl (Same.refl _) (.int _)
    rcases hl with hl | ⟨h1, h2⟩
    · refine .inl (.inl ⟨_, _, rfl, rfl, ?_, q⟩)
      rcases hl with h | h
      · exact .inl (by omega)
      · exact .inr (by omega)
    · exact .inl (.inr ⟨_, _, rfl, rfl, wide_mul h1 h2 (by decide) (by decide) (by decide), q⟩)
  · cases r2
    obtain ⟨⟨h0, h1, h2, h3⟩, q⟩ := q
    obtain ⟨p, vs, rfl, k1, k2⟩ := r1.seqT
    have n := k2.length
    rename_i xs k
    by_cases hk : k = 1
    · subst hk
      refine .inr (.inl (.inr ⟨p, vs, rfl, rfl, same_tup rl.step.fh k1, q _ F H rl (Same.refl _) ?_⟩))
      have e : (List.replicate (Int.toNat 1) xs).flatten = xs := by simp
      rw [e]
      exact .tup k1 k2
    refine .inr (.inl (.inl ⟨p, _, vs, rfl, rfl, same_tup rl.step.fh k1, fun z => ?_, by omega, h2, by omega, fun u n => ?_⟩))
    · subst z
      cases k2
      exact h0 rfl
    · exact new_tup rl (flat_reps k2 _) q n
  · cases r2
    obtain ⟨⟨h0, h1, h2⟩, q⟩ := q
    obtain ⟨p, vs, rfl, k1, k2⟩ := r1.seqL
    have n := k2.length
    refine .inr (.inr ⟨p, _, vs, rfl, rfl, rl.step.fh _ _ k1, by omega, by omega, by rw [sizeLine16, n]; exact h2, fun u n => ?_⟩)
    exact new_lst rl (flat_reps k2 _) q n
theorem pd_mul (ha : PD c X a wa) (hb : PD c X b wb) : PD c X (.BinOp a .Mult b pos) (wOp fMul wa wb) := pd_op or_mul br_mul ha hb
theorem br_div : BrO c X.K (fun x y H Q => rI CDivN (fun i j => .int (i.fdiv j)) x y H Q ∨ rI CDivW (fun i j => .int (i / j)) x y H Q) fDiv := by
  intro F σ H ρ x y a b Q rl r1 r2 q
  cases a <;> cases b <;> first | exact (show False from q).elim | skip
  cases r1; cases r2
  obtain ⟨⟨h0, hl⟩, q⟩ := q
  have q := q _ F H rl (Same.refl _) (.int _)
  rcases hl with hl | ⟨h1, h2⟩
  · exact .inl ⟨_, _, rfl, rfl, ⟨h0, hl⟩, q⟩
  · exact .inr ⟨_, _, rfl, rfl, wide_div h1 h2 (by decide) (by decide), by show Q (.int (_ / _)) H; rw [← Int.fdiv_eq_ediv_of_nonneg _ (by omega)]; exact q⟩
theorem pd_div (ha : PD c X a wa) (hb : PD c X b wb) : PD c X (.BinOp a .FloorDiv b pos) (wOp fDiv wa wb) := pd_op (OpR.or op_fdivN op_fdivW) br_div ha hb
theorem pd_mod (ha : PD c X a wa) (hb : PD c X b wb) : PD c X (.BinOp a .Mod b pos) (wOp fMod wa wb) :=
  pd_op op_modN (br_int (gd := fun i j => .int (i.fmod j)) (fun a b Q q => by cases a <;> cases b <;> first | exact (show False from q).elim | exact ⟨_, _, rfl, rfl, q.1, q.2⟩) fun i j F => .int _) ha hb
theorem pd_and (ha : PD c X a wa) (hb : PD c X b wb) : PD c X (.BinOp a .BitAnd b pos) (wOp fAnd wa wb) :=
  pd_op op_and (br_int0 (gd := fun i j => .int (Builtin.bitAnd i j)) (fun a b Q q => by cases a <;> cases b <;> first | exact (show False from q).elim | exact ⟨_, _, rfl, rfl, q⟩) fun i j F => .int _) ha hb
theorem pd_xor (ha : PD c X a wa) (hb : PD c X b wb) : PD c X (.BinOp a .BitXor b pos) (wOp fXor wa wb) :=
  pd_op op_xor (br_int0 (gd := fun i j => .int (Builtin.bitXor i j)) (fun a b Q q => by cases a <;> cases b <;> first | exact (show False from q).elim | exact ⟨_, _, rfl, rfl, q⟩) fun i j F => .int _) ha hb
theorem pd_shl (ha : PD c X a wa) (hb : PD c X b wb) : PD c X (.BinOp a .LShift b pos) (wOp fShl wa wb) :=
  pd_op op_shl (br_int (gd := fun i j => .int (i * 2 ^ j.toNat)) (fun a b Q q => by cases a <;> cases b <;> first | exact (show False from q).elim | exact ⟨_, _, rfl, rfl, q.1, q.2⟩) fun i j F => .int _) ha hb
theorem pd_shr (ha : PD c X a wa) (hb : PD c X b wb) : PD c X (.BinOp a .RShift b pos) (wOp fShr wa wb) :=
  pd_op op_shr (br_int (gd := fun i j => .int (i / 2 ^ j.toNat)) (fun a b Q q => by cases a <;> cases b <;> first | exact (show False from q).elim | exact ⟨_, _, rfl, rfl, q.1, q.2⟩) fun i j F => .int _) ha hb
theorem pd_pow (ha : PD c X a wa) (hb : PD c X b wb) : PD c X (.BinOp a .Pow b pos) (wOp fPow wa wb) :=
  pd_op op_pow (br_int (gd := fun i j => .int (i ^ j.toNat)) (fun a b Q q => by cases a <;> cases b <;> first | exact (show False from q).elim | exact ⟨_, _, rfl, rfl, q.1, q.2⟩) fun i j F => .int _) ha hb
theorem pd_lt (ha : PD c X a wa) (hb : PD c X b wb) : PD c X (.Compare a [.Lt] [b] pos) (wOp fLt wa wb) :=
  pd_cmp op_lt (br_int0 (gd := fun i j => .bl (decide (i < j))) (fun a b Q q => by cases a <;> cases b <;> first | exact (show False from q).elim | exact ⟨_, _, rfl, rfl, q⟩) fun i j F => .bl _) ha hb (nomark _)
theorem pd_le (ha : PD c X a wa) (hb : PD c X b wb) : PD c X (.Compare a [.LtE] [b] pos) (wOp fLe wa wb) :=
  pd_cmp op_le (br_int0 (gd := fun i j => .bl (decide (i ≤ j))) (fun a b Q q => by cases a <;> cases b <;> first | exact (show False from q).elim | exact ⟨_, _, rfl, rfl, q⟩) fun i j F => .bl _) ha hb (nomark _)
theorem pd_gt (ha : PD c X a wa) (hb : PD c X b wb) : PD c X (.Compare a [.Gt] [b] pos) (wOp fGt wa wb) :=
  pd_cmp op_gt (br_int0 (gd := fun i j => .bl (decide (j < i))) (fun a b Q q => by cases a <;> cases b <;> first | exact (show False from q).elim | exact ⟨_, _, rfl, rfl, q⟩) fun i j F => .bl _) ha hb (nomark _)
theorem pd_ge (ha : PD c X a wa) (hb : PD c X b wb) : PD c X (.Compare a [.GtE] [b] pos) (wOp fGe wa wb) :=
  pd_cmp op_ge (br_int0 (gd := fun i j => .bl (decide (j ≤ i))) (fun a b Q q => by cases a <;> cases b <;> first | exact (show False from q).elim | exact ⟨_, _, rfl, rfl, q⟩) fun i j F => .bl _) ha hb (nomark _)
end
end PL
end L2

namespace L2
namespace PL
open PySem PySem.Spec PyProof.Rows
variable [Tabl]

/-! ### equality -/
mutual
def toPy : D → Option PyData
  | .non => some .none
  | .bl b => some (.bool b)
  | .int i => some (.int i)
  | .str x => some (.str x)
  | .tup l => (toPys l).map .tuple
  | .lst l => (toPys l).map .list
  | _ => none
def toPys : List D → Option (List PyData)
  | [] => some []
  | d :: l => (toPy d).bind fun p => (toPys l).map fun r => p :: r
end
section
variable {K : PySem.W.Frag} {t : G} {F H : Hp}
mutual
theorem Rep.dp (e : Same F H) : ∀ {v : V} {d : D} {p : PyData}, Rep K t F v d → toPy d = some p → Dp K H v p
  | _, _, _, .non, h => by cases h; exact .non
  | _, _, _, .bl b, h => by cases h; exact .bl b
  | _, _, _, .int b, h => by cases h; exact .int b
  | _, _, _, .str b, h => by cases h; exact .str b
  | _, .tup l, _, .tup h1 r, h => by
    simp only [toPy] at h
    cases q : toPys l with
    | none => rw [q] at h; cases h
    | some ps => rw [q] at h; cases h; exact .tup (same_tup e h1) (Reps.dp e r q)
  | _, .lst l, _, .lst h1 r, h => by
    simp only [toPy] at h
    cases q : toPys l with
    | none => rw [q] at h; cases h
    | some ps => rw [q] at h; cases h; exact .lst (SqL.of (e _ _ h1)) (Reps.dp e r q)
  | _, _, _, .obj _ _ _, h => by cases h
  | _, _, _, .scr _, h => by cases h
  | _, _, _, .tok, h => by cases h
theorem Reps.dp (e : Same F H) : ∀ {vs : List V} {ds : List D} {ps : List PyData}, Reps K t F vs ds → toPys ds = some ps → DpAll K H vs ps
  | _, _, _, .nil, h => by cases h; exact .nil
  | _, d :: ds, _, .cons h1 r, h => by
    simp only [toPys] at h
    cases q1 : toPy d with
    | none => rw [q1] at h; cases h
    | some p =>
      rw [q1] at h
      cases q2 : toPys ds with
      | none => rw [q2] at h; cases h
      | some ps' => rw [q2] at h; cases h; exact .cons (Rep.dp e h1 q1) (Reps.dp e r q2)
end
end
def fEqG (a b : D) : R1 := match toPy a, toPy b with
  | some x, some y => .gd (SeqAt.shaped x = true ∧ SeqAt.shaped y = true) (.bl (PyData.eqv x y))
  | _, _ => .no
def fNeG (a b : D) : R1 := match toPy a, toPy b with
  | some x, some y => .gd (SeqAt.shaped x = true ∧ SeqAt.shaped y = true) (.bl (!PyData.eqv x y))
  | _, _ => .no
def fEq : D → D → R1
  | .int i, .int j => .ok (.bl (decide (i = j)))
  | .bl i, .bl j => .ok (.bl (decide (i = j)))
  | .str i, .str j => .ok (.bl (decide (i = j)))
  | a, b => fEqG a b
def fNe : D → D → R1
  | .int i, .int j => .ok (.bl (!decide (i = j)))
  | .bl i, .bl j => .ok (.bl (!decide (i = j)))
  | .str i, .str j => .ok (.bl (!decide (i = j)))
  | a, b => fNeG a b
section
variable {X : Cx} {c : C}
theorem dec_V {α : Type} [DecidableEq α] {f : α → V} (hf : ∀ a b, f a = f b → a = b) (a b : α) : decide (f a = f b) = decide (a = b) := by
  by_cases h : a = b
  · subst h; simp
  · rw [decide_eq_false h, decide_eq_false (fun z => h (hf _ _ z))]
theorem br_eq : BrO c X.K (fun x y H Q => rEq x y H Q ∨ rEqD X.K x y H Q) fEq := by
  intro F σ H ρ x y a b Q rl r1 r2 q
  have gen : (fEqG a b).run (fun d => ∀ v F' H', Rel X.K c F' σ H' ρ → Same F F' → Rep X.K c.g F' v d → Q v H') → rEq x y H Q ∨ rEqD X.K x y H Q := fun q => by
    unfold fEqG at q
    split at q
    · rename_i p1 p2 e1 e2
      obtain ⟨⟨s1, s2⟩, q⟩ := q
      exact .inr ⟨p1, p2, r1.dp rl.step.fh e1, r2.dp rl.step.fh e2, s1, s2, q _ F H rl (Same.refl _) (.bl _)⟩
    · exact (show False from q).elim
  unfold fEq at q
  split at q
  · cases r1; cases r2
    exact .inl ⟨rfl, by rw [dec_V (f := V.int) fun a b h => V.int.inj h]; exact q _ F H rl (Same.refl _) (.bl _)⟩
  · cases r1; cases r2
    exact .inl ⟨rfl, by rw [dec_V (f := V.bl) fun a b h => V.bl.inj h]; exact q _ F H rl (Same.refl _) (.bl _)⟩
  · cases r1; cases r2
    exact .inl ⟨rfl, by rw [dec_V (f := V.str) fun a b h => V.str.inj h]; exact q _ F H rl (Same.refl _) (.bl _)⟩
  · exact gen q
theorem br_ne : BrO c X.K (fun x y H Q => rNe x y H Q ∨ rNeD X.K x y H Q) fNe := by
  intro F σ H ρ x y a b Q rl r1 r2 q
  have gen : (fNeG a b).run (fun d => ∀ v F' H', Rel X.K c F' σ H' ρ → Same F F' → Rep X.K c.g F' v d → Q v H') → rNe x y H Q ∨ rNeD X.K x y H Q := fun q => by
    unfold fNeG at q
    split at q
    · rename_i p1 p2 e1 e2
      obtain ⟨⟨s1, s2⟩, q⟩ := q
      exact .inr ⟨p1, p2, r1.dp rl.step.fh e1, r2.dp rl.step.fh e2, s1, s2, q _ F H rl (Same.refl _) (.bl _)⟩
    · exact (show False from q).elim
  unfold fNe at q
  split at q
  · cases r1; cases r2
    exact .inl ⟨rfl, by rw [dec_V (f := V.int) fun a b h => V.int.inj h]; exact q _ F H rl (Same.refl _) (.bl _)⟩
  · cases r1; cases r2
    exact .inl ⟨rfl, by rw [dec_V (f := V.bl) fun a b h => V.bl.inj h]; exact q _ F H rl (Same.refl _) (.bl _)⟩
  · cases r1; cases r2
    exact .inl ⟨rfl, by rw [dec_V (f := V.str) fun a b h => V.str.inj h]; exact q _ F H rl (Same.refl _) (.bl _)⟩
  · exact gen q
variable {a b e : Expr} {wa wb we : DW} {pos : Pos}
theorem hu64 {k : Nat} {A : Around} (hr : Room k A) : A.units + 64 < cLine := hr.units
theorem pd_eq {k : Nat} (hr : Room k X.A) (ha : PD c X a wa) (hb : PD c X b wb) : PD c X (.Compare a [.Eq] [b] pos) (wOp fEq wa wb) := pd_cmp (OpR.or op_eq (op_eqD hr.units)) br_eq ha hb (nomark _)
theorem pd_ne {k : Nat} (hr : Room k X.A) (ha : PD c X a wa) (hb : PD c X b wb) : PD c X (.Compare a [.NotEq] [b] pos) (wOp fNe wa wb) := pd_cmp (OpR.or op_ne (op_neD hr.units)) br_ne ha hb (nomark _)

/-! ### tests -/
def wTst (wa : DW) : DT := fun ρ Q => wa ρ fun d ρ1 => match d with
  | .bl k => Q k ρ1
  | _ => False
theorem mo_Tst (ha : Mono wa) : Mono (wTst wa) := fun ρ Q Q' h q => ha ρ _ _ (fun d ρ1 q => by cases d <;> first | exact h _ _ q | exact q) q
theorem tst_br (ma : Mono wa) (σ : St) (H : Hp) (Q : Bool → Hp → Prop) (q : tOfT X.K c (wTst wa) σ H Q) : tB (tOf X.K c wa) σ H Q := by
  obtain ⟨F, ρ, rl, q⟩ := q
  refine ⟨F, ρ, rl, ma ρ _ _ (fun d ρ1 q v F1 H1 r1 s1 e1 => ?_) q⟩
  cases d <;> first | exact (show False from q).elim | skip
  cases e1
  exact ⟨_, rfl, q F1 H1 r1 s1⟩
/-- a value as a test -/
theorem pdt_val (h : PD c X e we) (he : ∀ whole, isTrue e X.env whole = (do let v ← whole; standAt e.pos; holding [v] (truthy v)) := by intro _; rfl) : PDT c X e (wTst we) :=
  ⟨(pt_val h.pe he).imp (tst_br h.mo), mo_Tst h.mo⟩
theorem pdt_cmp {op : CmpOp} {r : R2} {f : D → D → R1} (ho : OpR X (compareOp op) r) (br : BrO c X.K r f) (ha : PD c X a wa) (hb : PD c X b wb) (hm : behindInMarks op b = false) : PDT c X (.Compare a [op] [b] pos) (wTst (wOp f wa wb)) := by
  refine ⟨(pt_cmpR ho ha.pe hb.pe hm).imp fun σ H Q q => ?_, mo_Tst (mo_Op ha.mo hb.mo)⟩
  have z := tst_br (mo_Op ha.mo hb.mo) σ H Q q
  exact bin_br br ha.mo hb.mo σ H _ z
theorem pdt_eq {k : Nat} (hr : Room k X.A) (ha : PD c X a wa) (hb : PD c X b wb) : PDT c X (.Compare a [.Eq] [b] pos) (wTst (wOp fEq wa wb)) := pdt_cmp (OpR.or op_eq (op_eqD hr.units)) br_eq ha hb (nomark _)
theorem pdt_ne {k : Nat} (hr : Room k X.A) (ha : PD c X a wa) (hb : PD c X b wb) : PDT c X (.Compare a [.NotEq] [b] pos) (wTst (wOp fNe wa wb)) := pdt_cmp (OpR.or op_ne (op_neD hr.units)) br_ne ha hb (nomark _)
theorem br_lt : BrO c X.K (rI0 fun i j => .bl (decide (i < j))) fLt := br_int0 (gd := fun i j => .bl (decide (i < j))) (fun a b Q q => by cases a <;> cases b <;> first | exact (show False from q).elim | exact ⟨_, _, rfl, rfl, q⟩) fun i j F => .bl _
theorem br_le : BrO c X.K (rI0 fun i j => .bl (decide (i ≤ j))) fLe := br_int0 (gd := fun i j => .bl (decide (i ≤ j))) (fun a b Q q => by cases a <;> cases b <;> first | exact (show False from q).elim | exact ⟨_, _, rfl, rfl, q⟩) fun i j F => .bl _
theorem br_gt : BrO c X.K (rI0 fun i j => .bl (decide (j < i))) fGt := br_int0 (gd := fun i j => .bl (decide (j < i))) (fun a b Q q => by cases a <;> cases b <;> first | exact (show False from q).elim | exact ⟨_, _, rfl, rfl, q⟩) fun i j F => .bl _
theorem br_ge : BrO c X.K (rI0 fun i j => .bl (decide (j ≤ i))) fGe := br_int0 (gd := fun i j => .bl (decide (j ≤ i))) (fun a b Q q => by cases a <;> cases b <;> first | exact (show False from q).elim | exact ⟨_, _, rfl, rfl, q⟩) fun i j F => .bl _
theorem pdt_lt (ha : PD c X a wa) (hb : PD c X b wb) : PDT c X (.Compare a [.Lt] [b] pos) (wTst (wOp fLt wa wb)) := pdt_cmp op_lt br_lt ha hb (nomark _)
theorem pdt_le (ha : PD c X a wa) (hb : PD c X b wb) : PDT c X (.Compare a [.LtE] [b] pos) (wTst (wOp fLe wa wb)) := pdt_cmp op_le br_le ha hb (nomark _)
theorem pdt_gt (ha : PD c X a wa) (hb : PD c X b wb) : PDT c X (.Compare a [.Gt] [b] pos) (wTst (wOp fGt wa wb)) := pdt_cmp op_gt br_gt ha hb (nomark _)
theorem pdt_ge (ha : PD c X a wa) (hb : PD c X b wb) : PDT c X (.Compare a [.GtE] [b] pos) (wTst (wOp fGe wa wb)) := pdt_cmp op_ge br_ge ha hb (nomark _)

/-! ### is None -/
def isNon : D → Bool
  | .non => true
  | _ => false
theorem Rep.isNon {t : G} {F : Hp} {v : V} {d : D} (h : Rep X.K t F v d) : decide (v = .non) = PL.isNon d := by
  cases h <;> first | rfl | (refine decide_eq_false ?_; intro z; cases z)
def wUn (f : D → R1) (wa : DW) : DW := fun ρ Q => wa ρ fun d ρ1 => (f d).run fun r => Q r ρ1
theorem mo_Un {f : D → R1} (ha : Mono wa) : Mono (wUn f wa) := fun ρ Q Q' h q => ha ρ _ _ (fun d ρ1 q => R1.mo (fun r => h r ρ1) q) q
def fIsN (d : D) : R1 := .ok (.bl (isNon d))
def fNotN (d : D) : R1 := .ok (.bl (!isNon d))
theorem isN_br (ma : Mono wa) (σ : St) (H : Hp) (Q : VK) (q : tOf X.K c (wUn fIsN wa) σ H Q) : tIsN (tOf X.K c wa) σ H Q := by
  obtain ⟨F, ρ, rl, q⟩ := q
  exact ⟨F, ρ, rl, ma ρ _ _ (fun d ρ1 q v F1 H1 r1 s1 e1 => by
    show Q (.bl (decide (v = .non))) H1
    rw [e1.isNon]
    exact q _ F1 H1 r1 s1 (.bl _)) q⟩
theorem notN_br (ma : Mono wa) (σ : St) (H : Hp) (Q : VK) (q : tOf X.K c (wUn fNotN wa) σ H Q) : tNotN (tOf X.K c wa) σ H Q := by
  obtain ⟨F, ρ, rl, q⟩ := q
  exact ⟨F, ρ, rl, ma ρ _ _ (fun d ρ1 q v F1 H1 r1 s1 e1 => by
    show Q (.bl (!decide (v = .non))) H1
    rw [e1.isNon]
    exact q _ F1 H1 r1 s1 (.bl _)) q⟩
theorem pd_isN {j pos'} (ha : PD c X a wa) : PD c X (.Compare a [.Is] [.Constant .none j pos'] pos) (wUn fIsN wa) := ⟨(pe_cmp (pc_isN ha.pe)).imp (isN_br ha.mo), mo_Un ha.mo⟩
theorem pd_notN {j pos'} (ha : PD c X a wa) : PD c X (.Compare a [.IsNot] [.Constant .none j pos'] pos) (wUn fNotN wa) := ⟨(pe_cmp (pc_notN ha.pe)).imp (notN_br ha.mo), mo_Un ha.mo⟩
theorem pdt_isN {j pos'} (ha : PD c X a wa) : PDT c X (.Compare a [.Is] [.Constant .none j pos'] pos) (wTst (wUn fIsN wa)) :=
  ⟨(pt_cmp (pc_isN ha.pe)).imp fun σ H Q q => isN_br ha.mo σ H _ (tst_br (mo_Un ha.mo) σ H Q q), mo_Tst (mo_Un ha.mo)⟩
theorem pdt_notN {j pos'} (ha : PD c X a wa) : PDT c X (.Compare a [.IsNot] [.Constant .none j pos'] pos) (wTst (wUn fNotN wa)) :=
  ⟨(pt_cmp (pc_notN ha.pe)).imp fun σ H Q q => notN_br ha.mo σ H _ (tst_br (mo_Un ha.mo) σ H Q q), mo_Tst (mo_Un ha.mo)⟩

/-! ### chains -/
variable {cc : Expr} {wc : DW}
def wChain (f f' : D → D → R1) (wa wb wc : DW) : DW := fun ρ Q => wa ρ fun x ρ1 => wb ρ1 fun y ρ2 => (f x y).run fun z => match z with
  | .bl k => (k = true → wc ρ2 fun u ρ3 => (f' y u).run fun d => Q d ρ3) ∧ (k = false → Q (.bl false) ρ2)
  | _ => False
theorem mo_Chain {f f' : D → D → R1} (ha : Mono wa) (hb : Mono wb) (hc : Mono wc) : Mono (wChain f f' wa wb wc) := fun ρ Q Q' h q =>
  ha ρ _ _ (fun x ρ1 q => hb ρ1 _ _ (fun y ρ2 q => R1.mo (fun z q => by
    cases z <;> first | exact q | skip
    exact ⟨fun e => hc ρ2 _ _ (fun u ρ3 q => R1.mo (fun d => h d ρ3) q) (q.1 e), fun e => h _ _ (q.2 e)⟩) q) q) q
theorem chain_br {r r' : R2} {f f' : D → D → R1} (br : BrO c X.K r f) (br' : BrO c X.K r' f') (ma : Mono wa) (mb : Mono wb) (mc : Mono wc) (σ : St) (H : Hp) (Q : VK) (q : tOf X.K c (wChain f f' wa wb wc) σ H Q) :
    tChain r r' (tOf X.K c wa) (tOf X.K c wb) (tOf X.K c wc) σ H Q := by
  obtain ⟨F, ρ, rl, q⟩ := q
  refine ⟨F, ρ, rl, ma ρ _ _ (fun x ρ1 q v F1 H1 r1 s1 e1 => ?_) q⟩
  refine ⟨F1, ρ1, r1, mb ρ1 _ _ (fun y ρ2 q u F2 H2 r2 s2 e2 => ?_) q⟩
  refine br F2 σ H2 ρ2 v u x y _ r2 (e1.mono s2) e2 (R1.mo (fun d q w F3 H3 r3 s3 e3 => ?_) q)
  cases d <;> first | exact (show False from q).elim | skip
  rename_i k
  cases e3
  refine ⟨k, rfl, ?_⟩
  cases k with
  | true =>
    rw [if_pos rfl]
    refine ⟨F3, ρ2, r3, mc ρ2 _ _ (fun z ρ4 q v4 F4 H4 r4 s4 e4 => ?_) (q.1 rfl)⟩
    exact br' F4 σ H4 ρ4 u v4 y z Q r4 ((e2.mono s3).mono s4) e4 (R1.mo (fun d q w F5 H5 r5 s5 e5 => q w F5 H5 r5 ((((s1.trans s2).trans s3).trans s4).trans s5) e5) q)
  | false =>
    rw [if_neg Bool.false_ne_true]
    exact q.2 rfl _ F3 H3 r3 ((s1.trans s2).trans s3) (.bl _)
theorem pd_chain {op op' : CmpOp} {r r' : R2} {f f' : D → D → R1} (ho : OpR X (compareOp op) r) (ho' : OpR X (compareOp op') r') (br : BrO c X.K r f) (br' : BrO c X.K r' f') (ha : PD c X a wa) (hb : PD c X b wb) (hc : PD c X cc wc)
    (hm : lastMarks [op, op'] [b, cc] = false) : PD c X (.Compare a [op, op'] [b, cc] pos) (wChain f f' wa wb wc) :=
  ⟨(pe_chain ho ho' ha.pe hb.pe hc.pe hm).imp (chain_br br br' ha.mo hb.mo hc.mo), mo_Chain ha.mo hb.mo hc.mo⟩
theorem pdt_chain {op op' : CmpOp} {r r' : R2} {f f' : D → D → R1} (ho : OpR X (compareOp op) r) (ho' : OpR X (compareOp op') r') (br : BrO c X.K r f) (br' : BrO c X.K r' f') (ha : PD c X a wa) (hb : PD c X b wb) (hc : PD c X cc wc)
    (hm : lastMarks [op, op'] [b, cc] = false) : PDT c X (.Compare a [op, op'] [b, cc] pos) (wTst (wChain f f' wa wb wc)) :=
  ⟨(pt_chain ho ho' ha.pe hb.pe hc.pe hm).imp fun σ H Q q => chain_br br br' ha.mo hb.mo hc.mo σ H _ (tst_br (mo_Chain ha.mo hb.mo hc.mo) σ H Q q), mo_Tst (mo_Chain ha.mo hb.mo hc.mo)⟩
theorem pd_lele (ha : PD c X a wa) (hb : PD c X b wb) (hc : PD c X cc wc) (hm : lastMarks [.LtE, .LtE] [b, cc] = false := by rfl) : PD c X (.Compare a [.LtE, .LtE] [b, cc] pos) (wChain fLe fLe wa wb wc) := pd_chain op_le op_le br_le br_le ha hb hc hm
theorem pdt_lele (ha : PD c X a wa) (hb : PD c X b wb) (hc : PD c X cc wc) (hm : lastMarks [.LtE, .LtE] [b, cc] = false := by rfl) : PDT c X (.Compare a [.LtE, .LtE] [b, cc] pos) (wTst (wChain fLe fLe wa wb wc)) := pdt_chain op_le op_le br_le br_le ha hb hc hm

/-! ### and, or, not, a if t else b -/
variable {rest : List Expr}
def wAnd (wa wb : DW) : DW := fun ρ Q => wa ρ fun d ρ1 => match d with
  | .bl k => (k = true → wb ρ1 Q) ∧ (k = false → Q (.bl false) ρ1)
  | _ => False
def wOr (wa wb : DW) : DW := fun ρ Q => wa ρ fun d ρ1 => match d with
  | .bl k => (k = true → Q (.bl true) ρ1) ∧ (k = false → wb ρ1 Q)
  | _ => False
theorem mo_And (ha : Mono wa) (hb : Mono wb) : Mono (wAnd wa wb) := fun ρ Q Q' h q => ha ρ _ _ (fun d ρ1 q => by
  cases d <;> first | exact q | skip
  exact ⟨fun e => hb _ _ _ h (q.1 e), fun e => h _ _ (q.2 e)⟩) q
theorem mo_Or (ha : Mono wa) (hb : Mono wb) : Mono (wOr wa wb) := fun ρ Q Q' h q => ha ρ _ _ (fun d ρ1 q => by
  cases d <;> first | exact q | skip
  exact ⟨fun e => h _ _ (q.1 e), fun e => hb _ _ _ h (q.2 e)⟩) q
theorem tail {w : DW} {σ : St} {F F1 : Hp} {H H1 : Hp} {ρ1 : List SD} {Q : VK} (r1 : Rel X.K c F1 σ H1 ρ1) (s1 : Same F F1) (mb : Mono w)
    (q : w ρ1 fun d ρ' => ∀ v F' H', Rel X.K c F' σ H' ρ' → Same F F' → Rep X.K c.g F' v d → Q v H') : tOf X.K c w σ H1 Q :=
  ⟨F1, ρ1, r1, mb _ _ _ (fun d ρ' q v F' H' r' s' e' => q v F' H' r' (s1.trans s') e') q⟩
theorem pd_one {op} (h : PD c X a wa) : PD c X (.BoolOp op [a] pos) wa := ⟨pe_one h.pe, h.mo⟩
theorem pd_andV (ha : PD c X a wa) (hb : PD c X (.BoolOp .And (b :: rest) pos) wb) : PD c X (.BoolOp .And (a :: b :: rest) pos) (wAnd wa wb) := by
  refine ⟨(pe_and ha.pe hb.pe).imp fun σ H Q ⟨F, ρ, rl, q⟩ => ⟨F, ρ, rl, ha.mo ρ _ _ (fun d ρ1 q v F1 H1 r1 s1 e1 => ?_) q⟩, mo_And ha.mo hb.mo⟩
  cases d <;> first | exact (show False from q).elim | skip
  rename_i k
  cases e1
  refine ⟨k, rfl, ?_⟩
  cases k with
  | true => rw [if_pos rfl]; exact tail (H := H) r1 s1 hb.mo (q.1 rfl)
  | false => rw [if_neg Bool.false_ne_true]; exact q.2 rfl _ F1 H1 r1 s1 (.bl _)
theorem pd_orV (ha : PD c X a wa) (hb : PD c X (.BoolOp .Or (b :: rest) pos) wb) : PD c X (.BoolOp .Or (a :: b :: rest) pos) (wOr wa wb) := by
  refine ⟨(pe_or ha.pe hb.pe).imp fun σ H Q ⟨F, ρ, rl, q⟩ => ⟨F, ρ, rl, ha.mo ρ _ _ (fun d ρ1 q v F1 H1 r1 s1 e1 => ?_) q⟩, mo_Or ha.mo hb.mo⟩
  cases d <;> first | exact (show False from q).elim | skip
  rename_i k
  cases e1
  refine ⟨k, rfl, ?_⟩
  cases k with
  | true => rw [if_pos rfl]; exact q.1 rfl _ F1 H1 r1 s1 (.bl _)
  | false => rw [if_neg Bool.false_ne_true]; exact tail (H := H) r1 s1 hb.mo (q.2 rfl)
def fNot : D → R1
  | .bl k => .ok (.bl (!k))
  | _ => .no
theorem pd_notV (ha : PD c X a wa) : PD c X (.UnaryOp .Not a pos) (wUn fNot wa) := by
  refine ⟨(pe_not ha.pe).imp fun σ H Q ⟨F, ρ, rl, q⟩ => ⟨F, ρ, rl, ha.mo ρ _ _ (fun d ρ1 q v F1 H1 r1 s1 e1 => ?_) q⟩, mo_Un ha.mo⟩
  cases d <;> first | exact (show False from q).elim | skip
  rename_i k
  cases e1
  exact ⟨k, rfl, q _ F1 H1 r1 s1 (.bl _)⟩
def fNeg : D → R1
  | .int i => .ok (.int (-i))
  | _ => .no
theorem pd_neg (ha : PD c X a wa) : PD c X (.UnaryOp .USub a pos) (wUn fNeg wa) := by
  refine ⟨(pe_un un_neg ha.pe).imp fun σ H Q ⟨F, ρ, rl, q⟩ => ⟨F, ρ, rl, ha.mo ρ _ _ (fun d ρ1 q v F1 H1 r1 s1 e1 => ?_) q⟩, mo_Un ha.mo⟩
  cases d <;> first | exact (show False from q).elim | skip
  cases e1
  exact ⟨_, rfl, q _ F1 H1 r1 s1 (.int _)⟩
variable {ta tb : DT}
def wAndT (ta tb : DT) : DT := fun ρ Q => ta ρ fun k ρ1 => (k = true → tb ρ1 Q) ∧ (k = false → Q false ρ1)
def wOrT (ta tb : DT) : DT := fun ρ Q => ta ρ fun k ρ1 => (k = true → Q true ρ1) ∧ (k = false → tb ρ1 Q)
def wNotT (ta : DT) : DT := fun ρ Q => ta ρ fun k ρ1 => Q (!k) ρ1
/-- a chain of and, or as a test -/
structure PDW (c : C) (X : Cx) (e : Expr) (w : DT) : Prop where
  pe : PW X e (tOfT X.K c w)
  mo : Mono w
theorem _root_.L2.PW.imp {X : Cx} {e : Expr} {t t' : TT} (h : PW X e t) (i : ∀ σ H Q, t' σ H Q → t σ H Q) : PW X e t' := ⟨fun wh pins s σ H Q I q => h.run wh pins s σ H Q I (i _ _ _ q)⟩
theorem PDW.pt {w : DT} (h : PDW c X e w) : PDT c X e w := ⟨h.pe.pt, h.mo⟩
theorem pdw_and1 (ha : PDT c X a ta) : PDW c X (.BoolOp .And [a] pos) ta := ⟨pw_and1 ha.pe, ha.mo⟩
theorem pdw_or1 (ha : PDT c X a ta) : PDW c X (.BoolOp .Or [a] pos) ta := ⟨pw_or1 ha.pe, ha.mo⟩
theorem tailT {w : DT} {σ : St} {F F1 : Hp} {H1 : Hp} {ρ1 : List SD} {Q : Bool → Hp → Prop} (r1 : Rel X.K c F1 σ H1 ρ1) (s1 : Same F F1) (mb : Mono w)
    (q : w ρ1 fun b ρ' => ∀ F' H', Rel X.K c F' σ H' ρ' → Same F F' → Q b H') : tOfT X.K c w σ H1 Q :=
  ⟨F1, ρ1, r1, mb _ _ _ (fun d ρ' q F' H' r' s' => q F' H' r' (s1.trans s')) q⟩
theorem pdw_and (ha : PDT c X a ta) (hb : PDW c X (.BoolOp .And (b :: rest) pos) tb) : PDW c X (.BoolOp .And (a :: b :: rest) pos) (wAndT ta tb) := by
  refine ⟨(pw_and ha.pe hb.pe).imp fun σ H Q ⟨F, ρ, rl, q⟩ => ⟨F, ρ, rl, ha.mo ρ _ _ (fun k ρ1 q F1 H1 r1 s1 => ?_) q⟩, fun ρ Q Q' h q => ha.mo ρ _ _ (fun k ρ1 q => ⟨fun e => hb.mo _ _ _ h (q.1 e), fun e => h _ _ (q.2 e)⟩) q⟩
  cases k with
  | true => rw [if_pos rfl]; exact tailT r1 s1 hb.mo (q.1 rfl)
  | false => rw [if_neg Bool.false_ne_true]; exact q.2 rfl F1 H1 r1 s1
theorem pdw_or (ha : PDT c X a ta) (hb : PDW c X (.BoolOp .Or (b :: rest) pos) tb) : PDW c X (.BoolOp .Or (a :: b :: rest) pos) (wOrT ta tb) := by
  refine ⟨(pw_or ha.pe hb.pe).imp fun σ H Q ⟨F, ρ, rl, q⟩ => ⟨F, ρ, rl, ha.mo ρ _ _ (fun k ρ1 q F1 H1 r1 s1 => ?_) q⟩, fun ρ Q Q' h q => ha.mo ρ _ _ (fun k ρ1 q => ⟨fun e => h _ _ (q.1 e), fun e => hb.mo _ _ _ h (q.2 e)⟩) q⟩
  cases k with
  | true => rw [if_pos rfl]; exact q.1 rfl F1 H1 r1 s1
  | false => rw [if_neg Bool.false_ne_true]; exact tailT r1 s1 hb.mo (q.2 rfl)
theorem pdt_not (ha : PDT c X a ta) : PDT c X (.UnaryOp .Not a pos) (wNotT ta) :=
  ⟨(pt_not ha.pe).imp fun σ H Q ⟨F, ρ, rl, q⟩ => ⟨F, ρ, rl, q⟩, fun ρ Q Q' h q => ha.mo ρ _ _ (fun k ρ1 q => h _ _ q) q⟩
def wIfE (t : DT) (wa wb : DW) : DW := fun ρ Q => t ρ fun k ρ1 => (k = true → wa ρ1 Q) ∧ (k = false → wb ρ1 Q)
theorem pd_ifE {t : DT} {cd : Expr} (hc : PDT c X cd t) (ha : PD c X a wa) (hb : PD c X b wb) : PD c X (.IfExp cd a b pos) (wIfE t wa wb) := by
  refine ⟨(pe_ifExp hc.pe ha.pe hb.pe).imp fun σ H Q ⟨F, ρ, rl, q⟩ => ⟨F, ρ, rl, hc.mo ρ _ _ (fun k ρ1 q F1 H1 r1 s1 => ?_) q⟩, fun ρ Q Q' h q => hc.mo ρ _ _ (fun k ρ1 q => ⟨fun e => ha.mo _ _ _ h (q.1 e), fun e => hb.mo _ _ _ h (q.2 e)⟩) q⟩
  cases k with
  | true => rw [if_pos rfl]; exact tail (H := H) r1 s1 ha.mo (q.1 rfl)
  | false => rw [if_neg Bool.false_ne_true]; exact tail (H := H) r1 s1 hb.mo (q.2 rfl)
end

/-! ### arguments, displays -/
section
variable {X : Cx} {c : C} {e : Expr} {es : List Expr} {we : DW} {wr : DA} {pos : Pos}
def wNil : DA := fun ρ Q => Q [] ρ
def wCons (we : DW) (wr : DA) : DA := fun ρ Q => we ρ fun d ρ1 => wr ρ1 fun ds ρ2 => Q (d :: ds) ρ2
theorem pda_nil : PDA c X [] wNil := ⟨pa_nil.imp fun σ H Q ⟨F, ρ, rl, q⟩ => q [] F H rl (Same.refl _) .nil, fun _ _ _ h q => h _ _ q⟩
theorem pda_cons (he : PD c X e we) (hr : PDA c X es wr) (hs : starEach (e :: es) X.env = (false, eval e X.env) :: starEach es X.env := by rfl) : PDA c X (e :: es) (wCons we wr) := by
  refine ⟨(pa_cons he.pe hr.pe hs).imp fun σ H Q ⟨F, ρ, rl, q⟩ => ⟨F, ρ, rl, he.mo ρ _ _ (fun d ρ1 q v F1 H1 r1 s1 e1 => ?_) q⟩, fun ρ Q Q' h q => he.mo ρ _ _ (fun d ρ1 q => hr.mo _ _ _ (fun ds ρ2 q => h _ _ q) q) q⟩
  exact ⟨F1, ρ1, r1, hr.mo _ _ _ (fun ds ρ2 q vs F2 H2 r2 s2 e2 => q _ F2 H2 r2 (s1.trans s2) (.cons (e1.mono s2) e2)) q⟩
def wTup (wr : DA) : DW := fun ρ Q => wr ρ fun ds ρ1 => ds.length ≤ 16777216 ∧ Q (.tup ds) ρ1
def wLst (wr : DA) : DW := fun ρ Q => wr ρ fun ds ρ1 => ds.length ≤ 16777216 ∧ Q (.lst ds) ρ1
theorem pd_tup {x1} (h : PDA c X es wr) : PD c X (.Tuple es x1 pos) (wTup wr) := by
  refine ⟨(pe_tup h.pe).imp fun σ H Q ⟨F, ρ, rl, q⟩ => ⟨F, ρ, rl, h.mo ρ _ _ (fun ds ρ1 q vs F1 H1 r1 s1 e1 => ?_) q⟩, fun ρ Q Q' k q => h.mo ρ _ _ (fun ds ρ1 q => ⟨q.1, k _ _ q.2⟩) q⟩
  refine ⟨by rw [sizeLine16, e1.length]; exact q.1, fun p n => new_tup r1 e1 (fun v F' H' r' s' e' => q.2 v F' H' r' (s1.trans s') e') n⟩
theorem pd_lst (h : PDA c X es wr) : PD c X (.List es pos) (wLst wr) := by
  refine ⟨(pe_lst h.pe).imp fun σ H Q ⟨F, ρ, rl, q⟩ => ⟨F, ρ, rl, h.mo ρ _ _ (fun ds ρ1 q vs F1 H1 r1 s1 e1 => ?_) q⟩, fun ρ Q Q' k q => h.mo ρ _ _ (fun ds ρ1 q => ⟨q.1, k _ _ q.2⟩) q⟩
  refine ⟨by rw [sizeLine16, e1.length]; exact q.1, fun p n => new_lst r1 e1 (fun v F' H' r' s' e' => q.2 v F' H' r' (s1.trans s') e') n⟩

/-! ### subscripts, slices -/
def fAt : Option D → R1
  | some d => .ok d
  | none => .no
def fIdx : D → D → R1
  | .tup l, .int i => fAt (atI l i)
  | .lst l, .int i => fAt (atI l i)
  | .scr l, .int i => fAt ((atI l i).map .int)
  | _, _ => .no
theorem atI_reps {t : G} {F : Hp} {vs : List V} {l : List D} {i : Int} {d : D} (h : Reps X.K t F vs l) (e : atI l i = some d) : ∃ v, atI vs i = some v ∧ Rep X.K t F v d := by
  unfold atI at e ⊢
  rw [h.length]
  cases q : ixN l.length i with
  | none => rw [q] at e; cases e
  | some j =>
    rw [q] at e
    exact h.get e
theorem fAt_run {o : Option D} {Q : D → Prop} (h : (fAt o).run Q) : ∃ d, o = some d ∧ Q d := by
  cases o with
  | none => exact (show False from h).elim
  | some d => exact ⟨d, rfl, h⟩
theorem br_idx : BrO c X.K (fun x y H Q => rIxL X.K x y H Q ∨ rIxT X.K x y H Q) fIdx := by
  intro F σ H ρ x y a b Q rl r1 r2 q
  cases a <;> cases b <;> first | exact (show False from q).elim | skip
  · cases r2
    obtain ⟨p, vs, rfl, k1, k2⟩ := r1.seqT
    obtain ⟨d, e, q⟩ := fAt_run q
    obtain ⟨v, e1, e2⟩ := atI_reps k2 e
    exact .inr ⟨p, vs, _, v, rfl, rfl, same_tup rl.step.fh k1, e1, q v F H rl (Same.refl _) e2⟩
  · cases r2
    obtain ⟨p, vs, rfl, k1, k2⟩ := r1.seqL
    obtain ⟨d, e, q⟩ := fAt_run q
    obtain ⟨v, e1, e2⟩ := atI_reps k2 e
    exact .inl ⟨p, vs, _, v, rfl, rfl, SqL.of (rl.step.fh _ _ k1), e1, q v F H rl (Same.refl _) e2⟩
  · rename_i ns i
    cases r1 with
    | scr h1 =>
      cases r2 with
      | int _ =>
        obtain ⟨d, e, q⟩ := fAt_run q
        have e2 : ∃ n, atI ns i = some n ∧ d = .int n := by
          cases z : atI ns i with
          | none => rw [z] at e; cases e
          | some n => rw [z] at e; cases e; exact ⟨n, rfl, rfl⟩
        obtain ⟨n, e3, rfl⟩ := e2
        have e4 : atI (ns.map V.int) i = some (.int n) := by
          unfold atI at e3 ⊢
          rw [List.length_map]
          cases z : ixN ns.length i with
          | none => rw [z] at e3; cases e3
          | some j =>
            rw [z] at e3
            have e3 : ns[j]? = some n := e3
            show (ns.map V.int)[j]? = some (.int n)
            rw [List.getElem?_map, e3]; rfl
        exact .inl ⟨_, _, _, _, rfl, rfl, rl.step.fh.seq h1, e4, q _ F H rl (Same.refl _) (.int _)⟩
variable {a b : Expr} {wa wb : DW}
theorem pd_idx (ha : PD c X a wa) (hb : PD c X b wb) (hs : PlainIx b := by exact fun _ _ => rfl) : PD c X (.Subscript a b pos) (wOp fIdx wa wb) :=
  ⟨(pe_ix (IxR.or ix_list ix_tup) ha.pe hb.pe hs).imp (bin_br br_idx ha.mo hb.mo), mo_Op ha.mo hb.mo⟩
/-- x[b], x a name: an owned list stays owned -/
def lstOf : SD → Option D
  | .d x => some x
  | .ol l => some (.lst l)
  | .ro l => some (.lst l)
  | .oa _ l => some (.lst l)
  | _ => none
def wIdxV (i : Nat) (wb : DW) : DW := fun ρ Q => match lstOf (gt ρ i) with
  | some _ => wb ρ fun y ρ1 => match lstOf (gt ρ1 i) with
    | some x => (fIdx x y).run fun d => Q d ρ1
    | none => False
  | none => False
/-- what the slot holds is to be read as this datum -/
theorem lst_at {F H : Hp} {σ : St} {ρ : List SD} {i : Nat} {x : D} (r : Rel X.K c F σ H ρ) (e : lstOf (gt ρ i) = some x) : ∃ v, σ[i]?.join = some v ∧ ((Rep X.K c.g F v x) ∨ ∃ l p vs, x = .lst l ∧ v = .ref p ∧ H p = some (.lst vs) ∧ Reps X.K c.g F vs l) := by
  cases z : gt ρ i with
  | d y =>
    rw [z] at e
    have sl := r.slot i
    rw [z] at sl
    obtain ⟨u, e1, k⟩ := sl
    cases e
    exact ⟨u, e1, .inl k⟩
  | ol l =>
    have o := r.owns (i := i) (by rw [z]; rfl)
    rw [z] at e o
    obtain ⟨p, o, e1, h1, _, _, _, vs, rfl, k⟩ := o
    cases e
    exact ⟨_, e1, .inr ⟨l, p, vs, rfl, rfl, h1, k⟩⟩
  | ro l =>
    have o := r.owns (i := i) (by rw [z]; rfl)
    rw [z] at e o
    obtain ⟨p, o, e1, h1, _, _, _, vs, rfl, k⟩ := o
    cases e
    exact ⟨_, e1, .inr ⟨l, p, vs, rfl, rfl, h1, k⟩⟩
  | oa a l =>
    have o := r.owns (i := i) (by rw [z]; rfl)
    rw [z] at e o
    obtain ⟨p, o, e1, h1, _, _, _, rfl, vs, rfl, k⟩ := o
    cases e
    exact ⟨_, e1, .inr ⟨l, p, vs, rfl, rfl, h1, k⟩⟩
  | _ => rw [z] at e; cases e
theorem pd_idxV {x : Str} {p' : Pos} (i : Nat) (h : PE X (.Name x p') (tVar i)) (hb : PD c X b wb) (hs : PlainIx b := by exact fun _ _ => rfl) : PD c X (.Subscript (.Name x p') b pos) (wIdxV i wb) := by
  refine ⟨(pe_ix (IxR.or ix_list ix_tup) h hb.pe hs).imp fun σ H Q ⟨F, ρ, rl, q⟩ => ?_, fun ρ Q Q' k q => ?_⟩
  · unfold wIdxV at q
    cases e : lstOf (gt ρ i) with
    | none => rw [e] at q; exact (show False from q).elim
    | some x0 =>
      rw [e] at q
      obtain ⟨v0, e1, _⟩ := lst_at rl e
      refine ⟨v0, join_some e1, F, ρ, rl, hb.mo ρ _ _ (fun y ρ1 q v F1 H1 r1 s1 e2 => ?_) q⟩
      cases e3 : lstOf (gt ρ1 i) with
      | none => rw [e3] at q; exact (show False from q).elim
      | some x1 =>
        rw [e3] at q
        obtain ⟨v1, e4, k⟩ := lst_at r1 e3
        rw [e1] at e4
        cases e4
        rcases k with k | ⟨l, p, vs, rfl, rfl, h1, k⟩
        · exact br_idx F1 σ H1 ρ1 v0 v x1 y Q r1 k e2 (R1.mo (fun d q w F3 H3 r3 s3 e3 => q w F3 H3 r3 (s1.trans s3) e3) q)
        · cases y <;> first | exact (show False from q).elim | skip
          cases e2
          obtain ⟨d, e, q⟩ := fAt_run q
          obtain ⟨v, e5, e6⟩ := atI_reps k e
          exact .inl ⟨_, _, _, _, rfl, rfl, SqL.of h1, e5, q _ F1 H1 r1 s1 e6⟩
  · unfold wIdxV at q ⊢
    cases e : lstOf (gt ρ i) with
    | none => rw [e] at q; exact (show False from q).elim
    | some x0 =>
      rw [e] at q
      refine hb.mo _ _ _ (fun y ρ1 q => ?_) q
      cases e3 : lstOf (gt ρ1 i) with
      | none => rw [e3] at q; exact (show False from q).elim
      | some x1 => rw [e3] at q; exact R1.mo (fun d => k d ρ1) q
abbrev DP := List SD → (Option Int → List SD → Prop) → Prop
def tOfP (K : PySem.W.Frag) (c : C) (w : DP) : TO := fun σ H Q => ∃ F ρ, Rel K c F σ H ρ ∧ w ρ fun o ρ' => ∀ F' H', Rel K c F' σ H' ρ' → Same F F' → Q o H'
structure PDP (c : C) (X : Cx) (e : Option Expr) (w : DP) : Prop where
  pe : PO X e (tOfP X.K c w)
  mo : Mono w
def wP0 : DP := fun ρ Q => Q none ρ
def wP1 (wa : DW) : DP := fun ρ Q => wa ρ fun d ρ1 => match d with
  | .int i => Q (some i) ρ1
  | _ => False
theorem pdp_none : PDP c X none wP0 := ⟨⟨fun pins s σ H Q I ⟨F, ρ, rl, q⟩ => po_none.run pins s σ H Q I (q F H rl (Same.refl _))⟩, fun _ _ _ h q => h _ _ q⟩
theorem pdp_some (ha : PD c X a wa) : PDP c X (some a) (wP1 wa) := by
  refine ⟨⟨fun pins s σ H Q I ⟨F, ρ, rl, q⟩ => (po_some ha.pe).run pins s σ H Q I ⟨F, ρ, rl, ha.mo ρ _ _ (fun d ρ1 q v F1 H1 r1 s1 e1 => ?_) q⟩⟩, fun ρ Q Q' h q => ha.mo ρ _ _ (fun d ρ1 q => by cases d <;> first | exact h _ _ q | exact q) q⟩
  cases d <;> first | exact (show False from q).elim | skip
  cases e1
  exact ⟨_, rfl, q F1 H1 r1 s1⟩
def cutD (xs : List D) (lo hi : Option Int) : List D := (xs.drop (HT.sIx xs.length 0 lo)).take (HT.sIx xs.length xs.length hi - HT.sIx xs.length 0 lo)
theorem cut_reps {t : G} {F : Hp} {vs : List V} {l : List D} (lo hi : Option Int) (h : Reps X.K t F vs l) : Reps X.K t F (cutV vs lo hi) (cutD l lo hi) := by
  unfold cutV cutD
  rw [h.length]
  exact (h.drop _).take _
def fCut (x : D) (lo hi : Option Int) : R1 := match x with
  | .tup l => .ok (.tup (cutD l lo hi))
  | .lst l => .ok (.lst (cutD l lo hi))
  | _ => .no
def wCut (wa : DW) (wl wh : DP) : DW := fun ρ Q => wa ρ fun x ρ1 => wl ρ1 fun lo ρ2 => wh ρ2 fun hi ρ3 => (fCut x lo hi).run fun d => Q d ρ3
theorem cut_whole {l : List D} {lo hi : Option Int} (h : HT.sIx l.length 0 lo = 0 ∧ HT.sIx l.length l.length hi = l.length) : cutD l lo hi = l := by
  unfold cutD
  rw [h.1, h.2]
  simp
theorem _root_.L2.SlR.or' {r r' : V → Option Int → Option Int → Hp → VK → Prop} (h : SlR X r) (h' : SlR X r') : SlR X (fun x lo hi H Q => r x lo hi H Q ∨ r' x lo hi H Q) := SlR.or h h'
theorem pd_cut {lo hi : Option Expr} {wl wh : DP} {p2 : Pos} (ha : PD c X a wa) (hl : PDP c X lo wl) (hh : PDP c X hi wh) : PD c X (.Subscript a (.Slice lo hi none p2) pos) (wCut wa wl wh) := by
  refine ⟨(pe_slice (SlR.or sl_list sl_tupA) ha.pe hl.pe hh.pe).imp fun σ H Q ⟨F, ρ, rl, q⟩ => ⟨F, ρ, rl, ha.mo ρ _ _ (fun x ρ1 q v F1 H1 r1 s1 e1 => ?_) q⟩,
    fun ρ Q Q' h q => ha.mo ρ _ _ (fun x ρ1 q => hl.mo _ _ _ (fun lo ρ2 q => hh.mo _ _ _ (fun hi ρ3 q => R1.mo (fun d => h d ρ3) q) q) q) q⟩
  refine ⟨F1, ρ1, r1, hl.mo _ _ _ (fun l ρ2 q F2 H2 r2 s2 => ?_) q⟩
  refine ⟨F2, ρ2, r2, hh.mo _ _ _ (fun u ρ3 q F3 H3 r3 s3 => ?_) q⟩
  have e3 := (e1.mono s2).mono s3
  have s : Same F F3 := (s1.trans s2).trans s3
  cases x <;> first | exact (show False from q).elim | skip
  · rename_i dl
    obtain ⟨p, vs, rfl, k1, k2⟩ := e3.seqT
    have n := k2.length
    refine .inr ⟨p, vs, rfl, same_tup r3.step.fh k1, fun z => ?_, fun _ p' n' => ?_⟩
    · rw [n] at z
      refine q _ F3 H3 r3 s ?_
      rw [cut_whole z]
      exact .tup k1 k2
    · exact new_tup r3 (cut_reps l u k2) (fun v F' H' r' s' e' => q v F' H' r' (s.trans s') e') n'
  · rename_i dl
    obtain ⟨p, vs, rfl, k1, k2⟩ := e3.seqL
    refine .inl ⟨p, vs, rfl, SqL.of (r3.step.fh _ _ k1), fun p' n' => ?_⟩
    exact new_lst r3 (cut_reps l u k2) (fun v F' H' r' s' e' => q v F' H' r' (s.trans s') e') n'
end
end PL
end L2

namespace L2
namespace PL
open PySem PySem.Spec PyProof.Rows
variable [Tabl]

/-! ### built-in functions -/
def BrC (c : C) (K : PySem.W.Frag) (r : List V → Hp → VK → Prop) (f : List D → R1) : Prop := ∀ (F : Hp) (σ : St) (H : Hp) (ρ : List SD) (vs : List V) (ds : List D) (Q : VK), Rel K c F σ H ρ → Reps K c.g F vs ds →
  (f ds).run (fun d => ∀ v F' H', Rel K c F' σ H' ρ → Same F F' → Rep K c.g F' v d → Q v H') → r vs H Q
def wCal (f : List D → R1) (wr : DA) : DW := fun ρ Q => wr ρ fun ds ρ1 => (f ds).run fun d => Q d ρ1
theorem mo_Cal {f : List D → R1} {wr : DA} (h : Mono wr) : Mono (wCal f wr) := fun ρ Q Q' k q => h ρ _ _ (fun ds ρ1 q => R1.mo (fun d => k d ρ1) q) q
section
variable {X : Cx} {c : C} {e : Expr} {es : List Expr} {wr : DA} {we : DW} {pos p : Pos} {x : Str}
theorem cal_br {r : List V → Hp → VK → Prop} {f : List D → R1} (br : BrC c X.K r f) (mo : Mono wr) (σ : St) (H : Hp) (Q : VK) (q : tOf X.K c (wCal f wr) σ H Q) : tCB r (tOfA X.K c wr) σ H Q := by
  obtain ⟨F, ρ, rl, q⟩ := q
  exact ⟨F, ρ, rl, mo ρ _ _ (fun ds ρ1 q vs F1 H1 r1 s1 e1 => br F1 σ H1 ρ1 vs ds Q r1 e1 (R1.mo (fun d q w F3 H3 r3 s3 e3 => q w F3 H3 r3 (s1.trans s3) e3) q)) q⟩
theorem pd_calB {id : String} {r : List V → Hp → VK → Prop} {f : List D → R1} (hc : CallR X (.builtin id) r) (br : BrC c X.K r f) (hg : Gl X x) (hm : X.mg x = none) (hv : bootBuiltins x = some (.builtin id)) (ha : PDA c X (e :: es) wr)
    (hn : x ≠ "__name__" := by decide) (hdb : (x == ("__debug__" : Str)) = false := by decide) (he : starEach (e :: es) X.env = (false, eval e X.env) :: starEach es X.env := by rfl) (hpl : (backTo pos (starEach es X.env)).any (·.1) = false := by rfl) :
    PD c X (.Call (.Name x p) (e :: es) [] pos) (wCal f wr) := ⟨(pe_callB hc hg hm hv ha.pe hn hdb he hpl).imp (cal_br br ha.mo), mo_Cal ha.mo⟩
theorem pd_calT {T : String} {r : List V → Hp → VK → Prop} {f : List D → R1} (hc : CallR X (.type T) r) (br : BrC c X.K r f) (hg : Gl X x) (hm : X.mg x = none) (hv : bootBuiltins x = some (.type T)) (ha : PDA c X (e :: es) wr)
    (hn : x ≠ "__name__" := by decide) (hdb : (x == ("__debug__" : Str)) = false := by decide) (he : starEach (e :: es) X.env = (false, eval e X.env) :: starEach es X.env := by rfl) (hpl : (backTo pos (starEach es X.env)).any (·.1) = false := by rfl) :
    PD c X (.Call (.Name x p) (e :: es) [] pos) (wCal f wr) := ⟨(pe_callTy hc hg hm hv ha.pe hn hdb he hpl).imp (cal_br br ha.mo), mo_Cal ha.mo⟩

def fLen : List D → R1
  | [.tup l] => .ok (.int l.length)
  | [.lst l] => .ok (.int l.length)
  | [.scr l] => .ok (.int l.length)
  | [.str s] => .gd (s.length ≤ 16777216) (.int s.length)
  | _ => .no
theorem br_len : BrC c X.K (fun xs H Q => (∃ p ys, xs = [.ref p] ∧ (SqL X.K H p ys ∨ SqT X.K H p ys) ∧ Q (.int ys.length) H) ∨ (∃ z, xs = [.str z] ∧ z.length ≤ sizeLine ∧ Q (.int z.length) H)) fLen := by
  intro F σ H ρ vs ds Q rl r q
  unfold fLen at q
  split at q
  · cases r with
    | cons r1 r2 =>
      cases r2
      obtain ⟨p, ws, rfl, k1, k2⟩ := r1.seqT
      have q := q _ F H rl (Same.refl _) (.int _)
      rw [← k2.length] at q
      exact .inl ⟨p, ws, rfl, .inr (same_tup rl.step.fh k1), q⟩
  · cases r with
    | cons r1 r2 =>
      cases r2
      obtain ⟨p, ws, rfl, k1, k2⟩ := r1.seqL
      have q := q _ F H rl (Same.refl _) (.int _)
      rw [← k2.length] at q
      exact .inl ⟨p, ws, rfl, .inl (SqL.of (rl.step.fh _ _ k1)), q⟩
  · rename_i ns
    cases r with
    | cons r1 r2 =>
      cases r2
      cases r1 with
      | scr h1 =>
        have q := q _ F H rl (Same.refl _) (.int _)
        exact .inl ⟨_, _, rfl, .inl (rl.step.fh.seq h1), by rw [List.length_map]; exact q⟩
  · cases r with
    | cons r1 r2 =>
      cases r2
      cases r1
      exact .inr ⟨_, rfl, by rw [sizeLine16]; exact q.1, q.2 _ F H rl (Same.refl _) (.int _)⟩
  · exact (show False from q).elim
theorem pd_len (hg : Gl X "len") (hm : X.mg "len" = none) (ha : PDA c X [e] wr) (he : starEach [e] X.env = (false, eval e X.env) :: starEach [] X.env := by rfl) (hpl : (backTo pos (starEach [] X.env)).any (·.1) = false := by rfl) : PD c X (.Call (.Name "len" p) [e] [] pos) (wCal fLen wr) :=
  pd_calB (CallR.or call_len_seq call_len_str) br_len hg hm PySem.boot_len ha (he := he) (hpl := hpl)
/-- len(x), x a name: an owned list stays owned -/
def wLenV (i : Nat) : DW := fun ρ Q => match lstOf (gt ρ i) with
  | some x => (fLen [x]).run fun d => Q d ρ
  | none => False
theorem pd_lenV {y : Str} {py : Pos} (i : Nat) (hg : Gl X "len") (hm : X.mg "len" = none) (h : PE X (.Name y py) (tVar i)) (he : starEach [.Name y py] X.env = (false, eval (.Name y py) X.env) :: starEach [] X.env := by rfl) (hpl : (backTo pos (starEach [] X.env)).any (·.1) = false := by rfl) :
    PD c X (.Call (.Name "len" p) [.Name y py] [] pos) (wLenV i) := by
  refine ⟨(pe_callB (CallR.or call_len_seq call_len_str) hg hm PySem.boot_len (pa_cons h pa_nil he) (he := he) (hpl := hpl)).imp fun σ H Q ⟨F, ρ, rl, q⟩ => ?_, fun ρ Q Q' k q => ?_⟩
  · unfold wLenV at q
    cases e : lstOf (gt ρ i) with
    | none => rw [e] at q; exact (show False from q).elim
    | some x =>
      rw [e] at q
      obtain ⟨v, e1, k⟩ := lst_at rl e
      refine ⟨v, join_some e1, ?_⟩
      rcases k with k | ⟨l, p, vs, rfl, rfl, h1, k⟩
      · exact br_len F σ H ρ [v] [x] Q rl (.cons k .nil) q
      · refine .inl ⟨p, vs, rfl, .inl (SqL.of h1), ?_⟩
        rw [k.length]
        exact q _ F H rl (Same.refl _) (.int _)
  · unfold wLenV at q ⊢
    cases e : lstOf (gt ρ i) with
    | none => rw [e] at q; exact (show False from q).elim
    | some x => rw [e] at q; exact R1.mo (fun d => k d ρ) q
def fAbs : List D → R1
  | [.int i] => .ok (.int (if i < 0 then -i else i))
  | _ => .no
theorem br_abs : BrC c X.K (fun xs H Q => ∃ i, xs = [.int i] ∧ Q (.int (if i < 0 then -i else i)) H) fAbs := by
  intro F σ H ρ vs ds Q rl r q
  unfold fAbs at q
  split at q
  · cases r with
    | cons r1 r2 => cases r2; cases r1; exact ⟨_, rfl, q _ F H rl (Same.refl _) (.int _)⟩
  · exact (show False from q).elim
def fInt : List D → R1
  | [.int i] => .ok (.int i)
  | [.bl k] => .ok (.int (if k then 1 else 0))
  | _ => .no
theorem br_int1 : BrC c X.K (fun xs H Q => (∃ i, xs = [.int i] ∧ Q (.int i) H) ∨ ∃ k, xs = [.bl k] ∧ Q (.int (if k then 1 else 0)) H) fInt := by
  intro F σ H ρ vs ds Q rl r q
  unfold fInt at q
  split at q
  · cases r with
    | cons r1 r2 => cases r2; cases r1; exact .inl ⟨_, rfl, q _ F H rl (Same.refl _) (.int _)⟩
  · cases r with
    | cons r1 r2 => cases r2; cases r1; exact .inr ⟨_, rfl, q _ F H rl (Same.refl _) (.int _)⟩
  · exact (show False from q).elim
def intsD : List D → Option (List Int)
  | [] => some []
  | .int i :: l => (intsD l).map (i :: ·)
  | _ => none
def bools : List D → Option (List Bool)
  | [] => some []
  | .bl i :: l => (bools l).map (i :: ·)
  | _ => none
theorem ints_map : ∀ ns : List Int, intsD (ns.map .int) = some ns
  | [] => rfl
  | n :: ns => by simp [intsD, ints_map ns]
theorem bools_map : ∀ ns : List Bool, bools (ns.map .bl) = some ns
  | [] => rfl
  | n :: ns => by simp [bools, bools_map ns]
theorem ints_reps {t : G} {F : Hp} : ∀ {vs : List V} {l : List D} {ns : List Int}, Reps X.K t F vs l → intsD l = some ns → vs = ns.map V.int
  | _, _, _, .nil, h => by cases h; rfl
  | _, d :: l, _, .cons h1 r, h => by
    cases d <;> simp only [intsD] at h <;> first | cases h | skip
    cases h1
    cases q : intsD l with
    | none => rw [q] at h; cases h
    | some ns => rw [q] at h; cases h; rw [ints_reps r q]; rfl
theorem bools_reps {t : G} {F : Hp} : ∀ {vs : List V} {l : List D} {ns : List Bool}, Reps X.K t F vs l → bools l = some ns → vs = ns.map V.bl
  | _, _, _, .nil, h => by cases h; rfl
  | _, d :: l, _, .cons h1 r, h => by
    cases d <;> simp only [bools] at h <;> first | cases h | skip
    cases h1
    cases q : bools l with
    | none => rw [q] at h; cases h
    | some ns => rw [q] at h; cases h; rw [bools_reps r q]; rfl
def fSum : List D → R1
  | [.lst l] => match intsD l with
    | some ns => .ok (.int ns.sum)
    | none => .no
  | _ => .no
theorem br_sum : BrC c X.K (rSum X.K) fSum := by
  intro F σ H ρ vs ds Q rl r q
  unfold fSum at q
  split at q
  · split at q
    · rename_i ns e
      cases r with
      | cons r1 r2 =>
        cases r2
        obtain ⟨p, ws, rfl, k1, k2⟩ := r1.seqL
        have z := ints_reps k2 e
        subst z
        exact ⟨p, ns, rfl, SqL.of (rl.step.fh _ _ k1), q _ F H rl (Same.refl _) (.int _)⟩
    · exact (show False from q).elim
  · exact (show False from q).elim
def fAll : List D → R1
  | [.lst l] => match bools l with
    | some ns => .ok (.bl (ns.all id))
    | none => .no
  | _ => .no
theorem br_all : BrC c X.K (rAll X.K) fAll := by
  intro F σ H ρ vs ds Q rl r q
  unfold fAll at q
  split at q
  · split at q
    · rename_i ns e
      cases r with
      | cons r1 r2 =>
        cases r2
        obtain ⟨p, ws, rfl, k1, k2⟩ := r1.seqL
        have z := bools_reps k2 e
        subst z
        exact ⟨p, ns, rfl, SqL.of (rl.step.fh _ _ k1), q _ F H rl (Same.refl _) (.bl _)⟩
    · exact (show False from q).elim
  · exact (show False from q).elim
def fAny : List D → R1
  | [.lst l] => match bools l with
    | some ns => .ok (.bl (ns.any id))
    | none => .no
  | _ => .no
theorem br_any : BrC c X.K (rAny X.K) fAny := by
  intro F σ H ρ vs ds Q rl r q
  unfold fAny at q
  split at q
  · split at q
    · rename_i ns e
      cases r with
      | cons r1 r2 =>
        cases r2
        obtain ⟨p, ws, rfl, k1, k2⟩ := r1.seqL
        have z := bools_reps k2 e
        subst z
        exact ⟨p, ns, rfl, SqL.of (rl.step.fh _ _ k1), q _ F H rl (Same.refl _) (.bl _)⟩
    · exact (show False from q).elim
  · exact (show False from q).elim
def fTuple : List D → R1
  | [.lst l] => .ok (.tup l)
  | [.tup l] => .ok (.tup l)
  | _ => .no
theorem br_tuple : BrC c X.K (fun xs H Q => ∃ p ys, xs = [.ref p] ∧ ((SqL X.K H p ys ∧ ∀ l, H l = none → Q (.ref l) (upd H l (.tup ys))) ∨ (SqT X.K H p ys ∧ Q (.ref p) H))) fTuple := by
  intro F σ H ρ vs ds Q rl r q
  unfold fTuple at q
  split at q
  · cases r with
    | cons r1 r2 =>
      cases r2
      obtain ⟨p, ws, rfl, k1, k2⟩ := r1.seqL
      exact ⟨p, ws, rfl, .inl ⟨SqL.of (rl.step.fh _ _ k1), fun l n => new_tup rl k2 q n⟩⟩
  · cases r with
    | cons r1 r2 =>
      cases r2
      obtain ⟨p, ws, rfl, k1, k2⟩ := r1.seqT
      exact ⟨p, ws, rfl, .inr ⟨same_tup rl.step.fh k1, q _ F H rl (Same.refl _) (.tup k1 k2)⟩⟩
  · exact (show False from q).elim
def fList : List D → R1
  | [.lst l] => .ok (.lst l)
  | [.tup l] => .ok (.lst l)
  | _ => .no
theorem br_list : BrC c X.K (fun xs H Q => ∃ p ys, xs = [.ref p] ∧ (SqL X.K H p ys ∨ SqT X.K H p ys) ∧ ∀ l, H l = none → Q (.ref l) (upd H l (.lst ys))) fList := by
  intro F σ H ρ vs ds Q rl r q
  unfold fList at q
  split at q
  · cases r with
    | cons r1 r2 =>
      cases r2
      obtain ⟨p, ws, rfl, k1, k2⟩ := r1.seqL
      exact ⟨p, ws, rfl, .inl (SqL.of (rl.step.fh _ _ k1)), fun l n => new_lst rl k2 q n⟩
  · cases r with
    | cons r1 r2 =>
      cases r2
      obtain ⟨p, ws, rfl, k1, k2⟩ := r1.seqT
      exact ⟨p, ws, rfl, .inr (same_tup rl.step.fh k1), fun l n => new_lst rl k2 q n⟩
  · exact (show False from q).elim

/-! ### isinstance with a built-in class -/
inductive TyN where
  | int | bool | tuple | list | str
  deriving DecidableEq
def TyN.nm : TyN → String
  | .int => "int" | .bool => "bool" | .tuple => "tuple" | .list => "list" | .str => "str"
def isTy : TyN → D → Bool
  | .int, .int _ => true
  | .int, .bl _ => true
  | .bool, .bl _ => true
  | .tuple, .tup _ => true
  | .list, .lst _ => true
  | .list, .scr _ => true
  | .str, .str _ => true
  | _, _ => false
/-- an own class: what isinstance must know -/
structure ObjT (K : PySem.W.Frag) (C : Addr) : Prop where
  cl : Cls K C
  ha : PySem.W.findIn K (.ref C) "__class__" = some (some (.builtin "object.__class__"))
  hn : PySem.W.specialIn K (.builtin "object.__class__") "__get__" = some (some (.builtin "getset_descriptor.__get__"))
  htk : PySem.W.takesIn K (.builtin "object.__class__") = some true
  hm : PySem.W.mroIn K C (.type "object") = some true
  kit : ∀ T : TyN, PySem.W.kitOne K (.ref C) (.type T.nm) = some false
/-- neither what is drawn from nor a def -/
def noTok : D → Bool
  | .tok _ => false
  | .fn _ => false
  | _ => true
def fIsi (cls : List Addr) (T : TyN) : D → R1
  | .obj C _ _ => .gd (C ∈ cls) (.bl false)
  | .tok _ => .no
  | .fn _ => .no
  | d => .ok (.bl (isTy T d))
theorem TyX.of_rep {t : G} {F H : Hp} (s : Same F H) {v : V} {d : D} {T : TyN} (r : Rep X.K t F v d) (hno : noTok d = true) (ho : ∀ C ns l, d ≠ .obj C ns l) : ∃ ty, TyX X.K H v ty ∧ PySem.W.kitOne X.K ty (.type T.nm) = some (isTy T d) := by
  have kt : ∀ (a : String) (b : Bool), kitB a T.nm = some b → PySem.W.kitOne X.K (.type a) (.type T.nm) = some b := fun a b h => kit_ty h
  cases r with
  | non => exact ⟨_, .base .non, kt _ _ (by cases T <;> decide +kernel)⟩
  | bl b => exact ⟨_, .base (.bl b), kt _ _ (by cases T <;> first | exact (show kitB "bool" _ = some true by decide +kernel) | exact (show kitB "bool" _ = some false by decide +kernel))⟩
  | int b => exact ⟨_, .base (.int b), kt _ _ (by cases T <;> first | exact (show kitB "int" _ = some true by decide +kernel) | exact (show kitB "int" _ = some false by decide +kernel))⟩
  | str b => exact ⟨_, .base (.str b), kt _ _ (by cases T <;> first | exact (show kitB "str" _ = some true by decide +kernel) | exact (show kitB "str" _ = some false by decide +kernel))⟩
  | tup h r =>
    have k := kt "tuple" (T = .tuple) (by cases T <;> decide +kernel)
    have e : ∀ l, isTy T (.tup l) = decide (T = .tuple) := fun l => by cases T <;> rfl
    rw [e]
    rcases h with (h | ⟨o, h⟩) | ⟨o, its, n, h1, h2, _⟩
    · exact ⟨_, .base (.tup (s _ _ h)), k⟩
    · exact ⟨_, .fTuple (s _ _ h), k⟩
    · exact ⟨_, .kTuple h1 h2, k⟩
  | lst h r =>
    have k := kt "list" (T = .list) (by cases T <;> decide +kernel)
    have e : ∀ l, isTy T (.lst l) = decide (T = .list) := fun l => by cases T <;> rfl
    rw [e]
    exact ⟨_, .base (.lst (s _ _ h)), k⟩
  | scr h =>
    have k := kt "list" (T = .list) (by cases T <;> decide +kernel)
    have e : ∀ l, isTy T (.scr l) = decide (T = .list) := fun l => by cases T <;> rfl
    rw [e]
    rcases h with (h | ⟨o, h⟩) | ⟨o, its, n, h1, h2, _⟩
    · exact ⟨_, .base (.lst (s _ _ h)), k⟩
    · exact ⟨_, .base (.frz (s _ _ h)), k⟩
    · exact ⟨_, .kList h1 h2, k⟩
  | obj _ _ _ => exact absurd rfl (ho _ _ _)
  | tok => cases hno
  | fn _ => cases hno
theorem isi_br {cls : List Addr} {T : TyN} (hcls : ∀ C ∈ cls, ObjT X.K C) (mo : Mono we) (σ : St) (H : Hp) (Q : VK) (q : tOf X.K c (wUn (fIsi cls T) we) σ H Q) : tCB (rIsi X.K) (tCons (tOf X.K c we) (tCons (tC (.ty T.nm)) tNil)) σ H Q := by
  obtain ⟨F, ρ, rl, q⟩ := q
  refine ⟨F, ρ, rl, mo ρ _ _ (fun d ρ1 q v F1 H1 r1 s1 e1 => ?_) q⟩
  show rIsi X.K [v, .ty T.nm] H1 Q
  have gen : noTok d = true → (∀ C ns l, d ≠ .obj C ns l) → fIsi cls T d = .ok (.bl (isTy T d)) → rIsi X.K [v, .ty T.nm] H1 Q := fun h1 h2 h3 => by
    rw [h3] at q
    obtain ⟨ty, k1, k2⟩ := TyX.of_rep (T := T) r1.step.fh e1 h1 h2
    exact ⟨v, _, ty, _, _, rfl, .ty _, k1, k2, q _ F1 H1 r1 s1 (.bl _)⟩
  cases d with
  | obj C ns l =>
    obtain ⟨hC, q⟩ := q
    have o := hcls C hC
    cases e1 with
    | obj h1 h2 h3 =>
      exact ⟨_, _, _, _, _, rfl, .ty _, .base (.ins (r1.step.fh _ _ h1) o.cl o.ha o.hn o.htk o.hm), o.kit T, q _ F1 H1 r1 s1 (.bl _)⟩
  | tok k => exact (show False from q).elim
  | fn k => exact (show False from q).elim
  | _ => exact gen rfl (fun _ _ _ z => nomatch z) rfl
theorem pd_isi {y : Str} {py : Pos} {cls : List Addr} (T : TyN) (hcls : ∀ C ∈ cls, ObjT X.K C) (hg : Gl X "isinstance") (hm : X.mg "isinstance" = none) (hgy : Gl X y) (hmy : X.mg y = none) (hv : bootBuiltins y = some (.type T.nm)) (he : PD c X e we)
    (hny : y ≠ "__name__" := by decide) (hdy : (y == ("__debug__" : Str)) = false := by decide) (hs : starEach [e, .Name y py] X.env = (false, eval e X.env) :: starEach [.Name y py] X.env := by rfl) (hs2 : starEach [.Name y py] X.env = (false, eval (.Name y py) X.env) :: starEach [] X.env := by rfl) (hpl : (backTo pos (starEach [.Name y py] X.env)).any (·.1) = false := by rfl) :
    PD c X (.Call (.Name "isinstance" p) [e, .Name y py] [] pos) (wUn (fIsi cls T) we) :=
  ⟨(pe_callB call_isi hg hm (by decide +kernel) (pa_cons he.pe (pa_cons (pe_bltn (v := .ty T.nm) hgy hmy hv rfl hny hdy) pa_nil hs2) hs) (he := hs) (hpl := hpl)).imp (isi_br hcls he.mo), mo_Un he.mo⟩
end
end PL
end L2

namespace L2
namespace PL
open PySem PySem.Spec PyProof.Rows
variable [Tabl]

/-! ### statements -/
structure DE where
  nx : List SD → Prop
  rt : D → Prop
  bk : List SD → Prop := fun _ => False
  ct : List SD → Prop := fun _ => False
abbrev DS := DE → List SD → Prop
structure DE.Le (E E' : DE) : Prop where
  nx : ∀ ρ, E.nx ρ → E'.nx ρ
  rt : ∀ d, E.rt d → E'.rt d
  bk : ∀ ρ, E.bk ρ → E'.bk ρ
  ct : ∀ ρ, E.ct ρ → E'.ct ρ
theorem DE.Le.refl (E : DE) : E.Le E := ⟨fun _ h => h, fun _ h => h, fun _ h => h, fun _ h => h⟩
def MonoS (w : DS) : Prop := ∀ E E' ρ, DE.Le E E' → w E ρ → w E' ρ
/-- the ends over F -/
def endsOf (K : PySem.W.Frag) (c : C) (F : Hp) (E : Ends) : DE where
  nx := fun ρ' => ∀ σ' F' H', Rel K c F' σ' H' ρ' → Same F F' → E.nx σ' H'
  rt := fun d => ∀ v F' H', Step c.g c.F0 c.H0 F' H' → Rep K c.g F' v d → E.rt v H'
  bk := fun ρ' => ∀ σ' F' H', Rel K c F' σ' H' ρ' → Same F F' → E.bk σ' H'
  ct := fun ρ' => ∀ σ' F' H', Rel K c F' σ' H' ρ' → Same F F' → E.ct σ' H'
def sOf (K : PySem.W.Frag) (c : C) (w : DS) : TS := fun E σ H => ∃ F ρ, Rel K c F σ H ρ ∧ w (endsOf K c F E) ρ
structure PDS (c : C) (X : Cx) (st : Stmt) (w : DS) : Prop where
  pe : PS X st (sOf X.K c w)
  mo : MonoS w
structure PDB (c : C) (X : Cx) (st : List Stmt) (w : DS) : Prop where
  pe : PSs X st (sOf X.K c w)
  mo : MonoS w
theorem endsOf_le {K : PySem.W.Frag} {c : C} {F F1 : Hp} {E : Ends} (s : Same F F1) : (endsOf K c F E).Le (endsOf K c F1 E) :=
  ⟨fun ρ h σ' F' H' r s' => h σ' F' H' r (s.trans s'), fun d h => h, fun ρ h σ' F' H' r s' => h σ' F' H' r (s.trans s'), fun ρ h σ' F' H' r s' => h σ' F' H' r (s.trans s')⟩
section
variable {X : Cx} {c : C} {stm : Stmt} {sts : List Stmt} {w w' : DS} {e : Expr} {we : DW} {pos : Pos}
def wNext : DS := fun E ρ => E.nx ρ
def wSeq (w w' : DS) : DS := fun E ρ => w { E with nx := fun ρ1 => w' E ρ1 } ρ
theorem mo_Next : MonoS wNext := fun _ _ _ l q => l.nx _ q
theorem mo_Seq (h : MonoS w) (h' : MonoS w') : MonoS (wSeq w w') := fun E E' ρ l q => h { E with nx := fun ρ1 => w' E ρ1 } _ ρ ⟨fun ρ1 q => h' _ _ _ l q, l.rt, l.bk, l.ct⟩ q
theorem pdb_nil : PDB c X [] wNext := ⟨pss_nil.imp fun E σ H ⟨F, ρ, rl, q⟩ => q σ F H rl (Same.refl _), mo_Next⟩
theorem pdb_cons (h : PDS c X stm w) (h' : PDB c X sts w') : PDB c X (stm :: sts) (wSeq w w') := by
  refine ⟨(pss_cons h.pe h'.pe).imp fun E σ H ⟨F, ρ, rl, q⟩ => ⟨F, ρ, rl, h.mo { endsOf X.K c F E with nx := fun ρ1 => w' (endsOf X.K c F E) ρ1 } _ ρ ⟨fun ρ1 q σ' F' H' r' s' => ?_, fun _ h => h, fun _ h => h, fun _ h => h⟩ q⟩, mo_Seq h.mo h'.mo⟩
  exact ⟨F', ρ1, r', h'.mo _ _ _ (endsOf_le s') q⟩
theorem pdb_one (h : PDS c X stm w) : PDB c X [stm] w := ⟨(pss_one h.pe).imp fun E σ H q => q, h.mo⟩
def wPass : DS := fun E ρ => E.nx ρ
def wCont : DS := fun E ρ => E.ct ρ
def wBreak : DS := fun E ρ => E.bk ρ
theorem pds_pass : PDS c X (.Pass pos) wPass := ⟨ps_pass.imp fun E σ H ⟨F, ρ, rl, q⟩ => q σ F H rl (Same.refl _), fun _ _ _ l q => l.nx _ q⟩
theorem pds_cont : PDS c X (.Continue pos) wCont := ⟨ps_continue.imp fun E σ H ⟨F, ρ, rl, q⟩ => q σ F H rl (Same.refl _), fun _ _ _ l q => l.ct _ q⟩
theorem pds_break : PDS c X (.Break pos) wBreak := ⟨ps_break.imp fun E σ H ⟨F, ρ, rl, q⟩ => q σ F H rl (Same.refl _), fun _ _ _ l q => l.bk _ q⟩
def wRet (we : DW) : DS := fun E ρ => we ρ fun d _ => E.rt d
theorem pds_ret (h : PD c X e we) : PDS c X (.Return (some e) pos) (wRet we) :=
  ⟨(ps_ret h.pe).imp fun E σ H ⟨F, ρ, rl, q⟩ => ⟨F, ρ, rl, h.mo _ _ _ (fun d ρ1 q v F1 H1 r1 s1 e1 => q v F1 H1 r1.step e1) q⟩, fun E E' ρ l q => h.mo _ _ _ (fun d _ q => l.rt d q) q⟩
def wRetN : DS := fun E _ => E.rt .non
theorem pds_retN : PDS c X (.Return none pos) wRetN := ⟨ps_retN.imp fun E σ H ⟨F, ρ, rl, q⟩ => q _ F H rl.step .non, fun E E' ρ l q => l.rt _ q⟩
def wDrop (we : DW) : DS := fun E ρ => we ρ fun _ ρ1 => E.nx ρ1
theorem pds_expr (h : PD c X e we) (hs : swapsWith e none pos.line X.env = pure false := by rfl) : PDS c X (.Expr e pos) (wDrop we) :=
  ⟨(ps_expr h.pe hs).imp fun E σ H ⟨F, ρ, rl, q⟩ => ⟨F, ρ, rl, h.mo _ _ _ (fun d ρ1 q v F1 H1 r1 s1 e1 => q σ F1 H1 r1 s1) q⟩, fun E E' ρ l q => h.mo _ _ _ (fun d ρ1 q => l.nx _ q) q⟩
def wIf (wt : DT) (w w' : DS) : DS := fun E ρ => wt ρ fun k ρ1 => (k = true → w E ρ1) ∧ (k = false → w' E ρ1)
theorem pds_if {cd : Expr} {a b : List Stmt} {wt : DT} (hc : PDT c X cd wt) (ha : PDB c X a w) (hb : PDB c X b w') : PDS c X (.If cd a b pos) (wIf wt w w') := by
  refine ⟨(ps_if hc.pe ha.pe hb.pe).imp fun E σ H ⟨F, ρ, rl, q⟩ => ⟨F, ρ, rl, hc.mo _ _ _ (fun k ρ1 q F1 H1 r1 s1 => ?_) q⟩, fun E E' ρ l q => hc.mo _ _ _ (fun k ρ1 q => ⟨fun e => ha.mo _ _ _ l (q.1 e), fun e => hb.mo _ _ _ l (q.2 e)⟩) q⟩
  cases k with
  | true => rw [if_pos rfl]; exact ⟨F1, ρ1, r1, ha.mo _ _ _ (endsOf_le s1) (q.1 rfl)⟩
  | false => rw [if_neg Bool.false_ne_true]; exact ⟨F1, ρ1, r1, hb.mo _ _ _ (endsOf_le s1) (q.2 rfl)⟩

/-! ### stores -/
def wSet (i : Nat) (we : DW) : DS := fun E ρ => we ρ fun d ρ1 => E.nx (st ρ1 i (.d d))
theorem pds_set {i : Nat} {x : Str} {pos' : Pos} (hN : X.N.Nodup) (hi : X.N[i]? = some x) (hx : Loc X.env.scope x) (h : PD c X e we) (hs : swapsWith e (some (.Name x pos')) pos.line X.env = pure false := by rfl) (hf : X.fn x = true ∨ X.env.scope.names.lookup x = some .local := by first | exact .inl rfl | exact .inr rfl | assumption) :
    PDS c X (.Assign [.Name x pos'] e pos) (wSet i we) := by
  refine ⟨(ps_set hN hi hx h.pe hs hf).imp fun E σ H ⟨F, ρ, rl, q⟩ => ⟨F, ρ, rl, h.mo _ _ _ (fun d ρ1 q v F1 H1 r1 s1 e1 => ?_) q⟩, fun E E' ρ l q => h.mo _ _ _ (fun d ρ1 q => l.nx _ q) q⟩
  exact q _ F1 H1 (r1.setd e1) s1
/-- x = [..], to be changed later -/
def wSetO (i : Nat) (wr : DA) : DS := fun E ρ => wr ρ fun ds ρ1 => ds.length ≤ 16777216 ∧ E.nx (st ρ1 i (.ol ds))
theorem pds_setO {i : Nat} {x : Str} {pos' pl : Pos} {es : List Expr} {wr : DA} (hN : X.N.Nodup) (hi : X.N[i]? = some x) (hx : Loc X.env.scope x) (h : PDA c X es wr) (hs : swapsWith (.List es pl) (some (.Name x pos')) pos.line X.env = pure false := by rfl) (hf : X.fn x = true ∨ X.env.scope.names.lookup x = some .local := by first | exact .inl rfl | exact .inr rfl | assumption) :
    PDS c X (.Assign [.Name x pos'] (.List es pl) pos) (wSetO i wr) := by
  refine ⟨(ps_set hN hi hx (pe_lst h.pe) hs hf).imp fun E σ H ⟨F, ρ, rl, q⟩ => ⟨F, ρ, rl, h.mo _ _ _ (fun ds ρ1 q vs F1 H1 r1 s1 e1 => ?_) q⟩, fun E E' ρ l q => h.mo _ _ _ (fun d ρ1 q => ⟨q.1, l.nx _ q.2⟩) q⟩
  refine ⟨by rw [sizeLine16, e1.length]; exact q.1, fun p n => ?_⟩
  exact q.2 _ F1 _ (r1.seto n e1) s1
/-- x[i] = e, x an owned list -/
def wSetI (i : Nat) (we wi : DW) : DS := fun E ρ => we ρ fun d ρ1 => match gt ρ1 i with
  | .ol _ => wi ρ1 fun y ρ2 => match gt ρ2 i, y with
    | .ol l, .int k => match ixN l.length k with
      | some j => E.nx (st ρ2 i (.ol (l.set j d)))
      | none => False
    | _, _ => False
  | _ => False
theorem pds_seti {i : Nat} {x : Str} {px ps : Pos} {ix : Expr} {wi : DW} (h : PE X (.Name x px) (tVar i)) (he : PD c X e we) (hi : PD c X ix wi) (hs : swapsWithSole [.Subscript (.Name x px) ix ps] e pos.line X.env = pure false := by rfl) (hw : swappedStores [.Subscript (.Name x px) ix ps] e X.env = pure none := by rfl)
    (h1 : (assignEach [.Subscript (.Name x px) ix ps] X.env).map (·.2) = [assign (.Subscript (.Name x px) ix ps) X.env] := by rfl)
    (ha : ∀ v, assign (.Subscript (.Name x px) ix ps) X.env v = (do
      let ov ← holding [v] (eval (.Name x px) X.env)
      let iv ← holding [v, ov] (eval ix X.env)
      standAt ps
      holding [v, ov, iv] (setItem ov iv v)
      release [v, ov, iv] []) := by intro _; rfl) : PDS c X (.Assign [.Subscript (.Name x px) ix ps] e pos) (wSetI i we wi) := by
  refine ⟨(ps_asg he.pe (pg_sub h hi.pe set_list ha) hs hw h1).imp fun E σ H ⟨F, ρ, rl, q⟩ => ⟨F, ρ, rl, he.mo _ _ _ (fun d ρ1 q v F1 H1 r1 s1 e1 => ?_) q⟩, fun E E' ρ l q => he.mo _ _ _ (fun d ρ1 q => ?_) q⟩
  · split at q
    · rename_i l0 e0
      obtain ⟨p, o0, e2, _⟩ := r1.owns (i := i) (by rw [e0]; rfl)
      refine ⟨_, join_some e2, F1, ρ1, r1, hi.mo _ _ _ (fun y ρ2 q u F2 H2 r2 s2 e3 => ?_) q⟩
      split at q
      · rename_i l k e4
        have o2 := r2.owns (i := i) (by rw [e4]; rfl)
        rw [e4] at o2
        obtain ⟨p2, o, e5, h6, _, _, _, vs, rfl, h8⟩ := o2
        rw [e2] at e5
        cases e5
        cases e3
        split at q
        · rename_i j e9
          refine ⟨p, vs, k, j, rfl, rfl, h6, by rw [h8.length]; exact e9, ?_⟩
          exact q σ F2 _ (r2.write (by rw [e4]; rfl) e2 rfl ⟨_, rfl, h8.set (e1.mono s2) j⟩) (s1.trans s2)
        · exact q.elim
      · exact q.elim
    · exact q.elim
  · split
    · rename_i e0
      rw [e0] at q
      refine hi.mo _ _ _ (fun y ρ2 q => ?_) q
      split
      · rename_i e1
        rw [e1] at q
        split
        · rename_i e2
          simp only [e2] at q
          exact l.nx _ q
        · rename_i e2
          simp only [e2] at q
      · rename_i e1
        split at q
        · exact e1 _ _ (by assumption) rfl
        · exact q
    · rename_i e0
      split at q
      · exact e0 _ (by assumption)
      · exact q
/-- x.append(e) -/
def wApp (i : Nat) (we : DW) : DS := fun E ρ => match gt ρ i with
  | .ol _ => we ρ fun d ρ1 => match gt ρ1 i with
    | .ol l => l.length < 16777216 ∧ E.nx (st ρ1 i (.ol (l ++ [d])))
    | _ => False
  | _ => False
theorem pds_app {i : Nat} {x : Str} {px pa pc : Pos} (h : PE X (.Name x px) (tVar i)) (he : PD c X e we)
    (hbase : attributeBase (.Name x px) "append" X.env (eval (.Name x px) X.env) = eval (.Name x px) X.env := by rfl)
    (hfew : ((backTo pc (starEach [e] X.env)).all (fun x => !x.1) && (backToKw pc (keywordEach [] X.env)).all (fun x => x.1.isSome)
      && decide (([e] : List Expr).length + ([] : List Keyword).length + (if ([] : List Keyword).isEmpty then 0 else 1) < 30)) = true := by rfl)
    (hline : (pa.endLine == pc.line) = true := by rfl) (hs : starEach [e] X.env = (false, eval e X.env) :: starEach [] X.env := by rfl) (hplain : (backTo pc (starEach [] X.env)).any (·.1) = false := by rfl)
    (hsw : swapsWith (.Call (.Attribute (.Name x px) "append" pa) [e] [] pc) none pos.line X.env = pure false := by rfl) : PDS c X (.Expr (.Call (.Attribute (.Name x px) "append" pa) [e] [] pc) pos) (wApp i we) := by
  refine ⟨(ps_expr (pe_bm PySem.F.plainAttrs_list PySem.F.slot_list_append PySem.F.type_list_append mt_append h (pa_cons he.pe pa_nil hs) hbase hfew hline hs hplain) hsw).imp fun E σ H ⟨F, ρ, rl, q⟩ => ?_, fun E E' ρ l q => ?_⟩
  · unfold wApp at q
    split at q
    · rename_i l0 e0
      have o1 := rl.owns (i := i) (by rw [e0]; rfl)
      rw [e0] at o1
      obtain ⟨p, o, e2, h0, _, _, _, vs0, rfl, _⟩ := o1
      refine ⟨_, join_some e2, .inl ⟨rfl, _, SqL.of h0⟩, F, ρ, rl, he.mo _ _ _ (fun d ρ1 q v F1 H1 r1 s1 e1 => ?_) q⟩
      split at q
      · rename_i l e4
        have o2 := r1.owns (i := i) (by rw [e4]; rfl)
        rw [e4] at o2
        obtain ⟨p2, o, e5, h6, _, _, _, vs, rfl, h8⟩ := o2
        rw [e2] at e5
        cases e5
        refine ⟨p, vs, v, rfl, rfl, h6, by rw [sizeLine16, h8.length]; exact q.1, ?_⟩
        exact q.2 σ F1 _ (r1.write (by rw [e4]; rfl) e2 rfl ⟨_, rfl, h8.append (.cons e1 .nil)⟩) s1
      · exact q.elim
    · exact q.elim
  · unfold wApp at q ⊢
    split
    · rename_i e0
      rw [e0] at q
      refine he.mo _ _ _ (fun d ρ1 q => ?_) q
      split
      · rename_i e1
        rw [e1] at q
        exact ⟨q.1, l.nx _ q.2⟩
      · rename_i e1
        split at q
        · exact e1 _ (by assumption)
        · exact q
    · rename_i e0
      split at q
      · exact e0 _ (by assumption)
      · exact q
end

/-! ### targets -/
abbrev DG := D → List SD → (List SD → Prop) → Prop
abbrev DGs := List D → List SD → (List SD → Prop) → Prop
def MonoG (g : DG) : Prop := ∀ d ρ Q Q', (∀ ρ', Q ρ' → Q' ρ') → g d ρ Q → g d ρ Q'
def MonoGs (g : DGs) : Prop := ∀ d ρ Q Q', (∀ ρ', Q ρ' → Q' ρ') → g d ρ Q → g d ρ Q'
/-- the slots at is alone are changed -/
def OnlyAt (is : List Nat) (σ σ' : St) : Prop := ∀ vs : List Nat, (∀ i ∈ is, i ∈ vs) → wipe σ' vs = wipe σ vs
def gOf (K : PySem.W.Frag) (c : C) (is : List Nat) (g : DG) : TG := fun v σ H Q => ∃ F ρ d, Rel K c F σ H ρ ∧ Rep K c.g F v d ∧ g d ρ fun ρ' => ∀ σ' F' H', Rel K c F' σ' H' ρ' → Same F F' → OnlyAt is σ σ' → Q σ' H'
def gsOf (K : PySem.W.Frag) (c : C) (is : List Nat) (g : DGs) : TGs := fun vs σ H Q => ∃ F ρ ds, Rel K c F σ H ρ ∧ Reps K c.g F vs ds ∧ g ds ρ fun ρ' => ∀ σ' F' H', Rel K c F' σ' H' ρ' → Same F F' → OnlyAt is σ σ' → Q σ' H'
structure PDG (c : C) (X : Cx) (tg : Expr) (is : List Nat) (g : DG) : Prop where
  pe : PG X tg (gOf X.K c is g)
  mo : MonoG g
structure PDGs (c : C) (X : Cx) (tg : List Expr) (is : List Nat) (g : DGs) : Prop where
  pe : PGs X tg (gsOf X.K c is g)
  mo : MonoGs g
theorem _root_.L2.PG.imp {X : Cx} {e : Expr} {t t' : TG} (h : PG X e t) (i : ∀ v σ H Q, t' v σ H Q → t v σ H Q) : PG X e t' := ⟨fun pins s σ H v u Q I r q => h.run pins s σ H v u Q I r (i _ _ _ _ q)⟩
theorem _root_.L2.PGs.imp {X : Cx} {e : List Expr} {t t' : TGs} (h : PGs X e t) (i : ∀ v σ H Q, t' v σ H Q → t v σ H Q) : PGs X e t' := ⟨fun pins s σ H v u Q I r q => h.run pins s σ H v u Q I r (i _ _ _ _ q)⟩
theorem set_wipe_same {σ : St} {i : Nat} {v : Option V} : (σ.set i v).set i none = σ.set i none := by rw [List.set_set]
theorem wipe_set0 {v : Option V} : ∀ (vs : List Nat) (σ : St) (i : Nat), (wipe (σ.set i v) vs).set i none = (wipe σ vs).set i none
  | [], σ, i => by
    show (σ.set i v).set i none = σ.set i none
    rw [List.set_set]
  | j :: vs, σ, i => by
    show ((wipe (σ.set i v) vs).set j none).set i none = ((wipe σ vs).set j none).set i none
    by_cases h : i = j
    · subst h
      rw [List.set_set, List.set_set]
      exact wipe_set0 vs σ i
    · rw [List.set_comm _ _ (Ne.symm h), wipe_set0 vs σ i, List.set_comm _ _ h]
theorem wipe_set {v : Option V} : ∀ (vs : List Nat) (σ : St) (i : Nat), i ∈ vs → wipe (σ.set i v) vs = wipe σ vs
  | [], _, _, h => by cases h
  | j :: vs, σ, i, h => by
    show (wipe (σ.set i v) vs).set j none = (wipe σ vs).set j none
    by_cases hj : i = j
    · subst hj; exact wipe_set0 vs σ i
    · rcases List.mem_cons.mp h with z | z
      · exact absurd z hj
      · rw [wipe_set vs σ i z]
section
variable {X : Cx} {c : C} {pos : Pos}
def gNm (i : Nat) : DG := fun d ρ Q => Q (st ρ i (.d d))
theorem pdg_name {i : Nat} {x : Str} (hN : X.N.Nodup) (hi : X.N[i]? = some x) (hx : Loc X.env.scope x) (hf : X.fn x = true ∨ X.env.scope.names.lookup x = some .local := by first | exact .inl rfl | exact .inr rfl | assumption) : PDG c X (.Name x pos) [i] (gNm i) :=
  ⟨(pg_name hN hi hx hf).imp fun v σ H Q ⟨F, ρ, d, rl, r, q⟩ => q _ F H (rl.setd r) (Same.refl _) fun vs h => wipe_set vs σ i (h i (by simp)), fun d ρ Q Q' h q => h _ q⟩
def gNl : DGs := fun ds ρ Q => ds = [] ∧ Q ρ
def gCn (g : DG) (gs : DGs) : DGs := fun ds ρ Q => match ds with
  | d :: r => g d ρ fun ρ1 => gs r ρ1 Q
  | [] => False
theorem pdgs_nil : PDGs c X [] [] gNl := ⟨pgs_nil.imp fun vs σ H Q ⟨F, ρ, ds, rl, r, e, q⟩ => by
  subst e; cases r; exact ⟨rfl, q σ F H rl (Same.refl _) fun _ _ => rfl⟩, fun d ρ Q Q' h q => ⟨q.1, h _ q.2⟩⟩
theorem pdgs_cons {e : Expr} {es : List Expr} {is js : List Nat} {g : DG} {gs : DGs} (h1 : PDG c X e is g) (h2 : PDGs c X es js gs) (hs : (assignEach (e :: es) X.env).map (·.2) = assign e X.env :: (assignEach es X.env).map (·.2) := by rfl) : PDGs c X (e :: es) (is ++ js) (gCn g gs) := by
  refine ⟨(pgs_cons h1.pe h2.pe hs).imp fun vs σ H Q ⟨F, ρ, ds, rl, r, q⟩ => ?_, fun d ρ Q Q' h q => ?_⟩
  · cases r with
    | nil => exact (show False from q).elim
    | cons r1 r2 =>
      refine ⟨_, _, rfl, F, ρ, _, rl, r1, h1.mo _ _ _ _ (fun ρ1 q σ1 F1 H1 rl1 s1 o1 => ?_) q⟩
      refine ⟨F1, ρ1, _, rl1, r2.mono s1, h2.mo _ _ _ _ (fun ρ2 q σ2 F2 H2 rl2 s2 o2 => ?_) q⟩
      exact q σ2 F2 H2 rl2 (s1.trans s2) fun vs h => (o2 vs fun i hi => h i (List.mem_append_right _ hi)).trans (o1 vs fun i hi => h i (List.mem_append_left _ hi))
  · cases d with
    | nil => exact q
    | cons d r => exact h1.mo _ _ _ _ (fun ρ1 q => h2.mo _ _ _ _ h q) q
def gTp (n : Nat) (gs : DGs) : DG := fun d ρ Q => match d with
  | .tup l => l.length = n ∧ gs l ρ Q
  | _ => False
theorem pdg_tup {es : List Expr} {k : Nat} {is : List Nat} {gs : DGs} {n : Nat} (hc : X.calm = true) (h : PDGs c X es is gs) (hn : (assignEach es X.env).length = n := by rfl) (hst : (assignEach es X.env).findIdx? (·.1) = none := by rfl) : PDG c X (.Tuple es k pos) is (gTp n gs) := by
  refine ⟨(pg_tup hc h.pe hn hst).imp fun v σ H Q ⟨F, ρ, d, rl, r, q⟩ => ?_, fun d ρ Q Q' k q => ?_⟩
  · unfold gTp at q
    split at q
    · obtain ⟨p, vs, rfl, k1, k2⟩ := r.seqT
      exact ⟨p, vs, rfl, same_tup rl.step.fh k1, by rw [k2.length]; exact q.1, F, ρ, _, rl, k2, q.2⟩
    · exact q.elim
  · unfold gTp at q ⊢
    split at q
    · exact ⟨q.1, h.mo _ _ _ _ k q.2⟩
    · exact q.elim
/-- targets = e -/
def wAsg (we : DW) (g : DG) : DS := fun E ρ => we ρ fun d ρ1 => g d ρ1 E.nx
theorem pds_asg {tg e : Expr} {we : DW} {is : List Nat} {g : DG} (he : PD c X e we) (hg : PDG c X tg is g) (hs : swapsWithSole [tg] e pos.line X.env = pure false := by rfl) (hw : swappedStores [tg] e X.env = pure none := by rfl)
    (h1 : (assignEach [tg] X.env).map (·.2) = [assign tg X.env] := by rfl) : PDS c X (.Assign [tg] e pos) (wAsg we g) := by
  refine ⟨(ps_asg he.pe hg.pe hs hw h1).imp fun E σ H ⟨F, ρ, rl, q⟩ => ⟨F, ρ, rl, he.mo _ _ _ (fun d ρ1 q v F1 H1 r1 s1 e1 => ?_) q⟩, fun E E' ρ l q => he.mo _ _ _ (fun d ρ1 q => hg.mo _ _ _ _ l.nx q) q⟩
  exact ⟨F1, ρ1, d, r1, e1, hg.mo _ _ _ _ (fun ρ2 q σ2 F2 H2 r2 s2 _ => q σ2 F2 H2 r2 (s1.trans s2)) q⟩
end

/-! ### what is walked -/
structure Walks (K : PySem.W.Frag) (g : G) (J : It) (F : Hp) (items : List D) : Prop where
  go : ∀ i F' H', i < items.length → Same F F' → Same F' H' → J.go i H'
  stop : ∀ i F' H', i = items.length → Same F F' → Same F' H' → J.stop i H'
  yld : ∀ i F' H' x H'' d, items[i]? = some d → Same F F' → Same F' H' → HandOk g F' H' → J.yld i H' x H'' → ∃ F'', Step g F' H' F'' H'' ∧ Rep K g F'' x d
def tOfI (K : PySem.W.Frag) (c : C) (w : DA) : TI := fun σ H R => ∃ F ρ, Rel K c F σ H ρ ∧ w ρ fun items ρ' => ∀ J F' H', Rel K c F' σ H' ρ' → Same F F' → Walks K c.g J F' items → R J H'
structure PDI (c : C) (X : Cx) (tg iter : Expr) (w : DA) : Prop where
  pe : PI X tg iter (tOfI X.K c w)
  mo : Mono w
theorem _root_.L2.PI.imp {X : Cx} {tg e : Expr} {t t' : TI} (h : PI X tg e t) (i : ∀ σ H R, t' σ H R → t σ H R) : PI X tg e t' := ⟨fun pins s σ H R I q => h.run pins s σ H R I (i _ _ _ q)⟩
section
variable {X : Cx} {c : C} {tg e : Expr} {we : DW} {wr : DA} {p pos : Pos}
theorem walks_list {K : PySem.W.Frag} {g : G} {F : Hp} {a : Addr} {vs : List V} {l : List D} (h : SqL K F a vs) (r : Reps K g F vs l) : Walks K g (Itl K a) F l where
  go := fun i F' H' hi s s' => by
    have hi' : i < vs.length := by rw [r.length]; exact hi
    exact ⟨vs, vs[i], s'.seq (s.seq h), List.getElem?_eq_getElem hi'⟩
  stop := fun i F' H' hi s s' => ⟨vs, s'.seq (s.seq h), by rw [r.length]; omega⟩
  yld := fun i F' H' x H'' d e s s' hk y => by
    obtain ⟨rfl, y⟩ := y
    obtain ⟨v, e1, e2⟩ := r.get e
    have := y vs (s'.seq (s.seq h))
    rw [e1] at this
    cases this
    exact ⟨F', Step.refl s' hk, e2.mono s⟩
theorem walks_tup {K : PySem.W.Frag} {g : G} {F : Hp} {a : Addr} {vs : List V} {l : List D} (h : SqT K F a vs) (r : Reps K g F vs l) : Walks K g (Itt K a) F l where
  go := fun i F' H' hi s s' => by
    have hi' : i < vs.length := by rw [r.length]; exact hi
    exact ⟨vs, vs[i], same_tup s' (same_tup s h), List.getElem?_eq_getElem hi'⟩
  stop := fun i F' H' hi s s' => ⟨vs, same_tup s' (same_tup s h), by rw [r.length]; omega⟩
  yld := fun i F' H' x H'' d e s s' hk y => by
    obtain ⟨rfl, y⟩ := y
    obtain ⟨v, e1, e2⟩ := r.get e
    have := y vs (same_tup s' (same_tup s h))
    rw [e1] at this
    cases this
    exact ⟨F', Step.refl s' hk, e2.mono s⟩
def iSeq (K : PySem.W.Frag) (tl : TE) : TI := fun σ H R => tl σ H fun x H1 => ∃ a, x = .ref a ∧ (((∃ xs, SqL K H1 a xs) ∧ R (Itl K a) H1) ∨ ((∃ xs, SqT K H1 a xs) ∧ R (Itt K a) H1))
theorem pi_seq {l : Expr} {tl : TE} (hl : PE X l tl) : PI X tg l (iSeq X.K tl) := by
  refine ⟨fun pins s σ H R I h => ?_⟩
  refine thn (hl.run pins s σ H _ I h) fun v s1 ⟨x, H1, I1, r1, q1⟩ => ?_
  obtain ⟨a, e, ⟨⟨xs, hq⟩, q⟩ | ⟨⟨xs, hq⟩, q⟩⟩ := q1
  · subst e
    cases r1
    obtain ⟨its, rv, p, hz⟩ := I1.list hq
    refine wpAny_pyIter_list p.isList ?_
    refine ⟨s1.heap.objs.size, [s1.heap.objs.size], _, _, H1, rfl, I1.kept (t' := s1.toks) fun b o e => Heap.get?_push_of_some _ e, turn_list a _, ⟨_, Heap.get?_push_size _ rfl, rfl, rfl⟩, fun b hb => ?_, q⟩
    have e : b = s1.heap.objs.size := by simpa using hb
    subst e
    exact I1.fpOk (Nat.le_refl _) (I1.hok.fresh (Nat.le_refl _))
  · subst e
    cases r1
    obtain ⟨its, rv, p, hz⟩ := I1.tuple hq
    refine wpAny_pyIter_tuple (show s1.heap.IsTuple a its.toArray from p) ?_
    refine ⟨s1.heap.objs.size, [s1.heap.objs.size], _, _, H1, rfl, I1.kept (t' := s1.toks) fun b o e => Heap.get?_push_of_some _ e, turn_tuple a _, ⟨_, Heap.get?_push_size _ rfl, rfl, rfl⟩, fun b hb => ?_, q⟩
    have e : b = s1.heap.objs.size := by simpa using hb
    subst e
    exact I1.fpOk (Nat.le_refl _) (I1.hok.fresh (Nat.le_refl _))
def wItems (we : DW) : DA := fun ρ Q => we ρ fun d ρ1 => match d with
  | .lst l => Q l ρ1
  | .tup l => Q l ρ1
  | .scr ns => Q (ns.map .int) ρ1
  | _ => False
theorem mo_Items (h : Mono we) : Mono (wItems we) := fun ρ Q Q' k q => h _ _ _ (fun d ρ1 q => by cases d <;> first | exact k _ _ q | exact q) q
theorem reps_ints {K : PySem.W.Frag} {t : G} {F : Hp} : ∀ ns : List Int, Reps K t F (ns.map V.int) (ns.map .int)
  | [] => .nil
  | n :: ns => .cons (.int n) (reps_ints ns)
theorem pdi_seq (h : PD c X e we) : PDI c X tg e (wItems we) := by
  refine ⟨(pi_seq h.pe).imp fun σ H R ⟨F, ρ, rl, q⟩ => ⟨F, ρ, rl, h.mo _ _ _ (fun d ρ1 q v F1 H1 r1 s1 e1 => ?_) q⟩, mo_Items h.mo⟩
  cases d <;> first | exact (show False from q).elim | skip
  · obtain ⟨a, vs, rfl, k1, k2⟩ := e1.seqT
    exact ⟨a, rfl, .inr ⟨⟨vs, same_tup r1.step.fh k1⟩, q _ F1 H1 r1 s1 (walks_tup k1 k2)⟩⟩
  · obtain ⟨a, vs, rfl, k1, k2⟩ := e1.seqL
    exact ⟨a, rfl, .inl ⟨⟨vs, SqL.of (r1.step.fh _ _ k1)⟩, q _ F1 H1 r1 s1 (walks_list (SqL.of k1) k2)⟩⟩
  · cases e1 with
    | scr h1 => exact ⟨_, rfl, .inl ⟨⟨_, r1.step.fh.seq h1⟩, q _ F1 H1 r1 s1 (walks_list h1 (reps_ints _))⟩⟩
theorem walks_range {K : PySem.W.Frag} {g : G} {F : Hp} {lo : Int} {n : Nat} : Walks K g (Itr lo n) F ((List.range n).map fun (i : Nat) => D.int (lo + (i : Int))) where
  go := fun i F' H' hi s s' => by
    have h : i < n := by simpa using hi
    exact h
  stop := fun i F' H' hi0 s s' => by
    have hi := Nat.le_of_eq hi0.symm
    have h : n ≤ i := by simpa using hi
    exact h
  yld := fun i F' H' x H'' d e s s' hk y => by
    obtain ⟨rfl, rfl⟩ := y
    have hi : i < n := by
      have := (List.getElem?_eq_some_iff.mp e).1
      simpa using this
    rw [List.getElem?_map, List.getElem?_range hi] at e
    cases e
    exact ⟨F', Step.refl s' hk, .int _⟩
def rng (lo : Int) (n : Nat) : List D := (List.range n).map fun (i : Nat) => D.int (lo + (i : Int))
def wRng1 (wr : DA) : DA := fun ρ Q => wr ρ fun ds ρ1 => match ds with
  | [.int j] => (-(2 ^ 62) ≤ j ∧ j < 2 ^ 62) ∧ Q (rng 0 j.toNat) ρ1
  | _ => False
def wRng2 (wr : DA) : DA := fun ρ Q => wr ρ fun ds ρ1 => match ds with
  | [.int i, .int j] => (-(2 ^ 62) ≤ i ∧ i < 2 ^ 62 ∧ -(2 ^ 62) ≤ j ∧ j < 2 ^ 62) ∧ Q (rng i (j - i).toNat) ρ1
  | _ => False
theorem pdi_range1 {a : Expr} (hg : Gl X "range") (hm : X.mg "range" = none) (ha : PDA c X [a] wr) (hs : starEach [a] X.env = [(false, eval a X.env)] := by rfl) : PDI c X tg (.Call (.Name "range" p) [a] [] pos) (wRng1 wr) := by
  refine ⟨(pi_range1 hg hm ha.pe hs).imp fun σ H R ⟨F, ρ, rl, q⟩ => ⟨F, ρ, rl, ha.mo _ _ _ (fun ds ρ1 q vs F1 H1 r1 s1 e1 => ?_) q⟩, fun ρ Q Q' k q => ha.mo _ _ _ (fun ds ρ1 q => ?_) q⟩
  · split at q
    · cases e1 with
      | cons k1 k2 =>
        cases k2
        cases k1
        exact ⟨_, rfl, q.1.1, q.1.2, q.2 _ F1 H1 r1 s1 walks_range⟩
    · exact q.elim
  · split at q
    · exact ⟨q.1, k _ _ q.2⟩
    · exact q.elim
theorem pdi_range2 {a b : Expr} (hg : Gl X "range") (hm : X.mg "range" = none) (ha : PDA c X [a, b] wr) (hs : starEach [a, b] X.env = [(false, eval a X.env), (false, eval b X.env)] := by rfl) (hs2 : starEach [b] X.env = [(false, eval b X.env)] := by rfl) : PDI c X tg (.Call (.Name "range" p) [a, b] [] pos) (wRng2 wr) := by
  refine ⟨(pi_range2 hg hm ha.pe hs hs2).imp fun σ H R ⟨F, ρ, rl, q⟩ => ⟨F, ρ, rl, ha.mo _ _ _ (fun ds ρ1 q vs F1 H1 r1 s1 e1 => ?_) q⟩, fun ρ Q Q' k q => ha.mo _ _ _ (fun ds ρ1 q => ?_) q⟩
  · split at q
    · cases e1 with
      | cons k1 k2 =>
        cases k2 with
        | cons k2 k3 =>
          cases k3
          cases k1
          cases k2
          exact ⟨_, _, rfl, q.1, q.2 _ F1 H1 r1 s1 walks_range⟩
    · exact q.elim
  · split at q
    · exact ⟨q.1, k _ _ q.2⟩
    · exact q.elim
def zipD (l m : List D) : List D := List.zipWith (fun a b => .tup [a, b]) l m
theorem zip_step {K : PySem.W.Frag} {g : G} {F F' H' : Hp} {l m : List D} {vs ws : List V} {i : Nat} {T : Addr} {x y : V} {d : D} (r : Reps K g F vs l) (r' : Reps K g F ws m) (e : (zipD l m)[i]? = some d) (s : Same F F') (s' : Same F' H') (hk : HandOk g F' H') (n : H' T = none)
    (h1 : vs[i]? = some x) (h2 : ws[i]? = some y) : ∃ F'', Step g F' H' F'' (upd H' T (.tup [x, y])) ∧ Rep K g F'' (.ref T) d := by
  obtain ⟨a, ea, ra⟩ := r.get' h1
  obtain ⟨b, eb, rb⟩ := r'.get' h2
  unfold zipD at e
  rw [List.getElem?_zipWith, ea, eb] at e
  cases e
  have nf : F' T = none := by
    cases q : F' T with
    | none => rfl
    | some o => rw [s' _ _ q] at n; cases n
  have sl : Same F' (upd F' T (.tup [x, y])) := same_laid nf
  exact ⟨_, Step.laid s' hk n, .tup (SqT.of upd_same) (.cons ((ra.mono s).mono sl) (.cons ((rb.mono s).mono sl) .nil))⟩
theorem walks_zipL {K : PySem.W.Frag} {g : G} {F : Hp} {a b : Addr} {vs ws : List V} {l m : List D} (h : SqL K F a vs) (r : Reps K g F vs l) (h' : SqL K F b ws) (r' : Reps K g F ws m) : Walks K g (Itz K a b) F (zipD l m) where
  go := fun i F' H' hi s s' => by
    unfold zipD at hi
    rw [List.length_zipWith] at hi
    have hi1 : i < vs.length := by rw [r.length]; omega
    have hi2 : i < ws.length := by rw [r'.length]; omega
    exact ⟨vs, ws, vs[i], ws[i], s'.seq (s.seq h), s'.seq (s.seq h'), List.getElem?_eq_getElem hi1, List.getElem?_eq_getElem hi2⟩
  stop := fun i F' H' hi0 s s' => by
    have hi := Nat.le_of_eq hi0.symm
    unfold zipD at hi
    rw [List.length_zipWith] at hi
    refine ⟨vs, ws, s'.seq (s.seq h), s'.seq (s.seq h'), ?_⟩
    rw [r.length, r'.length]; omega
  yld := fun i F' H' x H'' d e s s' hk y => by
    obtain ⟨T, x, y, rfl, n, rfl, y1, y2⟩ := y
    exact zip_step r r' e s s' hk n (y1 vs (s'.seq (s.seq h))) (y2 ws (s'.seq (s.seq h')))
theorem walks_zipT {K : PySem.W.Frag} {g : G} {F : Hp} {a b : Addr} {vs ws : List V} {l m : List D} (h : SqT K F a vs) (r : Reps K g F vs l) (h' : SqT K F b ws) (r' : Reps K g F ws m) : Walks K g (RZ.ItzT K a b) F (zipD l m) where
  go := fun i F' H' hi s s' => by
    unfold zipD at hi
    rw [List.length_zipWith] at hi
    have hi1 : i < vs.length := by rw [r.length]; omega
    have hi2 : i < ws.length := by rw [r'.length]; omega
    exact ⟨vs, ws, vs[i], ws[i], same_tup s' (same_tup s h), same_tup s' (same_tup s h'), List.getElem?_eq_getElem hi1, List.getElem?_eq_getElem hi2⟩
  stop := fun i F' H' hi0 s s' => by
    have hi := Nat.le_of_eq hi0.symm
    unfold zipD at hi
    rw [List.length_zipWith] at hi
    refine ⟨vs, ws, same_tup s' (same_tup s h), same_tup s' (same_tup s h'), ?_⟩
    rw [r.length, r'.length]; omega
  yld := fun i F' H' x H'' d e s s' hk y => by
    obtain ⟨T, x, y, rfl, n, rfl, y1, y2⟩ := y
    exact zip_step r r' e s s' hk n (y1 vs (same_tup s' (same_tup s h))) (y2 ws (same_tup s' (same_tup s h')))
def wZip (wr : DA) : DA := fun ρ Q => wr ρ fun ds ρ1 => match ds with
  | [.lst l, .lst m] => Q (zipD l m) ρ1
  | [.tup l, .tup m] => Q (zipD l m) ρ1
  | _ => False
theorem pdi_zip {a b : Expr} {elts : List Expr} {kk : Nat} {tpos : Pos} (hg : Gl X "zip") (hm : X.mg "zip" = none) (ha : PDA c X [a, b] wr) (hs : starEach [a, b] X.env = (false, eval a X.env) :: starEach [b] X.env := by rfl) (hpl : (backTo pos (starEach [b] X.env)).any (·.1) = false := by rfl) :
    PDI c X (.Tuple elts kk tpos) (.Call (.Name "zip" p) [a, b] [] pos) (wZip wr) := by
  refine ⟨(RZ.pi_zipA hg hm ha.pe hs hpl).imp fun σ H R ⟨F, ρ, rl, q⟩ => ⟨F, ρ, rl, ha.mo _ _ _ (fun ds ρ1 q vs F1 H1 r1 s1 e1 => ?_) q⟩, fun ρ Q Q' k q => ha.mo _ _ _ (fun ds ρ1 q => ?_) q⟩
  · split at q
    · cases e1 with
      | cons k1 k2 =>
        cases k2 with
        | cons k2 k3 =>
          cases k3
          obtain ⟨a1, v1, rfl, g1, g2⟩ := k1.seqL
          obtain ⟨a2, v2, rfl, g3, g4⟩ := k2.seqL
          exact ⟨a1, a2, v1, v2, rfl, .inl ⟨SqL.of (r1.step.fh _ _ g1), SqL.of (r1.step.fh _ _ g3), q _ F1 H1 r1 s1 (walks_zipL (SqL.of g1) g2 (SqL.of g3) g4)⟩⟩
    · cases e1 with
      | cons k1 k2 =>
        cases k2 with
        | cons k2 k3 =>
          cases k3
          obtain ⟨a1, v1, rfl, g1, g2⟩ := k1.seqT
          obtain ⟨a2, v2, rfl, g3, g4⟩ := k2.seqT
          exact ⟨a1, a2, v1, v2, rfl, .inr ⟨same_tup r1.step.fh g1, same_tup r1.step.fh g3, q _ F1 H1 r1 s1 (walks_zipT g1 g2 g3 g4)⟩⟩
    · exact q.elim
  · split at q
    · exact k _ _ q
    · exact k _ _ q
    · exact q.elim
end

/-! ### for -/
def turnE (E : DE) (N : List SD → Prop) : DE := { nx := N, rt := E.rt, bk := E.nx, ct := N }
def forW (g : DG) (wb : DS) : List D → DS
  | [], E, ρ => E.nx ρ
  | x :: xs, E, ρ => g x ρ fun ρ1 => wb (turnE E fun ρ2 => forW g wb xs E ρ2) ρ1
theorem mo_forW {g : DG} {wb : DS} (hg : MonoG g) (hb : MonoS wb) : ∀ items : List D, MonoS (forW g wb items)
  | [], _, _, _, l, q => l.nx _ q
  | x :: xs, E, E', ρ, l, q => hg _ _ _ _ (fun ρ1 q => hb (turnE E fun ρ2 => forW g wb xs E ρ2) (turnE E' fun ρ2 => forW g wb xs E' ρ2) _ ⟨fun ρ2 q => mo_forW hg hb xs _ _ _ l q, l.rt, l.nx, fun ρ2 q => mo_forW hg hb xs _ _ _ l q⟩ q) q
def wFor (wi : DA) (g : DG) (wb : DS) : DS := fun E ρ => wi ρ fun items ρ1 => forW g wb items E ρ1
section
variable {X : Cx} {c : C} {tg iter : Expr} {body : List Stmt} {wi : DA} {is : List Nat} {g : DG} {wb : DS} {pos : Pos}
theorem pds_for (hp : PassesOwn (model X.prog X.w) X.A X.env X.xe) (hc : X.calm = true) (hi : PDI c X tg iter wi) (hg : PDG c X tg is g) (hb : PDB c X body wb) (hs : ∀ x, foldedSetIterable iter X.env x = pure x := by intro _; rfl) :
    PDS c X (.For tg iter body [] pos) (wFor wi g wb) := by
  refine ⟨(ps_for hp hc hi.pe hg.pe hb.pe hs).imp fun E σ H ⟨F, ρ, rl, q⟩ => ⟨F, ρ, rl, hi.mo _ _ _ (fun items ρ1 q J F1 H1 r1 s1 W => ?_) q⟩, fun E E' ρ l q => hi.mo _ _ _ (fun items ρ1 q => mo_forW hg.mo hb.mo items _ _ _ l q) q⟩
  have Wst : ∀ (i m : Nat) (σ : St) (H : Hp), (∃ F2 ρ2, Rel X.K c F2 σ H ρ2 ∧ Same F1 F2 ∧ i ≤ items.length ∧ m = items.length - i ∧ forW g wb (items.drop i) (endsOf X.K c F E) ρ2) →
      (J.stop i H ∧ E.nx σ H) ∨ (J.go i H ∧ ∃ N : St → Hp → Prop, (∀ σ' H', N σ' H' → ∃ m', m' < m ∧ (∃ F2 ρ2, Rel X.K c F2 σ' H' ρ2 ∧ Same F1 F2 ∧ i + 1 ≤ items.length ∧ m' = items.length - (i + 1) ∧ forW g wb (items.drop (i + 1)) (endsOf X.K c F E) ρ2)) ∧
        ∀ x H', J.yld i H x H' → gOf X.K c is g x σ H' fun σ2 H2 => sOf X.K c wb { E with nx := N, ct := N, bk := E.nx } σ2 H2) := by
    rintro i m σ H ⟨F2, ρ2, r2, s2, hi2, rfl, q⟩
    by_cases hlt : i < items.length
    · refine .inr ⟨W.go i F2 H hlt s2 r2.step.fh, fun σ' H' => ∃ F3 ρ3, Rel X.K c F3 σ' H' ρ3 ∧ Same F1 F3 ∧ i + 1 ≤ items.length ∧ forW g wb (items.drop (i + 1)) (endsOf X.K c F E) ρ3,
        fun σ' H' ⟨F3, ρ3, y1, y2, y3, y4⟩ => ⟨items.length - (i + 1), by omega, F3, ρ3, y1, y2, y3, rfl, y4⟩, fun x H' y => ?_⟩
      have ed : items.drop i = items[i] :: items.drop (i + 1) := by rw [List.drop_eq_getElem_cons hlt]
      rw [ed] at q
      obtain ⟨F3, st3, rep⟩ := W.yld i F2 H x H' items[i] (List.getElem?_eq_getElem hlt) s2 r2.step.fh r2.step.hand y
      refine ⟨F3, ρ2, items[i], r2.after st3, rep, hg.mo _ _ _ _ (fun ρ4 q σ4 F4 H4 r4 s4 _ => ?_) q⟩
      have s14 : Same F1 F4 := (s2.trans st3.ff).trans s4
      refine ⟨F4, ρ4, r4, hb.mo (turnE (endsOf X.K c F E) fun ρ2 => forW g wb (items.drop (i + 1)) (endsOf X.K c F E) ρ2) _ _ ⟨fun ρ5 q σ5 F5 H5 r5 s5 => ?_, fun d q => q, fun ρ5 q σ5 F5 H5 r5 s5 => q σ5 F5 H5 r5 ((s1.trans s14).trans s5), fun ρ5 q σ5 F5 H5 r5 s5 => ?_⟩ q⟩
      · exact ⟨F5, ρ5, r5, s14.trans s5, hlt, q⟩
      · exact ⟨F5, ρ5, r5, s14.trans s5, hlt, q⟩
    · have e : i = items.length := by omega
      rw [e, List.drop_length] at q
      refine .inl ⟨W.stop i F2 H (by omega) s2 r2.step.fh, ?_⟩
      exact q σ F2 H r2 (s1.trans s2)
  exact ⟨fun i m σ H => ∃ F2 ρ2, Rel X.K c F2 σ H ρ2 ∧ Same F1 F2 ∧ i ≤ items.length ∧ m = items.length - i ∧ forW g wb (items.drop i) (endsOf X.K c F E) ρ2, ⟨items.length, F1, ρ1, r1, Same.refl _, Nat.zero_le _, rfl, q⟩, Wst⟩
end
end PL
end L2

namespace L2
namespace PL
open PySem PySem.Spec PyProof.Rows
variable [Tabl]

/-! ### a list that is being made, held by no slot -/
structure Held (K : PySem.W.Frag) (c : C) (F : Hp) (σ : St) (H : Hp) (ρ : List SD) (p : Addr) (ys : List D) : Prop where
  at_ : ∃ vs, H p = some (.lst vs) ∧ Reps K c.g F vs ys
  f : Fresh0 c F σ ρ p
section
variable {K : PySem.W.Frag} {c : C} {F F' : Hp} {σ : St} {H H' : Hp} {ρ : List SD} {p : Addr} {ys : List D}
theorem Held.after (h : Held K c F σ H ρ p ys) (s : Step c.g F H F' H') : Held K c F' σ H' ρ p ys := by
  obtain ⟨vs, e, r⟩ := h.at_
  exact ⟨⟨vs, s.keep p _ e h.f.nt, r.mono s.ff⟩, free_step s e h.f.nf, h.f.n0, h.f.nt, h.f.ns⟩

/-! ### the block of a comprehension -/
def wipeD (ρ : List SD) : List Nat → List SD
  | [] => ρ
  | v :: vs => st (wipeD ρ vs) v .no
def roS : SD → SD
  | .ol l => .ro l
  | .oi _ _ _ _ => .no
  | .oa _ _ => .no
  | .od a ks l => .rd a ks l
  | .ot a ks l => .rt a ks l
  | x => x
def roD : List SD → List SD
  | [] => []
  | x :: r => roS x :: roD r
theorem roD_len : ∀ ρ : List SD, (roD ρ).length = ρ.length
  | [] => rfl
  | _ :: r => by simp [roD, roD_len r]
theorem gt_roD : ∀ (ρ : List SD) (i : Nat), gt (roD ρ) i = roS (gt ρ i)
  | [], _ => rfl
  | _ :: _, 0 => rfl
  | _ :: r, i + 1 => gt_roD r i
theorem Rel.wipes (r : Rel K c F σ H ρ) : ∀ vs : List Nat, Rel K c F (wipe σ vs) H (wipeD ρ vs)
  | [] => r
  | v :: vs => (r.wipes vs).wipe1
theorem Rel.block (r : Rel K c F σ H ρ) (vs : List Nat) : Rel K ⟨c.g, F, H⟩ F (wipe σ vs) H (roD (wipeD ρ vs)) := by
  have r := r.wipes vs
  refine ⟨Step.refl r.step.fh r.step.hand, by rw [roD_len]; exact r.len, fun i => ?_, fun a b p e1 => ?_⟩
  · rw [gt_roD]
    have q := r.slot i
    cases e : gt (wipeD ρ vs) i with
    | no => trivial
    | d x => rw [e] at q; exact q
    | ad x => rw [e] at q; exact q
    | oi a C ns l => trivial
    | oa a l => trivial
    | od a ks l =>
      rw [e] at q
      obtain ⟨p', o, y1, y2, y3, y4, y5, y6⟩ := q
      exact ⟨p', o, y1, y2, y3, fun (z : isW (.rd a ks l) = true) => absurd z Bool.false_ne_true, y5, y6⟩
    | rd a ks l =>
      rw [e] at q
      obtain ⟨p', o, y1, y2, y3, y4, y5, y6⟩ := q
      exact ⟨p', o, y1, y2, y3, fun (z : isW (.rd a ks l) = true) => absurd z Bool.false_ne_true, y5, y6⟩
    | ot a ks l =>
      rw [e] at q
      obtain ⟨p', o, y1, y2, y3, y4, y5, y6⟩ := q
      exact ⟨p', o, y1, y2, y3, fun (z : isW (.rt a ks l) = true) => absurd z Bool.false_ne_true, y5, y6⟩
    | rt a ks l =>
      rw [e] at q
      obtain ⟨p', o, y1, y2, y3, y4, y5, y6⟩ := q
      exact ⟨p', o, y1, y2, y3, fun (z : isW (.rt a ks l) = true) => absurd z Bool.false_ne_true, y5, y6⟩
    | ol l =>
      rw [e] at q
      obtain ⟨p', o, y1, y2, y3, y4, y5, y6⟩ := q
      exact ⟨p', o, y1, y2, y3, fun (z : isW (.ro l) = true) => absurd z Bool.false_ne_true, y5, y6⟩
    | ro l =>
      rw [e] at q
      obtain ⟨p', o, y1, y2, y3, y4, y5, y6⟩ := q
      exact ⟨p', o, y1, y2, y3, fun (z : isW (.ro l) = true) => absurd z Bool.false_ne_true, y5, y6⟩
  · rw [gt_roD] at e1
    cases e : gt (wipeD ρ vs) a <;> rw [e] at e1 <;> cases e1
theorem wipe_none {σ : St} {v : Nat} : ∀ vs : List Nat, v ∈ vs → (wipe σ vs).set v none = wipe σ vs
  | [], h => by cases h
  | w :: vs, h => by
    show ((wipe σ vs).set w none).set v none = (wipe σ vs).set w none
    by_cases e : v = w
    · subst e; rw [List.set_set]
    · rcases List.mem_cons.mp h with z | z
      · exact absurd z e
      · rw [List.set_comm _ _ (Ne.symm e), wipe_none vs z]
theorem wipe_sub {σ : St} : ∀ (us vs : List Nat), (∀ i ∈ us, i ∈ vs) → wipe (wipe σ vs) us = wipe σ vs
  | [], _, _ => rfl
  | u :: us, vs, h => by
    show (wipe (wipe σ vs) us).set u none = wipe σ vs
    rw [wipe_sub us vs fun i hi => h i (List.mem_cons_of_mem _ hi)]
    exact wipe_none vs (h u List.mem_cons_self)
end

/-! ### comprehensions -/
def lcW (g : DG) (tt : DT) (te : DW) (ρb : List SD) : List D → List D → (List D → Prop) → Prop
  | [], acc, Q => Q acc
  | x :: xs, acc, Q => g x ρb fun ρ1 => tt ρ1 fun b ρ2 => (b = true → te ρ2 fun y _ => lcW g tt te ρb xs (acc ++ [y]) Q) ∧ (b = false → lcW g tt te ρb xs acc Q)
theorem lcW_mo {g : DG} {tt : DT} {te : DW} {ρb : List SD} (hg : MonoG g) (ht : Mono tt) (he : Mono te) : ∀ (xs acc : List D) (Q Q' : List D → Prop), (∀ l, Q l → Q' l) → lcW g tt te ρb xs acc Q → lcW g tt te ρb xs acc Q'
  | [], _, _, _, h, q => h _ q
  | x :: xs, acc, Q, Q', h, q => hg _ _ _ _ (fun ρ1 q => ht _ _ _ (fun b ρ2 q => ⟨fun e => he _ _ _ (fun y _ q => lcW_mo hg ht he xs _ Q Q' h q) (q.1 e), fun e => lcW_mo hg ht he xs _ Q Q' h (q.2 e)⟩) q) q
structure PDTs (c : C) (X : Cx) (ifs : List Expr) (w : DT) : Prop where
  pe : PTs X ifs (tOfT X.K c w)
  mo : Mono w
def wYes : DT := fun ρ Q => Q true ρ
def wLcG (wi : DA) (g : DG) (tt : DT) (te : DW) (vs : List Nat) (ρ : List SD) (Q : List D → List SD → Prop) : Prop := wi ρ fun items ρ1 => items.length ≤ 1000000 ∧ lcW g tt te (roD (wipeD ρ1 vs)) items [] fun ys => Q ys ρ1
def wLc (wi : DA) (g : DG) (tt : DT) (te : DW) (vs : List Nat) : DW := fun ρ Q => wLcG wi g tt te vs ρ fun ys ρ1 => Q (.lst ys) ρ1
theorem mo_LcG {wi : DA} {g : DG} {tt : DT} {te : DW} {vs : List Nat} (hi : Mono wi) (hg : MonoG g) (ht : Mono tt) (he : Mono te) (ρ : List SD) (Q Q' : List D → List SD → Prop) (h : ∀ ys ρ', Q ys ρ' → Q' ys ρ') (q : wLcG wi g tt te vs ρ Q) : wLcG wi g tt te vs ρ Q' :=
  hi _ _ _ (fun items ρ1 q => ⟨q.1, lcW_mo hg ht he _ _ _ _ (fun ys q => h _ _ q) q.2⟩) q
section
variable {X : Cx} {c : C}
theorem pdts_nil : PDTs c X [] wYes := ⟨⟨fun pins s σ H Q I ⟨F, ρ, rl, q⟩ => pts_nil.run pins s σ H Q I (q F H rl (Same.refl _))⟩, fun _ _ _ h q => h _ _ q⟩
theorem pdts_one {e : Expr} {w : DT} (h : PDT c X e w) : PDTs c X [e] w := ⟨pts_one h.pe, h.mo⟩
def gOfE (K : PySem.W.Frag) (g0 : G) (is : List Nat) (g : DG) : TG := fun v σ H Q => ∃ c' : C, c'.g = g0 ∧ gOf K c' is g v σ H Q
def tOfTE (K : PySem.W.Frag) (g0 : G) (w : DT) : TT := fun σ H Q => ∃ c' : C, c'.g = g0 ∧ tOfT K c' w σ H Q
def tOfE (K : PySem.W.Frag) (g0 : G) (w : DW) : TE := fun σ H Q => ∃ c' : C, c'.g = g0 ∧ tOf K c' w σ H Q
variable {elt tg iter : Expr} {ifs : List Expr} {scope : Scope} {own : List (Str × Nat)} {is : List Nat} {pos : Pos} {wi : DA} {g : DG} {tt : DT} {te : DW}
theorem lc_read {K : PySem.W.Frag} {vs : List Nat} (hi : Mono wi) (hgm : MonoG g) (htm : Mono tt) (hem : Mono te) (his : ∀ i ∈ is, i ∈ vs) {σ : St} {H : Hp} {F : Hp} {ρ : List SD} (rl : Rel K c F σ H ρ) {Qd : List D → List SD → Prop} (q : wLcG wi g tt te vs ρ Qd) {Q : VK}
    (fin : ∀ ys ρ1 F1 H1 p, Qd ys ρ1 → Rel K c F1 σ H1 ρ1 → Same F F1 → Held K c F1 σ H1 ρ1 p ys → Q (.ref p) H1) :
    tLc (tOfI K c wi) (gOfE K c.g is g) (tOfTE K c.g tt) (tOfE K c.g te) vs σ H Q := by
  refine ⟨F, ρ, rl, hi _ _ _ (fun items ρ1 q J F1 H1 r1 s1 W => ?_) q⟩
  intro p np
  obtain ⟨hz, q⟩ := q
  have a := r1.fresh0 np
  refine ⟨fun i m H => ∃ F2 acc, Rel K c F2 σ H ρ1 ∧ Same F1 F2 ∧ Held K c F2 σ H ρ1 p acc ∧ i ≤ items.length ∧ m = items.length - i ∧ acc.length ≤ i ∧ lcW g tt te (roD (wipeD ρ1 vs)) (items.drop i) acc (fun ys => Qd ys ρ1),
    ⟨items.length, F1, [], r1.wr0 a, Same.refl _, ⟨⟨[], upd_same, .nil⟩, a⟩, Nat.zero_le _, rfl, Nat.le_refl _, q⟩, ?_⟩
  rintro i m H ⟨F2, acc, r2, s2, h2, hi2, rfl, hl, q⟩
  by_cases hlt : i < items.length
  · refine .inr ⟨W.go i F2 H hlt s2 r2.step.fh, fun H' => ∃ F3 acc', Rel K c F3 σ H' ρ1 ∧ Same F1 F3 ∧ Held K c F3 σ H' ρ1 p acc' ∧ acc'.length ≤ i + 1 ∧ lcW g tt te (roD (wipeD ρ1 vs)) (items.drop (i + 1)) acc' (fun ys => Qd ys ρ1),
      fun H' ⟨F3, acc', y1, y2, y3, y4, y5⟩ => ⟨items.length - (i + 1), by omega, F3, acc', y1, y2, y3, hlt, rfl, y4, y5⟩, fun x H' y => ?_⟩
    have ed : items.drop i = items[i] :: items.drop (i + 1) := by rw [List.drop_eq_getElem_cons hlt]
    rw [ed] at q
    obtain ⟨F3, st3, rep⟩ := W.yld i F2 H x H' items[i] (List.getElem?_eq_getElem hlt) s2 r2.step.fh r2.step.hand y
    have r3 := r2.after st3
    have h3 := h2.after st3
    have s13 : Same F1 F3 := s2.trans st3.ff
    refine ⟨⟨c.g, F3, H'⟩, rfl, F3, _, items[i], r3.block vs, rep, hgm _ _ _ _ (fun ρ4 q σ4 F4 H4 r4 s4 o4 => ?_) q⟩
    refine ⟨(o4 vs his).trans (wipe_sub vs vs fun _ h => h), ⟨c.g, F3, H'⟩, rfl, F4, ρ4, r4, htm _ _ _ (fun b ρ5 q F5 H5 r5 s5 => ?_) q⟩
    cases b with
    | true =>
      rw [if_pos rfl]
      refine ⟨⟨c.g, F3, H'⟩, rfl, F5, ρ5, r5, hem _ _ _ (fun y ρ6 q v F6 H6 r6 s6 e6 => ?_) (q.1 rfl)⟩
      have st6 : Step c.g F3 H' F6 H6 := r6.step
      have r7 := r3.after st6
      have h7 := h3.after st6
      obtain ⟨ws, e7, k7⟩ := h7.at_
      refine ⟨ws, e7, by rw [sizeLine16, k7.length]; omega, F6, acc ++ [y], r7.wr0 h7.f, s13.trans st6.ff, ⟨⟨ws ++ [v], upd_same, k7.append (.cons e6 .nil)⟩, h7.f⟩, by simp; omega, q⟩
    | false =>
      rw [if_neg Bool.false_ne_true]
      have st6 : Step c.g F3 H' F5 H5 := r5.step
      exact ⟨F5, acc, r3.after st6, s13.trans st6.ff, h3.after st6, by omega, q.2 rfl⟩
  · have e : i = items.length := by omega
    rw [e, List.drop_length] at q
    exact .inl ⟨W.stop i F2 H (by omega) s2 r2.step.fh, fin acc ρ1 F2 H p q r2 (s1.trans s2) h2⟩
theorem lc_parts (hg : ∀ c' : C, c'.g = c.g → ∀ (s : Shared) (H : Hp) (C : Addr) (cl : List (Str × Addr)) (fp : List Addr), PDG c' (X.blk s H scope (compEnvC scope cl C X.env) fp) tg is g) (ht : ∀ c' : PL.C, c'.g = c.g → ∀ (s : Shared) (H : Hp) (C : Addr) (cl : List (Str × Addr)) (fp : List Addr), PDTs c' (X.blk s H scope (compEnvC scope cl C X.env) fp) ifs tt)
    (he : ∀ c' : PL.C, c'.g = c.g → ∀ (s : Shared) (H : Hp) (C : Addr) (cl : List (Str × Addr)) (fp : List Addr), PD c' (X.blk s H scope (compEnvC scope cl C X.env) fp) elt te) (s : Shared) (H : Hp) (C : Addr) (cl : List (Str × Addr)) (fp : List Addr) :
    PG (X.blk s H scope (compEnvC scope cl C X.env) fp) tg (gOfE X.K c.g is g) ∧ PTs (X.blk s H scope (compEnvC scope cl C X.env) fp) ifs (tOfTE X.K c.g tt) ∧ PE (X.blk s H scope (compEnvC scope cl C X.env) fp) elt (tOfE X.K c.g te) :=
  ⟨⟨fun pins s' σ H' v u Q I r ⟨c', e, q⟩ => (hg c' e s H C cl fp).pe.run pins s' σ H' v u Q I r q⟩, ⟨fun pins s' σ H' Q I ⟨c', e, q⟩ => (ht c' e s H C cl fp).pe.run pins s' σ H' Q I q⟩, ⟨fun pins s' σ H' Q I ⟨c', e, q⟩ => (he c' e s H C cl fp).pe.run pins s' σ H' Q I q⟩⟩
theorem lc_mos (hg : ∀ c' : C, c'.g = c.g → ∀ (s : Shared) (H : Hp) (C : Addr) (cl : List (Str × Addr)) (fp : List Addr), PDG c' (X.blk s H scope (compEnvC scope cl C X.env) fp) tg is g) (ht : ∀ c' : PL.C, c'.g = c.g → ∀ (s : Shared) (H : Hp) (C : Addr) (cl : List (Str × Addr)) (fp : List Addr), PDTs c' (X.blk s H scope (compEnvC scope cl C X.env) fp) ifs tt)
    (he : ∀ c' : PL.C, c'.g = c.g → ∀ (s : Shared) (H : Hp) (C : Addr) (cl : List (Str × Addr)) (fp : List Addr), PD c' (X.blk s H scope (compEnvC scope cl C X.env) fp) elt te) : MonoG g ∧ Mono tt ∧ Mono te :=
  ⟨(hg c rfl X.s_0 X.H_0 0 [] []).mo, (ht c rfl X.s_0 X.H_0 0 [] []).mo, (he c rfl X.s_0 X.H_0 0 [] []).mo⟩
/-- [elt for tg in iter if ..] -/
theorem pd_lc (hc : X.calm = true) (hN : X.N.Nodup) (hi : PDI c X tg iter wi) (ok : BlkOk X.N X.env.scope scope own)
    (hg : ∀ c' : C, c'.g = c.g → ∀ (s : Shared) (H : Hp) (C : Addr) (cl : List (Str × Addr)) (fp : List Addr), PDG c' (X.blk s H scope (compEnvC scope cl C X.env) fp) tg is g) (ht : ∀ c' : PL.C, c'.g = c.g → ∀ (s : Shared) (H : Hp) (C : Addr) (cl : List (Str × Addr)) (fp : List Addr), PDTs c' (X.blk s H scope (compEnvC scope cl C X.env) fp) ifs tt)
    (he : ∀ c' : PL.C, c'.g = c.g → ∀ (s : Shared) (H : Hp) (C : Addr) (cl : List (Str × Addr)) (fp : List Addr), PD c' (X.blk s H scope (compEnvC scope cl C X.env) fp) elt te) (his : ∀ i ∈ is, i ∈ own.map (·.2) := by decide) (hs : ∀ x, foldedSetIterable iter X.env x = pure x := by intro _; rfl) :
    PD c X (.ListComp elt [⟨tg, iter, ifs, 0⟩] scope pos) (wLc wi g tt te (own.map (·.2))) := by
  obtain ⟨m1, m2, m3⟩ := lc_mos hg ht he
  refine ⟨(pe_lc hc hN hi.pe ok (fun s H C cl fp => (lc_parts hg ht he s H C cl fp).1) (fun s H C cl fp => (lc_parts hg ht he s H C cl fp).2.1) (fun s H C cl fp => (lc_parts hg ht he s H C cl fp).2.2) hs).imp fun σ H Q ⟨F, ρ, rl, q⟩ => ?_, fun ρ Q Q' k q => mo_LcG hi.mo m1 m2 m3 _ _ _ (fun ys ρ1 q => k _ _ q) q⟩
  refine lc_read hi.mo m1 m2 m3 his rl q fun ys ρ1 F1 H1 p q r1 s1 h1 => ?_
  obtain ⟨ws, e1, k1⟩ := h1.at_
  obtain ⟨s2, r2⟩ := r1.freeze0 h1.f e1
  exact q _ _ H1 r2 (s1.trans s2) (.lst upd_same (k1.mono s2))
/-- y = [..], y not changed later -/
def wSetLc (i : Nat) (wi : DA) (g : DG) (tt : DT) (te : DW) (vs : List Nat) : DS := fun E ρ => wLcG wi g tt te vs ρ fun ys ρ1 => E.nx (st ρ1 i (.d (.lst ys)))
/-- .. changed later -/
def wSetLcO (i : Nat) (wi : DA) (g : DG) (tt : DT) (te : DW) (vs : List Nat) : DS := fun E ρ => wLcG wi g tt te vs ρ fun ys ρ1 => E.nx (st ρ1 i (.ol ys))
variable {i : Nat} {y : Str} {py spos : Pos}
theorem pds_setLc (hc : X.calm = true) (hN : X.N.Nodup) (hy : X.N[i]? = some y) (hyl : X.env.scope.names.lookup y = some .local) (hsw : swapsWith (.ListComp elt [⟨tg, iter, ifs, 0⟩] scope pos) (some (.Name y py)) spos.line X.env = pure true) (hi : PDI c X tg iter wi) (ok : BlkOk X.N X.env.scope scope own)
    (hg : ∀ c' : C, c'.g = c.g → ∀ (s : Shared) (H : Hp) (C : Addr) (cl : List (Str × Addr)) (fp : List Addr), PDG c' (X.blk s H scope (compEnvC scope cl C X.env) fp) tg is g) (ht : ∀ c' : PL.C, c'.g = c.g → ∀ (s : Shared) (H : Hp) (C : Addr) (cl : List (Str × Addr)) (fp : List Addr), PDTs c' (X.blk s H scope (compEnvC scope cl C X.env) fp) ifs tt)
    (he : ∀ c' : PL.C, c'.g = c.g → ∀ (s : Shared) (H : Hp) (C : Addr) (cl : List (Str × Addr)) (fp : List Addr), PD c' (X.blk s H scope (compEnvC scope cl C X.env) fp) elt te) (his : ∀ i ∈ is, i ∈ own.map (·.2) := by decide) (hs : ∀ x, foldedSetIterable iter X.env x = pure x := by intro _; rfl) :
    PDS c X (.Assign [.Name y py] (.ListComp elt [⟨tg, iter, ifs, 0⟩] scope pos) spos) (wSetLc i wi g tt te (own.map (·.2))) := by
  obtain ⟨m1, m2, m3⟩ := lc_mos hg ht he
  refine ⟨(ps_setLc hc hN hy hyl hsw hi.pe ok (fun s H C cl fp => (lc_parts hg ht he s H C cl fp).1) (fun s H C cl fp => (lc_parts hg ht he s H C cl fp).2.1) (fun s H C cl fp => (lc_parts hg ht he s H C cl fp).2.2) hs).imp fun E σ H ⟨F, ρ, rl, q⟩ => ?_, fun E E' ρ l q => mo_LcG hi.mo m1 m2 m3 _ _ _ (fun ys ρ1 q => l.nx _ q) q⟩
  refine lc_read hi.mo m1 m2 m3 his rl q fun ys ρ1 F1 H1 p q r1 s1 h1 => ?_
  obtain ⟨ws, e1, k1⟩ := h1.at_
  obtain ⟨s2, r2⟩ := r1.freeze0 h1.f e1
  exact q _ _ H1 (r2.setd (.lst upd_same (k1.mono s2))) (s1.trans s2)
theorem pds_setLcO (hc : X.calm = true) (hN : X.N.Nodup) (hy : X.N[i]? = some y) (hyl : X.env.scope.names.lookup y = some .local) (hsw : swapsWith (.ListComp elt [⟨tg, iter, ifs, 0⟩] scope pos) (some (.Name y py)) spos.line X.env = pure true) (hi : PDI c X tg iter wi) (ok : BlkOk X.N X.env.scope scope own)
    (hg : ∀ c' : C, c'.g = c.g → ∀ (s : Shared) (H : Hp) (C : Addr) (cl : List (Str × Addr)) (fp : List Addr), PDG c' (X.blk s H scope (compEnvC scope cl C X.env) fp) tg is g) (ht : ∀ c' : PL.C, c'.g = c.g → ∀ (s : Shared) (H : Hp) (C : Addr) (cl : List (Str × Addr)) (fp : List Addr), PDTs c' (X.blk s H scope (compEnvC scope cl C X.env) fp) ifs tt)
    (he : ∀ c' : PL.C, c'.g = c.g → ∀ (s : Shared) (H : Hp) (C : Addr) (cl : List (Str × Addr)) (fp : List Addr), PD c' (X.blk s H scope (compEnvC scope cl C X.env) fp) elt te) (his : ∀ i ∈ is, i ∈ own.map (·.2) := by decide) (hs : ∀ x, foldedSetIterable iter X.env x = pure x := by intro _; rfl) :
    PDS c X (.Assign [.Name y py] (.ListComp elt [⟨tg, iter, ifs, 0⟩] scope pos) spos) (wSetLcO i wi g tt te (own.map (·.2))) := by
  obtain ⟨m1, m2, m3⟩ := lc_mos hg ht he
  refine ⟨(ps_setLc hc hN hy hyl hsw hi.pe ok (fun s H C cl fp => (lc_parts hg ht he s H C cl fp).1) (fun s H C cl fp => (lc_parts hg ht he s H C cl fp).2.1) (fun s H C cl fp => (lc_parts hg ht he s H C cl fp).2.2) hs).imp fun E σ H ⟨F, ρ, rl, q⟩ => ?_, fun E E' ρ l q => mo_LcG hi.mo m1 m2 m3 _ _ _ (fun ys ρ1 q => l.nx _ q) q⟩
  refine lc_read hi.mo m1 m2 m3 his rl q fun ys ρ1 F1 H1 p q r1 s1 h1 => ?_
  obtain ⟨ws, e1, k1⟩ := h1.at_
  exact q _ F1 H1 (r1.adopt h1.f e1 ⟨ws, rfl, k1⟩ rfl) s1
end

/-! ### calls of the text's defs -/
abbrev Spec := List D → (D → Prop) → (D → Prop) → Prop
def MonoSp (S : Spec) : Prop := ∀ ds Q Q' E E', (∀ d, Q d → Q' d) → (∀ d, E d → E' d) → S ds Q E → S ds Q' E'
def XOf (K : PySem.W.Frag) (g : G) (F H : Hp) (E : XK) (x : D) : Prop := ∀ C a ns xs ds' F' H', x = .obj C ns ds' → Step g F H F' H' → H' a = some (.xd (ns.zip xs)) → ns.length = xs.length → Reps K g F' xs ds' → H a = none → E (.ref C) (some a) H'
def spG (K : PySem.W.Frag) (S : Spec) : Sp := fun vs H Q E => ∃ (g : G) (F : Hp) (ds : List D), Same F H ∧ HandOk g F H ∧ Reps K g F vs ds ∧ S ds (fun d => ∀ v F' H', Step g F H F' H' → Rep K g F' v d → Q v H') (XOf K g F H E)
theorem XOf.later {K : PySem.W.Frag} {g : G} {F H F1 H1 : Hp} {E : XK} {x : D} (h : XOf K g F H E x) (s : Step g F H F1 H1) : XOf K g F1 H1 E x := fun C a ns xs ds' F' H' e s' e1 e2 e3 n => h C a ns xs ds' F' H' e (s.trans s') e1 e2 e3 (by
  cases q : H a with
  | none => rfl
  | some o =>
    have nt : Kp g a := s.hand.kp n
    rw [s.keep a o q nt] at n
    cases n)
/-- what an exception is wished to be, at the slots as they are -/
abbrev DX := D → List SD → Prop
def LinkW (K : PySem.W.Frag) (c : C) (W : WX) (Ed : DX) : Prop := ∀ σ F H ρ x, Rel K c F σ H ρ → Ed x ρ → XOf K c.g F H (WE W σ) x
def NoX : DX := fun _ _ => False
def NoW : WX := fun _ _ _ _ => False
theorem link0 {K : PySem.W.Frag} {c : C} {W : WX} : LinkW K c W NoX := fun _ _ _ _ _ _ h => h.elim
theorem link_def {K : PySem.W.Frag} {c : C} {E : XK} {Ed : D → Prop} (h : ∀ x, Ed x → XOf K c.g c.F0 c.H0 E x) : LinkW K c (fun cls d _ H => E cls d H) fun x _ => Ed x := fun σ F H ρ x r e => (h x e).later r.step
/-- a call: what is promised of it -/
structure Call (S : Spec) (ds : List D) (Q E : D → Prop) : Prop where
  h : S ds Q E
def wCall (S : Spec) (wr : DA) (Ed : DX) : DW := fun ρ Q => wr ρ fun ds ρ1 => Call S ds (fun d => Q d ρ1) fun x => Ed x ρ1
theorem takesN {X : Cx} : Takes X NoW := fun _ _ x => by
  obtain ⟨_, _, _, _, _, _, _, _, _, _, _, _, _, _, _, _, z⟩ := x
  exact z.elim
section
variable {X : Cx} {c : C} {k : Nat} {f : Addr} {fd : FuncData} {ps : List Str} {S : Spec} {W : WX} {Ed : DX} {x : Str} {p pos : Pos} {e : Expr} {es : List Expr} {wr : DA}
theorem call_br (hS : MonoSp S) (lk : LinkW X.K c W Ed) {Q : VK} {σ : St} {F F1 : Hp} {H1 : Hp} {ρ1 : List SD} {vs : List V} {ds : List D} (r1 : Rel X.K c F1 σ H1 ρ1) (s1 : Same F F1) (e1 : Reps X.K c.g F1 vs ds)
    (q : S ds (fun d => ∀ v F' H', Rel X.K c F' σ H' ρ1 → Same F F' → Rep X.K c.g F' v d → Q v H') fun x => Ed x ρ1) : spG X.K S vs H1 Q (WE W σ) :=
  ⟨c.g, F1, ds, r1.step.fh, r1.step.hand, e1, hS _ _ _ _ _ (fun d q v F' H' s e => q v F' H' (r1.after s) (s1.trans s.ff) e) (fun x h => lk _ _ _ _ _ r1 h) q⟩
theorem mo_Call (hS : MonoSp S) (h : Mono wr) : Mono (wCall S wr Ed) := fun ρ Q Q' k q => h _ _ _ (fun ds ρ1 q => ⟨hS _ _ _ _ _ (fun d => k d ρ1) (fun _ h => h) q.h⟩) q
theorem pd_call (F : FnOk X.prog X.w X.K X.mg X.base (L2.CX X.prog X.w) k f fd ps (spG X.K S)) (hS : MonoSp S) (lk : LinkW X.K c W Ed) (tk : Takes X W) (hr : Room k X.A) (hg : Gl X x) (hm : X.mg x = some (.ref f)) (hk : PySem.W.keepIn X.K (.ref f) = true) (hb : Binds X.K fd ps [])
    (ha : PDA c X (e :: es) wr) (hdb : (x == ("__debug__" : Str)) = false := by decide) (he : starEach (e :: es) X.env = (false, eval e X.env) :: starEach es X.env := by rfl) (hpl : (backTo pos (starEach es X.env)).any (·.1) = false := by rfl) :
    PD c X (.Call (.Name x p) (e :: es) [] pos) (wCall S wr Ed) := by
  refine ⟨(pe_callSD (E := WE W) F hr hg hm hk hb .nil (fun σ => passAt tk σ) ha.pe hdb he hpl).imp fun σ H Q ⟨F, ρ, rl, q⟩ => ⟨F, ρ, rl, ha.mo _ _ _ (fun ds ρ1 q vs F1 H1 r1 s1 e1 => ?_) q⟩, mo_Call hS ha.mo⟩
  show spG X.K S (vs ++ []) H1 Q (WE W σ)
  rw [List.append_nil]
  exact call_br hS lk r1 s1 e1 q.h
/-- keywords alone -/
structure PDK (c : C) (X : Cx) (kws : List Keyword) (w : DA) : Prop where
  pe : PK X kws (tOfA X.K c w)
  mo : Mono w
theorem pdk_nil : PDK c X [] wNil := ⟨⟨fun pos pins s σ H Q I ⟨F, ρ, rl, q⟩ => pk_nil.run pos pins s σ H Q I (q [] F H rl (Same.refl _) .nil)⟩, fun _ _ _ h q => h _ _ q⟩
theorem pdk_cons {nm : Option Str} {kpos : Pos} {kws : List Keyword} {we : DW} (he : PD c X e we) (hr : PDK c X kws wr) : PDK c X (⟨nm, e, kpos⟩ :: kws) (wCons we wr) := by
  refine ⟨⟨fun pos pins s σ H Q I ⟨F, ρ, rl, q⟩ => (pk_cons he.pe hr.pe).run pos pins s σ H Q I ⟨F, ρ, rl, he.mo ρ _ _ (fun d ρ1 q v F1 H1 r1 s1 e1 => ?_) q⟩⟩, fun ρ Q Q' h q => he.mo ρ _ _ (fun d ρ1 q => hr.mo _ _ _ (fun ds ρ2 q => h _ _ q) q) q⟩
  exact ⟨F1, ρ1, r1, hr.mo _ _ _ (fun ds ρ2 q vs F2 H2 r2 s2 e2 => q _ F2 H2 r2 (s1.trans s2) (.cons (e1.mono s2) e2)) q⟩
/-- how the keywords' values come to the parameters: all are given by name -/
structure KB0 (K : PySem.W.Frag) (fd : FuncData) (ps ks : List Str) (g : {α : Type} → List α → List α) : Prop where
  to : ∀ (s : Shared) (ws : List Value), K.In s.heap → ws.length = ks.length → BindsTo s fd ⟨[], ks.zip ws⟩ (ps.zip (g ws))
  rel : ∀ {vs : List V} {us : List Value}, Vals vs us → Vals (g vs) (g us)
  rep : ∀ {g0 : G} {F : Hp} {vs : List V} {ds : List D}, Reps K g0 F vs ds → Reps K g0 F (g vs) (g ds)
def wCallK (S : Spec) (n : Nat) (g : {α : Type} → List α → List α) (wr : DA) (Ed : DX) : DW := fun ρ Q => wr ρ fun ds ρ1 => ds.length = n ∧ Call S (g ds) (fun d => Q d ρ1) fun x => Ed x ρ1
theorem pd_callK {ks : List Str} {g : {α : Type} → List α → List α} {kws : List Keyword} (F : FnOk X.prog X.w X.K X.mg X.base (L2.CX X.prog X.w) k f fd ps (spG X.K S)) (hS : MonoSp S) (lk : LinkW X.K c W Ed) (tk : Takes X W) (hr : Room k X.A) (hg : Gl X x) (hm : X.mg x = some (.ref f)) (hk : PySem.W.keepIn X.K (.ref f) = true) (hb : KB0 X.K fd ps ks g)
    (ha : PDK c X kws wr) (hall : (backToKw pos (keywordEach kws X.env)).all (·.1.isSome) = true := by rfl) (hks : (backToKw pos (keywordEach kws X.env)).filterMap (·.1) = ks := by rfl) (hdb : (x == ("__debug__" : Str)) = false := by decide)
    (hpl : ((backTo pos (starEach [] X.env)).any (·.1) || (backToKw pos (keywordEach kws X.env)).any (·.1.isNone)) = false := by rfl) :
    PD c X (.Call (.Name x p) [] kws pos) (wCallK S ks.length g wr Ed) := by
  refine ⟨⟨fun pins s σ H Q I ⟨F0, ρ, rl, q⟩ => ?_⟩, fun ρ Q Q' k q => ha.mo _ _ _ (fun ds ρ1 q => ⟨q.1, ⟨hS _ _ _ _ _ (fun d => k d ρ1) (fun _ h => h) q.2.h⟩⟩) q⟩
  refine wpAny_Call_Name_kw (ld_glob I hg hm ?_ hdb)
  refine PySem.W.callWith_KW0 (h₀ := X.base) I.ok.mod.kin hk hall (thn (ha.pe.run pos pins s σ H (fun vs H1 => vs.length = ks.length ∧ spG X.K S (g vs) H1 Q (WE W σ)) I ⟨F0, ρ, rl, ha.mo _ _ _ (fun ds ρ1 q vs F1 H1 r1 s1 e1 => ?_) q⟩) fun us s1 ⟨vs, H1, I1, r, hl, q⟩ => ⟨I1.kIn, ?_⟩) hpl
  · exact ⟨by rw [e1.length]; exact q.1, call_br hS lk r1 s1 (hb.rep e1) q.2.h⟩
  · rw [hks]
    have r2 := hb.rel r
    refine wpAny_call (codeAny_mono (F.run X.A X.stack s1 H1 ⟨[], ks.zip us⟩ (g us) (g vs) Q (WE W σ) hr I1.env0 (hb.to s1 us I1.kIn (r.length.symm.trans hl)) r2 q) fun r s' hq => ?_)
    cases r with
    | error e => exact passAt tk σ pins H1 s1 e s' I1 hq
    | ok fl =>
      cases fl with
      | ret u => exact I1.after hq
      | next => exact False.elim hq
      | brk => exact False.elim hq
      | cont => exact False.elim hq
end

/-! ### the body of a def keeps its promise -/
theorem start_rel {K : PySem.W.Frag} {c : C} {F H : Hp} {vs : List V} {ds : List D} {N : List Str} (s : Step c.g c.F0 c.H0 F H) (r : Reps K c.g F vs ds) (hl : vs.length ≤ N.length) : Rel K c F (start N vs) H (ds.map .d ++ List.replicate (N.length - ds.length) .no) := by
  have key : ∀ {vs : List V} {ds : List D} (m : Nat), Reps K c.g F vs ds → ∀ i, (match gt (ds.map SD.d ++ List.replicate m .no) i with | .no => True | .d x => ∃ u, (vs.map some ++ List.replicate m none)[i]?.join = some u ∧ Rep K c.g F u x | _ => False) := by
    intro vs ds m r
    have rep : ∀ (m i : Nat), gt (List.replicate m SD.no) i = .no := by
      intro m
      induction m with
      | zero => intro i; rfl
      | succ m ih => intro i; cases i with
        | zero => rfl
        | succ i => exact ih i
    intro i
    induction i generalizing vs ds with
    | zero => cases r with
      | nil =>
        show (match gt (List.replicate m SD.no) 0 with | .no => True | .d x => _ | _ => False)
        rw [rep]; trivial
      | cons h r => exact ⟨_, rfl, h⟩
    | succ i ih => cases r with
      | nil =>
        show (match gt (List.replicate m SD.no) (i + 1) with | .no => True | .d x => _ | _ => False)
        rw [rep]; trivial
      | cons h r => exact ih r
  have hn := r.length
  refine ⟨s, ?_, fun i => ?_, fun i j p e => ?_⟩
  · unfold start
    simp
    omega
  · have q := key (N.length - vs.length) r i
    unfold start
    rw [← hn]
    revert q
    cases gt (ds.map SD.d ++ List.replicate (N.length - vs.length) .no) i with
    | no => intro _; trivial
    | d x => intro q; exact q
    | _ => intro q; exact q.elim
  · have q := key (N.length - vs.length) r i
    rw [hn] at q
    cases z : gt (ds.map SD.d ++ List.replicate (N.length - ds.length) .no) i <;> rw [z] at e q <;> first | exact (show False from q).elim | cases e
section
variable {P : Program} {w : World} {K : PySem.W.Frag} {mg : Str → Option Value} {base : Heap}
theorem fn_pl {x qual : Str} {stm : Stmt} {f : Addr} {fd : FuncData} {N ps : List Str} {k : Nat} {S : Spec} (Fn : Fun K x qual stm f fd) (Sc : FnScope N ps (defScope stm)) (len : ∀ ds Q E, S ds Q E → ds.length = ps.length)
    (hbody : ∀ (X : Cx) (c : C) (W : WX) (ds : List D) (Qd Ed : D → Prop), (∃ cdv A outer s H E, X = cxOf (L2.CX P w) P w K mg base N qual (defScope stm) f cdv A outer s H E ∧ W = fun cls d _ H => E cls d H) → Room k X.A → Takes X W → PassesOwn (model X.prog X.w) X.A X.env X.xe → LinkW K c W (fun x _ => Ed x) → S ds Qd Ed →
      ∃ wb, PDB c X (defBody stm) wb ∧ wb { nx := fun _ => Qd .non, rt := Qd } (ds.map .d ++ List.replicate (N.length - ds.length) .no)) :
    FnOk P w K mg base (L2.CX P w) (k + 1) f fd ps (spG K S) := by
  refine Fn.okG Sc (fun vs H Q E h => ?_) (fun cdv A outer s H vs Q E hr h => ?_)
  · obtain ⟨g, F, ds, _, _, r, q⟩ := h
    rw [r.length]
    exact len _ _ _ q
  · obtain ⟨g, F, ds, sF, hk, r, q⟩ := h
    obtain ⟨wb, pb, qb⟩ := hbody (cxOf (L2.CX P w) P w K mg base N qual (defScope stm) f cdv A outer s H E) ⟨g, F, H⟩ (fun cls d _ H => E cls d H) ds (fun d => ∀ v F' H', Step g F H F' H' → Rep K g F' v d → Q v H') (XOf K g F H E)
      ⟨cdv, A, outer, s, H, E, rfl, rfl⟩ hr (takes_of rfl rfl rfl rfl) (passes_of rfl) (link_def (c := ⟨g, F, H⟩) fun _ h => h) q
    refine ⟨_, pb.pe, F, _, start_rel (c := ⟨g, F, H⟩) (Step.refl sF hk) r ?_, pb.mo { nx := fun _ => ∀ v F' H', Step g F H F' H' → Rep K g F' v .non → Q v H', rt := fun d => ∀ v F' H', Step g F H F' H' → Rep K g F' v d → Q v H' } _ _ ⟨fun ρ q σ' F' H' rl _ => ?_, fun d q v F' H' st e => q v F' H' st e, fun _ q => q.elim, fun _ q => q.elim⟩ qb⟩
    · have e1 := len _ _ _ q
      have e2 := congrArg List.length Sc.pre
      rw [List.length_take] at e2
      have e3 := r.length
      omega
    · exact q _ F' H' rl.step .non
end
end PL
end L2

namespace L2
namespace PL
open PySem PySem.Spec PyProof.Rows
variable [Tabl]

/-! ### exceptions: their making -/
/-- what the written part says of an own exception class whose __init__ stores its arguments (ns: its fields, the last stored first) -/
structure ExcT (K : PySem.W.Frag) (mg : Str → Option Value) (nm : Str) (C fI : Addr) (ns : List Str) : Prop where
  o : OexC K C
  x : XfC K C
  iC : PySem.W.findIn K (.ref C) "__init__" = some (some (.ref fI))
  tI : PySem.W.typeIn K (.ref fI) = some (.type "function")
  g : mg nm = some (.ref C)
  no : ∀ f ∈ ns, PySem.W.findIn K (.ref C) f = some none
/-- __init__'s promise: the new exception bears its arguments, by these names -/
def spIni (ns : List Str) : Sp := fun vs H Q _ => ∃ (a C : Addr) (ws : List V), vs = .ref a :: ws ∧ ws.length = ns.length ∧ H a = some (exo a C none) ∧
  (∀ f ∈ ns, True) ∧ ∀ d, H d = none → d ≠ a → Q .non (upd (upd (upd H d (exd d [])) a (exo a C (some d))) d (exd d (ns.zip ws.reverse)))
theorem upd_swap {H : Hp} {a b : Addr} {o u : HO} (h : a ≠ b) : upd (upd H a o) b u = upd (upd H b u) a o := by
  funext x
  unfold upd
  by_cases h1 : x = b
  · by_cases h2 : x = a
    · exact absurd (h2.symm.trans h1) h
    · rw [if_pos h1, if_neg h2, if_pos h1]
  · by_cases h2 : x = a
    · rw [if_neg h1, if_pos h2, if_pos h2]
    · rw [if_neg h1, if_neg h2, if_neg h2, if_neg h1]
section
variable {P : Program} {w : World} {K : PySem.W.Frag} {mg : Str → Option Value} {base : Heap}
/-- def __init__(self, a): self.f = a, over the classes at hand -/
theorem ini1 {stm : Stmt} {fI C : Addr} {fd : FuncData} {qual f x : Str} {p1 p2 p3 p4 : Pos} (Fn : Fun K "__init__" qual stm fI fd) (Sc : FnScope ["self", x] ["self", x] (defScope stm)) (hb : defBody stm = [.Assign [.Attribute (.Name "self" p1) f p2] (.Name x p3) p4])
    (hx1 : (x == ("__debug__" : Str)) = false) (hx2 : (x == ("__classdict__" : Str)) = false) (v0 : Vis (defScope stm) "self") (v1 : Vis (defScope stm) x)
    (o : OexC K C) (no : PySem.W.findIn K (.ref C) f = some none) (hsw : ∀ env : Env, env.scope = defScope stm → swapsWith (.Name x p3) (some (.Attribute (.Name "self" p1) f p2)) p4.line env = pure false) :
    L2.FnOk P w K mg base (L2.CX P w) 1 fI fd ["self", x] (fun vs H Q _ => ∃ (a : Addr) (v : V), vs = [.ref a, v] ∧ H a = some (exo a C none) ∧ ∀ d, H d = none → d ≠ a → Q .non (upd (upd H d (exd d [(f, v)])) a (exo a C (some d)))) := by
  refine Fn.okX Sc (fun vs H Q E h => ?_) (fun cdv A outer s H vs Q E hr h => ?_)
  · obtain ⟨a, v, rfl, _⟩ := h; rfl
  · obtain ⟨a, v, rfl, ha, q⟩ := h
    rw [hb]
    refine ⟨_, pss_one (ps_ost (f := f) (pe_var (i := 0) rfl v0) (pe_var (i := 1) rfl v1 hx1 hx2) (hsw _ rfl)), ?_⟩
    refine ⟨v, rfl, .ref a, rfl, a, C, rfl, o, no, .inl ⟨ha, fun d n ne => ?_⟩⟩
    exact q d n ne
/-- def __init__(self, a, b): self.f = a; self.g = b -/
theorem ini2 {stm : Stmt} {fI C : Addr} {fd : FuncData} {qual f g x y : Str} {p1 p2 p3 p4 q1 q2 q3 q4 : Pos} (Fn : Fun K "__init__" qual stm fI fd) (Sc : FnScope ["self", x, y] ["self", x, y] (defScope stm))
    (hb : defBody stm = [.Assign [.Attribute (.Name "self" p1) f p2] (.Name x p3) p4, .Assign [.Attribute (.Name "self" q1) g q2] (.Name y q3) q4])
    (hx1 : (x == ("__debug__" : Str)) = false) (hx2 : (x == ("__classdict__" : Str)) = false) (hy1 : (y == ("__debug__" : Str)) = false) (hy2 : (y == ("__classdict__" : Str)) = false) (v0 : Vis (defScope stm) "self") (v1 : Vis (defScope stm) x) (v2 : Vis (defScope stm) y)
    (o : OexC K C) (no : PySem.W.findIn K (.ref C) f = some none) (no2 : PySem.W.findIn K (.ref C) g = some none)
    (hsw : ∀ env : Env, env.scope = defScope stm → swapsWith (.Name x p3) (some (.Attribute (.Name "self" p1) f p2)) p4.line env = pure false) (hsw2 : ∀ env : Env, env.scope = defScope stm → swapsWith (.Name y q3) (some (.Attribute (.Name "self" q1) g q2)) q4.line env = pure false) :
    L2.FnOk P w K mg base (L2.CX P w) 1 fI fd ["self", x, y] (fun vs H Q _ => ∃ (a : Addr) (v u : V), vs = [.ref a, v, u] ∧ H a = some (exo a C none) ∧ ∀ d, H d = none → d ≠ a → Q .non (upd (upd H d (exd d [(g, u), (f, v)])) a (exo a C (some d)))) := by
  refine Fn.okX Sc (fun vs H Q E h => ?_) (fun cdv A outer s H vs Q E hr h => ?_)
  · obtain ⟨a, v, u, rfl, _⟩ := h; rfl
  · obtain ⟨a, v, u, rfl, ha, q⟩ := h
    rw [hb]
    refine ⟨_, pss_cons (ps_ost (f := f) (pe_var (i := 0) rfl v0) (pe_var (i := 1) rfl v1 hx1 hx2) (hsw _ rfl)) (pss_one (ps_ost (f := g) (pe_var (i := 0) rfl v0) (pe_var (i := 2) rfl v2 hy1 hy2) (hsw2 _ rfl))), ?_⟩
    refine ⟨v, rfl, .ref a, rfl, a, C, rfl, o, no, .inl ⟨ha, fun d n ne => ?_⟩⟩
    refine ⟨u, rfl, .ref a, rfl, a, C, rfl, o, no2, .inr ⟨d, [(f, v)], upd_same, by rw [upd_ne ne]; exact upd_same, by show 1 ≤ 900; decide, ?_⟩⟩
    have e : upd (upd (upd H d (exd d [(f, v)])) a (exo a C (some d))) d (exd d [(g, u), (f, v)]) = upd (upd H d (exd d [(g, u), (f, v)])) a (exo a C (some d)) := by
      rw [upd_swap (Ne.symm ne), upd_upd]
    show Q .non (upd (upd (upd H d (exd d [(f, v)])) a (exo a C (some d))) d (exd d [(g, u), (f, v)]))
    rw [e]
    exact q d n ne
end
section
variable {X : Cx} {c : C} {W : WX} {Ed : DX} {e e2 : Expr} {we we2 : DW} {pos pp p : Pos} {nm : Str} {C fI : Addr} {k : Nat} {fd : FuncData}
/-- what remains of the made exception -/
theorem gone_eq {H : Hp} {a d : Addr} {o1 o2 o3 : HO} {fs : List (Str × V)} (n : H a = none) (ne : d ≠ a) : upd (del (upd (upd (upd H a o1) d o2) a o3) a) d (.xd fs) = upd H d (.xd fs) := by
  funext x
  by_cases h1 : x = d
  · rw [h1, upd_same, upd_same]
  · rw [upd_ne h1, upd_ne h1]
    by_cases h2 : x = a
    · rw [h2, del_same, n]
    · rw [del_ne h2, upd_ne h2, upd_ne h1, upd_ne h2]
/-- the end of a raise -/
theorem raise_end {ns : List Str} {σ : St} {F : Hp} {H : Hp} {ρ : List SD} {vs : List V} {ds : List D} (lk : LinkW X.K c W Ed) (rl : Rel X.K c F σ H ρ) (r : Reps X.K c.g F vs ds) (hl : ns.length = vs.length) (q : Ed (.obj C ns ds) ρ) {d : Addr} (n : H d = none) : W (.ref C) (some d) σ (upd H d (.xd (ns.zip vs))) := by
  have nf : F d = none := rl.freeF n
  have nt := (rl.fresh0 n).nt
  have st : Step c.g F H F (upd H d (.xd (ns.zip vs))) := ⟨Same.refl _, fun b u e => by rw [upd_ne (ne_of_none e nf)]; exact rl.step.fh _ _ e, fun a o e _ => by rw [upd_ne (ne_of_none e n)]; exact e, fun a o e => .inl e, by
    refine rl.step.hand.keep (Same.refl _) (fun _ z _ => z) fun _ o e _ => ?_
    rw [upd_ne (ne_of_none e n)]; exact e⟩
  exact lk σ F H ρ _ rl q C d ns vs ds F _ rfl st upd_same hl r n
def wRaise1 (C : Addr) (f : Str) (we : DW) (Ed : DX) : DS := fun _ ρ => we ρ fun d ρ1 => Ed (.obj C [f] [d]) ρ1
theorem pds_raise1 {f x : Str} (T : ExcT X.K X.mg nm C fI [f]) (F1 : L2.FnOk X.prog X.w X.K X.mg X.base (L2.CX X.prog X.w) k fI fd ["self", x] (fun vs H Q _ => ∃ (a : Addr) (v : V), vs = [.ref a, v] ∧ H a = some (exo a C none) ∧ ∀ d, H d = none → d ≠ a → Q .non (upd (upd H d (exd d [(f, v)])) a (exo a C (some d)))))
    (hb : Binds X.K fd ["self", x] []) (lk : LinkW X.K c W Ed) (tk : Takes X W) (hr : Room (k + 1) X.A) (hc : X.calm = true) (hg : Gl X nm) (he : PD c X e we) (hdb : (nm == ("__debug__" : Str)) = false := by decide) (hs : starEach [e] X.env = (false, eval e X.env) :: starEach [] X.env := by rfl) (hpl : (backTo pp (starEach [] X.env)).any (·.1) = false := by rfl) :
    PDS c X (.Raise (some (.Call (.Name nm p) [e] [] pp)) none pos) (wRaise1 C f we Ed) := by
  have pa := pda_cons (c := c) he pda_nil hs
  refine ⟨(ps_raise hc tk (pmk_oex T.o T.iC T.tI F1 hr.toRoom hb .nil passL hg T.g pa.pe hdb hs hpl)).imp fun E σ H ⟨F, ρ, rl, q⟩ => ?_, fun E E' ρ l q => q⟩
  have q2 : wCons we wNil ρ fun ds ρ1 => ∃ d, ds = [d] ∧ Ed (.obj C [f] [d]) ρ1 := he.mo _ _ _ (fun d ρ1 q => ⟨d, rfl, q⟩) q
  refine ⟨F, ρ, rl, pa.mo _ _ _ (fun ds ρ1 q vs F2 H1 r1 s1 e1 => ?_) q2⟩
  obtain ⟨d, rfl, q⟩ := q
  cases e1 with
  | cons k1 k2 =>
    cases k2
    rename_i v
    refine ⟨by show 1 ≤ 1000; decide, fun a na => ⟨a, v, rfl, upd_same, fun dx nd ne => ?_⟩⟩
    have nd' : H1 dx = none := by rw [upd_ne ne] at nd; exact nd
    refine ⟨rfl, dx, [(f, v)], upd_same, by rw [upd_ne ne]; exact upd_same, nd', ?_⟩
    rw [gone_eq na ne]
    exact raise_end (ns := [f]) (vs := [v]) lk r1 (.cons k1 .nil) rfl q nd'
/-- .. of two arguments -/
def wRaise2 (C : Addr) (f g : Str) (we we2 : DW) (Ed : DX) : DS := fun _ ρ => we ρ fun d ρ1 => we2 ρ1 fun d2 ρ2 => Ed (.obj C [g, f] [d2, d]) ρ2
theorem pds_raise2 {f g x y : Str} (T : ExcT X.K X.mg nm C fI [g, f]) (F1 : L2.FnOk X.prog X.w X.K X.mg X.base (L2.CX X.prog X.w) k fI fd ["self", x, y] (fun vs H Q _ => ∃ (a : Addr) (v u : V), vs = [.ref a, v, u] ∧ H a = some (exo a C none) ∧ ∀ d, H d = none → d ≠ a → Q .non (upd (upd H d (exd d [(g, u), (f, v)])) a (exo a C (some d)))))
    (hb : Binds X.K fd ["self", x, y] []) (lk : LinkW X.K c W Ed) (tk : Takes X W) (hr : Room (k + 1) X.A) (hc : X.calm = true) (hg : Gl X nm) (he : PD c X e we) (he2 : PD c X e2 we2) (hdb : (nm == ("__debug__" : Str)) = false := by decide) (hs : starEach [e, e2] X.env = (false, eval e X.env) :: starEach [e2] X.env := by rfl) (hs2 : starEach [e2] X.env = (false, eval e2 X.env) :: starEach [] X.env := by rfl) (hpl : (backTo pp (starEach [e2] X.env)).any (·.1) = false := by rfl) :
    PDS c X (.Raise (some (.Call (.Name nm p) [e, e2] [] pp)) none pos) (wRaise2 C f g we we2 Ed) := by
  have pa := pda_cons (c := c) he (pda_cons he2 pda_nil hs2) hs
  refine ⟨(ps_raise hc tk (pmk_oex T.o T.iC T.tI F1 hr.toRoom hb .nil passL hg T.g pa.pe hdb hs hpl)).imp fun E σ H ⟨F, ρ, rl, q⟩ => ?_, fun E E' ρ l q => q⟩
  have q2 : wCons we (wCons we2 wNil) ρ fun ds ρ1 => ∃ d d2, ds = [d, d2] ∧ Ed (.obj C [g, f] [d2, d]) ρ1 := he.mo _ _ _ (fun d ρ1 q => he2.mo _ _ _ (fun d2 ρ2 q => ⟨d, d2, rfl, q⟩) q) q
  refine ⟨F, ρ, rl, pa.mo _ _ _ (fun ds ρ1 q vs F2 H1 r1 s1 e1 => ?_) q2⟩
  obtain ⟨d, d2, rfl, q⟩ := q
  cases e1 with
  | cons k1 k2 =>
    cases k2 with
    | cons k2 k3 =>
      cases k3
      rename_i v u
      refine ⟨by show 2 ≤ 1000; decide, fun a na => ⟨a, v, u, rfl, upd_same, fun dx nd ne => ?_⟩⟩
      have nd' : H1 dx = none := by rw [upd_ne ne] at nd; exact nd
      refine ⟨rfl, dx, [(g, u), (f, v)], upd_same, by rw [upd_ne ne]; exact upd_same, nd', ?_⟩
      rw [gone_eq na ne]
      exact raise_end (ns := [g, f]) (vs := [u, v]) lk r1 (.cons k2 (.cons k1 .nil)) rfl q nd'
end

/-! ### try with several clauses 'except C as n' -/
def wManyA (K : PySem.W.Frag) (Wout : WX) (i : Nat) (E : Ends) : List (Value × (Addr → Value → Option Addr → TS)) → WX
  | [] => Wout
  | (c, ts) :: r => fun cls d σ H => ∃ b, PySem.W.exmOne K cls c = some b ∧ (b = true → ∀ a, H a = none → ts a cls d { nx := fun σ' H' => E.nx (σ'.set i none) H', rt := E.rt, bk := fun σ' H' => E.bk (σ'.set i none) H', ct := fun σ' H' => E.ct (σ'.set i none) H' } (σ.set i (some (.ref a))) H) ∧ (b = false → wManyA K Wout i E r cls d σ H)
inductive HdsA (X : Cx) (n : Str) : List ExceptHandler → List (Value × (Addr → Value → Option Addr → TS)) → Prop
  | nil : HdsA X n [] []
  | cons {x : Str} {c : Value} {ts : Addr → Value → Option Addr → TS} {b₀ : Stmt} {suite : List Stmt} {np pos' : Pos} {hds : List ExceptHandler} {l : List (Value × (Addr → Value → Option Addr → TS))} (hc : Names X x c)
      (hsu : ∀ (a : Addr) (oe : Obj) (cls : Value) (d : Option Addr) (pn : List (Addr × Obj)), Zc cls d oe → (∃ vs, oe.data = .fields vs) → PSs (X.suite a ((a, oe) :: pn)) (b₀ :: suite) (ts a cls d)) (r : HdsA X n hds l) :
      HdsA X n (.ExceptHandler (some (.Name x np)) (some n) (b₀ :: suite) pos' :: hds) ((c, ts) :: l)
section
variable {X : Cx} {body : List Stmt} {h₀ : ExceptHandler} {hds : List ExceptHandler} {l : List (Value × (Addr → Value → Option Addr → TS))} {pos : Pos} {tb : WX → TS} {Wout : WX} {i : Nat} {n : Str}
theorem ps_try_manyA (hs : X.stack = X.env :: X.outer) (hf : X.env.frame = some X.env.locals) (hN : X.N.Nodup) (hi : X.N[i]? = some n) (hln : X.env.kindOf n = some .local) (tk : Takes X Wout)
    (hb : ∀ (W : WX) (pn : List (Addr × Obj)) (xe : Value → Shared → Prop), Takes (X.tr pn xe) W → PassesOwn (model X.prog X.w) X.A X.env xe → PSs (X.tr pn xe) body (tb W))
    (hh : HdsA X n (h₀ :: hds) l) : PS X (.Try body (h₀ :: hds) [] [] pos) (fun E σ H => tb (wManyA X.K Wout i E l) E σ H) := by
  refine ⟨fun pins s σ H E I h => ?_⟩
  have ok := I.ok
  have hloc : Loc X.env.scope n := .inl hln
  have hfr : X.A.frames = some (X.env :: X.outer) := by rw [ok.frames, hs]
  refine wpAny_Try_except ?_
  refine wpAny_mono ((hb (wManyA X.K Wout i E l) (X.pn ++ pins) (fun e s₁ => wpAny (model X.prog X.w) X.A (noteFrame e X.env) (fun _ s₂ => wpAny (model X.prog X.w) X.A (setFlight e none) (fun _ s₃ =>
    wpAny (model X.prog X.w) X.A (handleBy e X.env (h₀ :: hds)) (SP X pins E) X.xe s₃) X.xe s₂) X.xe s₁) (fun u s' xx => ?_) PassesOwn.looking).run [] s σ H E (I.toTry _) h) (fun f s1 hsp => ?_) (fun e s1 he => he)
  · obtain ⟨a, B, sI, pins', σ', H', cls, d, rfl, J', nb, up, sky, na, os, ag, w⟩ := xx
    have J : Inv X pins σ' H' sI := J'.ofTry ok
    have sky' : Sky B (X.env :: X.outer) a (Zc cls d) X.env.locals s'.heap := by rw [← hs]; exact sky
    show wpAny (model X.prog X.w) X.A (noteFrame (.ref a) X.env) _ _ _
    refine Sky.land Zc.steady hfr hf sky' fun h3 fl3 up3 => ?_
    have J3 : Inv X pins σ' H' { s' with heap := h3 } := J.landed nb fl3.1 (up.trans up3) os ag
    obtain ⟨oe3, vs3, he3, hz3, hd3⟩ := fl3.there
    have notFr : ∀ {h : Heap} {o : Obj} {vs : Array Value}, h.FunFrames B (X.env :: X.outer) → h.get? a = some o → o.data = .fields vs → a ∉ frs (X.env :: X.outer) := fun {h o vs} ff e dd hm => by
      obtain ⟨_, o', e', hnf⟩ := ff.mem hm
      rw [e] at e'; cases e'
      exact hnf _ dd
    have nfr := notFr fl3.2.2.1 he3 hd3
    have nL : a ≠ X.env.locals := fun z => nfr (List.mem_filterMap.mpr ⟨X.env, List.mem_cons_self, by rw [hf, z]⟩)
    have nF : a ∉ X.fs := fun hm => by
      obtain ⟨e, he, q⟩ := List.mem_filterMap.mp hm
      exact nfr (List.mem_filterMap.mpr ⟨e, List.mem_cons_of_mem _ he, q⟩)
    have S3 := J3.suite he3 hd3 na nL nF
    have go : ∀ {hds' : List ExceptHandler} {l' : List (Value × (Addr → Value → Option Addr → TS))}, HdsA X n hds' l' → wManyA X.K Wout i E l' cls d σ' H' →
        wpAny (model X.prog X.w) X.A (handleBy (.ref a) X.env hds') (SP X pins E) X.xe { s' with heap := h3 } := by
      intro hds' l' hk
      induction hk with
      | nil =>
        intro w
        refine wpAny_handleBy_nil ?_
        obtain ⟨k1, k2, k3, oe, vs, T, oT, ts', he, hz, hd, h1, hr⟩ := id fl3
        unfold PySem.passOn
        refine wpAny_bind (wpAny_field he hd h1 ?_)
        rw [if_neg (show ¬ ((Value.ref T == Value.none) = true) from by simp)]
        have fin : wpAny (model X.prog X.w) X.A (setFlight (.ref a) X.env.frame) (fun _ s4 => wpAny (model X.prog X.w) X.A (throw (.ref a) : Sem Flow) (SP X pins E) X.xe s4) X.xe { s' with heap := h3 } := by
          rw [hf]
          refine HandSPX.setFlight_upZ fl3 fun h4 hh4 up4 => wpAny_throw (tk _ _ ?_)
          exact ⟨a, B, sI, pins, σ', H', cls, d, rfl, J, nb, (up.trans up3).trans up4, .inr (.inr (by rw [hs]; exact hh4)), na, os, ag, w⟩
        first
          | exact wpAny_bind (wpAny_pure (wpAny_bind fin))
          | exact wpAny_bind fin
      | @cons x c ts b₀ suite np pos' hds2 l2 hc hsu r ih =>
        intro w
        obtain ⟨b, hb1, hyes, hno⟩ := w
        refine wpAny_handleBy_cons (codeAny_handlers_test ?_) (by intro q; cases q)
        have LT : PySem.W.Looks (model X.prog X.w) h3 (typeOf (.ref a)) cls := fun A Q E s k q => wpAny_typeOf_ref (k _ _ he3) (by rw [hz3.1]; exact q)
        have LM := PySem.W.exm_one (M := model X.prog X.w) (J3.kIn) LT hb1
        have test : ∀ {Q : Value → Shared → Prop} {E : Value → Shared → Prop}, Q c { s' with heap := h3 } → wpAny (model X.prog X.w) (X.A.mark (some (.ref a))) (eval (.Name x np) X.env) Q E { s' with heap := h3 } := fun {Q E} q => by
          obtain ⟨hg, hdbg, hm | ⟨hm, hv, hnn⟩⟩ := hc
          · exact ld_glob (X := X.suite a ((a, oe3) :: (X.pn ++ pins))) S3 hg hm q hdbg
          · exact ld_blt (X := X.suite a ((a, oe3) :: (X.pn ++ pins))) S3 hg hm hv q hnn hdbg
        refine test (LM.here ?_)
        cases b with
        | true =>
          refine codeAny_handlers_suite_as ?_
          refine HandSPX.lands_againZ fl3 fun h4 fl4 up4 => ?_
          have J4 : Inv X pins σ' H' { s' with heap := h4 } := J.landed nb fl4.1 ((up.trans up3).trans up4) os ag
          obtain ⟨oe4, vs4, he4, hz4, hd4⟩ := fl4.there
          have S4 := J4.suite he4 hd4 na nL nF
          refine store_ok (X := X.suite a ((a, oe4) :: (X.pn ++ pins))) (v := .ref a) S4 hN hi hloc rfl (fun s5 S5 => ?_) (.inr hln)
          refine wpAny_mono ((hsu a oe4 cls d (X.pn ++ pins) hz4 ⟨_, hd4⟩).run [] s5 _ H' _ S5 (hyes rfl a na)) (fun f s6 hsp => ?_) (fun _ _ z => False.elim z)
          have end_ : ∀ {σ6 : St} {H6 : Hp} {Q : Shared → Prop}, Inv (X.suite a ((a, oe4) :: (X.pn ++ pins))) [] σ6 H6 s6 → (∀ s7, Inv X pins (σ6.set i none) H6 s7 → Q s7) →
              wpAny (model X.prog X.w) X.A (do bindName X.env n .none; unbindBehindTheSuite X.env n pos') (fun _ s7 => Q s7) X.xe s6 := fun {σ6 H6 Q} S6 hq => gone_ok (S6.unsuite ok) hN hi hln hq
          cases f with
          | next =>
            obtain ⟨σ6, H6, S6, q6⟩ := hsp
            exact end_ S6 fun s7 J7 => ⟨_, _, J7, q6⟩
          | brk =>
            obtain ⟨σ6, H6, S6, q6⟩ := hsp
            exact end_ S6 fun s7 J7 => ⟨_, _, J7, q6⟩
          | cont =>
            obtain ⟨σ6, H6, S6, q6⟩ := hsp
            exact end_ S6 fun s7 J7 => ⟨_, _, J7, q6⟩
          | ret u =>
            obtain ⟨v6, σ6, H6, S6, r6, q6⟩ := hsp
            exact end_ S6 fun s7 J7 => ⟨_, _, _, J7, r6, q6⟩
        | false =>
          show wpAny _ X.A (handleBy (.ref a) X.env hds2) _ _ _
          exact ih (hno rfl)
    exact go hh w
  · cases f with
    | next =>
      obtain ⟨σ', H', J', q⟩ := hsp
      exact wpAny_execs_nil ⟨σ', H', J'.ofTry ok, q⟩
    | brk =>
      obtain ⟨σ', H', J', q⟩ := hsp
      exact ⟨σ', H', J'.ofTry ok, q⟩
    | cont =>
      obtain ⟨σ', H', J', q⟩ := hsp
      exact ⟨σ', H', J'.ofTry ok, q⟩
    | ret u =>
      obtain ⟨v, σ', H', J', r, q⟩ := hsp
      exact ⟨v, σ', H', J'.ofTry ok, r, q⟩
/-- an except suite that hands back a value -/
def SuiteOk (X : Cx) (g : G) (sts : List Stmt) (ws : Addr → D → DS) : Prop := ∀ (a : Addr) (oe : Obj) (cls : Value) (d : Option Addr) (pn : List (Addr × Obj)), Zc cls d oe → (∃ vs, oe.data = .fields vs) → ∀ (c' : C) (Ce dd : Addr) (ns : List Str) (xs : List V) (ds : List D), c'.g = g → cls = .ref Ce → d = some dd →
  c'.H0 dd = some (.xd (ns.zip xs)) → ns.length = xs.length → Reps X.K g c'.F0 xs ds → Kp g dd → PDB c' (X.suite a ((a, oe) :: pn)) sts (ws a (.obj Ce ns ds))
def rtE (E : DE) : DE := { nx := fun _ => False, rt := E.rt }
def hdlW (K : PySem.W.Frag) (i : Nat) (Ed0 : DX) (E : DE) : List (Addr × (Addr → D → DS)) → DX
  | [] => Ed0
  | (Cj, ws) :: r => fun x ρ => ∃ C ns ds b, x = .obj C ns ds ∧ PySem.W.exmOne K (.ref C) (.ref Cj) = some b ∧ (b = true → ∀ a, ws a x (rtE E) (st (roD ρ) i (.ad a))) ∧ (b = false → hdlW K i Ed0 E r x ρ)
def wTry (K : PySem.W.Frag) (i : Nat) (wb : DX → DS) (hs : List (Addr × (Addr → D → DS))) (Ed0 : DX) : DS := fun E ρ => ∃ Ed, (∀ x ρ1, Ed x ρ1 → hdlW K i Ed0 E hs x ρ1) ∧ wb Ed E ρ
inductive HdsD (X : Cx) (g : G) (n : Str) : List ExceptHandler → List (Addr × (Addr → D → DS)) → Prop
  | nil : HdsD X g n [] []
  | cons {x : Str} {Cj : Addr} {ws : Addr → D → DS} {b₀ : Stmt} {suite : List Stmt} {np pos' : Pos} {hds : List ExceptHandler} {l : List (Addr × (Addr → D → DS))} (hc : Names X x (.ref Cj)) (hsu : SuiteOk X g (b₀ :: suite) ws) (hm : ∀ a x, MonoS (ws a x)) (r : HdsD X g n hds l) :
      HdsD X g n (.ExceptHandler (some (.Name x np)) (some n) (b₀ :: suite) pos' :: hds) ((Cj, ws) :: l)
def tsOf (X : Cx) (g : G) (ws : Addr → D → DS) : Addr → Value → Option Addr → TS := fun a cls d E σ H => ∃ (c' : C) (Ce dd : Addr) (ns : List Str) (xs : List V) (ds : List D), c'.g = g ∧ cls = .ref Ce ∧ d = some dd ∧
  c'.H0 dd = some (.xd (ns.zip xs)) ∧ ns.length = xs.length ∧ Reps X.K g c'.F0 xs ds ∧ Kp g dd ∧ sOf X.K c' (ws a (.obj Ce ns ds)) E σ H
theorem hdsA_of {g : G} {hds : List ExceptHandler} {hs : List (Addr × (Addr → D → DS))} (h : HdsD X g n hds hs) : HdsA X n hds (hs.map fun p => (.ref p.1, tsOf X g p.2)) := by
  induction h with
  | nil => exact .nil
  | cons hc hsu hm r ih =>
    refine .cons hc (fun a oe cls d pn hz hf => ⟨fun pins s σ H E I h => ?_⟩) ih
    obtain ⟨c', Ce, dd, ns, xs, ds, h1, h2, h3, h4, h5, h6, h7, q⟩ := h
    exact (hsu a oe cls d pn hz hf c' Ce dd ns xs ds h1 h2 h3 h4 h5 h6 h7).pe.run pins s σ H E I q
theorem hdl_mo {g : G} {Ed0 : DX} {hds : List ExceptHandler} {hs : List (Addr × (Addr → D → DS))} (h : HdsD X g n hds hs) {E E' : DE} (l : E.Le E') : ∀ x ρ, hdlW X.K i Ed0 E hs x ρ → hdlW X.K i Ed0 E' hs x ρ := by
  induction h with
  | nil => intro x ρ q; exact q
  | cons hc hsu hm r ih =>
    rintro x ρ ⟨C, ns, ds, b, e1, e2, q1, q2⟩
    exact ⟨C, ns, ds, b, e1, e2, fun z a => hm a x (rtE E) (rtE E') _ ⟨fun _ h => h.elim, l.rt, fun _ h => h, fun _ h => h⟩ (q1 z a), fun z => ih _ _ (q2 z)⟩
theorem link_try {c : C} {Ed0 Ed : DX} {hds : List ExceptHandler} {hs : List (Addr × (Addr → D → DS))} (h : HdsD X c.g n hds hs) (lk : LinkW X.K c Wout Ed0) {F : Hp} {E : Ends} (he : ∀ x ρ1, Ed x ρ1 → hdlW X.K i Ed0 (endsOf X.K c F E) hs x ρ1) :
    LinkW X.K c (wManyA X.K Wout i E (hs.map fun p => (.ref p.1, tsOf X c.g p.2))) Ed := by
  intro σ F1 H1 ρ x rl hx
  have q := he x ρ hx
  clear he hx
  intro C a ns xs ds F2 H2 ex st ea hl rep na
  induction h with
  | nil => exact lk σ F1 H1 ρ x rl q C a ns xs ds F2 H2 ex st ea hl rep na
  | cons hc hsu hm r ih =>
    obtain ⟨C', ns', ds', b, e1, e2, q1, q2⟩ := q
    subst e1
    cases ex
    refine ⟨b, e2, fun z a0 n0 => ?_, fun z => ih (q2 z)⟩
    have r2 := rl.after st
    have r3 := (r2.block []).seta (i := i) (a := a0)
    have nt : Kp c.g a := rl.step.hand.kp na
    refine ⟨⟨c.g, F2, H2⟩, C, a, ns, xs, ds, rfl, rfl, rfl, ea, hl, rep, nt, F2, _, r3, hm _ _ (rtE (endsOf X.K c F E)) _ _ ⟨fun _ h => h.elim, fun d q v F3 H3 s3 e3 => ?_, fun _ h => h.elim, fun _ h => h.elim⟩ (q1 z a0)⟩
    exact q v F3 H3 (r2.step.trans s3) e3
theorem pds_try {c : C} {Ed0 : DX} {wb : DX → DS} {hs : List (Addr × (Addr → D → DS))} (hst : X.stack = X.env :: X.outer) (hf : X.env.frame = some X.env.locals) (hN : X.N.Nodup) (hi : X.N[i]? = some n) (hln : X.env.kindOf n = some .local) (tk : Takes X Wout) (lk : LinkW X.K c Wout Ed0)
    (hb : ∀ (W : WX) (pn : List (Addr × Obj)) (xe : Value → Shared → Prop) (Ed : DX), Takes (X.tr pn xe) W → PassesOwn (model X.prog X.w) X.A X.env xe → LinkW X.K c W Ed → PDB c (X.tr pn xe) body (wb Ed)) (hbm : ∀ Ed, MonoS (wb Ed)) (hh : HdsD X c.g n (h₀ :: hds) hs) :
    PDS c X (.Try body (h₀ :: hds) [] [] pos) (wTry X.K i wb hs Ed0) := by
  refine ⟨(ps_try_manyA (tb := fun W E σ H => ∃ Ed, LinkW X.K c W Ed ∧ sOf X.K c (wb Ed) E σ H) hst hf hN hi hln tk (fun W pn xe tk' hp => ⟨fun pins s σ H E I ⟨Ed, lk', q⟩ => ?_⟩) (hdsA_of hh)).imp fun E σ H ⟨F, ρ, rl, Ed, he, q⟩ => ?_, fun E E' ρ l ⟨Ed, he, q⟩ => ⟨Ed, fun x ρ1 z => hdl_mo hh l x ρ1 (he x ρ1 z), hbm Ed _ _ _ l q⟩⟩
  · exact (hb W pn xe Ed tk' hp lk').pe.run pins s σ H E I q
  · exact ⟨Ed, link_try hh lk he, F, ρ, rl, q⟩
/-- n.f of the caught exception, in the suite -/
def fldX (f : Str) : D → Option D
  | .obj _ ns ds => (ns.zip ds).lookup f
  | _ => none
def wExc (i : Nat) (a : Addr) (x : D) (f : Str) : DW := fun ρ Q => match gt ρ i, fldX f x with
  | .ad b, some d => b = a ∧ Q d ρ
  | _, _ => False
theorem lookup_reps {K : PySem.W.Frag} {g : G} {F : Hp} {f : Str} {d : D} : ∀ {ns : List Str} {xs : List V} {ds : List D}, Reps K g F xs ds → (ns.zip ds).lookup f = some d → ∃ v, (ns.zip xs).lookup f = some v ∧ Rep K g F v d
  | [], _, _, _, h => by simp at h
  | _ :: _, _, _, .nil, h => by simp at h
  | m :: ns, _, _, .cons h1 r, h => by
    simp only [List.zip_cons_cons, List.lookup] at h ⊢
    split at h
    · cases h; exact ⟨_, rfl, h1⟩
    · exact lookup_reps r h
theorem pd_exc {a Ce dd : Addr} {oe : Obj} {cls : Value} {d : Option Addr} {pn : List (Addr × Obj)} {c' : C} {g : G} {ns : List Str} {xs : List V} {ds : List D} {f : Str} {p p2 : Pos} (hi : X.N[i]? = some n) (hv : Vis X.env.scope n) (hz : Zc cls d oe) (hf : ∃ vs, oe.data = .fields vs) (hg : c'.g = g) (hc : cls = .ref Ce) (hd : d = some dd)
    (hx : c'.H0 dd = some (.xd (ns.zip xs))) (hr : Reps X.K g c'.F0 xs ds) (nt : Kp g dd) (T : ∀ f' ∈ ns, f' = f → XfC X.K Ce ∧ PySem.W.findIn X.K (.ref Ce) f = some none) (hfn : f ∈ ns)
    (hdb : (n == ("__debug__" : Str)) = false := by decide) (hcd : (n == ("__classdict__" : Str)) = false := by decide) (hb : attributeBase (.Name n p) f X.env (eval (.Name n p) X.env) = eval (.Name n p) X.env := by rfl) :
    PD c' (X.suite a ((a, oe) :: pn)) (.Attribute (.Name n p) f p2) (wExc i a (.obj Ce ns ds) f) := by
  subst hg
  obtain ⟨t1, t2⟩ := T f hfn rfl
  refine ⟨(pe_xf t1 t2 hz hf (pe_var (X := X.suite a ((a, oe) :: pn)) (i := i) hi hv hdb hcd) hb).imp fun σ H Q ⟨F, ρ, rl, q⟩ => ?_, fun ρ Q Q' k q => ?_⟩
  · unfold wExc at q
    split at q
    · rename_i b d0 e1 e2
      obtain ⟨rfl, q⟩ := q
      have sl := rl.slot i
      rw [e1] at sl
      obtain ⟨v, e3, r⟩ := lookup_reps hr e2
      exact ⟨_, join_some sl, rfl, hc, dd, _, v, hd, rl.step.keep dd _ hx nt, e3, q v F H rl (Same.refl _) (r.mono rl.step.ff)⟩
    · exact q.elim
  · unfold wExc at q ⊢
    split at q
    · exact ⟨q.1, k _ _ q.2⟩
    · exact q.elim
end
end PL
end L2

namespace L2
namespace PL
open PySem PySem.Spec PyProof.Rows
variable [Tabl]

/-! ### instances -/
/-- what the class's text must have for its fields -/
structure FldT (K : PySem.W.Frag) (C : Addr) (f : Str) : Prop where
  c : Cls K C
  n : NoAttr K C f
section
variable {X : Cx} {c : C} {e e2 : Expr} {we : DW} {pos pp p : Pos} {x f : Str} {i : Nat}
theorem putF_new {v : V} : ∀ {ns : List Str} {vs : List V}, ns.length = vs.length → f ∉ ns → putF f v (ns.zip vs) = (ns ++ [f]).zip (vs ++ [v])
  | [], [], _, _ => rfl
  | m :: ns, y :: vs, h, n => by
    have h1 : m ≠ f := fun z => n (by rw [z]; exact List.mem_cons_self)
    simp only [List.zip_cons_cons, List.cons_append, putF, if_neg h1]
    rw [putF_new (by simpa using h) fun z => n (List.mem_cons_of_mem _ z)]
/-- self.f = e, in __init__ -/
def wSetF (i : Nat) (C : Addr) (f : Str) (we : DW) : DS := fun E ρ => we ρ fun d ρ1 => match gt ρ1 i with
  | .oi a C' ns l => C' = C ∧ (ns.contains f = false ∧ ns.length < 900) ∧ E.nx (st ρ1 i (.oi a C (ns ++ [f]) (l ++ [d])))
  | _ => False
theorem pds_setF {C : Addr} {p1 p2 : Pos} (T : FldT X.K C f) (ho : PE X (.Name x p1) (tVar i)) (he : PD c X e we) (hs : swapsWith e (some (.Attribute (.Name x p1) f p2)) pos.line X.env = pure false := by rfl) :
    PDS c X (.Assign [.Attribute (.Name x p1) f p2] e pos) (wSetF i C f we) := by
  refine ⟨(ps_fld ho he.pe hs).imp fun E σ H ⟨F, ρ, rl, q⟩ => ⟨F, ρ, rl, he.mo _ _ _ (fun d ρ1 q v F1 H1 r1 s1 e1 => ?_) q⟩, fun E E' ρ le q => he.mo _ _ _ (fun d ρ1 q => ?_) q⟩
  · cases g : gt ρ1 i with
    | oi a C' ns l =>
      rw [g] at q
      obtain ⟨rfl, ⟨n1, n2⟩, q⟩ := q
      obtain ⟨p', o, k1, k2, k3, k4, k5, k6⟩ := r1.owns (i := i) (by rw [g]; rfl)
      rw [g] at k6
      obtain ⟨rfl, dx, vs, rfl, k7, k8⟩ := k6
      refine ⟨.ref p', join_some k1, p', C', dx, ns.zip vs, rfl, k2, T.c, T.n, ?_, ?_⟩
      · rw [List.length_zip]; omega
      rw [putF_new k7 (by simpa using n1)]
      refine q σ F1 _ (r1.write (by rw [g]; rfl) k1 rfl ⟨rfl, dx, vs ++ [v], rfl, by simp [k7], k8.append (.cons e1 .nil)⟩) s1
    | _ => rw [g] at q; exact (show False from q).elim
  · cases g : gt ρ1 i with
    | oi a C' ns l =>
      rw [g] at q
      exact ⟨q.1, q.2.1, le.nx _ q.2.2⟩
    | _ => rw [g] at q; exact (show False from q).elim
/-- e.f -/
def wFld (C : Addr) (f : Str) (we : DW) : DW := fun ρ Q => we ρ fun d ρ1 => match d, fldX f d with
  | .obj C' _ _, some v => C' = C ∧ Q v ρ1
  | _, _ => False
theorem pd_fld {C : Addr} (T : FldT X.K C f) (he : PD c X e we) (hb : attributeBase e f X.env (eval e X.env) = eval e X.env := by rfl) : PD c X (.Attribute e f pos) (wFld C f we) := by
  refine ⟨(pe_fld he.pe hb).imp fun σ H Q ⟨F, ρ, rl, q⟩ => ⟨F, ρ, rl, he.mo _ _ _ (fun d ρ1 q v F1 H1 r1 s1 e1 => ?_) q⟩, fun ρ Q Q' k q => he.mo _ _ _ (fun d ρ1 q => ?_) q⟩
  · rename_i q0
    clear q0
    cases d with
    | obj C' ns l =>
      cases g : fldX f (.obj C' ns l) with
      | none => rw [g] at q; exact (show False from q).elim
      | some u =>
        rw [g] at q
        obtain ⟨qc, q2⟩ := q
        subst qc
        cases e1 with
        | obj h1 h2 h3 =>
          obtain ⟨w, k1, k2⟩ := lookup_reps h3 g
          exact ⟨_, _, _, _, w, rfl, r1.step.fh _ _ h1, T.c, T.n, k1, q2 w F1 H1 r1 s1 k2⟩
    | _ => exact (show False from q).elim
  · cases d with
    | obj C' ns l =>
      cases g : fldX f (.obj C' ns l) with
      | none => rw [g] at q; exact (show False from q).elim
      | some u => rw [g] at q; exact ⟨q.1, k _ _ q.2⟩
    | _ => exact (show False from q).elim
end

/-! ### __init__, the making of an instance -/
/-- what __init__ is wished to do: the fields that it leaves -/
abbrev SpI := List D → (List Str → List D → Prop) → (D → Prop) → Prop
def MonoI (S : SpI) : Prop := ∀ ds Q Q' E E', (∀ ns l, Q ns l → Q' ns l) → (∀ d, E d → E' d) → S ds Q E → S ds Q' E'
def spI (K : PySem.W.Frag) (C : Addr) (S : SpI) : Sp := fun vs H Q E => ∃ (g : G) (F H0 : Hp) (ds : List D) (us : List V) (x dx : Addr), vs = .ref x :: us ∧ H = upd (upd H0 dx (.own x)) x (.ins C dx []) ∧ H0 x = none ∧ H0 dx = none ∧ dx ≠ x ∧ Same F H0 ∧ HandOk g F H0 ∧ Reps K g F us ds ∧
  S ds (fun ns l => ∀ F' H' d' ws, Step g F H0 F' H' → H' x = some (.ins C d' (ns.zip ws)) → ns.length = ws.length → Reps K g F' ws l → F' x = none → Q .non H') (XOf K g F H0 E)
section
variable {K : PySem.W.Frag} {g : G} {F H0 : Hp} {x dx C : Addr}
theorem Step.made (sF : Same F H0) (hk : HandOk g F H0) (n : H0 x = none) (m : H0 dx = none) (ne : dx ≠ x) : Step g F H0 F (upd (upd H0 dx (.own x)) x (.ins C dx [])) := by
  have old : ∀ {b : Addr} {o : HO}, H0 b = some o → upd (upd H0 dx (.own x)) x (.ins C dx []) b = some o := fun {b o} e => by
    rw [upd_ne (ne_of_none e n), upd_ne (ne_of_none e m)]; exact e
  exact ⟨Same.refl _, fun b u e => old (sF _ _ e), fun a o e _ => old e, fun a o e => .inl e, hk.keep (Same.refl _) (fun _ z _ => z) fun _ o e _ => old e⟩
end
section
variable {P : Program} {w : World} {K : PySem.W.Frag} {mg : Str → Option Value} {base : Heap}
/-- __init__'s text keeps its promise -/
theorem fn_init {x qual : Str} {stm : Stmt} {f C : Addr} {fd : FuncData} {N ps : List Str} {k : Nat} {S : SpI} (Fn : Fun K x qual stm f fd) (Sc : FnScope N ps (defScope stm)) (len : ∀ ds Q E, S ds Q E → ds.length + 1 = ps.length)
    (hbody : ∀ (X : Cx) (c : PL.C) (W : WX) (ds : List D) (a : Addr) (Qd : List Str → List D → Prop) (Ed : D → Prop), (∃ cdv A outer s H E, X = cxOf (L2.CX P w) P w K mg base N qual (defScope stm) f cdv A outer s H E ∧ W = fun cls d _ H => E cls d H) → Room k X.A → Takes X W → PassesOwn (model X.prog X.w) X.A X.env X.xe → LinkW X.K c W (fun x _ => Ed x) → S ds Qd Ed →
      ∃ wb, PDB c X (defBody stm) wb ∧ wb { nx := fun ρ => ∃ ns l, gt ρ 0 = .oi a C ns l ∧ Qd ns l, rt := fun _ => False } (.oi a C [] [] :: (ds.map .d ++ List.replicate (N.length - (ds.length + 1)) .no))) :
    FnOk P w K mg base (L2.CX P w) (k + 1) f fd ps (spI K C S) := by
  refine Fn.okG Sc (fun vs H Q E h => ?_) (fun cdv A outer s H vs Q E hr h => ?_)
  · obtain ⟨g, F, H0, ds, us, x, dx, rfl, _, _, _, _, _, _, r, q⟩ := h
    rw [List.length_cons, r.length]
    exact len _ _ _ q
  · obtain ⟨g, F, H0, ds, us, a, dx, rfl, rfl, n1, n2, n3, sF, hk, r, q⟩ := h
    have hl := len _ _ _ q
    obtain ⟨wb, pb, qb⟩ := hbody (cxOf (L2.CX P w) P w K mg base N qual (defScope stm) f cdv A outer s (upd (upd H0 dx (.own a)) a (.ins C dx [])) E) ⟨g, F, H0⟩ (fun cls d _ H => E cls d H) ds a _ _
      ⟨cdv, A, outer, s, _, E, rfl, rfl⟩ hr (takes_of rfl rfl rfl rfl) (passes_of rfl) (link_def (c := ⟨g, F, H0⟩) fun _ h => h) q
    have e3 := r.length
    have e2 := congrArg List.length Sc.pre
    rw [List.length_take] at e2
    have r0 : Rel K ⟨g, F, H0⟩ F (start N (.ref a :: us)) (upd (upd H0 dx (.own a)) a (.ins C dx [])) ((D.non :: ds).map SD.d ++ List.replicate (N.length - (ds.length + 1)) .no) → Rel K ⟨g, F, H0⟩ F (start N (.ref a :: us)) (upd (upd H0 dx (.own a)) a (.ins C dx [])) ((D.non :: ds).map SD.d ++ List.replicate (N.length - (ds.length + 1)) .no) := fun h => h
    have fr : Fresh0 ⟨g, F, H0⟩ F (start N (.non :: us)) ((D.non :: ds).map SD.d ++ List.replicate (N.length - (ds.length + 1)) .no) a := by
      have st0 := Step.made (C := C) sF hk n1 n2 n3
      refine ⟨?_, n1, ?_, fun k z => ?_⟩
      · cases q : F a with
        | none => rfl
        | some o => rw [sF _ _ q] at n1; cases n1
      · exact hk.kp n1
      · exfalso
        have nog : ∀ (l : List D) (m k : Nat), isO (gt (l.map SD.d ++ List.replicate m .no) k) = false := by
          intro l m
          induction l with
          | nil =>
            induction m with
            | zero => intro k; rfl
            | succ m ih => intro k; cases k with
              | zero => rfl
              | succ k => exact ih k
          | cons d l ih => intro k; cases k with
            | zero => rfl
            | succ k => exact ih k
        rw [nog] at z
        cases z
    have r1 : Rel K ⟨g, F, H0⟩ F (start N (.non :: us)) (upd (upd H0 dx (.own a)) a (.ins C dx [])) ((D.non :: ds).map SD.d ++ List.replicate (N.length - (D.non :: ds).length) .no) :=
      start_rel (c := ⟨g, F, H0⟩) (ds := .non :: ds) (Step.made sF hk n1 n2 n3) (.cons .non r) (by rw [List.length_cons]; omega)
    rw [List.length_cons] at r1
    have r2 := r1.adopt (i := 0) (x := .oi a C [] []) fr upd_same ⟨rfl, dx, [], rfl, rfl, .nil⟩ rfl
    have e1 : (start N (V.non :: us)).set 0 (some (.ref a)) = start N (.ref a :: us) := by
      unfold start; rfl
    rw [e1] at r2
    refine ⟨_, pb.pe, F, _, r2, pb.mo _ _ _ ⟨fun ρ q σ' F' H' rl _ => ?_, fun d (q : False) => q.elim, fun _ (q : False) => q.elim, fun _ (q : False) => q.elim⟩ qb⟩
    obtain ⟨ns, l, e, q⟩ := q
    obtain ⟨p', o, k1, k2, k3, k4, k5, k6⟩ := rl.owns (i := 0) (by rw [e]; rfl)
    rw [e] at k6
    obtain ⟨rfl, d', ws, rfl, k7, k8⟩ := k6
    exact q F' H' d' ws rl.step k2 k7 k8 k3
end
section
variable {X : Cx} {c : C} {k : Nat} {C f : Addr} {fd : FuncData} {ps : List Str} {S : SpI} {W : WX} {Ed : DX} {x : Str} {p pos : Pos} {e : Expr} {es : List Expr} {wr : DA}
structure MakeC (S : SpI) (ds : List D) (Q : List Str → List D → Prop) (E : D → Prop) : Prop where
  h : S ds Q E
def wMake (C : Addr) (S : SpI) (wr : DA) (Ed : DX) : DW := fun ρ Q => wr ρ fun ds ρ1 => MakeC S ds (fun ns l => Q (.obj C ns l) ρ1) fun x => Ed x ρ1
/-- C(e, ..) -/
theorem pd_make (M : Mk X.K C f) (Fi : FnOk X.prog X.w X.K X.mg X.base (L2.CX X.prog X.w) k f fd ps (spI X.K C S)) (hS : MonoI S) (lk : LinkW X.K c W Ed) (tk : Takes X W) (hr : Room (k + 1) X.A) (hg : Gl X x) (hm : X.mg x = some (.ref C)) (hb : Binds X.K fd ps [])
    (ha : PDA c X (e :: es) wr) (hdb : (x == ("__debug__" : Str)) = false := by decide) (he : starEach (e :: es) X.env = (false, eval e X.env) :: starEach es X.env := by rfl) (hpl : (backTo pos (starEach es X.env)).any (·.1) = false := by rfl) :
    PD c X (.Call (.Name x p) (e :: es) [] pos) (wMake C S wr Ed) := by
  refine ⟨⟨fun pins s σ H Q I ⟨F0, ρ, rl, q⟩ => ?_⟩, fun ρ Q Q' h q => ha.mo _ _ _ (fun ds ρ1 q => ⟨hS _ _ _ _ _ (fun ns l => h _ ρ1) (fun _ h => h) q.h⟩) q⟩
  refine wpAny_Call_Name_kw (ld_glob I hg hm ?_ hdb)
  have want := ha.pe.run pos pins s σ H (fun vs H1 => ∃ F1 ρ1 ds, Rel X.K c F1 σ H1 ρ1 ∧ Same F0 F1 ∧ Reps X.K c.g F1 vs ds ∧ S ds (fun ns l => ∀ v F' H', Rel X.K c F' σ H' ρ1 → Same F0 F' → Rep X.K c.g F' v (.obj C ns l) → Q v H') (fun x => Ed x ρ1)) I
    ⟨F0, ρ, rl, ha.mo _ _ _ (fun ds ρ1 q vs F1 H1 r1 s1 e1 => ⟨F1, ρ1, ds, r1, s1, e1, q.h⟩) q⟩
  refine PySem.W.callWith_K (h₀ := X.base) I.ok.mod.kin M.kp (thn want fun us s1 ⟨vs, H1, I1, r, F1, ρ1, ds, r1, sF, e1, q⟩ => ⟨I1.kIn, ?_⟩) he hpl
  have n1 : H1 (s1.heap.objs.size + 1) = none := I1.hok.fresh (Nat.le_succ _)
  have n2 : H1 s1.heap.objs.size = none := I1.hok.fresh (Nat.le_refl _)
  have n3 : s1.heap.objs.size ≠ s1.heap.objs.size + 1 := Nat.ne_of_lt (Nat.lt_succ_self _)
  generalize hx : s1.heap.objs.size + 1 = x1 at *
  generalize hdx : s1.heap.objs.size = dx1 at *
  have hsp : spI X.K C S (.ref x1 :: vs) (upd (upd H1 dx1 (.own x1)) x1 (.ins C dx1 [])) (fun v H2 => v = .non ∧ Q (.ref x1) H2) (WE W σ) := by
    refine ⟨c.g, F1, H1, ds, vs, x1, dx1, rfl, rfl, n1, n2, n3, r1.step.fh, r1.step.hand, e1, hS _ _ _ _ _ (fun ns l q F' H' d' ws st ex el rp nf => ⟨rfl, ?_⟩) (fun y h => lk _ _ _ _ _ r1 h) q⟩
    have r2 := r1.after st
    have fr := r1.fresh0 n1
    have fr2 : Fresh0 c F' σ ρ1 x1 := ⟨nf, fr.n0, fr.nt, fr.ns⟩
    obtain ⟨s3, r3⟩ := r2.freeze0 fr2 ex
    exact q _ _ H' r3 ((sF.trans st.ff).trans s3) (.obj upd_same el (rp.mono s3))
  have I2 := Inv.made (C := C) I1
  rw [hdx, hx] at I2
  have r2 : Vals (V.ref x1 :: vs) (Value.ref x1 :: us) := .cons rfl r
  have hl : (Value.ref x1 :: us).length = ps.length := by rw [← r2.length]; exact Fi.len _ _ _ _ hsp
  have bd := hb _ (Value.ref x1 :: us) I2.kIn (by rw [List.append_nil]; exact hl)
  rw [List.append_nil] at bd
  have e0 := I2.env0.make C us []
  refine wpAny_call (make_map (f := f) I1.kIn M.makes M.init (beq_iff_eq.mp M.fn) ?_)
  rw [hdx, hx]
  refine codeAny_mono (Fi.run _ X.stack _ _ ⟨Value.ref x1 :: us, []⟩ (Value.ref x1 :: us) _ _ (WE W σ) (hr.make C us []) e0 bd r2 hsp) fun rs s' hq => ?_
  rcases rs with er | fl
  · exact passAt tk σ pins _ _ er s' I2 hq
  · rcases fl with _ | _ | _ | u
    all_goals first | exact (show False from hq).elim | skip
    obtain ⟨v, H', I3, rv, ev, q3⟩ := I2.after hq
    subst ev
    exact ⟨rv, ⟨V.ref x1, H', I3, rfl, q3⟩⟩
end
end PL
end L2

namespace L2
namespace PL
open PySem PySem.Spec PyProof.Rows
variable [Tabl]

/-! ### promises that are functions -/
/-- an answer, an exception, neither promised -/
inductive RX where
  | no | ok (d : D) | er (x : D)
def RX.run : RX → (D → Prop) → (D → Prop) → Prop
  | .no, _, _ => False
  | .ok d, Q, _ => Q d
  | .er x, _, E => E x
theorem RX.mo {r : RX} {Q Q' E E' : D → Prop} (h : ∀ d, Q d → Q' d) (h' : ∀ d, E d → E' d) (q : r.run Q E) : r.run Q' E' := by
  cases r with
  | no => exact q
  | ok d => exact h d q
  | er d => exact h' d q
def spX (f : List D → RX) : Spec := fun ds Q E => (f ds).run Q E
theorem mo_spX {f : List D → RX} : MonoSp (spX f) := fun ds Q Q' E E' h h' q => RX.mo h h' q
def spN (f : List D → Option (List Str × List D)) (er : List D → Option D) : SpI := fun ds Q E => match er ds with
  | some x => E x
  | none => match f ds with
    | some (ns, l) => Q ns l
    | none => False
theorem mo_spN {f : List D → Option (List Str × List D)} {er : List D → Option D} : MonoI (spN f er) := fun ds Q Q' E E' h h' q => by
  unfold spN at q ⊢
  split at q
  · exact h' _ q
  · split at q
    · exact h _ _ q
    · exact q

/-! ### own == -/
def R1.wh (P : Prop) : R1 → R1
  | .no => .no
  | .ok d => .gd P d
  | .gd P' d => .gd (P ∧ P') d
theorem R1.wh_run {P : Prop} {r : R1} {Q : D → Prop} (h : (r.wh P).run Q) : P ∧ r.run Q := by
  cases r with
  | no => exact h.elim
  | ok d => exact h
  | gd P' d => exact ⟨h.1.1, h.1.2, h.2⟩
def sp2 (f : D → D → R1) : Spec := fun ds Q _ => match ds with
  | [x, y] => (f x y).run Q
  | _ => False
theorem mo_sp2 {f : D → D → R1} : MonoSp (sp2 f) := fun ds Q Q' E E' h h' q => by
  unfold sp2 at q ⊢
  split at q
  · exact R1.mo h q
  · exact q
/-- the class at C has this == -/
structure EqOwn (X : Cx) (k : Nat) (C : Addr) (f : D → D → R1) : Prop where
  ok : ∃ (a : Addr) (fd : FuncData) (ps : List Str), PySem.W.findIn X.K (.ref C) "__eq__" = some (some (.ref a)) ∧ PySem.W.isFn X.K (.ref a) = true ∧ Binds X.K fd ps [] ∧ FnOk X.prog X.w X.K X.mg X.base (L2.CX X.prog X.w) k a fd ps (spG X.K (sp2 f))
def fEqT (T : Addr → Option (D → D → R1)) (x y : D) : R1 := match x with
  | .obj C _ _ => match T C, y with
    | some f, .obj C' _ _ => (f x y).wh (C' = C)
    | _, _ => .no
  | _ => fEq x y
section
variable {X : Cx} {c : C} {k : Nat} {a b : Expr} {wa wb : DW} {pos : Pos}
def rEqOwn (K : PySem.W.Frag) (T : Addr → Option (D → D → R1)) : R2 := fun x y H Q => ∃ (p q C dx dy : Addr) (fs gs : List (Str × V)) (f : D → D → R1), x = .ref p ∧ y = .ref q ∧ H p = some (.ins C dx fs) ∧ H q = some (.ins C dy gs) ∧ T C = some f ∧ spG K (sp2 f) [x, y] H Q E0
theorem op_eqOwn {T : Addr → Option (D → D → R1)} (hT : ∀ C f, T C = some f → EqOwn X k C f) (hr : Room k X.A) : OpR X (compareOp .Eq) (rEqOwn X.K T) := by
  intro pins s σ H x y v u Q I rx ry h
  obtain ⟨p, q, C, dx, dy, fs, gs, f, rfl, rfl, h1, h2, ht, hq⟩ := h
  cases (show v = Value.ref p from rx)
  cases (show u = Value.ref q from ry)
  obtain ⟨a, fd, ps, e1, e2, bd, Fa⟩ := (hT C f ht).ok
  obtain ⟨mA, J, _⟩ := ins_get I.hok h1
  obtain ⟨mB, J', _⟩ := ins_get I.hok h2
  obtain ⟨od, J, _⟩ := J.look
  obtain ⟨od', J', _⟩ := J'.look
  obtain ⟨m, hF⟩ := I.fr
  show wpAny (model X.prog X.w) X.A (richCompare .Eq _ _) _ _ s
  have run := run_fnSD (E := fun _ => E0) (dvs := []) (ds := []) Fa hr bd .nil (fun pins H s e s' I h => passL pins σ H s e s' I h) I (us := [.ref p, .ref q]) (vs := [.ref p, .ref q]) (.cons rfl (.cons rfl .nil)) hq
  refine PySem.W.cmp_K (op := .Eq) (tb := .ref C) hr.units0 hF I.ok.mod.kin J J'.type (by simp [PySem.W.notFirst]) e1 e2 (wpAny_mono run (fun w s' ⟨z, H', I', rz, qz⟩ => SlX.cmpback rz ⟨z, H', I', rz, qz⟩) fun _ _ z => z)
theorem br_eqT {T : Addr → Option (D → D → R1)} : BrO c X.K (fun x y H Q => (rEq x y H Q ∨ rEqD X.K x y H Q) ∨ rEqOwn X.K T x y H Q) (fEqT T) := by
  intro F σ H ρ x y a b Q rl r1 r2 q
  unfold fEqT at q
  split at q
  · rename_i C ns l
    split at q
    · rename_i f C' ns' l' ht
      obtain ⟨rfl, q⟩ := R1.wh_run q
      cases r1 with
      | obj h1 h2 h3 =>
        cases r2 with
        | obj g1 g2 g3 =>
          refine .inr ⟨_, _, _, _, _, _, _, f, rfl, rfl, rl.step.fh _ _ h1, rl.step.fh _ _ g1, ht, c.g, F, [.obj _ ns l, .obj _ ns' l'], rl.step.fh, rl.step.hand, .cons (.obj h1 h2 h3) (.cons (.obj g1 g2 g3) .nil), ?_⟩
          exact R1.mo (fun d q v F' H' s e => q v F' H' (rl.after s) s.ff e) q
    · exact (show False from q).elim
  · exact .inl (br_eq F σ H ρ x y a b Q rl r1 r2 q)
/-- x == y, instances by their own == -/
theorem pd_eqT {T : Addr → Option (D → D → R1)} {k2 : Nat} (hT : ∀ C f, T C = some f → EqOwn X k C f) (hr : Room k X.A) (hr2 : Room k2 X.A) (ha : PD c X a wa) (hb : PD c X b wb) : PD c X (.Compare a [.Eq] [b] pos) (wOp (fEqT T) wa wb) :=
  pd_cmp (OpR.or (OpR.or op_eq (op_eqD hr2.units)) (op_eqOwn hT hr)) br_eqT ha hb (nomark _)

/-! ### gcd -/
def fGcd : List D → R1
  | [.int i, .int j] => .ok (.int ((Nat.gcd i.natAbs j.natAbs : Nat) : Int))
  | _ => .no
theorem br_gcd : BrC c X.K rGcd fGcd := by
  intro F σ H ρ vs ds Q rl r q
  unfold fGcd at q
  split at q
  · cases r with
    | cons r1 r2 =>
      cases r2 with
      | cons r2 r3 => cases r3; cases r1; cases r2; exact ⟨_, _, rfl, q _ F H rl (Same.refl _) (.int _)⟩
  · exact (show False from q).elim
theorem pd_gcd {x : Str} {p : Pos} {e : Expr} {es : List Expr} {wr : DA} (hg : Gl X x) (hm : X.mg x = some (.builtin "math.gcd")) (ha : PDA c X (e :: es) wr) (hdb : (x == ("__debug__" : Str)) = false := by decide)
    (he : starEach (e :: es) X.env = (false, eval e X.env) :: starEach es X.env := by rfl) (hpl : (backTo pos (starEach es X.env)).any (·.1) = false := by rfl) : PD c X (.Call (.Name x p) (e :: es) [] pos) (wCal fGcd wr) :=
  ⟨(pe_callBfun cr_gcd hg hm ha.pe hdb he hpl).imp (cal_br br_gcd ha.mo), mo_Cal ha.mo⟩
end
end PL
end L2

namespace L2
namespace PL
open PySem PySem.Spec PyProof.Rows
variable [Tabl]

/-! ### what is drawn from -/
theorem gt_rep : ∀ (m k : Nat), gt (List.replicate m SD.no) k = .no
  | 0, _ => rfl
  | _ + 1, 0 => rfl
  | m + 1, k + 1 => gt_rep m k
theorem isW_rep {d : D} : ∀ (m i k : Nat), isW (gt (st (List.replicate m SD.no) i (.d d)) k) = false
  | 0, _, _ => rfl
  | _ + 1, 0, 0 => rfl
  | m + 1, 0, k + 1 => by
    show isW (gt (List.replicate m SD.no) k) = false
    rw [gt_rep]; rfl
  | _ + 1, _ + 1, 0 => rfl
  | m + 1, i + 1, k + 1 => isW_rep m i k
section
variable {X : Cx} {c : C} {e : Expr} {we : DW} {pos : Pos}
theorem hand_at {K : PySem.W.Frag} {F : Hp} {σ : St} {H : Hp} {ρ : List SD} (r : Rel K c F σ H ρ) {i : Nat} (e : gt ρ i = .d (.tok 1)) : σ[i]?.join = some (.ref c.g.tok) ∧ F c.g.tok = none ∧ c.g.hk = 1 ∧ ∃ (dr : Addr) (n : Nat) (ns : List Int), H c.g.tok = some (.lst [.ref dr, .int (n : Int)]) ∧ F dr = some (.lst (ns.map V.int)) := by
  have sl := r.slot i
  rw [e] at sl
  obtain ⟨u, e1, k⟩ := sl
  have hk : c.g.hk = 1 ∧ u = .ref c.g.tok := by
    generalize hd : D.tok 1 = d at k
    cases k with
    | tok =>
      injection hd with hd
      exact ⟨hd.symm, rfl⟩
    | _ => cases hd
  obtain ⟨h1, rfl⟩ := hk
  rcases r.step.hand.1 with z | ⟨k1, k2, o, k3, k4⟩
  · omega
  · rw [h1] at k4
    rcases k4 with ⟨_, dr, n, ns, rfl, k5⟩ | ⟨z, _⟩ | ⟨z, _⟩
    · exact ⟨e1, k1, h1, dr, n, ns, k3, k5⟩
    · cases z
    · cases z
theorem reps_int {K : PySem.W.Frag} {t : G} {F : Hp} : ∀ ns : List Int, Reps K t F (ns.map V.int) (ns.map .int)
  | [] => .nil
  | n :: ns => .cons (.int n) (reps_int ns)
/-- hand[1] -/
def wTok1 (i : Nat) : DW := fun ρ Q => gt ρ i = .d (.tok 1) ∧ ∀ n : Nat, Q (.int n) ρ
theorem pd_tok1 {x : Str} {p p2 : Pos} {j : Nat} (i : Nat) (h : PE X (.Name x p) (tVar i)) : PD c X (.Subscript (.Name x p) (.Constant (.int 1) j p2) pos) (wTok1 i) := by
  refine ⟨(pe_ix ix_list h pe_int (by exact fun _ _ => rfl)).imp fun σ H Q ⟨F, ρ, rl, e, q⟩ => ?_, fun ρ Q Q' k q => ⟨q.1, fun n => k _ _ (q.2 n)⟩⟩
  obtain ⟨e1, k1, k2, dr, n, ns, k3, k4⟩ := hand_at rl e
  exact ⟨_, join_some e1, c.g.tok, _, 1, .int n, rfl, rfl, SqL.of k3, rfl, q n _ F H rl (Same.refl _) (.int _)⟩
/-- hand[0] -/
def wTok0 (i : Nat) : DW := fun ρ Q => gt ρ i = .d (.tok 1) ∧ ∀ ns : List Int, Q (.lst (ns.map .int)) ρ
theorem pd_tok0 {x : Str} {p p2 : Pos} {j : Nat} (i : Nat) (h : PE X (.Name x p) (tVar i)) : PD c X (.Subscript (.Name x p) (.Constant (.int 0) j p2) pos) (wTok0 i) := by
  refine ⟨(pe_ix ix_list h pe_int (by exact fun _ _ => rfl)).imp fun σ H Q ⟨F, ρ, rl, e, q⟩ => ?_, fun ρ Q Q' k q => ⟨q.1, fun n => k _ _ (q.2 n)⟩⟩
  obtain ⟨e1, k1, k2, dr, n, ns, k3, k4⟩ := hand_at rl e
  exact ⟨_, join_some e1, c.g.tok, _, 0, .ref dr, rfl, rfl, SqL.of k3, rfl, q ns _ F H rl (Same.refl _) (.lst k4 (reps_int ns))⟩
/-- hand[1] = e -/
def wTokS (i : Nat) (we : DW) : DS := fun E ρ => we ρ fun d ρ1 => gt ρ1 i = .d (.tok 1) ∧ ∃ n : Nat, d = .int n ∧ E.nx ρ1
theorem pds_tokS {i : Nat} {x : Str} {px ps p2 : Pos} {j : Nat} (h : PE X (.Name x px) (tVar i)) (he : PD c X e we)
    (hs : swapsWithSole [.Subscript (.Name x px) (.Constant (.int 1) j p2) ps] e pos.line X.env = pure false := by rfl) (hw : swappedStores [.Subscript (.Name x px) (.Constant (.int 1) j p2) ps] e X.env = pure none := by rfl)
    (h1 : (assignEach [.Subscript (.Name x px) (.Constant (.int 1) j p2) ps] X.env).map (·.2) = [assign (.Subscript (.Name x px) (.Constant (.int 1) j p2) ps) X.env] := by rfl)
    (ha : ∀ v, assign (.Subscript (.Name x px) (.Constant (.int 1) j p2) ps) X.env v = (do
      let ov ← holding [v] (eval (.Name x px) X.env)
      let iv ← holding [v, ov] (eval (.Constant (.int 1) j p2) X.env)
      standAt ps
      holding [v, ov, iv] (setItem ov iv v)
      release [v, ov, iv] []) := by intro _; rfl) : PDS c X (.Assign [.Subscript (.Name x px) (.Constant (.int 1) j p2) ps] e pos) (wTokS i we) := by
  refine ⟨(ps_asg he.pe (pg_sub h pe_int set_list ha) hs hw h1).imp fun E σ H ⟨F, ρ, rl, q⟩ => ⟨F, ρ, rl, he.mo _ _ _ (fun d ρ1 q v F1 H1 r1 s1 e1 => ?_) q⟩, fun E E' ρ l q => he.mo _ _ _ (fun d ρ1 q => ⟨q.1, q.2.elim fun n q => ⟨n, q.1, l.nx _ q.2⟩⟩) q⟩
  obtain ⟨e, m, rfl, q⟩ := q
  cases e1
  obtain ⟨e1, k1, k2, dr, n, ns, k3, k4⟩ := hand_at r1 e
  refine ⟨_, join_some e1, c.g.tok, _, 1, 1, rfl, rfl, k3, rfl, ?_⟩
  refine q σ F1 _ ?_ s1
  have nz : ¬ c.g.hk = 0 := by omega
  have ntk : ∀ p ∈ Tabl.T, p.1 ≠ c.g.tok := fun p hp y => by
    obtain ⟨_, ps, h2, _⟩ := r1.step.hand.2 p hp
    rw [y, k3] at h2
    cases h2
  refine ⟨⟨r1.step.ff, fun b u z => ?_, fun a u z k => ?_, r1.step.fresh, ⟨.inr ⟨k1, nz, _, upd_same, by rw [k2]; exact .inl ⟨rfl, dr, m, ns, rfl, k4⟩⟩, r1.step.hand.2.keep (Same.refl _) (fun _ _ z => z) fun p hp o z => by rw [upd_ne (ntk p hp)]; exact z⟩⟩, r1.len, fun i => (r1.slot i).to rfl (Same.refl _) fun ho p' o' y1 y2 y3 y4 y5 => ⟨?_, y3, y4⟩, r1.own⟩
  · rw [upd_ne (ne_of_none z k1)]; exact r1.step.fh _ _ z
  · rcases k.1 with k' | k'
    · exact absurd k' nz
    · rw [upd_ne k']; exact r1.step.keep a u z k
  · rcases y5.1 with k | k
    · exact absurd k nz
    · rw [upd_ne k]; exact y2
/-! ### hand = [draws, 0]: from here on the list is what is drawn from -/
theorem pss_hand {x : Str} {pos' pl p2 : Pos} {j i : Nat} {e : Expr} {we : DW} {rest : List Stmt} {w : DS} (hN : X.N.Nodup) (hi : X.N[i]? = some x) (hx : Loc X.env.scope x) (h : PD c X e we) (hz : c.g.hk = 0)
    (hrest : ∀ c' : C, PDB c' X rest w)
    (hs : swapsWith (.List [e, .Constant (.int 0) j p2] pl) (some (.Name x pos')) pos.line X.env = pure false := by rfl) (hs1 : starEach [e, .Constant (.int 0) j p2] X.env = (false, eval e X.env) :: starEach [.Constant (.int 0) j p2] X.env := by rfl) (hs2 : starEach [.Constant (.int 0) j p2] X.env = (false, eval (.Constant (.int 0) j p2) X.env) :: starEach [] X.env := by rfl) (hf : X.fn x = true ∨ X.env.scope.names.lookup x = some .local := by first | exact .inl rfl | exact .inr rfl | assumption) :
    PSs X (.Assign [.Name x pos'] (.List [e, .Constant (.int 0) j p2] pl) pos :: rest) (fun E σ H => ∃ F ρ, Rel X.K c F σ H ρ ∧ we ρ fun d ρ1 => ∃ ns : List Int, d = .lst (ns.map .int) ∧
      w { nx := fun _ => ∀ σ H, E.nx σ H, rt := fun d => ∀ v F' H' t, Rep X.K t F' v d → E.rt v H', bk := fun _ => False, ct := fun _ => False } (st (List.replicate ρ1.length .no) i (.d (.tok 1)))) := by
  refine (pss_cons (u := fun E σ H => ∃ c' F ρ', c'.g.hk = 1 ∧ Rel X.K c' F σ H ρ' ∧ w { nx := fun _ => ∀ σ H, E.nx σ H, rt := fun d => ∀ v F' H' t, Rep X.K t F' v d → E.rt v H', bk := fun _ => False, ct := fun _ => False } ρ') (ps_set hN hi hx (pe_lst (pa_cons h.pe (pa_cons pe_int pa_nil hs2) hs1)) hs hf) ?_).imp fun E σ H ⟨F, ρ, rl, q⟩ => ?_
  · refine ⟨fun pins s σ H E I ⟨c', F, ρ', _, rl, q⟩ => ?_⟩
    refine (hrest c').pe.run pins s σ H E I ⟨F, ρ', rl, (hrest c').mo { nx := fun _ => ∀ σ H, E.nx σ H, rt := fun d => ∀ v F' H' t, Rep X.K t F' v d → E.rt v H', bk := fun _ => False, ct := fun _ => False } _ _ ⟨fun ρ1 q σ1 F1 H1 _ _ => q σ1 H1, fun d q v F1 H1 st r => q v F1 H1 c'.g r, fun _ q => q.elim, fun _ q => q.elim⟩ q⟩
  · refine ⟨F, ρ, rl, h.mo _ _ _ (fun d ρ1 q v F1 H1 r1 s1 e1 => ?_) q⟩
    obtain ⟨ns, rfl, q⟩ := q
    obtain ⟨dr, vs, rfl, k1, k2⟩ := e1.seqL
    refine ⟨by rw [sizeLine16]; exact (show 2 ≤ 16777216 by decide), fun p n => ?_⟩
    have e2 : vs = ns.map V.int := ints_reps (X := X) k2 (ints_map ns)
    subst e2
    have nF : F1 p = none := r1.freeF n
    refine ⟨⟨⟨p, 1⟩, F1, upd H1 p (.lst [.ref dr, .int 0])⟩, F1, _, rfl, ?_, q⟩
    have sF : Same F1 (upd H1 p (.lst [.ref dr, .int 0])) := fun b u z => by rw [upd_ne (ne_of_none z nF)]; exact r1.step.fh _ _ z
    refine ⟨.refl sF ⟨.inr ⟨nF, (by decide : (1 : Nat) ≠ 0), _, upd_same, .inl ⟨rfl, dr, 0, ns, rfl, k1⟩⟩, r1.step.hand.2.keep (Same.refl _) (fun _ _ z => z) fun _ _ o z => by show upd H1 p _ _ = _; rw [upd_ne (ne_of_none z n)]; exact z⟩, by rw [List.length_set, st_len, List.length_replicate]; exact r1.len, fun k => ?_, fun a b p' y1 => ?_⟩
    · by_cases hk : k = i
      · subst hk
        by_cases hl : k < ρ1.length
        · rw [gt_st_same (by rw [List.length_replicate]; exact hl), List.getElem?_set_self (by rw [r1.len]; exact hl)]
          exact ⟨_, rfl, .tok⟩
        · rw [gt_out (by rw [st_len, List.length_replicate]; omega)]; trivial
      · rw [gt_st_ne hk, gt_rep]; trivial
    · exfalso
      rw [isW_rep] at y1
      cases y1
end
end PL
end L2

namespace L2
namespace PL
open PySem PySem.Spec PyProof.Rows
variable [Tabl]
section
variable {X : Cx} {c : C} {e : Expr} {es : List Expr} {wr : DA} {we : DW} {pos p : Pos} {x : Str}
theorem pd_T_int (hg : Gl X "int") (hm : X.mg "int" = none) (ha : PDA c X (e :: es) wr) (he : starEach (e :: es) X.env = (false, eval e X.env) :: starEach es X.env := by rfl) (hpl : (backTo pos (starEach es X.env)).any (·.1) = false := by rfl) : PD c X (.Call (.Name "int" p) (e :: es) [] pos) (wCal fInt wr) :=
  pd_calT call_int1 br_int1 hg hm (by decide +kernel) ha (he := he) (hpl := hpl)
theorem pd_T_tuple (hg : Gl X "tuple") (hm : X.mg "tuple" = none) (ha : PDA c X (e :: es) wr) (he : starEach (e :: es) X.env = (false, eval e X.env) :: starEach es X.env := by rfl) (hpl : (backTo pos (starEach es X.env)).any (·.1) = false := by rfl) : PD c X (.Call (.Name "tuple" p) (e :: es) [] pos) (wCal fTuple wr) :=
  pd_calT call_tuple_of br_tuple hg hm (by decide +kernel) ha (he := he) (hpl := hpl)
theorem pd_T_list (hg : Gl X "list") (hm : X.mg "list" = none) (ha : PDA c X (e :: es) wr) (he : starEach (e :: es) X.env = (false, eval e X.env) :: starEach es X.env := by rfl) (hpl : (backTo pos (starEach es X.env)).any (·.1) = false := by rfl) : PD c X (.Call (.Name "list" p) (e :: es) [] pos) (wCal fList wr) :=
  pd_calT call_list_of br_list hg hm (by decide +kernel) ha (he := he) (hpl := hpl)
theorem pd_B_abs (hg : Gl X "abs") (hm : X.mg "abs" = none) (ha : PDA c X (e :: es) wr) (he : starEach (e :: es) X.env = (false, eval e X.env) :: starEach es X.env := by rfl) (hpl : (backTo pos (starEach es X.env)).any (·.1) = false := by rfl) : PD c X (.Call (.Name "abs" p) (e :: es) [] pos) (wCal fAbs wr) :=
  pd_calB call_abs br_abs hg hm (by decide +kernel) ha (he := he) (hpl := hpl)
theorem pd_B_sum (hc : X.calm = true) (hg : Gl X "sum") (hm : X.mg "sum" = none) (ha : PDA c X (e :: es) wr) (he : starEach (e :: es) X.env = (false, eval e X.env) :: starEach es X.env := by rfl) (hpl : (backTo pos (starEach es X.env)).any (·.1) = false := by rfl) : PD c X (.Call (.Name "sum" p) (e :: es) [] pos) (wCal fSum wr) :=
  pd_calB (cr_sum hc) br_sum hg hm (by decide +kernel) ha (he := he) (hpl := hpl)
theorem pd_B_all (hc : X.calm = true) (hg : Gl X "all") (hm : X.mg "all" = none) (ha : PDA c X (e :: es) wr) (he : starEach (e :: es) X.env = (false, eval e X.env) :: starEach es X.env := by rfl) (hpl : (backTo pos (starEach es X.env)).any (·.1) = false := by rfl) : PD c X (.Call (.Name "all" p) (e :: es) [] pos) (wCal fAll wr) :=
  pd_calB (cr_all hc) br_all hg hm (by decide +kernel) ha (he := he) (hpl := hpl)
theorem pd_B_any (hc : X.calm = true) (hg : Gl X "any") (hm : X.mg "any" = none) (ha : PDA c X (e :: es) wr) (he : starEach (e :: es) X.env = (false, eval e X.env) :: starEach es X.env := by rfl) (hpl : (backTo pos (starEach es X.env)).any (·.1) = false := by rfl) : PD c X (.Call (.Name "any" p) (e :: es) [] pos) (wCal fAny wr) :=
  pd_calB (cr_any hc) br_any hg hm (by decide +kernel) ha (he := he) (hpl := hpl)

/-! ### isinstance with an own class -/
def tyNs : List String := ["NoneType", "bool", "int", "str", "tuple", "list"]
structure IsC (K : PySem.W.Frag) (cls : List Addr) (Dc : Addr) : Prop where
  ty : ∀ n ∈ tyNs, PySem.W.kitOne K (.type n) (.ref Dc) = some false
  ob : ∀ C ∈ cls, PySem.W.kitOne K (.ref C) (.ref Dc) = some (C == Dc)
  o : ∀ C ∈ cls, ObjT K C
def fIsC (cls : List Addr) (Dc : Addr) : D → R1
  | .obj C _ _ => .gd (C ∈ cls) (.bl (C == Dc))
  | .tok _ => .no
  | .fn _ => .no
  | _ => .ok (.bl false)
theorem TyX.nm_of {t : G} {F H : Hp} (s : Same F H) {v : V} {d : D} (r : Rep X.K t F v d) (hno : noTok d = true) (ho : ∀ C ns l, d ≠ .obj C ns l) : ∃ n ∈ tyNs, TyX X.K H v (.type n) := by
  cases r with
  | non => exact ⟨_, by decide, .base .non⟩
  | bl b => exact ⟨"bool", by decide, .base (.bl b)⟩
  | int b => exact ⟨"int", by decide, .base (.int b)⟩
  | str b => exact ⟨"str", by decide, .base (.str b)⟩
  | tup h r =>
    rcases h with (h | ⟨o, h⟩) | ⟨o, its, n, h1, h2, _⟩
    · exact ⟨"tuple", by decide, .base (.tup (s _ _ h))⟩
    · exact ⟨"tuple", by decide, .fTuple (s _ _ h)⟩
    · exact ⟨"tuple", by decide, .kTuple h1 h2⟩
  | lst h r => exact ⟨"list", by decide, .base (.lst (s _ _ h))⟩
  | scr h =>
    rcases h with (h | ⟨o, h⟩) | ⟨o, its, n, h1, h2, _⟩
    · exact ⟨"list", by decide, .base (.lst (s _ _ h))⟩
    · exact ⟨"list", by decide, .base (.frz (s _ _ h))⟩
    · exact ⟨"list", by decide, .kList h1 h2⟩
  | obj _ _ _ => exact absurd rfl (ho _ _ _)
  | tok => cases hno
  | fn _ => cases hno
theorem isC_br {cls : List Addr} {Dc : Addr} (T : IsC X.K cls Dc) (mo : Mono we) (σ : St) (H : Hp) (Q : VK) (q : tOf X.K c (wUn (fIsC cls Dc) we) σ H Q) : tCB (rIsi X.K) (tCons (tOf X.K c we) (tCons (tC (.ref Dc)) tNil)) σ H Q := by
  obtain ⟨F, ρ, rl, q⟩ := q
  refine ⟨F, ρ, rl, mo ρ _ _ (fun d ρ1 q v F1 H1 r1 s1 e1 => ?_) q⟩
  show rIsi X.K [v, .ref Dc] H1 Q
  have gen : noTok d = true → (∀ C ns l, d ≠ .obj C ns l) → fIsC cls Dc d = .ok (.bl false) → rIsi X.K [v, .ref Dc] H1 Q := fun h1 h2 h3 => by
    rw [h3] at q
    obtain ⟨n, k1, k2⟩ := TyX.nm_of r1.step.fh e1 h1 h2
    exact ⟨v, _, _, _, _, rfl, .own _, k2, T.ty n k1, q _ F1 H1 r1 s1 (.bl _)⟩
  cases d with
  | obj C ns l =>
    obtain ⟨hC, q⟩ := q
    have o := T.o C hC
    cases e1 with
    | obj h1 h2 h3 =>
      exact ⟨_, _, _, _, _, rfl, .own _, .base (.ins (r1.step.fh _ _ h1) o.cl o.ha o.hn o.htk o.hm), T.ob C hC, q _ F1 H1 r1 s1 (.bl _)⟩
  | tok k => exact (show False from q).elim
  | fn k => exact (show False from q).elim
  | _ => exact gen rfl (fun _ _ _ z => nomatch z) rfl
theorem pd_isC {y : Str} {py : Pos} {cls : List Addr} {Dc : Addr} (T : IsC X.K cls Dc) (hg : Gl X "isinstance") (hm : X.mg "isinstance" = none) (hgy : Gl X y) (hmy : X.mg y = some (.ref Dc)) (he : PD c X e we)
    (hdy : (y == ("__debug__" : Str)) = false := by decide) (hs : starEach [e, .Name y py] X.env = (false, eval e X.env) :: starEach [.Name y py] X.env := by rfl) (hs2 : starEach [.Name y py] X.env = (false, eval (.Name y py) X.env) :: starEach [] X.env := by rfl) (hpl : (backTo pos (starEach [.Name y py] X.env)).any (·.1) = false := by rfl) :
    PD c X (.Call (.Name "isinstance" p) [e, .Name y py] [] pos) (wUn (fIsC cls Dc) we) :=
  ⟨(pe_callB call_isi hg hm (by decide +kernel) (pa_cons he.pe (pa_cons (pe_glob (v := .ref Dc) hgy hmy rfl hdy) pa_nil hs2) hs) (he := hs) (hpl := hpl)).imp (isC_br T he.mo), mo_Un he.mo⟩
end

/-! ### facts of the text, def by def -/
abbrev spIni1 (C : Addr) (f : Str) : Sp := fun vs H Q _ => ∃ (a : Addr) (v : V), vs = [.ref a, v] ∧ H a = some (exo a C none) ∧ ∀ d, H d = none → d ≠ a → Q .non (upd (upd H d (exd d [(f, v)])) a (exo a C (some d)))
structure DefT (K : PySem.W.Frag) (mg : Str → Option Value) (x : Str) (stm : Stmt) (f : Addr) (fd : FuncData) (ps : List Str) : Prop where
  F : Fun K x x stm f fd
  g : mg x = some (.ref f)
  k : PySem.W.keepIn K (.ref f) = true
  b : Binds K fd ps []
structure MthT (K : PySem.W.Frag) (x qual : Str) (stm : Stmt) (f : Addr) (fd : FuncData) (ps : List Str) : Prop where
  F : Fun K x qual stm f fd
  b : Binds K fd ps []
end PL
end L2

namespace L2
namespace PL
open PySem PySem.Spec PyProof.Rows
variable [Tabl]
/-! ### readings keep what is weaker -/
theorem mo_Nil : Mono wNil := fun _ _ _ h q => h _ _ q
theorem mo_Cons {we : DW} {wr : DA} (h : Mono we) (h' : Mono wr) : Mono (wCons we wr) := fun ρ Q Q' k q => h _ _ _ (fun d ρ1 q => h' _ _ _ (fun ds ρ2 q => k _ _ q) q) q
theorem mo_Lst {wr : DA} (h : Mono wr) : Mono (wLst wr) := fun ρ Q Q' k q => h _ _ _ (fun ds ρ1 q => ⟨q.1, k _ _ q.2⟩) q
theorem mo_Tup {wr : DA} (h : Mono wr) : Mono (wTup wr) := fun ρ Q Q' k q => h _ _ _ (fun ds ρ1 q => ⟨q.1, k _ _ q.2⟩) q
theorem mo_Drop {we : DW} (h : Mono we) : MonoS (wDrop we) := fun E E' ρ l q => h _ _ _ (fun d ρ1 q => l.nx _ q) q
theorem mo_Ret {we : DW} (h : Mono we) : MonoS (wRet we) := fun E E' ρ l q => h _ _ _ (fun d ρ1 q => l.rt _ q) q
theorem mo_If {wt : DT} {w w' : DS} (h : Mono wt) (h1 : MonoS w) (h2 : MonoS w') : MonoS (wIf wt w w') := fun E E' ρ l q => h _ _ _ (fun b ρ1 q => ⟨fun e => h1 _ _ _ l (q.1 e), fun e => h2 _ _ _ l (q.2 e)⟩) q
theorem mo_Set {i : Nat} {we : DW} (h : Mono we) : MonoS (wSet i we) := fun E E' ρ l q => h _ _ _ (fun d ρ1 q => l.nx _ q) q
theorem mo_Make {C : Addr} {S : SpI} {wr : DA} {Ed : DX} (hS : MonoI S) (h : Mono wr) : Mono (wMake C S wr Ed) := fun ρ Q Q' k q => h _ _ _ (fun ds ρ1 q => ⟨hS _ _ _ _ _ (fun ns l => k _ ρ1) (fun _ h => h) q.h⟩) q
/-! ### a caught exception's field, its class one of these -/
def wExcL (L : List Addr) (i : Nat) (a : Addr) (x : D) (f : Str) : DW := fun ρ Q => match x with
  | .obj Ce ns _ => (Ce ∈ L ∧ f ∈ ns) ∧ wExc i a x f ρ Q
  | _ => False
theorem mo_Exc {i : Nat} {a : Addr} {x : D} {f : Str} : Mono (wExc i a x f) := fun ρ Q Q' k q => by
  unfold wExc at q ⊢
  split at q
  · exact ⟨q.1, k _ _ q.2⟩
  · exact q.elim
theorem mo_ExcL {L : List Addr} {i : Nat} {a : Addr} {x : D} {f : Str} : Mono (wExcL L i a x f) := fun ρ Q Q' k q => by
  cases x <;> first | exact q.elim | exact ⟨q.1, mo_Exc _ _ _ k q.2⟩
section
variable {X : Cx} {n : Str}
theorem pd_excL {L : List Addr} {i : Nat} {a Ce dd : Addr} {oe : Obj} {cls : Value} {d : Option Addr} {pn : List (Addr × Obj)} {c' : C} {g : G} {ns : List Str} {xs : List V} {ds : List D} {f : Str} {p p2 : Pos} (hi : X.N[i]? = some n) (hv : Vis X.env.scope n) (hz : Zc cls d oe) (hf : ∃ vs, oe.data = .fields vs) (hg : c'.g = g) (hc : cls = .ref Ce) (hd : d = some dd)
    (hx : c'.H0 dd = some (.xd (ns.zip xs))) (hr : Reps X.K g c'.F0 xs ds) (nt : Kp g dd) (T : ∀ C ∈ L, XfC X.K C ∧ PySem.W.findIn X.K (.ref C) f = some none)
    (hdb : (n == ("__debug__" : Str)) = false := by decide) (hcd : (n == ("__classdict__" : Str)) = false := by decide) (hb : attributeBase (.Name n p) f X.env (eval (.Name n p) X.env) = eval (.Name n p) X.env := by rfl) :
    PD c' (X.suite a ((a, oe) :: pn)) (.Attribute (.Name n p) f p2) (wExcL L i a (.obj Ce ns ds) f) := by
  by_cases h : Ce ∈ L ∧ f ∈ ns
  · have k := pd_exc (a := a) (c' := c') (p := p) (p2 := p2) (pn := pn) hi hv hz hf hg hc hd hx hr nt (fun f' _ e => T Ce h.1) h.2 hdb hcd hb
    exact ⟨k.pe.imp fun σ H Q ⟨F, ρ, rl, q⟩ => ⟨F, ρ, rl, q.2⟩, mo_ExcL⟩
  · exact ⟨⟨fun pins s σ H Q I ⟨F, ρ, rl, q⟩ => absurd q.1 h⟩, mo_ExcL⟩
end
/-! ### nothing promised; the law's promise -/
def S_none : Spec := fun _ _ _ => False
theorem mS_none : MonoSp S_none := fun _ _ _ _ _ _ _ q => q
theorem fn_none {P : Program} {w : World} {K : PySem.W.Frag} {mg : Str → Option Value} {base : Heap} {k : Nat} {f : Addr} {fd : FuncData} {ps : List Str} : FnOk P w K mg base (L2.CX P w) k f fd ps (spG K S_none) :=
  ⟨fun vs H Q E ⟨_, _, _, _, _, _, q⟩ => q.elim, fun A outer s H args us vs Q E _ _ _ _ ⟨_, _, _, _, _, _, q⟩ => q.elim⟩
def spLaw (K : PySem.W.Frag) : Sp := fun vs H Q _ => ∃ (a : Addr) (ns : List Int), vs = [.ref a] ∧ ns.length ≤ 63 ∧ SqL K H a (ns.map V.int) ∧ ∀ H', Q (.bl true) H'
theorem exm_of {K : PySem.W.Frag} {S T : Addr} {b : Bool} (h1 : PySem.W.subIn K (.ref S) (.type "BaseException") = some true) (h2 : PySem.W.isClsIn K T = true) (h3 : PySem.W.typeIn K (.ref T) = some (.type "type")) (h5 : PySem.W.subIn K (.ref T) (.type "BaseException") = some true) (h4 : PySem.W.subIn K (.ref S) (.ref T) = some b) :
    PySem.W.exmOne K (.ref S) (.ref T) = some b := by
  have h2' : (PySem.W.clsIn K T).isSome = true := h2
  unfold PySem.W.exmOne
  simp [h1, h2', h3, h5, h4, PySem.W.kitCls]
end PL
end L2

namespace L2
namespace PL
open PySem PySem.Spec PyProof.Rows
variable [Tabl]
section
variable {X : Cx} {c : C} {tg e a : Expr} {we : DW} {p pos : Pos}
/-! ### xs[::-1] of a list -/
def wRev (we : DW) : DW := fun ρ Q => we ρ fun d ρ1 => match d with
  | .lst l => Q (.lst l.reverse) ρ1
  | _ => False
theorem pd_rev {k : Nat} {p1 p2 p3 : Pos} (he : PD c X e we) : PD c X (.Subscript e (.Slice none none (some (.UnaryOp .USub (.Constant (.int 1) k p1) p2)) p3) pos) (wRev we) := by
  refine ⟨(pe_revL he.pe).imp fun σ H Q ⟨F, ρ, rl, q⟩ => ⟨F, ρ, rl, he.mo _ _ _ (fun d ρ1 q v F1 H1 r1 s1 e1 => ?_) q⟩, fun ρ Q Q' k q => he.mo _ _ _ (fun d ρ1 q => by cases d <;> first | exact k _ _ q | exact q) q⟩
  cases d <;> first | exact (show False from q).elim | skip
  obtain ⟨a, vs, rfl, k1, k2⟩ := e1.seqL
  exact ⟨a, vs, rfl, SqL.of (r1.step.fh _ _ k1), fun p n => new_lst r1 k2.reverse (fun v F' H' r' s' e' => q v F' H' r' (s1.trans s') e') n⟩
/-! ### for i in reversed(range(n)) -/
def rngR (n : Nat) : List D := (List.range n).map fun (i : Nat) => D.int ((n : Int) - 1 - (i : Int))
theorem walks_rev {K : PySem.W.Frag} {g : G} {F : Hp} {lo : Int} {n : Nat} (h : lo = (n : Int) - 1) : Walks K g (Itc lo (-1) n) F (rngR n) where
  go := fun i F' H' hi s s' => by
    have h : i < n := by simpa [rngR] using hi
    exact h
  stop := fun i F' H' hi0 s s' => by
    have hi := Nat.le_of_eq hi0.symm
    have h : n ≤ i := by simpa [rngR] using hi
    exact h
  yld := fun i F' H' x H'' d e s s' hk y => by
    obtain ⟨rfl, rfl⟩ := y
    have hi : i < n := by
      have := (List.getElem?_eq_some_iff.mp e).1
      simpa [rngR] using this
    unfold rngR at e
    rw [List.getElem?_map, List.getElem?_range hi] at e
    cases e
    refine ⟨F', Step.refl s' hk, ?_⟩
    have e2 : lo + (i : Int) * (-1) = (n : Int) - 1 - (i : Int) := by omega
    rw [e2]
    exact .int _
def wRevR (we : DW) : DA := fun ρ Q => we ρ fun d ρ1 => match d with
  | .int j => (-(2 ^ 62) ≤ j ∧ j < 2 ^ 62) ∧ Q (rngR j.toNat) ρ1
  | _ => False
theorem pdi_rev1 {p2 pos2 : Pos} (hg : Gl X "reversed") (hm : X.mg "reversed" = none) (hg2 : Gl X "range") (hm2 : X.mg "range" = none) (ha : PD c X a we) (na : starEach [a] X.env = (false, eval a X.env) :: starEach [] X.env := by rfl)
    (hs : starEach [.Call (.Name "range" p2) [a] [] pos2] X.env = (false, eval (.Call (.Name "range" p2) [a] [] pos2) X.env) :: starEach [] X.env := by rfl) : PDI c X tg (.Call (.Name "reversed" p) [.Call (.Name "range" p2) [a] [] pos2] [] pos) (wRevR we) := by
  refine ⟨(pi_revR hg hm (prg_1 hg2 hm2 ha.pe na) hs).imp fun σ H R ⟨F, ρ, rl, q⟩ => ⟨F, ρ, rl, ha.mo _ _ _ (fun d ρ1 q v F1 H1 r1 s1 e1 => ?_) q⟩, fun ρ Q Q' k q => ha.mo _ _ _ (fun d ρ1 q => by cases d <;> first | exact ⟨q.1, k _ _ q.2⟩ | exact q) q⟩
  cases d <;> first | exact (show False from q).elim | skip
  rename_i j
  cases e1
  refine ⟨j, rfl, by decide, by decide, q.1.1, q.1.2, ?_⟩
  have e : (j - 0).toNat = j.toNat := by rw [Int.sub_zero]
  rw [e]
  exact q.2 _ F1 H1 r1 s1 (walks_rev (by omega))
end
end PL
end L2

namespace L2
namespace PL
open PySem PySem.Spec PyProof.Rows
variable [Tabl]
/-! ### [elt for tg in iter if .. for tg1 in iter1 if ..] -/
def noO : List SD → Bool
  | [] => true
  | x :: r => !isO x && noO r
theorem noO_gt : ∀ {ρ : List SD}, noO ρ = true → ∀ i, isO (gt ρ i) = false
  | [], _, _ => rfl
  | x :: r, h, 0 => by
    simp only [noO, Bool.and_eq_true, Bool.not_eq_true'] at h
    exact h.1
  | x :: r, h, i + 1 => by
    simp only [noO, Bool.and_eq_true] at h
    exact noO_gt h.2 i
theorem noO_st {x : SD} (hx : isO x = false) : ∀ {ρ : List SD} {i : Nat}, noO ρ = true → noO (st ρ i x) = true
  | [], _, _ => rfl
  | y :: r, 0, h => by
    simp only [noO, Bool.and_eq_true] at h
    simp only [st, noO, hx, h.2]
    rfl
  | y :: r, i + 1, h => by
    simp only [noO, Bool.and_eq_true] at h
    simp only [st, noO, h.1, noO_st hx h.2]
    rfl
theorem noO_wipe : ∀ {ρ : List SD} (vs : List Nat), noO ρ = true → noO (wipeD ρ vs) = true
  | _, [], h => h
  | ρ, v :: vs, h => noO_st rfl (noO_wipe vs h)
theorem Rel.reb {K : PySem.W.Frag} {c : C} {F F' : Hp} {σ : St} {H H' : Hp} {ρ : List SD} (r : Rel K c F σ H ρ) (no : noO ρ = true) (s : Same F F') (sf : Same F' H') (hk : HandOk c.g F' H') : Rel K ⟨c.g, F', H'⟩ F' σ H' ρ := by
  refine ⟨Step.refl sf hk, r.len, fun i => ?_, fun i j p e => ?_⟩
  · have q := r.slot i
    have n := noO_gt no i
    cases e : gt ρ i with
    | no => trivial
    | d x => rw [e] at q; obtain ⟨u, e1, k⟩ := q; exact ⟨u, e1, k.mono s⟩
    | ad x => rw [e] at q; exact q
    | _ => rw [e] at n; cases n
  · rw [show isW (gt ρ i) = false from by
      cases z : isW (gt ρ i) with
      | false => rfl
      | true => exact absurd (isW_O z) (by rw [noO_gt no i]; decide)] at e
    cases e
def lcW2 (g : DG) (tt : DT) (wi1 : DA) (g1 : DG) (tt1 : DT) (te : DW) (vs1 : List Nat) (ρb : List SD) : List D → List D → (List D → Prop) → Prop
  | [], acc, Q => Q acc
  | x :: xs, acc, Q => g x ρb fun ρ1 => tt ρ1 fun b ρ2 => (b = true → wi1 ρ2 fun items ρ3 => (noO ρ3 = true ∧ acc.length + items.length ≤ 1000000) ∧ lcW g1 tt1 te (wipeD ρ3 vs1) items acc fun acc' => lcW2 g tt wi1 g1 tt1 te vs1 ρb xs acc' Q) ∧ (b = false → lcW2 g tt wi1 g1 tt1 te vs1 ρb xs acc Q)
theorem lcW2_mo {g g1 : DG} {tt tt1 : DT} {te : DW} {wi1 : DA} {vs1 : List Nat} {ρb : List SD} (hg : MonoG g) (ht : Mono tt) (hi1 : Mono wi1) (hg1 : MonoG g1) (ht1 : Mono tt1) (he : Mono te) : ∀ (xs acc : List D) (Q Q' : List D → Prop), (∀ l, Q l → Q' l) → lcW2 g tt wi1 g1 tt1 te vs1 ρb xs acc Q → lcW2 g tt wi1 g1 tt1 te vs1 ρb xs acc Q'
  | [], _, _, _, h, q => h _ q
  | x :: xs, acc, Q, Q', h, q => hg _ _ _ _ (fun ρ1 q => ht _ _ _ (fun b ρ2 q => ⟨fun e => hi1 _ _ _ (fun items ρ3 q => ⟨q.1, lcW_mo hg1 ht1 he _ _ _ _ (fun acc' q => lcW2_mo hg ht hi1 hg1 ht1 he xs _ Q Q' h q) q.2⟩) (q.1 e), fun e => lcW2_mo hg ht hi1 hg1 ht1 he xs _ Q Q' h (q.2 e)⟩) q) q
def wLc2G (wi : DA) (g : DG) (tt : DT) (wi1 : DA) (g1 : DG) (tt1 : DT) (te : DW) (vs vs1 : List Nat) (ρ : List SD) (Q : List D → List SD → Prop) : Prop := wi ρ fun items ρ1 => lcW2 g tt wi1 g1 tt1 te vs1 (roD (wipeD ρ1 vs)) items [] fun ys => Q ys ρ1
def wLc2 (wi : DA) (g : DG) (tt : DT) (wi1 : DA) (g1 : DG) (tt1 : DT) (te : DW) (vs vs1 : List Nat) : DW := fun ρ Q => wLc2G wi g tt wi1 g1 tt1 te vs vs1 ρ fun ys ρ1 => Q (.lst ys) ρ1
def tOfIE (K : PySem.W.Frag) (g0 : G) (w : DA) : TI := fun σ H Q => ∃ c' : C, c'.g = g0 ∧ tOfI K c' w σ H Q
section
variable {X : Cx} {c : C}
theorem lc2_read {K : PySem.W.Frag} {wi wi1 : DA} {g g1 : DG} {tt tt1 : DT} {te : DW} {is is1 vs vs1 : List Nat} (hi : Mono wi) (hgm : MonoG g) (htm : Mono tt) (hi1 : Mono wi1) (hgm1 : MonoG g1) (htm1 : Mono tt1) (hem : Mono te) (his : ∀ i ∈ is, i ∈ vs) (his1 : ∀ i ∈ is1, i ∈ vs1) {σ : St} {H : Hp} {F : Hp} {ρ : List SD} (rl : Rel K c F σ H ρ) {Qd : List D → List SD → Prop} (q : wLc2G wi g tt wi1 g1 tt1 te vs vs1 ρ Qd) {Q : VK}
    (fin : ∀ ys ρ1 F1 H1 p, Qd ys ρ1 → Rel K c F1 σ H1 ρ1 → Same F F1 → Held K c F1 σ H1 ρ1 p ys → Q (.ref p) H1) :
    tLc2 (tOfI K c wi) (gOfE K c.g is g) (tOfTE K c.g tt) (tOfIE K c.g wi1) (gOfE K c.g is1 g1) (tOfTE K c.g tt1) (tOfE K c.g te) vs vs1 σ H Q := by
  refine ⟨F, ρ, rl, hi _ _ _ (fun items ρ1 q J F1 H1 r1 s1 W => ?_) q⟩
  intro p np
  have a := r1.fresh0 np
  refine ⟨fun i m H => ∃ F2 acc, Rel K c F2 σ H ρ1 ∧ Same F1 F2 ∧ Held K c F2 σ H ρ1 p acc ∧ i ≤ items.length ∧ m = items.length - i ∧ lcW2 g tt wi1 g1 tt1 te vs1 (roD (wipeD ρ1 vs)) (items.drop i) acc (fun ys => Qd ys ρ1),
    ⟨items.length, F1, [], r1.wr0 a, Same.refl _, ⟨⟨[], upd_same, .nil⟩, a⟩, Nat.zero_le _, rfl, q⟩, ?_⟩
  rintro i m H ⟨F2, acc, r2, s2, h2, hi2, rfl, q⟩
  by_cases hlt : i < items.length
  · refine .inr ⟨W.go i F2 H hlt s2 r2.step.fh, fun H' => ∃ F3 acc', Rel K c F3 σ H' ρ1 ∧ Same F1 F3 ∧ Held K c F3 σ H' ρ1 p acc' ∧ lcW2 g tt wi1 g1 tt1 te vs1 (roD (wipeD ρ1 vs)) (items.drop (i + 1)) acc' (fun ys => Qd ys ρ1),
      fun H' ⟨F3, acc', y1, y2, y3, y4⟩ => ⟨items.length - (i + 1), by omega, F3, acc', y1, y2, y3, hlt, rfl, y4⟩, fun x H' y => ?_⟩
    have ed : items.drop i = items[i] :: items.drop (i + 1) := by rw [List.drop_eq_getElem_cons hlt]
    rw [ed] at q
    obtain ⟨F3, st3, rep⟩ := W.yld i F2 H x H' items[i] (List.getElem?_eq_getElem hlt) s2 r2.step.fh r2.step.hand y
    have r3 := r2.after st3
    have h3 := h2.after st3
    have s13 : Same F1 F3 := s2.trans st3.ff
    refine ⟨⟨c.g, F3, H'⟩, rfl, F3, _, items[i], r3.block vs, rep, hgm _ _ _ _ (fun ρ4 q σ4 F4 H4 r4 s4 o4 => ?_) q⟩
    refine ⟨(o4 vs his).trans (wipe_sub vs vs fun _ h => h), ⟨c.g, F3, H'⟩, rfl, F4, ρ4, r4, htm _ _ _ (fun b ρ5 q F5 H5 r5 s5 => ?_) q⟩
    cases b with
    | false =>
      rw [if_neg Bool.false_ne_true]
      have st6 : Step c.g F3 H' F5 H5 := r5.step
      exact ⟨F5, acc, r3.after st6, s13.trans st6.ff, h3.after st6, q.2 rfl⟩
    | true =>
      rw [if_pos rfl]
      refine ⟨⟨c.g, F3, H'⟩, rfl, F5, ρ5, r5, hi1 _ _ _ (fun items1 ρ6 q J1 F6 H6 r6 s6 W1 => ?_) (q.1 rfl)⟩
      obtain ⟨⟨no, hz⟩, q⟩ := q
      have st6 : Step c.g F3 H' F6 H6 := r6.step
      have rb := r6.wipes vs1
      have nob := noO_wipe vs1 no
      refine ⟨fun j k H => ∃ F7 acc', Rel K c F7 σ H ρ1 ∧ Same F6 F7 ∧ Held K c F7 σ H ρ1 p acc' ∧ j ≤ items1.length ∧ k = items1.length - j ∧ acc'.length ≤ acc.length + j ∧ lcW g1 tt1 te (wipeD ρ6 vs1) (items1.drop j) acc' (fun acc' => lcW2 g tt wi1 g1 tt1 te vs1 (roD (wipeD ρ1 vs)) (items.drop (i + 1)) acc' fun ys => Qd ys ρ1),
        ⟨items1.length, F6, acc, r3.after st6, Same.refl _, h3.after st6, Nat.zero_le _, rfl, Nat.le_refl _, q⟩, ?_⟩
      rintro j k H ⟨F7, acc', r7, s7, h7, hj, rfl, hl, q⟩
      by_cases hlt1 : j < items1.length
      · refine .inr ⟨W1.go j F7 H hlt1 s7 r7.step.fh, fun H' => ∃ F8 acc', Rel K c F8 σ H' ρ1 ∧ Same F6 F8 ∧ Held K c F8 σ H' ρ1 p acc' ∧ acc'.length ≤ acc.length + (j + 1) ∧ lcW g1 tt1 te (wipeD ρ6 vs1) (items1.drop (j + 1)) acc' (fun acc' => lcW2 g tt wi1 g1 tt1 te vs1 (roD (wipeD ρ1 vs)) (items.drop (i + 1)) acc' fun ys => Qd ys ρ1),
          fun H' ⟨F8, acc', y1, y2, y3, y4, y5⟩ => ⟨items1.length - (j + 1), by omega, F8, acc', y1, y2, y3, hlt1, rfl, y4, y5⟩, fun x H' y => ?_⟩
        have ed1 : items1.drop j = items1[j] :: items1.drop (j + 1) := by rw [List.drop_eq_getElem_cons hlt1]
        rw [ed1] at q
        obtain ⟨F8, st8, rep8⟩ := W1.yld j F7 H x H' items1[j] (List.getElem?_eq_getElem hlt1) s7 r7.step.fh r7.step.hand y
        have r8 := r7.after st8
        have h8 := h7.after st8
        have rB : Rel K ⟨c.g, F8, H'⟩ F8 (wipe σ4 vs1) H' (wipeD ρ6 vs1) := rb.reb nob (s7.trans st8.ff) r8.step.fh r8.step.hand
        refine ⟨⟨c.g, F8, H'⟩, rfl, F8, _, items1[j], rB, rep8, hgm1 _ _ _ _ (fun ρ9 q σ9 F9 H9 r9 s9 o9 => ?_) q⟩
        refine ⟨(o9 vs1 his1).trans (wipe_sub vs1 vs1 fun _ h => h), ⟨c.g, F8, H'⟩, rfl, F9, ρ9, r9, htm1 _ _ _ (fun b ρ10 q F10 H10 r10 s10 => ?_) q⟩
        cases b with
        | false =>
          rw [if_neg Bool.false_ne_true]
          have st10 : Step c.g F8 H' F10 H10 := r10.step
          exact ⟨F10, acc', r8.after st10, (s7.trans st8.ff).trans st10.ff, h8.after st10, by omega, q.2 rfl⟩
        | true =>
          rw [if_pos rfl]
          refine ⟨⟨c.g, F8, H'⟩, rfl, F10, ρ10, r10, hem _ _ _ (fun y ρ11 q v F11 H11 r11 s11 e11 => ?_) (q.1 rfl)⟩
          have st11 : Step c.g F8 H' F11 H11 := r11.step
          have r12 := r8.after st11
          have h12 := h8.after st11
          obtain ⟨ws, e12, k12⟩ := h12.at_
          exact ⟨ws, e12, by rw [sizeLine16, k12.length]; omega, F11, acc' ++ [y], r12.wr0 h12.f, (s7.trans st8.ff).trans st11.ff, ⟨⟨ws ++ [v], upd_same, k12.append (.cons e11 .nil)⟩, h12.f⟩, by simp; omega, q⟩
      · have e : j = items1.length := by omega
        rw [e, List.drop_length] at q
        exact .inl ⟨W1.stop j F7 H (by omega) s7 r7.step.fh, F7, acc', r7, (s13.trans st6.ff).trans s7, h7, q⟩
  · have e : i = items.length := by omega
    rw [e, List.drop_length] at q
    exact .inl ⟨W.stop i F2 H (by omega) s2 r2.step.fh, fin acc ρ1 F2 H p q r2 (s1.trans s2) h2⟩
variable {elt tg iter tg1 iter1 : Expr} {ifs ifs1 : List Expr} {scope : Scope} {own : List (Str × Nat)} {is is1 vs1 : List Nat} {pos : Pos} {wi wi1 : DA} {g g1 : DG} {tt tt1 : DT} {te : DW}
abbrev Bk (X : Cx) (s : Shared) (H : Hp) (scope : Scope) (cl : List (Str × Addr)) (C : Addr) (fp : List Addr) : Cx := X.blk s H scope (compEnvC scope cl C X.env) fp
structure Parts2 (X : Cx) (g0 : G) (scope : Scope) (tg : Expr) (is : List Nat) (g : DG) (ifs : List Expr) (tt : DT) (tg1 iter1 : Expr) (wi1 : DA) (is1 : List Nat) (g1 : DG) (ifs1 : List Expr) (tt1 : DT) (elt : Expr) (te : DW) : Prop where
  hg : ∀ c' : C, c'.g = g0 → ∀ (s : Shared) (H : Hp) (C : Addr) (cl : List (Str × Addr)) (fp : List Addr), PDG c' (Bk X s H scope cl C fp) tg is g
  ht : ∀ c' : PL.C, c'.g = g0 → ∀ (s : Shared) (H : Hp) (C : Addr) (cl : List (Str × Addr)) (fp : List Addr), PDTs c' (Bk X s H scope cl C fp) ifs tt
  hi1 : ∀ c' : PL.C, c'.g = g0 → ∀ (s : Shared) (H : Hp) (C : Addr) (cl : List (Str × Addr)) (fp : List Addr), PDI c' (Bk X s H scope cl C fp) tg1 iter1 wi1
  hg1 : ∀ c' : PL.C, c'.g = g0 → ∀ (s : Shared) (H : Hp) (C : Addr) (cl : List (Str × Addr)) (fp : List Addr), PDG c' (Bk X s H scope cl C fp) tg1 is1 g1
  ht1 : ∀ c' : PL.C, c'.g = g0 → ∀ (s : Shared) (H : Hp) (C : Addr) (cl : List (Str × Addr)) (fp : List Addr), PDTs c' (Bk X s H scope cl C fp) ifs1 tt1
  he : ∀ c' : PL.C, c'.g = g0 → ∀ (s : Shared) (H : Hp) (C : Addr) (cl : List (Str × Addr)) (fp : List Addr), PD c' (Bk X s H scope cl C fp) elt te
theorem pd_lc2 (hc : X.calm = true) (hN : X.N.Nodup) (hi : PDI c X tg iter wi) (ok : BlkOk X.N X.env.scope scope own) (P : Parts2 X c.g scope tg is g ifs tt tg1 iter1 wi1 is1 g1 ifs1 tt1 elt te)
    (hv : ∀ i ∈ vs1, i ∈ own.map (·.2) := by decide) (his : ∀ i ∈ is, i ∈ own.map (·.2) := by decide) (his1 : ∀ i ∈ is1, i ∈ vs1 := by decide) (hs : ∀ x, foldedSetIterable iter X.env x = pure x := by intro _; rfl) (hs1 : ∀ env x, foldedSetIterable iter1 env x = pure x := by intro _ _; rfl) :
    PD c X (.ListComp elt [⟨tg, iter, ifs, 0⟩, ⟨tg1, iter1, ifs1, 0⟩] scope pos) (wLc2 wi g tt wi1 g1 tt1 te (own.map (·.2)) vs1) := by
  have m1 := (P.hg c rfl X.s_0 X.H_0 0 [] []).mo
  have m2 := (P.ht c rfl X.s_0 X.H_0 0 [] []).mo
  have m3 := (P.hi1 c rfl X.s_0 X.H_0 0 [] []).mo
  have m4 := (P.hg1 c rfl X.s_0 X.H_0 0 [] []).mo
  have m5 := (P.ht1 c rfl X.s_0 X.H_0 0 [] []).mo
  have m6 := (P.he c rfl X.s_0 X.H_0 0 [] []).mo
  refine ⟨(pe_lc2 (wi1 := tOfIE X.K c.g wi1) (g := gOfE X.K c.g is g) (tt := tOfTE X.K c.g tt) (g1 := gOfE X.K c.g is1 g1) (tt1 := tOfTE X.K c.g tt1) (te := tOfE X.K c.g te) hc hN hi.pe ok hv
    (fun s H C cl fp => ⟨fun pins s' σ H' v u Q I r ⟨c', e, q⟩ => (P.hg c' e s H C cl fp).pe.run pins s' σ H' v u Q I r q⟩) (fun s H C cl fp => ⟨fun pins s' σ H' Q I ⟨c', e, q⟩ => (P.ht c' e s H C cl fp).pe.run pins s' σ H' Q I q⟩)
    (fun s H C cl fp => ⟨fun pins s' σ H' Q I ⟨c', e, q⟩ => (P.hi1 c' e s H C cl fp).pe.run pins s' σ H' Q I q⟩)
    (fun s H C cl fp => ⟨fun pins s' σ H' v u Q I r ⟨c', e, q⟩ => (P.hg1 c' e s H C cl fp).pe.run pins s' σ H' v u Q I r q⟩) (fun s H C cl fp => ⟨fun pins s' σ H' Q I ⟨c', e, q⟩ => (P.ht1 c' e s H C cl fp).pe.run pins s' σ H' Q I q⟩)
    (fun s H C cl fp => ⟨fun pins s' σ H' Q I ⟨c', e, q⟩ => (P.he c' e s H C cl fp).pe.run pins s' σ H' Q I q⟩) hs hs1).imp fun σ H Q ⟨F, ρ, rl, q⟩ => ?_, fun ρ Q Q' k q => hi.mo _ _ _ (fun items ρ1 q => lcW2_mo m1 m2 m3 m4 m5 m6 _ _ _ _ (fun ys q => k _ _ q) q) q⟩
  refine lc2_read hi.mo m1 m2 m3 m4 m5 m6 his his1 rl q fun ys ρ1 F1 H1 p q r1 s1 h1 => ?_
  obtain ⟨ws, e1, k1⟩ := h1.at_
  obtain ⟨s2, r2⟩ := r1.freeze0 h1.f e1
  exact q _ _ H1 r2 (s1.trans s2) (.lst upd_same (k1.mono s2))
/-- y = [.. for .. for ..], y not changed later -/
def wSetLc2 (i : Nat) (wi : DA) (g : DG) (tt : DT) (wi1 : DA) (g1 : DG) (tt1 : DT) (te : DW) (vs vs1 : List Nat) : DS := fun E ρ => wLc2G wi g tt wi1 g1 tt1 te vs vs1 ρ fun ys ρ1 => E.nx (st ρ1 i (.d (.lst ys)))
theorem pds_setLc2 {i : Nat} {y : Str} {py spos : Pos} (hc : X.calm = true) (hN : X.N.Nodup) (hy : X.N[i]? = some y) (hyl : X.env.scope.names.lookup y = some .local) (hsw : swapsWith (.ListComp elt [⟨tg, iter, ifs, 0⟩, ⟨tg1, iter1, ifs1, 0⟩] scope pos) (some (.Name y py)) spos.line X.env = pure true)
    (hi : PDI c X tg iter wi) (ok : BlkOk X.N X.env.scope scope own) (P : Parts2 X c.g scope tg is g ifs tt tg1 iter1 wi1 is1 g1 ifs1 tt1 elt te)
    (hv : ∀ i ∈ vs1, i ∈ own.map (·.2) := by decide) (his : ∀ i ∈ is, i ∈ own.map (·.2) := by decide) (his1 : ∀ i ∈ is1, i ∈ vs1 := by decide) (hs : ∀ x, foldedSetIterable iter X.env x = pure x := by intro _; rfl) (hs1 : ∀ env x, foldedSetIterable iter1 env x = pure x := by intro _ _; rfl) :
    PDS c X (.Assign [.Name y py] (.ListComp elt [⟨tg, iter, ifs, 0⟩, ⟨tg1, iter1, ifs1, 0⟩] scope pos) spos) (wSetLc2 i wi g tt wi1 g1 tt1 te (own.map (·.2)) vs1) := by
  have m1 := (P.hg c rfl X.s_0 X.H_0 0 [] []).mo
  have m2 := (P.ht c rfl X.s_0 X.H_0 0 [] []).mo
  have m3 := (P.hi1 c rfl X.s_0 X.H_0 0 [] []).mo
  have m4 := (P.hg1 c rfl X.s_0 X.H_0 0 [] []).mo
  have m5 := (P.ht1 c rfl X.s_0 X.H_0 0 [] []).mo
  have m6 := (P.he c rfl X.s_0 X.H_0 0 [] []).mo
  refine ⟨(ps_setLc2 (wi1 := tOfIE X.K c.g wi1) (g := gOfE X.K c.g is g) (tt := tOfTE X.K c.g tt) (g1 := gOfE X.K c.g is1 g1) (tt1 := tOfTE X.K c.g tt1) (te := tOfE X.K c.g te) hc hN hy hyl hsw hi.pe ok hv
    (fun s H C cl fp => ⟨fun pins s' σ H' v u Q I r ⟨c', e, q⟩ => (P.hg c' e s H C cl fp).pe.run pins s' σ H' v u Q I r q⟩) (fun s H C cl fp => ⟨fun pins s' σ H' Q I ⟨c', e, q⟩ => (P.ht c' e s H C cl fp).pe.run pins s' σ H' Q I q⟩)
    (fun s H C cl fp => ⟨fun pins s' σ H' Q I ⟨c', e, q⟩ => (P.hi1 c' e s H C cl fp).pe.run pins s' σ H' Q I q⟩)
    (fun s H C cl fp => ⟨fun pins s' σ H' v u Q I r ⟨c', e, q⟩ => (P.hg1 c' e s H C cl fp).pe.run pins s' σ H' v u Q I r q⟩) (fun s H C cl fp => ⟨fun pins s' σ H' Q I ⟨c', e, q⟩ => (P.ht1 c' e s H C cl fp).pe.run pins s' σ H' Q I q⟩)
    (fun s H C cl fp => ⟨fun pins s' σ H' Q I ⟨c', e, q⟩ => (P.he c' e s H C cl fp).pe.run pins s' σ H' Q I q⟩) hs hs1).imp fun E σ H ⟨F, ρ, rl, q⟩ => ?_, fun E E' ρ l q => hi.mo _ _ _ (fun items ρ1 q => lcW2_mo m1 m2 m3 m4 m5 m6 _ _ _ _ (fun ys q => l.nx _ q) q) q⟩
  refine lc2_read hi.mo m1 m2 m3 m4 m5 m6 his his1 rl q fun ys ρ1 F1 H1 p q r1 s1 h1 => ?_
  obtain ⟨ws, e1, k1⟩ := h1.at_
  obtain ⟨s2, r2⟩ := r1.freeze0 h1.f e1
  exact q _ _ H1 (r2.setd (.lst upd_same (k1.mono s2))) (s1.trans s2)
end
end PL
end L2

namespace L2
namespace PL
open PySem PySem.Spec PyProof.Rows
variable [Tabl]
section
variable {X : Cx} {c : C} {e : Expr} {es : List Expr} {wr : DA} {we : DW} {pos p : Pos} {x : Str}
/-! ### isinstance with two built-in classes -/
def fIsi2 (cls : List Addr) (T U : TyN) : D → R1
  | .obj C _ _ => .gd (C ∈ cls) (.bl false)
  | .tok _ => .no
  | .fn _ => .no
  | d => .ok (.bl (isTy T d || isTy U d))
theorem TyX.of_repA {t : G} {F H : Hp} (s : Same F H) {v : V} {d : D} (r : Rep X.K t F v d) (hno : noTok d = true) (ho : ∀ C ns l, d ≠ .obj C ns l) : ∃ ty, TyX X.K H v ty ∧ ∀ T : TyN, PySem.W.kitOne X.K ty (.type T.nm) = some (isTy T d) := by
  have kt : ∀ (a : String) (T : TyN) (b : Bool), kitB a T.nm = some b → PySem.W.kitOne X.K (.type a) (.type T.nm) = some b := fun a T b h => kit_ty h
  cases r with
  | non => exact ⟨_, .base .non, fun T => kt _ _ _ (by cases T <;> decide +kernel)⟩
  | bl b => exact ⟨_, .base (.bl b), fun T => kt _ _ _ (by cases T <;> first | exact (show kitB "bool" _ = some true by decide +kernel) | exact (show kitB "bool" _ = some false by decide +kernel))⟩
  | int b => exact ⟨_, .base (.int b), fun T => kt _ _ _ (by cases T <;> first | exact (show kitB "int" _ = some true by decide +kernel) | exact (show kitB "int" _ = some false by decide +kernel))⟩
  | str b => exact ⟨_, .base (.str b), fun T => kt _ _ _ (by cases T <;> first | exact (show kitB "str" _ = some true by decide +kernel) | exact (show kitB "str" _ = some false by decide +kernel))⟩
  | tup h r =>
    have k := fun T : TyN => kt "tuple" T (decide (T = .tuple)) (by cases T <;> decide +kernel)
    have e : ∀ (T : TyN) l, isTy T (.tup l) = decide (T = .tuple) := fun T l => by cases T <;> rfl
    simp only [e]
    rcases h with (h | ⟨o, h⟩) | ⟨o, its, n, h1, h2, _⟩
    · exact ⟨_, .base (.tup (s _ _ h)), k⟩
    · exact ⟨_, .fTuple (s _ _ h), k⟩
    · exact ⟨_, .kTuple h1 h2, k⟩
  | lst h r =>
    have k := fun T : TyN => kt "list" T (decide (T = .list)) (by cases T <;> decide +kernel)
    have e : ∀ (T : TyN) l, isTy T (.lst l) = decide (T = .list) := fun T l => by cases T <;> rfl
    simp only [e]
    exact ⟨_, .base (.lst (s _ _ h)), k⟩
  | scr h =>
    have k := fun T : TyN => kt "list" T (decide (T = .list)) (by cases T <;> decide +kernel)
    have e : ∀ (T : TyN) l, isTy T (.scr l) = decide (T = .list) := fun T l => by cases T <;> rfl
    simp only [e]
    rcases h with (h | ⟨o, h⟩) | ⟨o, its, n, h1, h2, _⟩
    · exact ⟨_, .base (.lst (s _ _ h)), k⟩
    · exact ⟨_, .base (.frz (s _ _ h)), k⟩
    · exact ⟨_, .kList h1 h2, k⟩
  | obj _ _ _ => exact absurd rfl (ho _ _ _)
  | tok => cases hno
  | fn _ => cases hno
theorem kitAny2 {K : PySem.W.Frag} {t a b : Value} {u v : Bool} (h1 : PySem.W.kitOne K t a = some u) (h2 : PySem.W.kitOne K t b = some v) : PySem.W.kitAny K t [a, b] = some (u || v) := by
  unfold PySem.W.kitAny
  rw [h1]
  cases u
  · unfold PySem.W.kitAny
    rw [h2]
    cases v <;> rfl
  · rfl
theorem isi2_br {cls : List Addr} {T U : TyN} (hcls : ∀ C ∈ cls, ObjT X.K C) (mo : Mono we) (σ : St) (H : Hp) (Q : VK) (q : tOf X.K c (wUn (fIsi2 cls T U) we) σ H Q) : tCB (rIsiT X.K) (tCons (tOf X.K c we) (tCons (tTup (tCons (tC (.ty T.nm)) (tCons (tC (.ty U.nm)) tNil))) tNil)) σ H Q := by
  obtain ⟨F, ρ, rl, q⟩ := q
  refine ⟨F, ρ, rl, mo ρ _ _ (fun d ρ1 q v F0 H0 r0 s0 e0 => ?_) q⟩
  refine ⟨by rw [sizeLine16]; exact (show 2 ≤ 16777216 by decide), fun tp np => ?_⟩
  generalize hF1 : upd F0 tp (.tup [.ty T.nm, .ty U.nm]) = F1
  have r1 := r0.laid (o := .tup [.ty T.nm, .ty U.nm]) np
  have s1 : Same F F1 := by rw [← hF1]; exact s0.trans (same_laid (r0.freeF np))
  have e1 : Rep X.K c.g F1 v d := by rw [← hF1]; exact e0.mono (same_laid (r0.freeF np))
  rw [hF1] at r1
  generalize hH1 : upd H0 tp (.tup [.ty T.nm, .ty U.nm]) = H1
  have hT : H1 tp = some (.tup [.ty T.nm, .ty U.nm]) := by rw [← hH1]; exact upd_same
  rw [hH1] at r1
  show rIsiT X.K [v, .ref tp] H1 Q
  have pr : Paired ClsV [V.ty T.nm, .ty U.nm] [.type T.nm, .type U.nm] := .cons (.ty _) (.cons (.ty _) .nil)
  have gen : noTok d = true → (∀ C ns l, d ≠ .obj C ns l) → fIsi2 cls T U d = .ok (.bl (isTy T d || isTy U d)) → rIsiT X.K [v, .ref tp] H1 Q := fun h1 h2 h3 => by
    rw [h3] at q
    obtain ⟨ty, k1, k2⟩ := TyX.of_repA r1.step.fh e1 h1 h2
    exact ⟨v, tp, _, ty, _, _, rfl, hT, pr, k1, kitAny2 (k2 T) (k2 U), q _ F1 H1 r1 s1 (.bl _)⟩
  cases d with
  | obj C ns l =>
    obtain ⟨hC, q⟩ := q
    have o := hcls C hC
    cases e1 with
    | obj h1 h2 h3 =>
      exact ⟨_, tp, _, _, _, _, rfl, hT, pr, .base (.ins (r1.step.fh _ _ h1) o.cl o.ha o.hn o.htk o.hm), kitAny2 (o.kit T) (o.kit U), q _ F1 H1 r1 s1 (.bl _)⟩
  | tok k => exact (show False from q).elim
  | fn k => exact (show False from q).elim
  | _ => exact gen rfl (fun _ _ _ z => nomatch z) rfl
theorem pd_isi2 {k : Nat} {y z : Str} {py pz pt : Pos} {cls : List Addr} (T U : TyN) (hcls : ∀ C ∈ cls, ObjT X.K C) (hg : Gl X "isinstance") (hm : X.mg "isinstance" = none) (hgy : Gl X y) (hmy : X.mg y = none) (hv : bootBuiltins y = some (.type T.nm)) (hgz : Gl X z) (hmz : X.mg z = none) (hvz : bootBuiltins z = some (.type U.nm)) (he : PD c X e we)
    (hny : y ≠ "__name__" := by decide) (hdy : (y == ("__debug__" : Str)) = false := by decide) (hnz : z ≠ "__name__" := by decide) (hdz : (z == ("__debug__" : Str)) = false := by decide)
    (hs : starEach [e, .Tuple [.Name y py, .Name z pz] k pt] X.env = (false, eval e X.env) :: starEach [.Tuple [.Name y py, .Name z pz] k pt] X.env := by rfl) (hs2 : starEach [.Tuple [.Name y py, .Name z pz] k pt] X.env = (false, eval (.Tuple [.Name y py, .Name z pz] k pt) X.env) :: starEach [] X.env := by rfl)
    (ht1 : starEach [.Name y py, .Name z pz] X.env = (false, eval (.Name y py) X.env) :: starEach [.Name z pz] X.env := by rfl) (ht2 : starEach [.Name z pz] X.env = (false, eval (.Name z pz) X.env) :: starEach [] X.env := by rfl)
    (hpl : (backTo pos (starEach [.Tuple [.Name y py, .Name z pz] k pt] X.env)).any (·.1) = false := by rfl) :
    PD c X (.Call (.Name "isinstance" p) [e, .Tuple [.Name y py, .Name z pz] k pt] [] pos) (wUn (fIsi2 cls T U) we) :=
  ⟨(pe_callB call_isiT hg hm (by decide +kernel) (pa_cons he.pe (pa_cons (pe_tup (pa_cons (pe_bltn (v := .ty T.nm) hgy hmy hv rfl hny hdy) (pa_cons (pe_bltn (v := .ty U.nm) hgz hmz hvz rfl hnz hdz) pa_nil ht2) ht1)) pa_nil hs2) hs) (he := hs) (hpl := hpl)).imp (isi2_br hcls he.mo), mo_Un he.mo⟩
/-! ### min, max of two ints -/
def fMin2 : List D → R1
  | [.int i, .int j] => .ok (.int (if j < i then j else i))
  | _ => .no
def fMax2 : List D → R1
  | [.int i, .int j] => .ok (.int (if j > i then j else i))
  | _ => .no
theorem br_min2 : BrC c X.K (fun xs H Q => ∃ i j, xs = [.int i, .int j] ∧ Q (.int (if j < i then j else i)) H) fMin2 := by
  intro F σ H ρ vs ds Q rl r q
  unfold fMin2 at q
  split at q
  · cases r with
    | cons r1 r2 => cases r2 with
      | cons r2 r3 => cases r3; cases r1; cases r2; exact ⟨_, _, rfl, q _ F H rl (Same.refl _) (.int _)⟩
  · exact (show False from q).elim
theorem br_max2 : BrC c X.K (fun xs H Q => ∃ i j, xs = [.int i, .int j] ∧ Q (.int (if j > i then j else i)) H) fMax2 := by
  intro F σ H ρ vs ds Q rl r q
  unfold fMax2 at q
  split at q
  · cases r with
    | cons r1 r2 => cases r2 with
      | cons r2 r3 => cases r3; cases r1; cases r2; exact ⟨_, _, rfl, q _ F H rl (Same.refl _) (.int _)⟩
  · exact (show False from q).elim
theorem pd_B_min2 (hc : X.calm = true) (hg : Gl X "min") (hm : X.mg "min" = none) (ha : PDA c X (e :: es) wr) (he : starEach (e :: es) X.env = (false, eval e X.env) :: starEach es X.env := by rfl) (hpl : (backTo pos (starEach es X.env)).any (·.1) = false := by rfl) : PD c X (.Call (.Name "min" p) (e :: es) [] pos) (wCal fMin2 wr) :=
  pd_calB (call_min2 hc) br_min2 hg hm (by decide +kernel) ha (he := he) (hpl := hpl)
theorem pd_B_max2 (hc : X.calm = true) (hg : Gl X "max") (hm : X.mg "max" = none) (ha : PDA c X (e :: es) wr) (he : starEach (e :: es) X.env = (false, eval e X.env) :: starEach es X.env := by rfl) (hpl : (backTo pos (starEach es X.env)).any (·.1) = false := by rfl) : PD c X (.Call (.Name "max" p) (e :: es) [] pos) (wCal fMax2 wr) :=
  pd_calB (call_max2 hc) br_max2 hg hm (by decide +kernel) ha (he := he) (hpl := hpl)
end
end PL
end L2

namespace L2
namespace PL
open PySem PySem.Spec PyProof.Rows
variable [Tabl]
/-! a def that draws from a list that it writes: the list is owned while it runs, and what it holds at a return is told -/
structure DE2 where
  nx : List SD → Prop
  rt : D → List SD → Prop
abbrev DS2 := DE2 → List SD → Prop
structure DE2.Le (E E' : DE2) : Prop where
  nx : ∀ ρ, E.nx ρ → E'.nx ρ
  rt : ∀ d ρ, E.rt d ρ → E'.rt d ρ
def MonoS2 (w : DS2) : Prop := ∀ E E' ρ, DE2.Le E E' → w E ρ → w E' ρ
def ends2 (K : PySem.W.Frag) (c : C) (F : Hp) (E : Ends) : DE2 where
  nx := fun ρ' => ∀ σ' F' H', Rel K c F' σ' H' ρ' → Same F F' → E.nx σ' H'
  rt := fun d ρ' => ∀ v σ' F' H', Rel K c F' σ' H' ρ' → Same F F' → Rep K c.g F' v d → E.rt v H'
def sOf2 (K : PySem.W.Frag) (c : C) (w : DS2) : TS := fun E σ H => ∃ F ρ, Rel K c F σ H ρ ∧ w (ends2 K c F E) ρ
structure PDS2 (c : C) (X : Cx) (st : Stmt) (w : DS2) : Prop where
  pe : PS X st (sOf2 X.K c w)
  mo : MonoS2 w
structure PDB2 (c : C) (X : Cx) (st : List Stmt) (w : DS2) : Prop where
  pe : PSs X st (sOf2 X.K c w)
  mo : MonoS2 w
theorem ends2_le {K : PySem.W.Frag} {c : C} {F F1 : Hp} {E : Ends} (s : Same F F1) : (ends2 K c F E).Le (ends2 K c F1 E) :=
  ⟨fun ρ h σ' F' H' r s' => h σ' F' H' r (s.trans s'), fun d ρ h v σ' F' H' r s' => h v σ' F' H' r (s.trans s')⟩
section
variable {X : Cx} {c : C} {stm : Stmt} {sts : List Stmt} {w w' : DS2} {e : Expr} {we : DW} {pos : Pos}
def wNext2 : DS2 := fun E ρ => E.nx ρ
def wSeq2 (w w' : DS2) : DS2 := fun E ρ => w { E with nx := fun ρ1 => w' E ρ1 } ρ
theorem pdb2_nil : PDB2 c X [] wNext2 := ⟨pss_nil.imp fun E σ H ⟨F, ρ, rl, q⟩ => q σ F H rl (Same.refl _), fun _ _ _ l q => l.nx _ q⟩
theorem pdb2_cons (h : PDS2 c X stm w) (h' : PDB2 c X sts w') : PDB2 c X (stm :: sts) (wSeq2 w w') := by
  refine ⟨(pss_cons h.pe h'.pe).imp fun E σ H ⟨F, ρ, rl, q⟩ => ⟨F, ρ, rl, h.mo { ends2 X.K c F E with nx := fun ρ1 => w' (ends2 X.K c F E) ρ1 } _ ρ ⟨fun ρ1 q σ' F' H' r' s' => ?_, fun _ _ h => h⟩ q⟩, fun E E' ρ l q => h.mo { E with nx := fun ρ1 => w' E ρ1 } _ ρ ⟨fun ρ1 q => h'.mo _ _ _ l q, l.rt⟩ q⟩
  exact ⟨F', ρ1, r', h'.mo _ _ _ (ends2_le s') q⟩
theorem pdb2_one (h : PDS2 c X stm w) : PDB2 c X [stm] w := ⟨(pss_one h.pe).imp fun E σ H q => q, h.mo⟩
def wRet2 (we : DW) : DS2 := fun E ρ => we ρ fun d ρ1 => E.rt d ρ1
theorem pds2_ret (h : PD c X e we) : PDS2 c X (.Return (some e) pos) (wRet2 we) :=
  ⟨(ps_ret h.pe).imp fun E σ H ⟨F, ρ, rl, q⟩ => ⟨F, ρ, rl, h.mo _ _ _ (fun d ρ1 q v F1 H1 r1 s1 e1 => q v σ F1 H1 r1 s1 e1) q⟩, fun E E' ρ l q => h.mo _ _ _ (fun d _ q => l.rt d _ q) q⟩
def wIf2 (wt : DT) (w w' : DS2) : DS2 := fun E ρ => wt ρ fun k ρ1 => (k = true → w E ρ1) ∧ (k = false → w' E ρ1)
theorem pds2_if {cd : Expr} {a b : List Stmt} {wt : DT} (hc : PDT c X cd wt) (ha : PDB2 c X a w) (hb : PDB2 c X b w') : PDS2 c X (.If cd a b pos) (wIf2 wt w w') := by
  refine ⟨(ps_if hc.pe ha.pe hb.pe).imp fun E σ H ⟨F, ρ, rl, q⟩ => ⟨F, ρ, rl, hc.mo _ _ _ (fun k ρ1 q F1 H1 r1 s1 => ?_) q⟩, fun E E' ρ l q => hc.mo _ _ _ (fun k ρ1 q => ⟨fun e => ha.mo _ _ _ l (q.1 e), fun e => hb.mo _ _ _ l (q.2 e)⟩) q⟩
  cases k with
  | true => rw [if_pos rfl]; exact ⟨F1, ρ1, r1, ha.mo _ _ _ (ends2_le s1) (q.1 rfl)⟩
  | false => rw [if_neg Bool.false_ne_true]; exact ⟨F1, ρ1, r1, hb.mo _ _ _ (ends2_le s1) (q.2 rfl)⟩
/-- a statement that does not return -/
def wLift (w : DS) : DS2 := fun E ρ => w { nx := E.nx, rt := fun _ => False } ρ
theorem pds2_lift {w : DS} (h : PDS c X stm w) : PDS2 c X stm (wLift w) :=
  ⟨h.pe.imp fun E σ H ⟨F, ρ, rl, q⟩ => ⟨F, ρ, rl, h.mo { nx := (ends2 X.K c F E).nx, rt := fun _ => False } _ _ ⟨fun ρ1 q => q, fun d (q : False) => q.elim, fun _ (q : False) => q.elim, fun _ (q : False) => q.elim⟩ q⟩, fun E E' ρ l q => h.mo { nx := E.nx, rt := fun _ => False } _ _ ⟨l.nx, fun d q => q, fun _ q => q, fun _ q => q⟩ q⟩
end
/-- x[i] = e, x an owned list at a known place -/
def wSetA (i : Nat) (we wi : DW) : DS := fun E ρ => we ρ fun d ρ1 => match gt ρ1 i with
  | .oa _ _ => wi ρ1 fun y ρ2 => match gt ρ2 i, y with
    | .oa a l, .int k => match ixN l.length k with
      | some j => E.nx (st ρ2 i (.oa a (l.set j d)))
      | none => False
    | _, _ => False
  | _ => False
section
variable {X : Cx} {c : C} {e : Expr} {we : DW} {pos : Pos}
theorem pds_seta {i : Nat} {x : Str} {px ps : Pos} {ix : Expr} {wi : DW} (h : PE X (.Name x px) (tVar i)) (he : PD c X e we) (hi : PD c X ix wi) (hs : swapsWithSole [.Subscript (.Name x px) ix ps] e pos.line X.env = pure false := by rfl) (hw : swappedStores [.Subscript (.Name x px) ix ps] e X.env = pure none := by rfl)
    (h1 : (assignEach [.Subscript (.Name x px) ix ps] X.env).map (·.2) = [assign (.Subscript (.Name x px) ix ps) X.env] := by rfl)
    (ha : ∀ v, assign (.Subscript (.Name x px) ix ps) X.env v = (do
      let ov ← holding [v] (eval (.Name x px) X.env)
      let iv ← holding [v, ov] (eval ix X.env)
      standAt ps
      holding [v, ov, iv] (setItem ov iv v)
      release [v, ov, iv] []) := by intro _; rfl) : PDS c X (.Assign [.Subscript (.Name x px) ix ps] e pos) (wSetA i we wi) := by
  refine ⟨(ps_asg he.pe (pg_sub h hi.pe set_list ha) hs hw h1).imp fun E σ H ⟨F, ρ, rl, q⟩ => ⟨F, ρ, rl, he.mo _ _ _ (fun d ρ1 q v F1 H1 r1 s1 e1 => ?_) q⟩, fun E E' ρ l q => he.mo _ _ _ (fun d ρ1 q => ?_) q⟩
  · split at q
    · rename_i a0 l0 e0
      obtain ⟨p, o0, e2, _⟩ := r1.owns (i := i) (by rw [e0]; rfl)
      refine ⟨_, join_some e2, F1, ρ1, r1, hi.mo _ _ _ (fun y ρ2 q u F2 H2 r2 s2 e3 => ?_) q⟩
      split at q
      · rename_i a l k e4
        have o2 := r2.owns (i := i) (by rw [e4]; rfl)
        rw [e4] at o2
        obtain ⟨p2, o, e5, h6, _, _, _, rfl, vs, rfl, h8⟩ := o2
        rw [e2] at e5
        cases e5
        cases e3
        split at q
        · rename_i j e9
          refine ⟨_, vs, k, j, rfl, rfl, h6, by rw [h8.length]; exact e9, ?_⟩
          exact q σ F2 _ (r2.write (by rw [e4]; rfl) e2 rfl ⟨rfl, _, rfl, h8.set (e1.mono s2) j⟩) (s1.trans s2)
        · exact q.elim
      · exact q.elim
    · exact q.elim
  · split
    · rename_i e0
      rw [e0] at q
      refine hi.mo _ _ _ (fun y ρ2 q => ?_) q
      split
      · rename_i e1
        rw [e1] at q
        split
        · rename_i e2
          simp only [e2] at q
          exact l.nx _ q
        · rename_i e2
          simp only [e2] at q
      · rename_i e1
        split at q
        · exact e1 _ _ _ (by assumption) rfl
        · exact q
    · rename_i e0
      split at q
      · exact e0 _ _ (by assumption)
      · exact q
end
/-! ### the promise of _law_draw(state, limit) -/
def S__law_drawS : Spec := fun ds Q _ => ∃ m : Int, ds = [.tok 2, .int m] ∧ m < 2 ^ 1000 ∧ ∀ v : Int, 0 ≤ v → (v < m ∨ m < 2 ∧ v = 0) → Q (.int v)
theorem mS__law_drawS : MonoSp S__law_drawS := fun ds Q Q' E E' h h' ⟨m, e, o, q⟩ => ⟨m, e, o, fun v a b => h _ (q v a b)⟩
def stD (ns : List Int) (n : Nat) (a b d : Int) : List D := [.lst (ns.map .int), .int (n : Int), .int a, .int b, .int d]
theorem rep_t0 {K : PySem.W.Frag} {t t' : G} {F : Hp} {ns : List Int} {v : V} (h : Rep K t F v (.lst (ns.map .int))) : ∃ dr, v = .ref dr ∧ F dr = some (.lst (ns.map V.int)) := by
  obtain ⟨p, vs, rfl, h1, h2⟩ := h.seqL
  have : ∀ {vs : List V} {ns : List Int}, Reps K t F vs (ns.map .int) → vs = ns.map V.int := by
    intro vs ns
    induction ns generalizing vs with
    | nil => intro h; cases h; rfl
    | cons n ns ih => intro h; cases h with
      | cons h1 h2 => cases h1; rw [ih h2]; rfl
  rw [this h2] at h1
  exact ⟨p, rfl, h1⟩
theorem reps_ints0 {K : PySem.W.Frag} {t : G} {F : Hp} : ∀ ns : List Int, Reps K t F (ns.map V.int) (ns.map .int)
  | [] => .nil
  | n :: ns => .cons (.int n) (reps_ints0 ns)
def wo (H : Hp) (a : Addr) : Hp := fun b => if b = a then none else H b
theorem wo_ne {H : Hp} {a b : Addr} (h : b ≠ a) : wo H a b = H b := if_neg h
theorem wo_same {H : Hp} {a : Addr} : wo H a a = none := if_pos rfl
theorem Step.back2 {K : PySem.W.Frag} {g : G} {F H F' H' : Hp} {n : Nat} {a b d : Int} {ns : List Int} {vs : List V} (hg : g.hk = 2) (hF : F g.tok = none) (hh : ∃ o, H g.tok = some o) (hT : TabOk g F H) (s : Step ⟨g.tok, 0⟩ F (wo H g.tok) F' H') (e : H' g.tok = some (.lst vs)) (eF : F' g.tok = none)
    (r : Reps K ⟨g.tok, 0⟩ F' vs (stD ns n a b d)) : Step g F H F' H' := by
  refine ⟨s.ff, s.fh, fun x o e1 k => ?_, fun x o e1 => ?_, .inr ⟨eF, by omega, _, e, ?_⟩, s.hand.2⟩
  · have nx : x ≠ g.tok := by
      rcases k.1 with k | k
      · omega
      · exact k
    exact s.keep x o (by rw [wo_ne nx]; exact e1) ⟨.inl rfl, k.2⟩
  · have nx : x ≠ g.tok := fun z => by subst z; rw [eF] at e1; cases e1
    rcases s.fresh x o e1 with h | h
    · exact .inl h
    · rw [wo_ne nx] at h; exact .inr h
  · rw [hg]
    cases r with
    | cons h1 r => cases r with
      | cons h2 r => cases r with
        | cons h3 r => cases r with
          | cons h4 r => cases r with
            | cons h5 r =>
              cases r
              obtain ⟨dr, rfl, h6⟩ := rep_t0 (t' := ⟨0, 0⟩) h1
              cases h2; cases h3; cases h4; cases h5
              exact .inr (.inl ⟨rfl, dr, n, a, b, d, ns, rfl, h6⟩)
section
variable {P : Program} {w : World} {K : PySem.W.Frag} {mg : Str → Option Value} {base : Heap}
theorem fn_state {x qual : Str} {stm : Stmt} {f : Addr} {fd : FuncData} {N ps : List Str} {k : Nat} (Fn : Fun K x qual stm f fd) (Sc : FnScope N ps (defScope stm)) (hp : ps.length = 2)
    (hbody : ∀ (X : Cx) (c : C), (∃ cdv A outer s H E, X = cxOf (L2.CX P w) P w K mg base N qual (defScope stm) f cdv A outer s H E) → Room k X.A →
      ∃ wb : DS2, PDB2 c X (defBody stm) wb ∧ ∀ (t : Addr) (ns : List Int) (n : Nat) (a b d m : Int), m < 2 ^ 1000 →
        wb { nx := fun _ => False, rt := fun x ρ => (∃ v : Int, x = .int v ∧ 0 ≤ v ∧ (v < m ∨ m < 2 ∧ v = 0)) ∧ ∃ ns n a b d, gt ρ 0 = .oa t (stD ns n a b d) } (.oa t (stD ns n a b d) :: .d (.int m) :: List.replicate (N.length - 2) .no)) :
    FnOk P w K mg base (L2.CX P w) (k + 1) f fd ps (spG K S__law_drawS) := by
  refine Fn.okG Sc (fun vs H Q E h => ?_) (fun cdv A outer s H vs Q E hr h => ?_)
  · obtain ⟨g, F, ds, _, _, r, m, rfl, _⟩ := h
    rw [r.length, hp]; rfl
  · obtain ⟨g, F, ds, sF, hk, r, m, rfl, hm, q⟩ := h
    have hlen := r.length
    cases r with
    | cons h1 r => cases r with
      | cons h2 r =>
        cases r
        cases h2
        have hk2 : g.hk = 2 ∧ ∀ v, Rep K g F v (.tok 2) → v = .ref g.tok := by
          generalize hd : D.tok 2 = x at h1
          cases h1 with
          | tok =>
            injection hd with hd
            refine ⟨hd.symm, fun v hv => ?_⟩
            cases hv; rfl
          | _ => cases hd
        have e1 := hk2.2 _ h1
        subst e1
        obtain ⟨hk, hT⟩ := hk
        rcases hk with z | ⟨k1, k2, o, k3, k4⟩
        · omega
        rw [hk2.1] at k4
        rcases k4 with ⟨z, _⟩ | ⟨_, dr, n, a, b, d, ns, rfl, k5⟩ | ⟨z, _⟩
        · cases z
        rotate_left
        · cases z
        obtain ⟨wb, pb, qb⟩ := hbody (cxOf (L2.CX P w) P w K mg base N qual (defScope stm) f cdv A outer s H E) ⟨⟨g.tok, 0⟩, F, wo H g.tok⟩ ⟨cdv, A, outer, s, H, E, rfl⟩ hr
        have hpl := congrArg List.length Sc.pre
        rw [List.length_take] at hpl
        have st0 : Step ⟨g.tok, 0⟩ F (wo H g.tok) F H := ⟨Same.refl _, sF, fun x o e _ => by
          by_cases nx : x = g.tok
          · subst nx; rw [wo_same] at e; cases e
          · rw [wo_ne nx] at e; exact e, fun x o e => .inl e, .inl rfl, hT⟩
        have r0 : Rel K ⟨⟨g.tok, 0⟩, F, wo H g.tok⟩ F (start N [.non, .int m]) H ([D.non, D.int m].map SD.d ++ List.replicate (N.length - 2) .no) :=
          start_rel (c := ⟨⟨g.tok, 0⟩, F, wo H g.tok⟩) (ds := [.non, .int m]) st0 (.cons .non (.cons (.int m) .nil)) (by show 2 ≤ _; omega)
        have nog : ∀ (l : List D) (m k : Nat), isO (gt (l.map SD.d ++ List.replicate m .no) k) = false := by
          intro l m
          induction l with
          | nil =>
            induction m with
            | zero => intro k; rfl
            | succ m ih => intro k; cases k with
              | zero => rfl
              | succ k => exact ih k
          | cons d l ih => intro k; cases k with
            | zero => rfl
            | succ k => exact ih k
        have ntk : ∀ q ∈ Tabl.T, g.tok ≠ q.1 := fun q hq z => by
          obtain ⟨_, ps, e, _⟩ := hT q hq
          rw [← z, k3] at e; cases e
        have fr : Fresh0 ⟨⟨g.tok, 0⟩, F, wo H g.tok⟩ F (start N [.non, .int m]) ([D.non, D.int m].map SD.d ++ List.replicate (N.length - 2) .no) g.tok := ⟨k1, wo_same, ⟨.inl rfl, ntk⟩, fun k z => by rw [nog] at z; cases z⟩
        have r2 := r0.adopt (i := 0) (x := .oa g.tok (stD ns n a b d)) fr k3 ⟨rfl, _, rfl, .cons (.lst k5 (reps_ints0 ns)) (.cons (.int _) (.cons (.int _) (.cons (.int _) (.cons (.int _) .nil))))⟩ rfl
        have e1 : (start N [V.non, .int m]).set 0 (some (.ref g.tok)) = start N [.ref g.tok, .int m] := by
          unfold start; rfl
        rw [e1] at r2
        refine ⟨_, pb.pe, F, _, r2, pb.mo _ _ _ ⟨fun ρ (q : False) => q.elim, fun x ρ h v σ' F' H' rl _ e => ?_⟩ (qb g.tok ns n a b d m hm)⟩
        obtain ⟨⟨u, rfl, u0, u1⟩, ns', n', a', b', d', eg⟩ := h
        obtain ⟨p, o, y1, y2, y3, y4, y5, y6⟩ := rl.owns (i := 0) (by rw [eg]; rfl)
        rw [eg] at y6
        obtain ⟨rfl, vs, rfl, y7⟩ := y6
        have z := rl.step
        exact q u u0 u1 v F' H' (Step.back2 hk2.1 k1 ⟨_, k3⟩ hT z y2 y3 y7) (by cases e; exact .int u)
end
end PL
end L2

namespace L2
namespace PL
open PySem PySem.Spec PyProof.Rows
variable [Tabl]
/-! what is drawn from is made by a def of the law -/
/-- the tables are empty -/
def Tab0 (H : Hp) : Prop := ∀ q ∈ Tabl.T, H q.1 = some (.tbl #[])
theorem Tab0.ok {g : G} {F H : Hp} (h : Tab0 H) (n : ∀ q ∈ Tabl.T, F q.1 = none) : TabOk g F H := fun q hq => ⟨n q hq, #[], h q hq, True.intro, fun pos cv hc => by
  have z : codeAmong pos [] = some cv := hc
  simp [codeAmong] at z⟩
/-- all that is there, but the tables -/
def fz (H : Hp) : Hp := fun a => if a ∈ Tabl.T.map (·.1) then none else H a
theorem fz_tab {H : Hp} : ∀ q ∈ Tabl.T, fz H q.1 = none := fun q hq => if_pos (List.mem_map.mpr ⟨q, hq, rfl⟩)
theorem fz_same {H : Hp} : Same (fz H) H := fun b u e => by
  unfold fz at e
  split at e
  · cases e
  · exact e
theorem fz_ne {H : Hp} {a : Addr} (h : a ∉ Tabl.T.map (·.1)) : fz H a = H a := if_neg h
theorem Tab0.ne {H : Hp} (h : Tab0 H) {a : Addr} (n : H a ≠ some (.tbl #[])) : a ∉ Tabl.T.map (·.1) := fun z => by
  obtain ⟨q, hq, rfl⟩ := List.mem_map.mp z
  exact n (h q hq)
def spHand (K : PySem.W.Frag) (kd : Nat) : Sp := fun vs H Q _ => ∃ (a : Addr) (ns : List Int), vs = [.ref a] ∧ Tab0 H ∧ SqL K H a (ns.map V.int) ∧ ∀ (p : Addr) (F H' : Hp), Same F H' → HandOk ⟨p, kd⟩ F H' → kd ≠ 0 → Q (.ref p) H'
section
variable {X : Cx} {k : Nat} {f : Addr} {fd : FuncData} {kd : Nat}
theorem pss_made {x y z : Str} {pos pos' p p2 pos2 : Pos} {i : Nat} {rest : List Stmt} {w : DS} (hN : X.N.Nodup) (hi : X.N[i]? = some x) (hx : Loc X.env.scope x) (hkd : kd ≠ 0)
    (F : FnOk X.prog X.w X.K X.mg X.base (L2.CX X.prog X.w) k f fd ["script"] (spHand X.K kd)) (hr : Room k X.A) (hg : Gl X y) (hm : X.mg y = some (.ref f)) (hk : PySem.W.keepIn X.K (.ref f) = true) (hb : Binds X.K fd ["script"] []) (h0 : PE X (.Name z p2) (tVar 0))
    (hrest : ∀ c' : C, PDB c' X rest w) (hdb : (y == ("__debug__" : Str)) = false := by decide)
    (hs : swapsWith (.Call (.Name y p) [.Name z p2] [] pos2) (some (.Name x pos')) pos.line X.env = pure false := by rfl) (he : starEach [.Name z p2] X.env = (false, eval (.Name z p2) X.env) :: starEach [] X.env := by rfl) (hpl : (backTo pos2 (starEach [] X.env)).any (·.1) = false := by rfl) (hf : X.fn x = true ∨ X.env.scope.names.lookup x = some .local := by first | exact .inl rfl | exact .inr rfl | assumption) :
    PSs X (.Assign [.Name x pos'] (.Call (.Name y p) [.Name z p2] [] pos2) pos :: rest) (fun E σ H => ∃ (a : Addr) (ns : List Int), σ[0]? = some (some (.ref a)) ∧ Tab0 H ∧ SqL X.K H a (ns.map V.int) ∧
      w { nx := fun _ => ∀ σ H, E.nx σ H, rt := fun d => ∀ v F' H' t, Rep X.K t F' v d → E.rt v H', bk := fun _ => False, ct := fun _ => False } (st (List.replicate σ.length .no) i (.d (.tok kd)))) := by
  refine (pss_cons (u := fun E σ H => ∃ c' F ρ', Rel X.K c' F σ H ρ' ∧ w { nx := fun _ => ∀ σ H, E.nx σ H, rt := fun d => ∀ v F' H' t, Rep X.K t F' v d → E.rt v H', bk := fun _ => False, ct := fun _ => False } ρ') (ps_set hN hi hx (pe_callSD (E := WE NoW) F hr hg hm hk hb .nil (fun σ => passAt takesN σ) (pa_cons h0 pa_nil he) hdb he hpl) hs hf) ?_).imp fun E σ H ⟨a, ns, e0, hTb, hS, q⟩ => ?_
  · refine ⟨fun pins s σ H E I ⟨c', F, ρ', rl, q⟩ => ?_⟩
    refine (hrest c').pe.run pins s σ H E I ⟨F, ρ', rl, (hrest c').mo { nx := fun _ => ∀ σ H, E.nx σ H, rt := fun d => ∀ v F' H' t, Rep X.K t F' v d → E.rt v H', bk := fun _ => False, ct := fun _ => False } _ _ ⟨fun ρ1 q σ1 F1 H1 _ _ => q σ1 H1, fun d q v F1 H1 st r => q v F1 H1 c'.g r, fun _ q => q.elim, fun _ q => q.elim⟩ q⟩
  · refine ⟨.ref a, e0, a, ns, rfl, hTb, hS, fun p F' H' sF hk _ => ?_⟩
    refine ⟨⟨⟨p, kd⟩, F', H'⟩, F', _, ?_, q⟩
    refine ⟨.refl sF hk, by rw [List.length_set, st_len, List.length_replicate], fun k => ?_, fun a b p' y1 => ?_⟩
    · by_cases hk : k = i
      · subst hk
        by_cases hl : k < σ.length
        · rw [gt_st_same (by rw [List.length_replicate]; exact hl), List.getElem?_set_self hl]
          exact ⟨_, rfl, .tok⟩
        · rw [gt_out (by rw [st_len, List.length_replicate]; omega)]; trivial
      · rw [gt_st_ne hk, gt_rep]; trivial
    · exfalso
      rw [isW_rep] at y1
      cases y1
end
end PL
end L2

/-! isinstance(e, C) of a caught exception that has attributes -/
namespace L2
namespace PL
open PySem PySem.Spec PySem.W PySem.Calls PyProof.Rows
variable [Tabl]
theorem foundBind {K : PySem.W.Frag} {D : Addr} (T : ExcC K D) (od : Option Obj) : findObj K D od "__class__" = some (.bind (.builtin "getset_descriptor.__get__") (.builtin "object.__class__")) := by
  obtain ⟨cd, hc, _⟩ := any_some T.hd
  unfold findObj
  rw [hc, Option.bind_some, T.ha, Option.bind_some]
  simp [T.hn, T.ht]
theorem cls_of_exc {pg : Program} {w : World} {A : Around} {Er : Value → Shared → Prop} {st0 : Shared} {K : PySem.W.Frag} {x D : Addr} {ox : Obj} {od : Option Obj} {R : Option Value → Shared → Prop} (T : ExcC K D) (X : K.In st0.heap) (I : PySem.W.InstAt st0.heap x ox D od)
    (fin : R (some (.ref D)) { st0 with toks := st0.toks + 1 }) : wpAny (model pg w) A (getAttr? (.ref x) "__class__") R Er st0 := by
  obtain ⟨heap, gl, dd, tk, oo⟩ := st0
  have ty0 := I.type (M := model pg w)
  have ga0 := looks_findIn (M := model pg w) X T.hg
  have gg0 := looks_findIn (M := model pg w) X T.hk
  have fi0 := looks_find (M := model pg w) X I (foundBind T od)
  have is0 : Looks (model pg w) heap (isInstance (.ref x) (.type "BaseException")) true := ty0.andThen (looks_subIn X T.hs)
  have no0 : (Value.builtin "BaseException.__getattribute__" == Value.builtin "object.__getattribute__") = false := by decide +kernel
  have no1 : (onTheHeap (Value.ref D) && Value.builtin "BaseException.__getattribute__" == Value.builtin "object.__getattribute__") = false := by
    rw [no0]; rfl
  unfold getAttr? getAttrBy? getAttrBy
  refine (wpAny_bind (wpAny_mkText (wpAny_bind (wpAny_attempt (wpAny_holding (wpAny_bind (ty0.at (wpAny_bind (ga0.at (?_))))))))))
  show wpAny _ _ (if (onTheHeap (Value.ref D) && Value.builtin "BaseException.__getattribute__" == Value.builtin "object.__getattribute__") = true then _ else _) (_) _ _
  rw [no1, if_neg (by decide)]
  unfold getAttrByItsOwn hookBefore
  refine wpAny_bind (?_ : wpAny _ _ _ _ _ _)
  rw [if_pos (show onTheHeap (Value.ref D) = true by rfl)]
  refine gg0.at (wpAny_bind (wpAny_attempt (wpAny_holding (?_ : wpAny _ _ _ _ _ _))))
  unfold callGetattribute
  rw [show (false && onTheHeap (Value.builtin "BaseException.__getattribute__")) = false from rfl, if_neg (by decide)]
  unfold boundAndCalled
  rw [(PySem.F.excAttr_ValueError.ga.bind (.ref x))]
  refine wpAny_bind (wpAny_pure (?_ : wpAny _ _ _ _ _ _))
  show wpAny _ _ (call (.builtin "BaseException.__getattribute__") [.ref x, .str "__class__" tk]) _ _ _
  refine wpAny_call (codeAny_call_builtin PySem.F.excAttr_ValueError.ga.plain PySem.F.entry_bexc_ga (?_ : _))
  refine @check_slot (model pg w) _ _ ⟨heap, gl, dd, tk + 1, oo⟩ "BaseException.__getattribute__" "BaseException" "__getattribute__" (.ref x) [.str "__class__" tk] [] _ (by decide +kernel) (by decide +kernel) is0 (PySem.F.args_bexc_ga (.ref x) (.str "__class__" tk)) (?_ : _)
  unfold Builtin.«object.__getattribute__»
  refine wpAny_bind (wpAny_of_eq (a := ((Value.ref x : Value), [Value.str "__class__" tk])) (by first | rfl | (simp only [slotArgs]; rfl)) (wpAny_bind (wpAny_pure (wpAny_bind (ty0.at (wpAny_bind (fi0.at (?_ : wpAny _ _ _ _ _ _))))))))
  show wpAny _ _ (holding [Value.builtin "object.__class__"] (call (.builtin "getset_descriptor.__get__") [.builtin "object.__class__", .ref x, .ref D]) >>= ret) (_) _ _
  refine wpAny_bind (wpAny_holding (wpAny_call (class_get (s := ⟨heap, gl, dd, tk + 1, oo⟩) (ox := ox) (od := od) X I T.hm (wpAny_pure (?_ : _)))))
  show wpAny _ _ (handedOut (.ref D)) (_) _ _
  rw [handedOut_of (v := .ref D) (rfl : _)]
  first
    | exact wpAny_pure (wpAny_pure fin)
    | exact wpAny_pure fin
    | exact wpAny_pure (wpAny_bind (wpAny_pure (wpAny_pure fin)))
theorem kitx_exc {K : PySem.W.Frag} {x D : Addr} {ox : Obj} {od : Option Obj} (T : ExcC K D) : KitX K (.ref x) (.ref D) (fun h => PySem.W.InstAt h x ox D od) where
  ty := fun _ _ _ I => I.type
  it := fun _ _ X _ => by
    obtain ⟨cd, hc, _⟩ := any_some T.hd
    unfold clsIn at hc
    split at hc
    · rename_i ho
      intro A' Q' E' s' k q
      unfold isType loadHead
      exact wpAny_bind (wpAny_loadPart (k _ _ (X _ _ ho)) (wpAny_pure q))
    · cases hc
  ne := fun hh tp dd its n sl X e => by
    obtain ⟨cd, hc, _⟩ := any_some T.hd
    refine (Bool.eq_false_iff.mpr fun q => ?_)
    obtain rfl : D = tp := Value.ref.inj (beq_iff_eq.mp q)
    unfold clsIn at hc
    split at hc
    · rename_i ho
      cases (X _ _ ho).symm.trans e
    · cases hc
  ca := fun X I k => cls_of_exc T X I k
/-- isinstance(e, c), e the exception that the suite holds -/
def rIsX (K : PySem.W.Frag) (D a dd : Addr) (fs : List (Str × V)) : List V → Hp → VK → Prop := fun xs H Q => ∃ (c : V) (cv : Value) (b : Bool), xs = [.ref a, c] ∧ H dd = some (.xd fs) ∧ (∀ u, RelV c u → u = cv) ∧ PySem.W.kitOne K (.ref D) cv = some b ∧ Q (.bl b) H
theorem call_isX {X : Cx} {a D dd : Addr} {oe : Obj} {pn : List (Addr × Obj)} {fs : List (Str × V)} (T : ExcC X.K D) (hz : Zc (.ref D) (some dd) oe) (hf : ∃ vs, oe.data = .fields vs) : CallR (X.suite a ((a, oe) :: pn)) (.builtin "isinstance") (rIsX X.K D a dd fs) := by
  intro pins s σ H xs us Q I r h
  obtain ⟨cc, cv, b, rfl, hx, hcv, e, q⟩ := h
  cases r with
  | cons r1 r2 => cases r2 with
    | cons r2 r3 =>
      cases r3
      cases r1
      obtain rfl := hcv _ r2
      obtain ⟨ha, _⟩ := I.pin (a, oe) (List.mem_append.mpr (.inl List.mem_cons_self))
      obtain ⟨vs, hv⟩ := hf
      have hx' : ObjOk X.prog X.w H s.heap dd (.xd fs) := I.hok dd _ hx
      obtain ⟨mA, hns, hr⟩ := hx'
      obtain ⟨od, ho, hl⟩ := lookIn_ns hns
      have J : PySem.W.InstAt s.heap a oe D (some od) := ⟨ha, hz.1, by unfold PySem.W.notCls; rw [hv] <;> rfl, by rw [hz.2]; exact ho⟩
      exact kia_one (kitx_exc T) I.kIn J e (fun z => nomatch z) fun tk => ⟨.bl b, H, I.kept (t' := tk) fun _ _ z => z, rfl, q⟩
end PL
end L2

/-! list(zip(a, b)) -/
namespace L2
namespace PL
open PySem PySem.Spec PyProof.Rows
variable [Tabl]
theorem nolen_zip : typeLookup (.type "zip") "__len__" = pure none := by rw [typeLookup_type, builtinLookup_eq_fast]; kernel_rfl
theorem nohint_zip : typeLookup (.type "zip") "__length_hint__" = pure none := by rw [typeLookup_type, builtinLookup_eq_fast]; kernel_rfl
/-- the zip stands at i -/
structure ZAt (z TI TO i1 i2 l1 l2 : Addr) (xs ys : Array Value) (i : Nat) (h : Heap) : Prop where
  ti : IsPair h TI (.ref i1) (.ref i2)
  a1 : h.IsListIter i1 l1 i
  a2 : h.IsListIter i2 l2 i
  b1 : h.IsList l1 xs
  b2 : h.IsList l2 ys
  to : ∃ o, h.get? TO = some o
  zz : (IsZip h z TI TO .none ∧ ∃ a b, IsPair h TO a b) ∨ (∃ T f oT, IsZipHeld h z TI TO T f ∧ h.get? T = some oT ∧ T ≠ z ∧ T ≠ TO ∧ T ≠ i1 ∧ T ≠ i2)
theorem held_inj {h : Heap} {z TI TO T T' : Addr} {f f' : Bool} (a : IsZipHeld h z TI TO T f) (b : IsZipHeld h z TI TO T' f') : T = T' := by
  have e := a.symm.trans b
  have e := congrArg (fun o : Option Obj => match o with | some ⟨_, _, .fields v, _⟩ => v.toList | _ => []) e
  simp only at e
  injection e with e1 e2
  injection e1 with e1 e2
  exact Int.ofNat.inj e1
section
variable {prog : Program} {w : World} {A : Around} {E : Value → Shared → Prop} {s : Shared} {z TI TO i1 i2 l1 l2 : Addr} {xs ys : Array Value} {i : Nat}
theorem ZAt.ty (h : ZAt z TI TO i1 i2 l1 l2 xs ys i s.heap) : s.TypeIs (.ref z) "zip" := by
  rcases h.zz with ⟨hz, _⟩ | ⟨T, f, oT, hz, _⟩
  · exact ⟨_, hz, rfl⟩
  · exact ⟨_, hz, rfl⟩
theorem ZAt.iter (h : ZAt z TI TO i1 i2 l1 l2 xs ys i s.heap) {Q : Value → Shared → Prop} (q : Q (.ref z) s) : wpAny (model prog w) A (pyIter (.ref z)) Q E s := by
  have hT := h.ty
  refine wpAny_pyIter_slot hT F.slot_zip_iter (wpAny_call_entry F.slot_zip_iter hT F.entry_zip_iter ?_ (F.args_zip_iter_1 _))
  show wpAny _ _ (ret (.ref z)) _ _ s
  exact wpAny_pure ⟨_, rfl, "zip", _, hT, F.slot_zip_next.lookup, q⟩
theorem ZAt.keeps {h h' : Heap} (a : ZAt z TI TO i1 i2 l1 l2 xs ys i h) (k : ∀ b o, h.get? b = some o → h'.get? b = some o) : ZAt z TI TO i1 i2 l1 l2 xs ys i h' where
  ti := k _ _ a.ti
  a1 := a.a1.at fun o e => k _ o e
  a2 := a.a2.at fun o e => k _ o e
  b1 := a.b1.at fun o e => k _ o e
  b2 := a.b2.at fun o e => k _ o e
  to := a.to.imp fun o e => k _ _ e
  zz := by
    rcases a.zz with ⟨hz, x, y, h2⟩ | ⟨T, f, oT, hz, h2, h3⟩
    · exact .inl ⟨k _ _ hz, x, y, k _ _ h2⟩
    · exact .inr ⟨T, f, oT, k _ _ hz, k _ _ h2, h3⟩
/-- what is written is another object -/
theorem ZAt.but {h h' : Heap} {S : Addr} (a : ZAt z TI TO i1 i2 l1 l2 xs ys i h) (k : ∀ b o, b ≠ S → h.get? b = some o → h'.get? b = some o) (sz : S ≠ z ∧ S ≠ TI ∧ S ≠ TO ∧ S ≠ i1 ∧ S ≠ i2 ∧ S ≠ l1 ∧ S ≠ l2) (st : ∀ T f, IsZipHeld h z TI TO T f → T ≠ S) : ZAt z TI TO i1 i2 l1 l2 xs ys i h' where
  ti := k _ _ sz.2.1.symm a.ti
  a1 := a.a1.at fun o e => k _ o sz.2.2.2.1.symm e
  a2 := a.a2.at fun o e => k _ o sz.2.2.2.2.1.symm e
  b1 := a.b1.at fun o e => k _ o sz.2.2.2.2.2.1.symm e
  b2 := a.b2.at fun o e => k _ o sz.2.2.2.2.2.2.symm e
  to := a.to.imp fun o e => k _ _ sz.2.2.1.symm e
  zz := by
    rcases a.zz with ⟨hz, x, y, h2⟩ | ⟨T, f, oT, hz, h2, h3⟩
    · exact .inl ⟨k _ _ sz.1.symm hz, x, y, k _ _ sz.2.2.1.symm h2⟩
    · exact .inr ⟨T, f, oT, k _ _ sz.1.symm hz, k _ _ (st T f hz) h2, h3⟩
theorem z_item {x y : Value} {Q : Option Value → Shared → Prop} (D : ZipApart z TI TO i1 i2 l1 l2) (a : ZAt z TI TO i1 i2 l1 l2 xs ys i s.heap) (hx : xs[i]? = some x) (hy : ys[i]? = some y)
    (hQ : ∀ h', ZAt z TI TO i1 i2 l1 l2 xs ys (i + 1) h' → IsPair h' s.heap.objs.size x y → h'.objs.size = s.heap.objs.size + 1 → (∀ T f, IsZipHeld h' z TI TO T f → T = s.heap.objs.size ∨ ∃ f', IsZipHeld s.heap z TI TO T f') →
      (∀ c o, c ≠ z → c ≠ TO → c ≠ i1 → c ≠ i2 → s.heap.get? c = some o → h'.get? c = some o) → Q (some (.ref s.heap.objs.size)) { s with heap := h' }) : wpAny (model prog w) A (pyNext (.ref z)) Q E s := by
  have lt : ∀ {c o}, s.heap.get? c = some o → s.heap.objs.size ≠ c := fun e => Nat.ne_of_gt (Heap.lt_size e)
  have l1' : s.heap.objs.size ≠ i1 := by obtain ⟨_, e, _⟩ := a.a1; exact lt e
  have l2' : s.heap.objs.size ≠ i2 := by obtain ⟨_, e, _⟩ := a.a2; exact lt e
  rcases a.zz with ⟨hz, u, v, hTO⟩ | ⟨T, f, oT, hz, hT, t1, t2, t3, t4⟩
  · refine wpAny_pyNext_zip_item D hz a.ti hTO a.a1 a.a2 a.b1 a.b2 hx hy fun h' c1 c2 c3 c4 c5 c6 hk => hQ h' ⟨hk _ _ D.TIz D.TITO D.TIi1 D.TIi2 a.ti, c3, c4, a.b1.at fun o e => hk _ o D.l1z D.l1TO D.l1i1 D.l1i2 e, a.b2.at fun o e => hk _ o D.l2z D.l2TO D.l2i1 D.l2i2 e, ⟨_, c2⟩, .inr ⟨_, false, _, c1, c5, lt hz, lt hTO, l1', l2'⟩⟩ c5 c6 (fun T f e => .inl ?_) hk
    exact held_inj e c1
  · refine wpAny_pyNext_zip_item_held D hz hT a.ti a.a1 a.a2 a.b1 a.b2 hx hy fun h' c1 c3 c4 c5 c6 hk => hQ h' ⟨hk _ _ D.TIz D.TIi1 D.TIi2 a.ti, c3, c4, a.b1.at fun o e => hk _ o D.l1z D.l1i1 D.l1i2 e, a.b2.at fun o e => hk _ o D.l2z D.l2i1 D.l2i2 e, a.to.imp fun o e => hk _ o D.TOz D.TOi1 D.TOi2 e, .inr ⟨T, true, oT, c1, hk _ _ t1 t3 t4 hT, t1, t2, t3, t4⟩⟩ c5 c6 (fun T' f' e => .inr ⟨f, ?_⟩) fun c o n1 _ n3 n4 e => hk c o n1 n3 n4 e
    rw [held_inj e c1]
    exact hz
theorem z_end {Q : Option Value → Shared → Prop} (hh : A.handled = none) (D : ZipApart z TI TO i1 i2 l1 l2) (a : ZAt z TI TO i1 i2 l1 l2 xs ys i s.heap) (hend : xs[i]? = none ∨ ys[i]? = none)
    (hQ : ∀ h', (∀ c o, c ≠ z → c ≠ TO → c ≠ i1 → c ≠ i2 → s.heap.get? c = some o → h'.get? c = some o) → Q none { s with heap := h' }) : wpAny (model prog w) A (pyNext (.ref z)) Q E s := by
  rcases a.zz with ⟨hz, u, v, hTO⟩ | ⟨T, f, oT, hz, hT, t1, t2, t3, t4⟩
  · exact wpAny_pyNext_zip_end hh D hz a.ti hTO a.a1 a.a2 a.b1 a.b2 hend hQ
  · exact wpAny_pyNext_zip_end_held hh D hz hT a.ti a.a1 a.a2 a.b1 a.b2 hend fun h' hk => hQ h' fun c o n1 _ n3 n4 e => hk c o n1 n3 n4 e
/-- the pairs that were given out -/
structure ZOut (xs ys : Array Value) (B : Nat) (bad : List Addr) (ts : List Addr) (h : Heap) : Prop where
  nd : ts.Nodup
  lo : ∀ T ∈ ts, B ≤ T ∧ T < h.objs.size ∧ T ∉ bad
  pr : ∀ j (hj : j < ts.length), ∃ x y, xs[j]? = some x ∧ ys[j]? = some y ∧ IsPair h ts[j] x y
abbrev LstAt (h : Heap) (S : Addr) (acc : Array Value) (c : Nat) : Prop := h.get? S = some { cls := .type "list", dict := none, data := .seq acc c, slots := #[] }
theorem zl_loop {R : Result → Shared → Prop} {n B : Nat} {S : Addr} {res : Value} (hh : A.handled = none) (D : ZipApart z TI TO i1 i2 l1 l2) (hm : min xs.size ys.size = n) (hn : n ≤ sizeLine) (sz : S ≠ z ∧ S ≠ TI ∧ S ≠ TO ∧ S ≠ i1 ∧ S ≠ i2 ∧ S ≠ l1 ∧ S ≠ l2) :
    ∀ (k i : Nat) (s : Shared) (ts : List Addr) (acc : Array Value) (c : Nat), n - i = k → i ≤ n → ZAt z TI TO i1 i2 l1 l2 xs ys i s.heap → LstAt s.heap S acc c → acc.toList = ts.map Value.ref → ts.length = i → B ≤ s.heap.objs.size →
      (∀ T f, IsZipHeld s.heap z TI TO T f → T ≠ S) → ZOut xs ys B [z, TO, i1, i2, S] ts s.heap →
      (∀ h' acc' c' ts', (∀ b o, b ∉ [z, TO, i1, i2, S] → s.heap.get? b = some o → h'.get? b = some o) → LstAt h' S acc' c' → acc'.toList = ts'.map Value.ref → ts'.length = n → ZOut xs ys B [z, TO, i1, i2, S] ts' h' → R (.ok (.ret res)) { s with heap := h' }) →
      codeAny (model prog w) A (.builtin "list.extend.loop" ⟨[.ref S, .ref z, res], []⟩) R s := by
  intro k
  induction k with
  | zero =>
    intro i s ts acc c hk hi hst hS hacc hl hB hT hz hR
    have hin : i = n := by omega
    have hend : xs[i]? = none ∨ ys[i]? = none := by
      rcases Nat.le_total xs.size ys.size with h | h
      · exact .inl (Array.getElem?_eq_none (by omega))
      · exact .inr (Array.getElem?_eq_none (by omega))
    refine codeAny_builtin F.entry_extend_loop ?_
    rw [Around.under_plainId F.plain_extend_loop _]
    show wpAny _ A.in1 (pyNext (.ref z) >>= _) _ _ s
    refine wpAny_bind (z_end (A := A.in1) hh D hst hend fun h' hk => ?_)
    have nS : S ∉ [z, TO, i1, i2] := by simp [sz]
    refine wpAny_pure (hR h' acc c ts (fun b o hb e => ?_) (hk S _ sz.1 sz.2.2.1 sz.2.2.2.1 sz.2.2.2.2.1 hS) hacc (by omega) ⟨hz.nd, fun T hT' => ?_, fun j hj => ?_⟩)
    · simp only [List.mem_cons, not_or] at hb
      exact hk b o hb.1 hb.2.1 hb.2.2.1 hb.2.2.2.1 e
    · have q := hz.lo T hT'
      refine ⟨q.1, ?_, q.2.2⟩
      obtain ⟨j, hj, e⟩ := List.mem_iff_getElem.mp hT'
      obtain ⟨x, y, _, _, hp⟩ := hz.pr j hj
      have nb := q.2.2
      simp only [List.mem_cons, not_or] at nb
      rw [e] at hp
      exact Heap.lt_size (hk T _ nb.1 nb.2.1 nb.2.2.1 nb.2.2.2.1 hp)
    · obtain ⟨x, y, e1, e2, hp⟩ := hz.pr j hj
      have nb := (hz.lo _ (List.getElem_mem hj)).2.2
      simp only [List.mem_cons, not_or] at nb
      exact ⟨x, y, e1, e2, hk _ _ nb.1 nb.2.1 nb.2.2.1 nb.2.2.2.1 hp⟩
  | succ k ih =>
    intro i s ts acc c hk hi hst hS hacc hl hB hT hz hR
    have hx : i < xs.size := by omega
    have hy : i < ys.size := by omega
    have hsz : acc.size = i := by rw [← Array.length_toList, hacc, List.length_map, hl]
    refine codeAny_builtin F.entry_extend_loop ?_
    rw [Around.under_plainId F.plain_extend_loop _]
    show wpAny _ A.in1 (pyNext (.ref z) >>= _) _ _ s
    refine wpAny_bind (z_item (A := A.in1) D hst (Array.getElem?_eq_getElem hx) (Array.getElem?_eq_getElem hy) fun h' hst' hp hs hT' hk' => ?_)
    have hS' : LstAt h' S acc c := hk' S _ sz.1 sz.2.2.1 sz.2.2.2.1 sz.2.2.2.2.1 hS
    have hSlt : S < s.heap.objs.size := Heap.lt_size hS
    show wpAny _ A.in1 (updateSeq S (·.push (.ref s.heap.objs.size)) >>= _) _ _ _
    refine wpAny_bind ?_
    have oth : ∀ b o, b ≠ S → h'.get? b = some o → (h'.update S (Obj.mapSeq (·.push (.ref s.heap.objs.size)))).get? b = some o := fun b o hb e => (Heap.get?_update_other _ _ (Ne.symm hb)).trans e
    have usz : (h'.update S (Obj.mapSeq (·.push (.ref s.heap.objs.size)))).objs.size = s.heap.objs.size + 1 := by
      rw [(Heap.SameBut.update ..).1, hs]
    refine wpAny_updateSeq hS' rfl (wpAny_pure ⟨plainId_quiet F.plain_extend_loop _, ih (i + 1) _ (ts ++ [s.heap.objs.size]) (acc.push (.ref s.heap.objs.size)) _ (by omega) (by omega) (hst'.but oth sz fun T f e => ?_) (Heap.get?_update_self _ hS' rfl) (by simp [hacc]) (by simp [hl]) (by show B ≤ (h'.update S _).objs.size; rw [usz]; omega) (fun T f e => ?_) ⟨?_, fun T hT2 => ?_, fun j hj => ?_⟩ fun h'' acc' c' ts' hk'' hS'' ha' hl' hz' => ?_⟩)
      (by rw [hsz]; omega) (by show (acc.push _).size ≤ sizeLine + 1; rw [Array.size_push, hsz]; omega)
    · rcases hT' T f e with h | ⟨f', e'⟩
      · rw [h]; exact Nat.ne_of_gt hSlt
      · exact hT T f' e'
    · have e0 : IsZipHeld h' z TI TO T f := by
        exact (Heap.get?_update_other _ _ sz.1).symm.trans e
      rcases hT' T f e0 with h | ⟨f', e'⟩
      · rw [h]; exact Nat.ne_of_gt hSlt
      · exact hT T f' e'
    · refine List.nodup_append.mpr ⟨hz.nd, by simp, fun a ha b hb => ?_⟩
      rw [List.mem_singleton.mp hb]
      exact Nat.ne_of_lt (hz.lo a ha).2.1
    · show _ ∧ T < (h'.update S _).objs.size ∧ _
      rw [usz]
      rcases List.mem_append.mp hT2 with h | h
      · have q := hz.lo T h
        exact ⟨q.1, Nat.lt_succ_of_lt q.2.1, q.2.2⟩
      · rw [List.mem_singleton.mp h]
        have lt : ∀ {c o}, s.heap.get? c = some o → s.heap.objs.size ≠ c := fun e => Nat.ne_of_gt (Heap.lt_size e)
        refine ⟨hB, Nat.lt_succ_self _, ?_⟩
        have q1 : s.heap.objs.size ≠ z := by obtain ⟨_, e, _⟩ := hst.ty; exact lt e
        have q2 : s.heap.objs.size ≠ i1 := by obtain ⟨_, e, _⟩ := hst.a1; exact lt e
        have q3 : s.heap.objs.size ≠ i2 := by obtain ⟨_, e, _⟩ := hst.a2; exact lt e
        have q4 : s.heap.objs.size ≠ TO := by obtain ⟨_, e⟩ := hst.to; exact lt e
        simp only [List.mem_cons, List.not_mem_nil, or_false, not_or]
        exact ⟨q1, q4, q2, q3, Nat.ne_of_gt hSlt⟩
    · by_cases hjl : j < ts.length
      · obtain ⟨x, y, e1, e2, hp2⟩ := hz.pr j hjl
        have nb := (hz.lo _ (List.getElem_mem hjl)).2.2
        simp only [List.mem_cons, not_or] at nb
        rw [List.getElem_append_left hjl]
        exact ⟨x, y, e1, e2, oth _ _ nb.2.2.2.2.1 (hk' _ _ nb.1 nb.2.1 nb.2.2.1 nb.2.2.2.1 hp2)⟩
      · have hj2 : j = ts.length := by simp at hj; omega
        subst hj2
        rw [List.getElem_append_right (by omega)]
        simp only [Nat.sub_self, List.getElem_cons_zero]
        refine ⟨_, _, by rw [hl]; exact Array.getElem?_eq_getElem hx, by rw [hl]; exact Array.getElem?_eq_getElem hy, oth _ _ (Nat.ne_of_gt hSlt) hp⟩
    · refine hR h'' acc' c' ts' (fun b o hb e => hk'' b o hb ?_) hS'' ha' hl' hz'
      simp only [List.mem_cons, not_or] at hb
      exact oth b o hb.2.2.2.2.1 (hk' b o hb.1 hb.2.1 hb.2.2.1 hb.2.2.2.1 e)
theorem zl_extend {R : Result → Shared → Prop} {n B c₀ : Nat} {S : Addr} {res : Value} (hh : A.handled = none) (D : ZipApart z TI TO i1 i2 l1 l2) (hm : min xs.size ys.size = n) (hn : n ≤ sizeLine) (sz : S ≠ z ∧ S ≠ TI ∧ S ≠ TO ∧ S ≠ i1 ∧ S ≠ i2 ∧ S ≠ l1 ∧ S ≠ l2)
    (a : ZAt z TI TO i1 i2 l1 l2 xs ys 0 s.heap) (hT : ∀ T f, IsZipHeld s.heap z TI TO T f → T ≠ S) (hS : s.heap.get? S = some { cls := .type "list", data := .seq #[] c₀ }) (hB : B ≤ s.heap.objs.size)
    (hR : ∀ h' acc' c' ts', (∀ b o, b ∉ [z, TO, i1, i2, S] → s.heap.get? b = some o → h'.get? b = some o) → LstAt h' S acc' c' → acc'.toList = ts'.map Value.ref → ts'.length = n → ZOut xs ys B [z, TO, i1, i2, S] ts' h' → R (.ok (.ret res)) { s with heap := h' }) :
    wpAny (model prog w) A.in1 (Builtin.List.listExtendWith (.ref S) (.ref z) res)
      (fun fin s' => match fin with | .done f => R (.ok f) s' | .again c' => c'.quiet = true ∧ codeAny (model prog w) A c' R s') (fun e s' => R (.error e) s') s := by
  unfold Builtin.List.listExtendWith
  refine wpAny_bind (wpAny_typeOf a.ty ?_)
  have h1 : Builtin.List.listSameRef (.ref S) (.ref z) = false := by simp [Builtin.List.listSameRef, sz.1]
  have h2 : (Value.type "zip" == Value.type "list") = false := by decide
  have h3 : (Value.type "zip" == Value.type "tuple") = false := by decide
  simp only [h1, h2, h3, Bool.or_false, Bool.false_eq_true, if_false]
  refine wpAny_bind (a.iter ?_)
  refine wpAny_bind (wpAny_holding ?_)
  unfold Builtin.List.listLengthHint
  refine wpAny_bind (wpAny_specialOf a.ty nolen_zip ?_)
  show wpAny _ A.in1 (specialOf (Value.ref z) (Str.ofString "__length_hint__") >>= _) _ _ _
  refine wpAny_bind (wpAny_specialOf a.ty nohint_zip ?_)
  refine wpAny_pure ?_
  show wpAny _ A.in1 (rule "list.extend.makes-room" >>= fun _ => Builtin.List.listTouch (.ref S) >>= fun _ =>
    again (.builtin "list.extend.loop" ⟨[.ref S, .ref z, res], []⟩)) _ _ _
  refine wpAny_bind (wpAny_rule ?_)
  refine wpAny_bind ?_
  show wpAny _ A.in1 (updateSeq S (·.push .none) >>= fun _ => updateSeq S (·.pop)) _ _ _
  refine wpAny_bind (wpAny_updateSeq hS rfl ?_)
  have hS₂ := Heap.get?_update_self (Obj.mapSeq (·.push Value.none)) hS rfl
  refine wpAny_updateSeq (hz := by seq_fits) hS₂ rfl ?_
  have hS₃ := Heap.get?_update_self (Obj.mapSeq (·.pop)) hS₂ rfl
  have oth : ∀ b o, b ≠ S → s.heap.get? b = some o → ((s.heap.update S (Obj.mapSeq (·.push Value.none))).update S (Obj.mapSeq (·.pop))).get? b = some o :=
    fun b o hb e => (Heap.get?_update_other _ _ (Ne.symm hb)).trans ((Heap.get?_update_other _ _ (Ne.symm hb)).trans e)
  have back : ∀ b o, b ≠ S → ((s.heap.update S (Obj.mapSeq (·.push Value.none))).update S (Obj.mapSeq (·.pop))).get? b = some o → s.heap.get? b = some o :=
    fun b o hb e => (Heap.get?_update_other _ _ (Ne.symm hb)).symm.trans ((Heap.get?_update_other _ _ (Ne.symm hb)).symm.trans e)
  have usz : ((s.heap.update S (Obj.mapSeq (·.push Value.none))).update S (Obj.mapSeq (·.pop))).objs.size = s.heap.objs.size := by
    rw [(Heap.SameBut.update ..).1, (Heap.SameBut.update ..).1]
  refine wpAny_pure ⟨plainId_quiet F.plain_extend_loop _, zl_loop (B := B) hh D hm hn sz n 0 _ [] _ _ rfl (Nat.zero_le _) (a.but oth sz hT) hS₃ rfl rfl (by show B ≤ Array.size _; rw [usz]; exact hB) (fun T f e => hT T f (back _ _ sz.1.symm e)) ⟨List.nodup_nil, (fun T h => nomatch h), fun j hj => nomatch hj⟩ fun h' acc' c' ts' hk e1 e2 e3 e4 => ?_⟩
  refine hR h' acc' c' ts' (fun b o hb e => hk b o hb (oth b o (fun h => hb (by rw [h]; simp)) e)) e1 e2 e3 e4
theorem zl_init {R : Result → Shared → Prop} {n B : Nat} {S : Addr} (hh : A.handled = none) (D : ZipApart z TI TO i1 i2 l1 l2) (hm : min xs.size ys.size = n) (hn : n ≤ sizeLine) (sz : S ≠ z ∧ S ≠ TI ∧ S ≠ TO ∧ S ≠ i1 ∧ S ≠ i2 ∧ S ≠ l1 ∧ S ≠ l2)
    (a : ZAt z TI TO i1 i2 l1 l2 xs ys 0 s.heap) (hT : ∀ T f, IsZipHeld s.heap z TI TO T f → T ≠ S) (hS : s.heap.get? S = some { cls := .type "list", data := .seq #[] }) (hB : B ≤ s.heap.objs.size)
    (hR : ∀ h' acc' c' ts', (∀ b o, b ∉ [z, TO, i1, i2, S] → s.heap.get? b = some o → h'.get? b = some o) → LstAt h' S acc' c' → acc'.toList = ts'.map Value.ref → ts'.length = n → ZOut xs ys B [z, TO, i1, i2, S] ts' h' → R (.ok (.ret .none)) { s with heap := h' }) :
    wpAny (model prog w) A.in1 (Builtin.«list.__init__» ⟨[.ref S, .ref z], []⟩)
      (fun fin s' => match fin with | .done f => R (.ok f) s' | .again c' => c'.quiet = true ∧ codeAny (model prog w) A c' R s') (fun e s' => R (.error e) s') s := by
  show wpAny _ A.in1 (do let old ← Builtin.List.listItems (.ref S); Builtin.List.listUpdate (.ref S) (fun _ => #[]); letGo old.toList.reverse; Builtin.List.listExtendWith (.ref S) (.ref z) .none) _ _ s
  refine wpAny_bind ?_
  unfold Builtin.List.listItems
  refine wpAny_bind (wpAny_seqItems hS rfl (wpAny_pure ?_))
  show wpAny _ A.in1 (updateSeq S (fun _ => #[]) >>= fun _ => letGo (#[] : Array Value).toList.reverse >>= fun _ => Builtin.List.listExtendWith (.ref S) (.ref z) .none) _ _ s
  refine wpAny_bind (wpAny_updateSeq hS rfl ?_)
  have hS₂ := Heap.get?_update_self (Obj.mapSeq (fun _ => (#[] : Array Value))) hS rfl
  have oth : ∀ b o, b ≠ S → s.heap.get? b = some o → (s.heap.update S (Obj.mapSeq (fun _ => (#[] : Array Value)))).get? b = some o :=
    fun b o hb e => (Heap.get?_update_other _ _ (Ne.symm hb)).trans e
  have back : ∀ b o, b ≠ S → (s.heap.update S (Obj.mapSeq (fun _ => (#[] : Array Value)))).get? b = some o → s.heap.get? b = some o :=
    fun b o hb e => (Heap.get?_update_other _ _ (Ne.symm hb)).symm.trans e
  refine wpAny_bind (wpAny_letGo ?_)
  refine zl_extend (B := B) hh D hm hn sz (a.but oth sz hT) (fun T f e => hT T f (back _ _ sz.1.symm e)) hS₂ (by show B ≤ Array.size _; rw [(Heap.SameBut.update ..).1]; exact hB) fun h' acc' c' ts' hk e1 e2 e3 e4 => ?_
  exact hR h' acc' c' ts' (fun b o hb e => hk b o hb (oth b o (fun h => hb (by rw [h]; simp)) e)) e1 e2 e3 e4
theorem call_list_zip {Q : Value → Shared → Prop} {n : Nat} (hh : A.handled = none) (D : ZipApart z TI TO i1 i2 l1 l2) (hm : min xs.size ys.size = n) (hn : n ≤ sizeLine) (hlt : z < s.heap.objs.size ∧ TI < s.heap.objs.size ∧ TO < s.heap.objs.size ∧ i1 < s.heap.objs.size ∧ i2 < s.heap.objs.size ∧ l1 < s.heap.objs.size ∧ l2 < s.heap.objs.size)
    (a : ZAt z TI TO i1 i2 l1 l2 xs ys 0 s.heap) (hT : ∀ T f, ¬ IsZipHeld s.heap z TI TO T f)
    (hQ : ∀ h' acc' c' ts', (∀ b o, b ∉ [z, TO, i1, i2] → s.heap.get? b = some o → h'.get? b = some o) → LstAt h' s.heap.objs.size acc' c' → acc'.toList = ts'.map Value.ref → ts'.length = n → ZOut xs ys (s.heap.objs.size + 1) [z, TO, i1, i2, s.heap.objs.size] ts' h' → Q (.ref s.heap.objs.size) { s with heap := h' }) :
    wpAny (model prog w) A (call (.type "list") [.ref z]) Q E s := by
  refine callType_codes (Q₁ := fun obj s₁ => obj = .ref s.heap.objs.size ∧ s₁ = { s with heap := s.heap.push { cls := .type "list", data := .seq #[] } }) F.called_list (F.typeCall_list_1 _) F.entry_list_init
    (code_list_new _ ⟨rfl, rfl⟩) fun obj s₁ h₁ => ?_
  obtain ⟨rfl, rfl⟩ := h₁
  have hS : (s.heap.push { cls := .type "list", data := .seq #[] }).get? s.heap.objs.size = some { cls := .type "list", data := .seq #[] } := Heap.get?_push_size _ rfl
  have sz : s.heap.objs.size ≠ z ∧ s.heap.objs.size ≠ TI ∧ s.heap.objs.size ≠ TO ∧ s.heap.objs.size ≠ i1 ∧ s.heap.objs.size ≠ i2 ∧ s.heap.objs.size ≠ l1 ∧ s.heap.objs.size ≠ l2 :=
    ⟨Nat.ne_of_gt hlt.1, Nat.ne_of_gt hlt.2.1, Nat.ne_of_gt hlt.2.2.1, Nat.ne_of_gt hlt.2.2.2.1, Nat.ne_of_gt hlt.2.2.2.2.1, Nat.ne_of_gt hlt.2.2.2.2.2.1, Nat.ne_of_gt hlt.2.2.2.2.2.2⟩
  have push : ∀ b o, s.heap.get? b = some o → (s.heap.push { cls := .type "list", data := .seq #[] }).get? b = some o := fun b o e => Heap.get?_push_of_some _ e
  have hz0 : ∃ oz, s.heap.get? z = some oz := by obtain ⟨_, e, _⟩ := a.ty; exact ⟨_, e⟩
  refine ⟨⟨_, hS, rfl⟩, F.args_list_init_2 _ _, zl_init (B := s.heap.objs.size + 1) (A := A.in1) hh D hm hn sz (a.keeps push) (fun T f e => ?_) hS (by show _ ≤ Array.size _; rw [Heap.size_push]; exact Nat.le_refl _) fun h' acc' c' ts' hk e1 e2 e3 e4 => ⟨rfl, hQ h' acc' c' ts' (fun b o hb e => hk b o ?_ (push b o e)) e1 e2 e3 e4⟩⟩
  · obtain ⟨oz, ez⟩ := hz0
    have e' : s.heap.get? z = some _ := ez
    have : IsZipHeld s.heap z TI TO T f := e'.trans ((push _ _ e').symm.trans e)
    exact absurd this (hT T f)
  · simp only [List.mem_cons, List.not_mem_nil, or_false, not_or] at hb ⊢
    exact ⟨hb.1, hb.2.1, hb.2.2.1, hb.2.2.2, Nat.ne_of_lt (Heap.lt_size e)⟩
end
end PL
end L2

namespace L2
namespace PL
open PySem PySem.Spec PyProof.Rows
variable [Tabl]
/-! many new objects at once -/
def updL : Hp → List (Addr × HO) → Hp
  | H, [] => H
  | H, p :: r => updL (upd H p.1 p.2) r
theorem updL_other {b : Addr} : ∀ {l : List (Addr × HO)} {H : Hp}, (∀ p ∈ l, p.1 ≠ b) → updL H l b = H b
  | [], _, _ => rfl
  | p :: r, H, h => by
    show updL (upd H p.1 p.2) r b = H b
    rw [updL_other fun q hq => h q (List.mem_cons_of_mem _ hq), upd_ne (Ne.symm (h p List.mem_cons_self))]
theorem updL_mem : ∀ {l : List (Addr × HO)} {H : Hp}, (l.map (·.1)).Nodup → ∀ p ∈ l, updL H l p.1 = some p.2
  | [], _, _, _, h => nomatch h
  | q :: r, H, nd, p, h => by
    rw [List.map_cons, List.nodup_cons] at nd
    show updL (upd H q.1 q.2) r p.1 = some p.2
    rcases List.mem_cons.mp h with rfl | h
    · rw [updL_other fun s hs e => nd.1 (by rw [← e]; exact List.mem_map_of_mem hs), upd_same]
    · exact updL_mem nd.2 p h
theorem updL_old {l : List (Addr × HO)} {H : Hp} {b : Addr} {o : HO} (hn : ∀ p ∈ l, H p.1 = none) (e : H b = some o) : updL H l b = some o := by
  rw [updL_other fun p hp z => by rw [← z, hn p hp] at e; cases e]
  exact e
section
variable {X : Cx} {pins : List (Addr × Obj)} {σ : St} {H : Hp} {s : Shared} {h' : Heap}
theorem Inv.laidL {t' : Nat} {l : List (Addr × HO)} (I : Inv X pins σ H s) (k : ∀ b u, s.heap.get? b = some u → h'.get? b = some u) (hp : ∀ p ∈ l, s.heap.objs.size ≤ p.1) (nd : (l.map (·.1)).Nodup)
    (new : ∀ H', ∀ p ∈ l, ObjOk X.prog X.w H' h' p.1 p.2) : Inv X pins σ (updL H l) { s with heap := h', toks := t' } := by
  have hn : ∀ p ∈ l, H p.1 = none := fun p hl => I.hok.fresh (hp p hl)
  have old : ∀ b u, H b = some u → updL H l b = some u := fun b u e => updL_old hn e
  refine I.un ⟨fun b u q _ _ _ => k b u q, fun b u q _ _ _ => ⟨u.slots, k b u q⟩, fun b u q n _ => ?_, fun b u q _ => ⟨u, k b u q⟩, fun b xs q => old _ _ q, fun b u xs q => old _ _ q, fun b ps q => ⟨#[], by rw [old _ _ q]; simp⟩⟩ fun b u e => ?_
  · rw [updL_other fun p hl => Nat.ne_of_gt (Nat.lt_of_lt_of_le (Heap.lt_size q) (hp p hl))]
    exact n
  · by_cases hb : ∃ p ∈ l, p.1 = b
    · obtain ⟨p, hl, rfl⟩ := hb
      rw [updL_mem nd p hl] at e
      cases e
      exact new _ p hl
    · have e2 : H b = some u := by
        rw [updL_other fun p hl z => hb ⟨p, hl, z⟩] at e
        exact e
      exact (I.hok b u e2).stay (fun c v _ q => k c v q) (fun c q => old _ _ q) fun c xs q => old _ _ q
end
/-! list(zip(a, b)) as a rule -/
def zipO : List Addr → List V → List V → List (Addr × HO)
  | T :: ts, x :: xs, y :: ys => (T, .tup [x, y]) :: zipO ts xs ys
  | _, _, _ => []
theorem zipO_fst : ∀ {ts : List Addr} {xs ys : List V}, ts.length = min xs.length ys.length → (zipO ts xs ys).map (·.1) = ts
  | [], _, _, _ => by simp [zipO]
  | T :: ts, [], _, h => by simp at h
  | T :: ts, _ :: _, [], h => by simp at h
  | T :: ts, x :: xs, y :: ys, h => by
    simp only [zipO, List.map_cons]
    rw [zipO_fst (by simp at h; omega)]
theorem zipO_mem : ∀ {ts : List Addr} {xs ys : List V} {p : Addr × HO}, p ∈ zipO ts xs ys → ∃ (j : Nat) (T : Addr) (x y : V), ts[j]? = some T ∧ xs[j]? = some x ∧ ys[j]? = some y ∧ p = (T, .tup [x, y])
  | [], _, _, _, h => by simp [zipO] at h
  | T :: ts, [], _, _, h => by simp [zipO] at h
  | T :: ts, _ :: _, [], _, h => by simp [zipO] at h
  | T :: ts, x :: xs, y :: ys, p, h => by
    rcases List.mem_cons.mp h with rfl | h
    · exact ⟨0, T, x, y, rfl, rfl, rfl, rfl⟩
    · obtain ⟨j, T', x', y', h1, h2, h3, h4⟩ := zipO_mem h
      exact ⟨j + 1, T', x', y', by simpa using h1, by simpa using h2, by simpa using h3, h4⟩
def tZipL (K : PySem.W.Frag) (ta : TA) : TE := fun σ H Q => ta σ H fun vs H1 => ∃ a b xs ys, vs = [.ref a, .ref b] ∧ SqL K H1 a xs ∧ SqL K H1 b ys ∧
  ∀ S ts, ts.length = min xs.length ys.length → (S :: ts).Nodup → (∀ T ∈ S :: ts, H1 T = none) → Q (.ref S) (updL H1 ((S, .lst (ts.map V.ref)) :: zipO ts xs ys))
theorem vals_get : ∀ {xs : List V} {its : List Value} {j : Nat} {v : V} {u : Value}, Vals xs its → xs[j]? = some v → its[j]? = some u → RelV v u := by
  intro xs its j v u r
  induction r generalizing j with
  | nil => intro h; simp at h
  | cons h r ih =>
    intro h1 h2
    cases j with
    | zero => simp at h1 h2; subst h1 h2; exact h
    | succ j => exact ih (by simpa using h1) (by simpa using h2)
theorem vals_refs : ∀ ts : List Addr, Vals (ts.map V.ref) (ts.map Value.ref)
  | [] => .nil
  | T :: ts => .cons rfl (vals_refs ts)
section
variable {X : Cx} {c : C} {e e2 : Expr} {ta : TA} {wr : DA} {p p2 pos pos2 : Pos}
theorem pe_listzip (hc : X.calm = true) (hg : Gl X "list") (hm : X.mg "list" = none) (hg2 : Gl X "zip") (hm2 : X.mg "zip" = none) (ha : PA X [e, e2] ta)
    (hs : starEach [e, e2] X.env = (false, eval e X.env) :: starEach [e2] X.env := by rfl) (hpl : (backTo pos2 (starEach [e2] X.env)).any (·.1) = false := by rfl)
    (hs1 : starEach [.Call (.Name "zip" p2) [e, e2] [] pos2] X.env = (false, eval (.Call (.Name "zip" p2) [e, e2] [] pos2) X.env) :: starEach [] X.env := by rfl) (hpl1 : (backTo pos (starEach [] X.env)).any (·.1) = false := by rfl) :
    PE X (.Call (.Name "list" p) [.Call (.Name "zip" p2) [e, e2] [] pos2] [] pos) (tZipL X.K ta) := by
  refine ⟨fun pins s σ H Q I h => ?_⟩
  refine Call_ (ld_blt I hg hm (u := .type "list") (by decide +kernel) (PyProof.Rows.callWith_type1 (PyProof.Rows.args_cons (Call_ (ld_blt I hg2 hm2 PyProof.Rows.boot_zip (PyProof.Rows.callWith_type1 (thn (ha.run pos2 pins s σ H _ I h) fun us s1 ⟨vs, H1, I1, r1, q1⟩ => ?_) hs hpl))) hs1) hs1 hpl1))
  obtain ⟨a, b, xs, ys, ex, hqx, hqy, q⟩ := q1
  subst ex
  cases r1 with
  | cons r rr =>
    cases rr with
    | cons r' rr =>
      cases rr
      cases r
      cases r'
      obtain ⟨its, rv, p1, z1⟩ := I1.list hqx
      obtain ⟨its2, rv2, p2, z2⟩ := I1.list hqy
      refine call_zip_2 p1.isList p2.isList fun h' hz hTI hTO h1 h2 hsz hk => PyProof.Rows.args_nil ?_
      have I2 : Inv X pins σ H1 { s1 with heap := h' } := I1.kept (t' := s1.toks) hk
      have hl1 := rv.length
      have hl2 := rv2.length
      have hb : s1.heap.objs.size ≤ h'.objs.size := by rw [hsz]; exact Nat.le_add_right _ _
      have lt : ∀ {c o}, s1.heap.get? c = some o → c < s1.heap.objs.size := fun e => Heap.lt_size e
      have D := PySem.W.ktu_apart s1.heap.objs.size a b p1.lt p2.lt
      have za : ZAt (s1.heap.objs.size + 4) (s1.heap.objs.size + 2) (s1.heap.objs.size + 3) s1.heap.objs.size (s1.heap.objs.size + 1) a b its.toArray its2.toArray 0 h' :=
        ⟨hTI, h1, h2, p1.isList.at fun o e => hk _ o e, p2.isList.at fun o e => hk _ o e, ⟨_, hTO⟩, .inl ⟨hz, _, _, hTO⟩⟩
      have hlt : ∀ k, k < 5 → s1.heap.objs.size + k < h'.objs.size := fun k hk => by rw [hsz]; exact Nat.add_lt_add_left hk _
      refine call_list_zip (s := { s1 with heap := h' }) (n := min xs.length ys.length) (I.ok.hd hc) D (by simp [hl1, hl2]) (by omega) ⟨hlt 4 (by decide), hlt 2 (by decide), hlt 3 (by decide), hlt 0 (by decide), hlt 1 (by decide), Nat.lt_of_lt_of_le p1.lt hb, Nat.lt_of_lt_of_le p2.lt hb⟩ za (fun T f e => ?_) fun h2 acc c ts keep eL ea el ez => ?_
      · have e := e.symm.trans (show h'.get? _ = _ from hz)
        have e := congrArg (fun o : Option Obj => match o with | some ⟨_, _, .fields v, _⟩ => v.toList | _ => []) e
        simp only at e
        injection e with e1 e2
        exact nomatch e1
      · have kp : ∀ b o, s1.heap.get? b = some o → h2.get? b = some o := fun b o e => keep b o (fun hm => ?_) (hk b o e)
        · have hbT : ∀ T ∈ ts, h'.objs.size + 1 ≤ T := fun T hT => (ez.lo T hT).1
          have ndS : (h'.objs.size :: ts).Nodup := List.nodup_cons.mpr ⟨fun hm => absurd (hbT _ hm) (Nat.not_succ_le_self _), ez.nd⟩
          have hge : ∀ T ∈ h'.objs.size :: ts, s1.heap.objs.size ≤ T := fun T hT => by
            rcases List.mem_cons.mp hT with rfl | hT
            · exact hb
            · exact Nat.le_trans hb (Nat.le_of_succ_le (hbT T hT))
          have hfst : (zipO ts xs ys).map (·.1) = ts := zipO_fst el
          have hfst2 : (((h'.objs.size, HO.lst (ts.map V.ref)) :: zipO ts xs ys).map (·.1)) = h'.objs.size :: ts := by rw [List.map_cons, hfst]
          refine ⟨.ref h'.objs.size, _, PL.Inv.laidL (s := s1) (t' := s1.toks) I1 kp (fun p hp => hge _ ?_) (by rw [hfst2]; exact ndS) (fun H' p hp => ?_), rfl, q _ ts el ndS fun T hT => I1.hok.fresh (hge T hT)⟩
          · rw [← hfst2]
            exact List.mem_map_of_mem hp
          · rcases List.mem_cons.mp hp with rfl | hp
            · refine ⟨?_, acc.toList, c, ?_, ?_⟩
              · rw [List.length_map, el]; omega
              · rw [ea]; exact vals_refs ts
              · rw [Array.toArray_toList]; exact eL
            · obtain ⟨j, T, x, y, e1, e2, e3, rfl⟩ := zipO_mem hp
              have hj : j < ts.length := by
                have := List.getElem?_eq_some_iff.mp e1
                exact this.1
              obtain ⟨u, v, f1, f2, f3⟩ := ez.pr j hj
              have ej : ts[j] = T := by
                have := List.getElem?_eq_some_iff.mp e1
                exact this.2
              rw [ej] at f3
              refine ⟨show 2 ≤ sizeLine by decide, [u, v], .cons (vals_get rv e2 (by simpa using f1)) (.cons (vals_get rv2 e3 (by simpa using f2)) .nil), ?_⟩
              exact ⟨_, f3, rfl, _, rfl⟩
        · have hlt := lt e
          simp only [List.mem_cons, List.not_mem_nil, or_false] at hm
          rcases hm with rfl | rfl | rfl | rfl
          · exact absurd hlt (Nat.not_lt.mpr (Nat.le_add_right _ _))
          · exact absurd hlt (Nat.not_lt.mpr (Nat.le_add_right _ _))
          · exact absurd hlt (Nat.lt_irrefl _)
          · exact absurd hlt (Nat.not_lt.mpr (Nat.le_add_right _ _))
end
end PL
end L2

namespace L2
namespace PL
open PySem PySem.Spec PyProof.Rows
variable [Tabl]
/-! list(zip(a, b)) of data -/
def fZipL : List D → R1
  | [.lst a, .lst b] => .ok (.lst (zipD a b))
  | _ => .no
def rZipL (K : PySem.W.Frag) : List V → Hp → VK → Prop := fun vs H1 Q => ∃ a b xs ys, vs = [.ref a, .ref b] ∧ SqL K H1 a xs ∧ SqL K H1 b ys ∧
  ∀ S ts, ts.length = min xs.length ys.length → (S :: ts).Nodup → (∀ T ∈ S :: ts, H1 T = none) → Q (.ref S) (updL H1 ((S, .lst (ts.map V.ref)) :: zipO ts xs ys))
section
variable {K : PySem.W.Frag} {c : C} {F : Hp} {σ : St} {H : Hp} {ρ : List SD}
theorem Rel.laidL : ∀ {l : List (Addr × HO)} {F H : Hp}, Rel K c F σ H ρ → (l.map (·.1)).Nodup → (∀ p ∈ l, H p.1 = none) → Rel K c (updL F l) σ (updL H l) ρ ∧ Same F (updL F l)
  | [], _, _, r, _, _ => ⟨r, Same.refl _⟩
  | p :: l, F, H, r, nd, hn => by
    rw [List.map_cons, List.nodup_cons] at nd
    have n0 := hn p List.mem_cons_self
    have := Rel.laidL (r.laid (o := p.2) n0) nd.2 fun q hq => by
      rw [upd_ne (fun e => nd.1 (by rw [← e]; exact List.mem_map_of_mem hq))]
      exact hn q (List.mem_cons_of_mem _ hq)
    exact ⟨this.1, (same_laid (r.freeF n0)).trans this.2⟩
theorem reps_zip {t : G} {F F' : Hp} : ∀ {ts : List Addr} {vs ws : List V} {xs ys : List D}, ts.length = min vs.length ws.length → Reps K t F vs xs → Reps K t F ws ys → Same F F' → (∀ p ∈ zipO ts vs ws, F' p.1 = some p.2) → Reps K t F' (ts.map V.ref) (zipD xs ys)
  | [], _, _, _, _, h, .nil, _, _, _ => .nil
  | [], _, _, _, _, h, .cons _ _, .nil, _, _ => .nil
  | [], _, _, _, _, h, .cons _ _, .cons _ _, _, _ => by simp at h
  | T :: ts, _, _, _, _, h, .nil, _, _, _ => by simp at h
  | T :: ts, _, _, _, _, h, .cons _ _, .nil, _, _ => by simp at h
  | T :: ts, _, _, _, _, h, .cons r1 r2, .cons s1 s2, e, k =>
    .cons (.tup (.inl (.inl (k _ List.mem_cons_self))) (.cons (r1.mono e) (.cons (s1.mono e) .nil))) (reps_zip (by simp at h; omega) r2 s2 e fun p hp => k p (List.mem_cons_of_mem _ hp))
end
section
variable {X : Cx} {c : C} {e e2 : Expr} {wr : DA} {p p2 pos pos2 : Pos}
theorem br_zipL : BrC c X.K (rZipL X.K) fZipL := by
  intro F σ H ρ vs ds Q rl r q
  unfold fZipL at q
  split at q
  · cases r with
    | cons r1 r2 =>
      cases r2 with
      | cons r2 r3 =>
        cases r3
        obtain ⟨a, xs, rfl, k1, k2⟩ := r1.seqL
        obtain ⟨b, ys, rfl, l1, l2⟩ := r2.seqL
        refine ⟨a, b, xs, ys, rfl, SqL.of (rl.step.fh _ _ k1), SqL.of (rl.step.fh _ _ l1), fun S ts hl nd hn => ?_⟩
        have hf : (((S, HO.lst (ts.map V.ref)) :: zipO ts xs ys).map (·.1)) = S :: ts := by rw [List.map_cons, zipO_fst hl]
        obtain ⟨rl2, sm⟩ := rl.laidL (l := (S, HO.lst (ts.map V.ref)) :: zipO ts xs ys) (by rw [hf]; exact nd) (fun p hp => hn _ (by rw [← hf]; exact List.mem_map_of_mem hp))
        have gets := updL_mem (H := F) (l := (S, HO.lst (ts.map V.ref)) :: zipO ts xs ys) (by rw [hf]; exact nd)
        exact q _ _ _ rl2 sm (.lst (gets _ List.mem_cons_self) (reps_zip hl k2 l2 sm fun p hp => gets p (List.mem_cons_of_mem _ hp)))
  · exact (show False from q).elim
theorem pd_listzip (hc : X.calm = true) (hg : Gl X "list") (hm : X.mg "list" = none) (hg2 : Gl X "zip") (hm2 : X.mg "zip" = none) (ha : PDA c X [e, e2] wr)
    (hs : starEach [e, e2] X.env = (false, eval e X.env) :: starEach [e2] X.env := by rfl) (hpl : (backTo pos2 (starEach [e2] X.env)).any (·.1) = false := by rfl)
    (hs1 : starEach [.Call (.Name "zip" p2) [e, e2] [] pos2] X.env = (false, eval (.Call (.Name "zip" p2) [e, e2] [] pos2) X.env) :: starEach [] X.env := by rfl) (hpl1 : (backTo pos (starEach [] X.env)).any (·.1) = false := by rfl) :
    PD c X (.Call (.Name "list" p) [.Call (.Name "zip" p2) [e, e2] [] pos2] [] pos) (wCal fZipL wr) :=
  ⟨(pe_listzip hc hg hm hg2 hm2 ha.pe hs hpl hs1 hpl1).imp (cal_br br_zipL ha.mo), mo_Cal ha.mo⟩
end
/-! max and min of one thing -/
def maxL : List Int → Int
  | [] => 0
  | x :: xs => xs.foldl (fun a y => if a < y then y else a) x
def minL : List Int → Int
  | [] => 0
  | x :: xs => xs.foldl (fun a y => if y < a then y else a) x
theorem foldl_max (xs : List Int) : ∀ x, (xs.foldl (fun a y => if a < y then y else a) x ∈ x :: xs) ∧ ∀ y ∈ x :: xs, y ≤ xs.foldl (fun a y => if a < y then y else a) x := by
  induction xs with
  | nil => intro x; simp
  | cons z xs ih =>
    intro x
    obtain ⟨h1, h2⟩ := ih (if x < z then z else x)
    rw [List.foldl_cons]
    refine ⟨?_, fun y hy => ?_⟩
    · rcases List.mem_cons.mp h1 with h | h
      · rw [h]; split <;> simp
      · simp [h]
    · have h0 := h2 _ List.mem_cons_self
      have s1 : x ≤ (if x < z then z else x) ∧ z ≤ (if x < z then z else x) := by split <;> omega
      rcases List.mem_cons.mp hy with e | hy
      · rw [e]; exact Int.le_trans s1.1 h0
      · rcases List.mem_cons.mp hy with e | hy
        · rw [e]; exact Int.le_trans s1.2 h0
        · exact h2 y (List.mem_cons_of_mem _ hy)
theorem foldl_min (xs : List Int) : ∀ x, (xs.foldl (fun a y => if y < a then y else a) x ∈ x :: xs) ∧ ∀ y ∈ x :: xs, xs.foldl (fun a y => if y < a then y else a) x ≤ y := by
  induction xs with
  | nil => intro x; simp
  | cons z xs ih =>
    intro x
    obtain ⟨h1, h2⟩ := ih (if z < x then z else x)
    rw [List.foldl_cons]
    refine ⟨?_, fun y hy => ?_⟩
    · rcases List.mem_cons.mp h1 with h | h
      · rw [h]; split <;> simp
      · simp [h]
    · have h0 := h2 _ List.mem_cons_self
      have s1 : x ≥ (if z < x then z else x) ∧ z ≥ (if z < x then z else x) := by split <;> omega
      rcases List.mem_cons.mp hy with e | hy
      · rw [e]; exact Int.le_trans h0 s1.1
      · rcases List.mem_cons.mp hy with e | hy
        · rw [e]; exact Int.le_trans h0 s1.2
        · exact h2 y (List.mem_cons_of_mem _ hy)
theorem maxL_mem {l : List Int} (h : l ≠ []) : maxL l ∈ l := by
  cases l with
  | nil => exact absurd rfl h
  | cons x xs => exact (foldl_max xs x).1
theorem maxL_ge {l : List Int} {y : Int} (h : y ∈ l) : y ≤ maxL l := by
  cases l with
  | nil => cases h
  | cons x xs => exact (foldl_max xs x).2 y h
theorem minL_mem {l : List Int} (h : l ≠ []) : minL l ∈ l := by
  cases l with
  | nil => exact absurd rfl h
  | cons x xs => exact (foldl_min xs x).1
theorem minL_le {l : List Int} {y : Int} (h : y ∈ l) : minL l ≤ y := by
  cases l with
  | nil => cases h
  | cons x xs => exact (foldl_min xs x).2 y h
def fMax1 : List D → R1
  | [.lst l] => match intsD l with
    | some (n :: ns) => .ok (.int (maxL (n :: ns)))
    | _ => .no
  | [.tup l] => match intsD l with
    | some (n :: ns) => .ok (.int (maxL (n :: ns)))
    | _ => .no
  | _ => .no
def fMin1 : List D → R1
  | [.lst l] => match intsD l with
    | some (n :: ns) => .ok (.int (minL (n :: ns)))
    | _ => .no
  | [.tup l] => match intsD l with
    | some (n :: ns) => .ok (.int (minL (n :: ns)))
    | _ => .no
  | _ => .no
def rMaxT (K : PySem.W.Frag) : List V → Hp → VK → Prop := fun vs H Q => ∃ (a : Addr) (n : Int) (ns : List Int), vs = [V.ref a] ∧ SqT K H a ((n :: ns).map V.int) ∧ Q (.int (maxL (n :: ns))) H
def rMinT (K : PySem.W.Frag) : List V → Hp → VK → Prop := fun vs H Q => ∃ (a : Addr) (n : Int) (ns : List Int), vs = [V.ref a] ∧ SqT K H a ((n :: ns).map V.int) ∧ Q (.int (minL (n :: ns))) H
theorem holds_ints {h : Heap} : ∀ {ns : List Int} {its : List Value}, Vals (ns.map V.int) its → PySem.W.HoldAll h its ns := by
  intro ns
  induction ns with
  | nil => intro its r; cases r; exact ⟨_, .nil⟩
  | cons n ns ih =>
    intro its r
    cases r with
    | cons r1 r2 =>
      obtain ⟨t, rfl⟩ := (show ∃ t, _ = Value.int n t from r1)
      obtain ⟨as, hs⟩ := ih r2
      exact ⟨_, .cons (.int _ _) hs⟩
section
variable {X : Cx} {k : Nat}
theorem call_maxT (hc : X.calm = true) (hu : X.A.units + 1 + 0 < cLine) : CallR X (.builtin "max") (rMaxT X.K) := by
  intro pins s σ H vs us Q I r h
  obtain ⟨a, n, ns, rfl, hs, q⟩ := h
  obtain ⟨its, rv, hl, _⟩ := I.tuple hs
  rw [Vals.ref1 r]
  refine PySem.W.max_tuple_datum (α := Int) (x := n) (xs := ns) (I.ok.hd hc) (show s.heap.IsTuple a its.toArray from hl) (holds_ints rv) hu fun i v h' tk hi hv hk => ?_
  obtain ⟨as, hv⟩ := hv
  have e : PySem.W.maxOf n ns = maxL (n :: ns) := by
    show ns.foldl (fun a y => if decide (a < y) = true then y else a) n = ns.foldl (fun a y => if a < y then y else a) n
    simp only [decide_eq_true_eq]
  rw [e] at hv
  cases hv
  exact ⟨.int _, H, I.kept hk, ⟨_, rfl⟩, q⟩
theorem call_minT (hc : X.calm = true) (hu : X.A.units + 1 + 0 < cLine) : CallR X (.builtin "min") (rMinT X.K) := by
  intro pins s σ H vs us Q I r h
  obtain ⟨a, n, ns, rfl, hs, q⟩ := h
  obtain ⟨its, rv, hl, _⟩ := I.tuple hs
  rw [Vals.ref1 r]
  refine PySem.W.min_tuple_datum (α := Int) (x := n) (xs := ns) (I.ok.hd hc) (show s.heap.IsTuple a its.toArray from hl) (holds_ints rv) hu fun i v h' tk hi hv hk => ?_
  obtain ⟨as, hv⟩ := hv
  have e : PySem.W.minOf n ns = minL (n :: ns) := by
    show ns.foldl (fun a y => if decide (y < a) = true then y else a) n = ns.foldl (fun a y => if y < a then y else a) n
    simp only [decide_eq_true_eq]
  rw [e] at hv
  cases hv
  exact ⟨.int _, H, I.kept hk, ⟨_, rfl⟩, q⟩
theorem CallR.or {u : Value} {r r' : List V → Hp → VK → Prop} (h : CallR X u r) (h' : CallR X u r') : CallR X u (fun vs H Q => r vs H Q ∨ r' vs H Q) := by
  intro pins s σ H vs us Q I r q
  rcases q with q | q
  · exact h pins s σ H vs us Q I r q
  · exact h' pins s σ H vs us Q I r q
variable {c : C} {e : Expr} {es : List Expr} {wr : DA} {pos p : Pos} {x : Str}
theorem max_of {ns : List Int} {m : Int} (h : m ∈ ns) (h2 : ∀ y ∈ ns, y ≤ m) : m = maxL ns := Int.le_antisymm (maxL_ge h) (h2 _ (maxL_mem (List.ne_nil_of_mem h)))
theorem min_of {ns : List Int} {m : Int} (h : m ∈ ns) (h2 : ∀ y ∈ ns, m ≤ y) : m = minL ns := Int.le_antisymm (h2 _ (minL_mem (List.ne_nil_of_mem h))) (minL_le h)
theorem br_max1 : BrC c X.K (fun vs H Q => rMax X.K vs H Q ∨ rMaxT X.K vs H Q) fMax1 := by
  intro F σ H ρ vs ds Q rl r q
  unfold fMax1 at q
  split at q
  · split at q
    · rename_i n ns e
      cases r with
      | cons r1 r2 =>
        cases r2
        obtain ⟨p, ws, rfl, k1, k2⟩ := r1.seqL
        have z := ints_reps (X := X) k2 e
        subst z
        exact .inl ⟨p, n :: ns, rfl, SqL.of (rl.step.fh _ _ k1), Nat.succ_pos _, fun m h h2 => by rw [max_of h h2]; exact q _ F H rl (Same.refl _) (.int _)⟩
    · exact (show False from q).elim
  · split at q
    · rename_i n ns e
      cases r with
      | cons r1 r2 =>
        cases r2
        obtain ⟨p, ws, rfl, k1, k2⟩ := r1.seqT
        have z := ints_reps (X := X) k2 e
        subst z
        exact .inr ⟨p, n, ns, rfl, same_tup rl.step.fh k1, q _ F H rl (Same.refl _) (.int _)⟩
    · exact (show False from q).elim
  · exact (show False from q).elim
theorem br_min1 : BrC c X.K (fun vs H Q => rMin X.K vs H Q ∨ rMinT X.K vs H Q) fMin1 := by
  intro F σ H ρ vs ds Q rl r q
  unfold fMin1 at q
  split at q
  · split at q
    · rename_i n ns e
      cases r with
      | cons r1 r2 =>
        cases r2
        obtain ⟨p, ws, rfl, k1, k2⟩ := r1.seqL
        have z := ints_reps (X := X) k2 e
        subst z
        exact .inl ⟨p, n :: ns, rfl, SqL.of (rl.step.fh _ _ k1), Nat.succ_pos _, fun m h h2 => by rw [min_of h h2]; exact q _ F H rl (Same.refl _) (.int _)⟩
    · exact (show False from q).elim
  · split at q
    · rename_i n ns e
      cases r with
      | cons r1 r2 =>
        cases r2
        obtain ⟨p, ws, rfl, k1, k2⟩ := r1.seqT
        have z := ints_reps (X := X) k2 e
        subst z
        exact .inr ⟨p, n, ns, rfl, same_tup rl.step.fh k1, q _ F H rl (Same.refl _) (.int _)⟩
    · exact (show False from q).elim
  · exact (show False from q).elim
theorem room_un1 {k : Nat} {A : Around} (hr : Room k A) : A.units + 1 + 0 < cLine := by have := hr.un; omega
theorem pd_B_max1 (hc : X.calm = true) (hr : Room k X.A) (hg : Gl X "max") (hm : X.mg "max" = none) (ha : PDA c X (e :: es) wr) (he : starEach (e :: es) X.env = (false, eval e X.env) :: starEach es X.env := by rfl) (hpl : (backTo pos (starEach es X.env)).any (·.1) = false := by rfl) : PD c X (.Call (.Name "max" p) (e :: es) [] pos) (wCal fMax1 wr) :=
  pd_calB (CallR.or (cr_max hc) (call_maxT hc (room_un1 hr))) br_max1 hg hm (by decide +kernel) ha (he := he) (hpl := hpl)
theorem pd_B_min1 (hc : X.calm = true) (hr : Room k X.A) (hg : Gl X "min") (hm : X.mg "min" = none) (ha : PDA c X (e :: es) wr) (he : starEach (e :: es) X.env = (false, eval e X.env) :: starEach es X.env := by rfl) (hpl : (backTo pos (starEach es X.env)).any (·.1) = false := by rfl) : PD c X (.Call (.Name "min" p) (e :: es) [] pos) (wCal fMin1 wr) :=
  pd_calB (CallR.or (cr_min hc) (call_minT hc (room_un1 hr))) br_min1 hg hm (by decide +kernel) ha (he := he) (hpl := hpl)
end
/-! len of an own instance -/
section
variable {X : Cx} {c : C} {k : Nat} {e : Expr} {we : DW} {pos p : Pos}
theorem run_in1 {f : Addr} {fd : FuncData} {ps : List Str} {sp : Sp} {pins : List (Addr × Obj)} {σ : St} {H : Hp} {s : Shared} {Q : VK} {us : List Value} {vs : List V} (F : FnOk X.prog X.w X.K X.mg X.base (L2.CX X.prog X.w) k f fd ps sp) (hr : Room (k + 1) X.A) (hb : Binds X.K fd ps [])
    (I : Inv X pins σ H s) (r : Vals vs us) (h : sp vs H Q E0) : wpAny (model X.prog X.w) X.A.in1 (call (.ref f) us) (EP X pins σ Q) X.xe s := by
  have h : sp (vs ++ []) H Q E0 := by rw [List.append_nil]; exact h
  have r2 : Vals (vs ++ []) (us ++ []) := r.append .nil
  have hl : (us ++ []).length = ps.length := by rw [← r2.length]; exact F.len _ _ _ _ h
  refine wpAny_call (codeAny_mono (F.run X.A.in1 X.stack s H ⟨us, []⟩ (us ++ []) (vs ++ []) Q E0 hr.in1 I.env0.in1 (hb s us I.kIn hl) r2 h) fun r s' hq => ?_)
  cases r with
  | error e => exact passL pins σ H s e s' I hq
  | ok fl =>
    cases fl with
    | ret u => exact I.after hq
    | next => exact False.elim hq
    | brk => exact False.elim hq
    | cont => exact False.elim hq
def rLenO (K : PySem.W.Frag) (C : Addr) (S : Spec) : List V → Hp → VK → Prop := fun vs H Q => ∃ (p dx : Addr) (fs : List (Str × V)), vs = [.ref p] ∧ H p = some (.ins C dx fs) ∧ spG K S vs H (fun v H' => ∃ n : Int, v = .int n ∧ (0 ≤ n ∧ n < 2 ^ 63) ∧ Q (.int n) H') E0
theorem cr_lenO {C f : Addr} {fd : FuncData} {ps : List Str} {S : Spec} (h1 : PySem.W.findIn X.K (.ref C) "__len__" = some (some (.ref f))) (h2 : PySem.W.isFn X.K (.ref f) = true) (hb : Binds X.K fd ps []) (F : FnOk X.prog X.w X.K X.mg X.base (L2.CX X.prog X.w) k f fd ps (spG X.K S)) (hr : Room (k + 1) X.A) : CallR X (.builtin "len") (rLenO X.K C S) := by
  intro pins s σ H vs us Q I r h
  obtain ⟨p, dx, fs, rfl, hp, q⟩ := h
  rw [Vals.ref1 r]
  obtain ⟨mA, J, _⟩ := ins_get I.hok hp
  obtain ⟨od, J, _⟩ := J.look
  obtain ⟨m, hF⟩ := I.fr
  refine PySem.W.len_K hF I.ok.mod.kin J h1 h2 (wpAny_mono (run_in1 F hr hb I (us := [.ref p]) (vs := [.ref p]) (.cons rfl .nil) q) (fun w s' h => ?_) fun _ _ z => z)
  obtain ⟨z, H', I', rz, n, rfl, hn, qz⟩ := h
  obtain ⟨t, rfl⟩ := (show ∃ t, w = Value.int n t from rz)
  exact ⟨hn, .int n, H', I'.kept (t' := s'.toks + 1) (fun b o e => e), ⟨_, rfl⟩, qz⟩
def wLenO (S : Spec) (C : Addr) (wr : DA) : DW := fun ρ Q => wr ρ fun ds ρ1 => (∃ ns l, ds = [.obj C ns l]) ∧ Call S ds (fun d => ∃ n : Int, d = .int n ∧ (0 ≤ n ∧ n < 2 ^ 63) ∧ Q (.int n) ρ1) fun _ => False
theorem pd_lenO {C f : Addr} {fd : FuncData} {ps : List Str} {S : Spec} {es : List Expr} {wr : DA} (h1 : PySem.W.findIn X.K (.ref C) "__len__" = some (some (.ref f))) (h2 : PySem.W.isFn X.K (.ref f) = true) (hb : Binds X.K fd ps []) (F : FnOk X.prog X.w X.K X.mg X.base (L2.CX X.prog X.w) k f fd ps (spG X.K S)) (hS : MonoSp S) (hr : Room (k + 1) X.A)
    (hg : Gl X "len") (hm : X.mg "len" = none) (ha : PDA c X (e :: es) wr) (he : starEach (e :: es) X.env = (false, eval e X.env) :: starEach es X.env := by rfl) (hpl : (backTo pos (starEach es X.env)).any (·.1) = false := by rfl) : PD c X (.Call (.Name "len" p) (e :: es) [] pos) (wLenO S C wr) := by
  refine ⟨(pe_callB (cr_lenO (S := S) h1 h2 hb F hr) hg hm (by decide +kernel) ha.pe (by decide) (by decide) he hpl).imp fun σ H Q ⟨F, ρ, rl, q⟩ => ⟨F, ρ, rl, ha.mo _ _ _ (fun ds ρ1 q vs F1 H1 r1 s1 e1 => ?_) q⟩, fun ρ Q Q' k q => ha.mo _ _ _ (fun ds ρ1 ⟨q1, q2⟩ => ⟨q1, ⟨hS _ _ _ _ _ (fun d ⟨n, a, b, q⟩ => ⟨n, a, b, k _ _ q⟩) (fun _ z => z) q2.h⟩⟩) q⟩
  obtain ⟨⟨ns, l, rfl⟩, q⟩ := q
  cases e1 with
  | cons r1' r2 =>
    cases r2
    cases r1' with
    | obj g1 g2 g3 =>
      refine ⟨_, _, _, rfl, r1.step.fh _ _ g1, c.g, F1, [.obj _ ns l], r1.step.fh, r1.step.hand, .cons (.obj g1 g2 g3) .nil, hS _ _ _ _ _ (fun d ⟨n, a, b, q⟩ => ?_) (fun _ z => z.elim) q.h⟩
      subst a
      intro v F' H' st rp
      cases rp
      exact ⟨n, rfl, b, q _ F' H' (r1.after st) (s1.trans st.ff) (.int n)⟩
end
section
variable {X : Cx} {c : C} {a b cc : Expr} {wa wb wc : DW} {pos : Pos}
theorem pd_ltle (ha : PD c X a wa) (hb : PD c X b wb) (hc : PD c X cc wc) (hm : lastMarks [.Lt, .LtE] [b, cc] = false := by rfl) : PD c X (.Compare a [.Lt, .LtE] [b, cc] pos) (wChain fLt fLe wa wb wc) := pd_chain op_lt op_le br_lt br_le ha hb hc hm
theorem pdt_ltle (ha : PD c X a wa) (hb : PD c X b wb) (hc : PD c X cc wc) (hm : lastMarks [.Lt, .LtE] [b, cc] = false := by rfl) : PDT c X (.Compare a [.Lt, .LtE] [b, cc] pos) (wTst (wChain fLt fLe wa wb wc)) := pdt_chain op_lt op_le br_lt br_le ha hb hc hm
end
end PL
end L2

namespace L2
namespace PL
open PySem PySem.Spec PyProof.Rows
variable [Tabl]
/-! defs with one keyword-only parameter that has a default -/
structure DefD (K : PySem.W.Frag) (mg : Str → Option Value) (x : Str) (stm : Stmt) (f : Addr) (fd : FuncData) (ps : List Str) (n : Nat) (kw : Str) (v : V) : Prop where
  F : Fun K x x stm f fd
  g : mg x = some (.ref f)
  k : PySem.W.keepIn K (.ref f) = true
  b : ∃ ds, Vals [v] ds ∧ Binds K fd ps ds
  kb : KBn K fd ps n [kw] (fun us ws => us ++ ws) (fun vs zs => vs ++ zs)
def wCallD (S : Spec) (x : D) (wr : DA) (Ed : DX) : DW := fun ρ Q => wr ρ fun ds ρ1 => Call S (ds ++ [x]) (fun d => Q d ρ1) fun x => Ed x ρ1
def wCallN (S : Spec) (n m : Nat) (wr wk : DA) (Ed : DX) : DW := fun ρ Q => wr ρ fun ds ρ1 => wk ρ1 fun es ρ2 => ds.length = n ∧ es.length = m ∧ Call S (ds ++ es) (fun d => Q d ρ2) fun x => Ed x ρ2
section
variable {X : Cx} {c : C} {k : Nat} {f : Addr} {fd : FuncData} {ps : List Str} {S : Spec} {W : WX} {Ed : DX} {x : Str} {p pos : Pos} {e : Expr} {es : List Expr} {wr wk : DA}
/-- f(e, ..), one keyword-only parameter left to its default -/
theorem pd_callD {v : V} {d0 : D} (F : FnOk X.prog X.w X.K X.mg X.base (L2.CX X.prog X.w) k f fd ps (spG X.K S)) (hS : MonoSp S) (lk : LinkW X.K c W Ed) (tk : Takes X W) (hr : Room k X.A) (hg : Gl X x) (hm : X.mg x = some (.ref f)) (hk : PySem.W.keepIn X.K (.ref f) = true) (hb : ∃ ds, Vals [v] ds ∧ Binds X.K fd ps ds)
    (hv : ∀ F, Rep X.K c.g F v d0) (ha : PDA c X (e :: es) wr) (hdb : (x == ("__debug__" : Str)) = false := by decide) (he : starEach (e :: es) X.env = (false, eval e X.env) :: starEach es X.env := by rfl) (hpl : (backTo pos (starEach es X.env)).any (·.1) = false := by rfl) :
    PD c X (.Call (.Name x p) (e :: es) [] pos) (wCallD S d0 wr Ed) := by
  obtain ⟨dvs, hd, hb⟩ := hb
  refine ⟨(pe_callSD (E := WE W) F hr hg hm hk hb hd (fun σ => passAt tk σ) ha.pe hdb he hpl).imp fun σ H Q ⟨F, ρ, rl, q⟩ => ⟨F, ρ, rl, ha.mo _ _ _ (fun ds ρ1 q vs F1 H1 r1 s1 e1 => ?_) q⟩, fun ρ Q Q' k q => ha.mo _ _ _ (fun ds ρ1 q => ⟨hS _ _ _ _ _ (fun d => k d ρ1) (fun _ h => h) q.h⟩) q⟩
  exact call_br hS lk r1 s1 (e1.append (.cons (hv F1) .nil)) q.h
/-- f(e, .., k = v): the keyword-only parameter by its name -/
theorem pd_callN {n : Nat} {kw : Str} {kws : List Keyword} (F : FnOk X.prog X.w X.K X.mg X.base (L2.CX X.prog X.w) k f fd ps (spG X.K S)) (hS : MonoSp S) (lk : LinkW X.K c W Ed) (tk : Takes X W) (hr : Room k X.A) (hg : Gl X x) (hm : X.mg x = some (.ref f)) (hk : PySem.W.keepIn X.K (.ref f) = true) (hb : KBn X.K fd ps n [kw] (fun us ws => us ++ ws) (fun vs zs => vs ++ zs))
    (ha : PDA c X (e :: es) wr) (hkw : PDK c X kws wk) (hall : (backToKw pos (keywordEach kws X.env)).all (·.1.isSome) = true := by rfl) (hks : (backToKw pos (keywordEach kws X.env)).filterMap (·.1) = [kw] := by rfl)
    (hdb : (x == ("__debug__" : Str)) = false := by decide) (he : starEach (e :: es) X.env = (false, eval e X.env) :: starEach es X.env := by rfl)
    (hpl : ((backTo pos (starEach (e :: es) X.env)).any (·.1) || (backToKw pos (keywordEach kws X.env)).any (·.1.isNone)) = false := by rfl) :
    PD c X (.Call (.Name x p) (e :: es) kws pos) (wCallN S n 1 wr wk Ed) := by
  refine ⟨⟨fun pins s σ H Q I ⟨F0, ρ, rl, q⟩ => ?_⟩, fun ρ Q Q' k q => ha.mo _ _ _ (fun ds ρ1 q => hkw.mo _ _ _ (fun es ρ2 q => ⟨q.1, q.2.1, ⟨hS _ _ _ _ _ (fun d => k d ρ2) (fun _ h => h) q.2.2.h⟩⟩) q) q⟩
  refine wpAny_Call_Name_kw (ld_glob I hg hm ?_ hdb)
  refine PySem.W.callWith_KW (h₀ := X.base) I.ok.mod.kin hk hall (thn (ha.pe.run pos pins s σ H (fun vs H1 => tOfA X.K c wk σ H1 fun zs H2 => vs.length = n ∧ zs.length = 1 ∧ spG X.K S (vs ++ zs) H2 Q (WE W σ)) I ⟨F0, ρ, rl, ha.mo _ _ _ (fun ds ρ1 q vs F1 H1 r1 s1 e1 => ?_) q⟩) fun us s1 ⟨vs, H1, I1, r, q⟩ => ?_) hpl he
  · refine ⟨F1, ρ1, r1, hkw.mo _ _ _ (fun es ρ2 q zs F2 H2 r2 s2 e2 => ?_) q⟩
    exact ⟨by rw [e1.length]; exact q.1, by rw [e2.length]; exact q.2.1, call_br hS lk r2 (s1.trans s2) ((e1.mono s2).append e2) q.2.2.h⟩
  · refine thn (hkw.pe.run pos pins s1 σ H1 _ I1 q) fun ws s2 ⟨zs, H2, I2, rz, l1, l2, q2⟩ => ⟨I2.kIn, ?_⟩
    rw [hks]
    have r2 := hb.rel r rz
    refine wpAny_call (codeAny_mono (F.run X.A X.stack s2 H2 ⟨us, [kw].zip ws⟩ (us ++ ws) (vs ++ zs) Q (WE W σ) hr I2.env0 (hb.to s2 us ws I2.kIn (r.length.symm.trans l1) (rz.length.symm.trans l2)) r2 q2) fun r s' hq => ?_)
    cases r with
    | error e => exact passAt tk σ pins H2 s2 e s' I2 hq
    | ok fl =>
      cases fl with
      | ret u => exact I2.after hq
      | next => exact False.elim hq
      | brk => exact False.elim hq
      | cont => exact False.elim hq
end
end PL
end L2

namespace L2
namespace PL
open PySem PySem.Spec PyProof.Rows
variable [Tabl]
/-! x.m(..): a method of an own class; x + y of own instances -/
def wMeth (S : Spec) (C : Addr) (m : Str) (wo : DW) (wr : DA) (Ed : DX) : DW := fun ρ Q => wo ρ fun o ρ1 => (∃ ns l, o = .obj C ns l ∧ ns.contains m = false) ∧ wr ρ1 fun ds ρ2 => Call S (o :: ds) (fun d => Q d ρ2) fun x => Ed x ρ2
theorem zip_lookup {m : Str} : ∀ {ns : List Str} {xs : List V}, ns.contains m = false → (ns.zip xs).lookup m = none
  | [], _, _ => by simp
  | n :: ns, [], _ => by simp
  | n :: ns, x :: xs, h => by
    simp only [List.contains_cons, Bool.or_eq_false_iff] at h
    simp only [List.zip_cons_cons, List.lookup_cons, h.1]
    exact zip_lookup h.2
section
variable {X : Cx} {c : C} {k : Nat} {f C : Addr} {fd : FuncData} {ps : List Str} {S : Spec} {W : WX} {Ed : DX} {m : Str} {p pos apos : Pos} {o e : Expr} {es : List Expr} {wo : DW} {wr : DA}
theorem pd_meth {pl : Sem Bool} (cl : Cls X.K C) (hm : Meth X.K C m f) (F : FnOk X.prog X.w X.K X.mg X.base (L2.CX X.prog X.w) k f fd ps (spG X.K S)) (hS : MonoSp S) (lk : LinkW X.K c W Ed) (tk : Takes X W) (hr : Room k X.A) (hb : Binds X.K fd ps [])
    (ho : PD c X o wo) (ha : PDA c X (e :: es) wr)
    (hst : starEach (e :: es) X.env = (false, eval e X.env) :: starEach es X.env := by rfl) (hpl : (backTo pos (starEach es X.env)).any (·.1) = false := by rfl)
    (ht : eval (.Call (.Attribute o m apos) (e :: es) [] pos) X.env = (do
      let ov ← eval o X.env
      standAt apos.atName
      let (f, first) ← holding [ov] (getMethod ov m pl)
      callWith pos f first (backTo pos (starEach (e :: es) X.env)) (backToKw pos (keywordEach [] X.env))) := by rfl) :
    PD c X (.Call (.Attribute o m apos) (e :: es) [] pos) (wMeth S C m wo wr Ed) := by
  refine ⟨⟨fun pins s σ H Q I ⟨F0, ρ, rl, q⟩ => ?_⟩, fun ρ Q Q' k q => ho.mo _ _ _ (fun d ρ1 q => ⟨q.1, ha.mo _ _ _ (fun ds ρ2 q => ⟨hS _ _ _ _ _ (fun d => k d ρ2) (fun _ h => h) q.h⟩) q.2⟩) q⟩
  refine PySem.W.methodCall_KW (pl := pl) (thn (ho.pe.run pins s σ H (fun v H1 => ∃ (F1 : Hp) (ρ1 : List SD) (a dx : Addr) (ns : List Str) (xs : List V) (l : List D), v = .ref a ∧ Rel X.K c F1 σ H1 ρ1 ∧ Same F0 F1 ∧ F1 a = some (.ins C dx (ns.zip xs)) ∧ ns.length = xs.length ∧ Reps X.K c.g F1 xs l ∧ ns.contains m = false ∧
      wr ρ1 fun ds ρ2 => Call S (.obj C ns l :: ds) (fun d => ∀ v F' H', Rel X.K c F' σ H' ρ2 → Same F0 F' → Rep X.K c.g F' v d → Q v H') fun x => Ed x ρ2) I ⟨F0, ρ, rl, ho.mo _ _ _ (fun d ρ1 q v F1 H1 r1 s1 e1 => ?_) q⟩) fun u s1 ⟨x, H1, I1, rx, F1, ρ1, a, dx, ns, xs, l, ex, r1, sm, g1, g2, g3, nm, q1⟩ => ?_) ht
  · obtain ⟨⟨ns, l, rfl, nm⟩, q⟩ := q
    cases e1 with
    | obj g1 g2 g3 => exact ⟨F1, ρ1, _, _, ns, _, l, rfl, r1, s1, g1, g2, g3, nm, q⟩
  · subst ex
    obtain rfl : u = Value.ref a := rx
    refine getmeth_ok I1 (r1.step.fh _ _ g1) cl hm (zip_lookup nm) ?_
    refine PySem.W.callWith_K (first := [.ref a]) (h₀ := X.base) I.ok.mod.kin hm.kp (thn (ha.pe.run pos pins s1 σ H1 (fun vs H2 => spG X.K S (.ref a :: vs) H2 Q (WE W σ)) I1 ⟨F1, ρ1, r1, ha.mo _ _ _ (fun ds ρ2 q vs F2 H2 r2 s2 e2 => ?_) q1⟩) fun us s2 ⟨vs, H2, I2, r, q2⟩ => ⟨I2.kIn, ?_⟩) hst hpl
    · exact call_br hS lk r2 (sm.trans s2) (.cons (Rep.mono s2 (.obj g1 g2 g3)) e2) q.h
    · exact run_fnSD (E := WE W) (us := .ref a :: us) (vs := .ref a :: vs) (ds := []) (dvs := []) F hr hb .nil (passAt tk σ) I2 (.cons rfl r) (by rw [List.append_nil]; exact q2)
theorem pd_meth0 {pl : Sem Bool} (cl : Cls X.K C) (hm : Meth X.K C m f) (F : FnOk X.prog X.w X.K X.mg X.base (L2.CX X.prog X.w) k f fd ps (spG X.K S)) (hS : MonoSp S) (lk : LinkW X.K c W Ed) (tk : Takes X W) (hr : Room k X.A) (hb : Binds X.K fd ps [])
    (ho : PD c X o wo)
    (ht : eval (.Call (.Attribute o m apos) [] [] pos) X.env = (do
      let ov ← eval o X.env
      standAt apos.atName
      let (f, first) ← holding [ov] (getMethod ov m pl)
      callWith pos f first (backTo pos (starEach [] X.env)) (backToKw pos (keywordEach [] X.env))) := by rfl) :
    PD c X (.Call (.Attribute o m apos) [] [] pos) (wMeth S C m wo wNil Ed) := by
  refine ⟨⟨fun pins s σ H Q I ⟨F0, ρ, rl, q⟩ => ?_⟩, fun ρ Q Q' k q => ho.mo _ _ _ (fun d ρ1 q => ⟨q.1, ⟨hS _ _ _ _ _ (fun d => k d ρ1) (fun _ h => h) q.2.h⟩⟩) q⟩
  refine PySem.W.methodCall_KW (pl := pl) (thn (ho.pe.run pins s σ H (fun v H1 => ∃ (a dx : Addr) (fs : List (Str × V)), v = .ref a ∧ H1 a = some (.ins C dx fs) ∧ fs.lookup m = none ∧ spG X.K S [.ref a] H1 Q (WE W σ)) I ⟨F0, ρ, rl, ho.mo _ _ _ (fun d ρ1 q v F1 H1 r1 s1 e1 => ?_) q⟩) fun u s1 ⟨x, H1, I1, rx, a, dx, fs, ex, ea, nl, q1⟩ => ?_) ht
  · obtain ⟨⟨ns, l, rfl, nm⟩, q⟩ := q
    cases e1 with
    | obj g1 g2 g3 => exact ⟨_, _, _, rfl, r1.step.fh _ _ g1, zip_lookup nm, call_br hS lk r1 s1 (.cons (.obj g1 g2 g3) .nil) q.h⟩
  · subst ex
    obtain rfl : u = Value.ref a := rx
    refine getmeth_ok I1 ea cl hm nl ?_
    exact PySem.W.callWith_K0 (first := [.ref a]) I1.kIn hm.kp (run_fnSD (E := WE W) (us := [.ref a]) (vs := [.ref a]) (ds := []) (dvs := []) F hr hb .nil (passAt tk σ) I1 (.cons rfl .nil) q1)
/-- x + y, both of the class C: by its own method -/
def wBinO (S : Spec) (C : Addr) (wa wb : DW) (Ed : DX) : DW := fun ρ Q => wa ρ fun x ρ1 => wb ρ1 fun y ρ2 => (∃ ns l, x = .obj C ns l) ∧ (∃ ns l, y = .obj C ns l) ∧ Call S [x, y] (fun d => Q d ρ2) fun x => Ed x ρ2
theorem pd_binO {op : Operator} {a b : Expr} {wa wb : DW} (h1 : PySem.W.selfFirst X.K C = true) (h2 : PySem.W.findIn X.K (.ref C) (PySem.dunder op.info.2) = some (some (.ref f))) (h3 : PySem.W.isFn X.K (.ref f) = true) (F : FnOk X.prog X.w X.K X.mg X.base (L2.CX X.prog X.w) k f fd ps (spG X.K S)) (hS : MonoSp S) (lk : LinkW X.K c W Ed) (tk : Takes X W) (hr : Room k X.A) (hb : Binds X.K fd ps [])
    (ha : PD c X a wa) (hbb : PD c X b wb) : PD c X (.BinOp a op b pos) (wBinO S C wa wb Ed) := by
  refine ⟨⟨fun pins s σ H Q I ⟨F0, ρ, rl, q⟩ => ?_⟩, fun ρ Q Q' k q => ha.mo _ _ _ (fun d ρ1 q => hbb.mo _ _ _ (fun ds ρ2 q => ⟨q.1, q.2.1, ⟨hS _ _ _ _ _ (fun d => k d ρ2) (fun _ h => h) q.2.2.h⟩⟩) q) q⟩
  refine wpAny_BinOp (binT (R := fun x y H2 => ∃ (p r dx dy : Addr) (fs gs : List (Str × V)), x = .ref p ∧ y = .ref r ∧ H2 p = some (.ins C dx fs) ∧ H2 r = some (.ins C dy gs) ∧ spG X.K S [.ref p, .ref r] H2 Q (WE W σ)) ha.pe hbb.pe I ?_ fun v u s2 x y H2 I2 rx ry q => ?_)
  · refine ⟨F0, ρ, rl, ha.mo _ _ _ (fun x ρ1 q v F1 H1 r1 s1 e1 => ?_) q⟩
    refine ⟨F1, ρ1, r1, hbb.mo _ _ _ (fun y ρ2 q u F2 H2 r2 s2 e2 => ?_) q⟩
    obtain ⟨⟨ns, l, rfl⟩, ⟨ns', l', rfl⟩, q⟩ := q
    have e1 := Rep.mono s2 e1
    cases e1 with
    | obj g1 g2 g3 =>
      cases e2 with
      | obj k1 k2 k3 => exact ⟨_, _, _, _, _, _, rfl, rfl, r2.step.fh _ _ g1, r2.step.fh _ _ k1, call_br hS lk r2 (s1.trans s2) (.cons (.obj g1 g2 g3) (.cons (.obj k1 k2 k3) .nil)) q.h⟩
  · obtain ⟨p, r, dx, dy, fs, gs, rfl, rfl, i1, i2, q⟩ := q
    obtain rfl : v = Value.ref p := rx
    obtain rfl : u = Value.ref r := ry
    obtain ⟨mA, J, _⟩ := ins_get I2.hok i1
    obtain ⟨mB, J', _⟩ := ins_get I2.hok i2
    obtain ⟨od, J, _⟩ := J.look
    obtain ⟨od', J', _⟩ := J'.look
    obtain ⟨m, hF⟩ := I2.fr
    have run := run_fnSD (E := WE W) (dvs := []) (ds := []) F hr hb .nil (passAt tk σ) I2 (us := [.ref p, .ref r]) (vs := [.ref p, .ref r]) (.cons rfl (.cons rfl .nil)) (by exact q)
    exact PySem.W.binop_K hF I2.ok.mod.kin J J'.type h1 h2 h3 (wpAny_mono run (fun w s' ⟨z, H', I', rz, qz⟩ => SlX.cmpback rz ⟨z, H', I', rz, qz⟩) fun _ _ z => z)
end
end PL
end L2

namespace L2
namespace PL
open PySem PySem.Spec PyProof.Rows PySem.W Builtin
variable [Tabl]
/-! x != y by its own ==: object.__ne__ -/
theorem ne_bind (self : Value) : bindSpecial (.builtin "object.__ne__") self = pure (.builtin "object.__ne__", [self]) :=
  (Slot.of (T := "object") (name := "__ne__") (owner := "object") (n := "__ne__") (by rw [typeLookup_type, builtinLookup_eq_fast]; kernel_rfl) (by decide +kernel) (by decide +kernel) (by decide +kernel)
    (.inl (by decide +kernel)) (by rw [isSubtype_type]; kernel_rfl)).bind self
theorem ne_plain : plainId "object.__ne__" = true := by decide +kernel
section
variable {prog : Program} {w : World} {A : Around} {E : Value → Shared → Prop} {s : Shared} {K : Frag} {x C L f : Addr} {h₀ : Heap} {m : Str → Option Value} {ox : Obj} {od : Option Obj} {b tb : Value}
theorem ne_run {Q : Fin → Shared → Prop} (hu : A.units < cLine) (X : K.In s.heap) (I : InstAt s.heap x ox C od) (h2 : findIn K (.ref C) "__eq__" = some (some (.ref f))) (hf : isFn K (.ref f) = true)
    (h : wpAny (model prog w) A (call (.ref f) [.ref x, b]) (fun v s' => ∃ k, v = .bool k ∧ Q (.done (.ret (.bool (!k)))) s') E s) : wpAny (model prog w) A (Builtin.«object.__ne__» ⟨[.ref x, b], []⟩) Q E s := by
  unfold Builtin.«object.__ne__»
  repeat (first
    | with_reducible refine wpAny_cRoomFor hu ?_
    | (refine wpAny_bind (m := callSpecialIfBound? (.ref x) (Str.ofString "__eq__") [b])
        (ifBound_K X I h2 hf (wpAny_mono h (fun r s' hr => by
          obtain ⟨b, rfl, hq⟩ := hr
          repeat (first | exact hq | exact wpAny_pure hq | exact wpAny_truthy_bool hq | (refine wpAny_bind (m := truthy (.bool _)) (wpAny_truthy_bool ?_)) | wp_step)) fun _ _ e => e)))
    | wp_step)
theorem try_ne {Q : Option Value → Shared → Prop} (hu : A.units + 1 < cLine) (X : K.In s.heap) (I : InstAt s.heap x ox C od) (h1 : findIn K (.ref C) "__ne__" = some (some (.builtin "object.__ne__"))) (h2 : findIn K (.ref C) "__eq__" = some (some (.ref f))) (hf : isFn K (.ref f) = true) (hm : mroIn K C (.type "object") = some true)
    (h : wpAny (model prog w) A.in1 (call (.ref f) [.ref x, b]) (fun v s' => ∃ k, v = .bool k ∧ Q (some (.bool (!k))) s') E s) : wpAny (model prog w) A (tryCompare (.ref x) "__ne__" b) Q E s := by
  unfold tryCompare
  have one : wpAny (model prog w) A (callSpecialIfBound? (.ref x) "__ne__" [b]) (fun r s' => ∃ k, r = some (.bool k) ∧ Q (some (.bool k)) s') E s := by
    simp only [callSpecialIfBound?, bindSpecialIfBound?]
    refine wpAny_holding (wpAny_bind (wpAny_bind (wpAny_bind (I.type.here ((looks_findIn X h1).here ?_)))))
    refine wpAny_bind (wpAny_askSetting (wpAny_ite ?_))
    have fin : wpAny (model prog w) A (call (.builtin "object.__ne__") ([.ref x] ++ [b]) >>= fun v => pure (some v)) (fun r s' => ∃ k, r = some (.bool k) ∧ Q (some (.bool k)) s') E s := by
      refine wpAny_bind (wpAny_call (codeAny_call_builtin ne_plain F.cmpEntry_ne ?_))
      have t2 : Looks (model prog w) s.heap (isInstance (.ref x) (.type "object")) true := I.type.andThen (looks_mroIn X hm)
      refine @check_slot (model prog w) _ _ _ "object.__ne__" "object" "__ne__" (.ref x) [b] [] _ F.cmpKind_ne F.cmpSplit_ne t2 (F.cmpArgs_ne _ _) ?_
      refine ne_run hu X I h2 hf (wpAny_mono h (fun v s' hv => ?_) fun _ _ e => e)
      obtain ⟨k, rfl, hq⟩ := hv
      exact ⟨k, rfl, wpAny_pure ⟨!k, rfl, hq⟩⟩
    rw [ne_bind]
    split
    · exact wpAny_bind (wpAny_pure (wpAny_pure (by exact fin)))
    · exact wpAny_tryCatch (wpAny_bind (wpAny_pure (wpAny_pure (by exact fin))))
  refine wpAny_bind (wpAny_mono one (fun r s' hr => ?_) fun _ _ e => e)
  obtain ⟨k, rfl, hq⟩ := hr
  exact wpAny_pure hq
theorem ne_K {Q : Value → Shared → Prop} (hu : A.units + 1 < cLine) (F : Fr h₀ L s.heap m) (X₀ : K.In h₀) (I : InstAt s.heap x ox C od) (hb : Looks (model prog w) s.heap (typeOf b) tb) (hn : notFirst K C tb = true)
    (h1 : findIn K (.ref C) "__ne__" = some (some (.builtin "object.__ne__"))) (h2 : findIn K (.ref C) "__eq__" = some (some (.ref f))) (hf : isFn K (.ref f) = true) (hm : mroIn K C (.type "object") = some true)
    (h : wpAny (model prog w) A.in1 (call (.ref f) [.ref x, b]) (fun v s' => ∃ k, v = .bool k ∧ Q (.bool (!k)) s') E s) : wpAny (model prog w) A (richCompare .NotEq (.ref x) b) Q E s := by
  have X := X₀.keeps F.keep
  have one : wpAny (model prog w) A (tryCompare (.ref x) "__ne__" b) (fun r s' => ∃ v, r = some v ∧ Q v s') E s :=
    try_ne hu X I h1 h2 hf hm (wpAny_mono h (fun v s' hv => by obtain ⟨k, e, q⟩ := hv; exact ⟨k, e, _, rfl, q⟩) fun _ _ e => e)
  unfold richCompare
  simp only [oneThing_ref]
  refine wpAny_holding (wpAny_bind (wpAny_cRoomFor (Nat.lt_of_succ_lt hu) ?_))
  rw [cmpInfo_NotEq]
  dsimp only
  refine wpAny_bind (I.type.here (wpAny_bind (hb.here ?_)))
  split
  · rename_i q
    have e : subIn K tb (.ref C) = some false := by
      rcases Bool.or_eq_true_iff.mp hn with e | e
      · rw [beq_iff_eq.mp e] at q; simp at q
      · exact beq_iff_eq.mp e
    refine wpAny_bind ((looks_subIn X e).here ?_)
    simp only [Bool.false_eq_true, if_false]
    refine wpAny_bind (wpAny_mono one (fun r s' z => ?_) fun _ _ e => e)
    obtain ⟨v, rfl, hq⟩ := z
    exact wpAny_pure hq
  · refine wpAny_bind (wpAny_pure ?_)
    simp only [Bool.false_eq_true, if_false]
    refine wpAny_bind (wpAny_mono one (fun r s' z => ?_) fun _ _ e => e)
    obtain ⟨v, rfl, hq⟩ := z
    exact wpAny_pure hq
end
end PL
end L2

namespace L2
namespace PL
open PySem PySem.Spec PyProof.Rows
variable [Tabl]
/-! own == and != with whatever stands at the right -/
/-- what is known of C -/
structure EqAny (K : PySem.W.Frag) (cls : List Addr) (C : Addr) : Prop where
  ty : ∀ n ∈ tyNs, PySem.W.notFirst K C (.type n) = true
  ob : ∀ D ∈ cls, PySem.W.notFirst K C (.ref D) = true
def inCls (cls : List Addr) : D → Bool
  | .obj C _ _ => cls.contains C
  | _ => true
def wEqO (cls : List Addr) (S : Spec) (C : Addr) (wa wb : DW) : DW := fun ρ Q => wa ρ fun x ρ1 => wb ρ1 fun y ρ2 => ((∃ ns l, x = .obj C ns l) ∧ noTok y = true ∧ inCls cls y = true) ∧ Call S [x, y] (fun d => ∃ k : Bool, d = .bl k ∧ Q (.bl k) ρ2) fun _ => False
def wNeO (cls : List Addr) (S : Spec) (C : Addr) (wa wb : DW) : DW := fun ρ Q => wa ρ fun x ρ1 => wb ρ1 fun y ρ2 => ((∃ ns l, x = .obj C ns l) ∧ noTok y = true ∧ inCls cls y = true) ∧ Call S [x, y] (fun d => ∃ k : Bool, d = .bl k ∧ Q (.bl (!k)) ρ2) fun _ => False
section
variable {X : Cx} {c : C} {k : Nat} {f C : Addr} {fd : FuncData} {ps : List Str} {S : Spec} {pos : Pos} {a b : Expr} {wa wb : DW} {cls : List Addr}
/-- what stands there has a type that comes second -/
theorem second {pins : List (Addr × Obj)} {σ : St} {s : Shared} {F H : Hp} {y : V} {u : Value} {d : D} (T : EqAny X.K cls C) (I : Inv X pins σ H s) (sm : Same F H) (r : Rep X.K c.g F y d) (ry : RelV y u) (h1 : noTok d = true) (h2 : inCls cls d = true) :
    ∃ tb, PySem.W.Looks (model X.prog X.w) s.heap (typeOf u) tb ∧ PySem.W.notFirst X.K C tb = true := by
  by_cases ho : ∃ D ns l, d = .obj D ns l
  · obtain ⟨D, ns, l, rfl⟩ := ho
    cases r with
    | obj g1 g2 g3 =>
      obtain rfl : u = Value.ref _ := ry
      obtain ⟨mB, J', _⟩ := ins_get I.hok (sm _ _ g1)
      obtain ⟨od', J', _⟩ := J'.look
      exact ⟨_, J'.type, T.ob D (by simpa [inCls] using h2)⟩
  · obtain ⟨n, hn, ty⟩ := TyX.nm_of sm r h1 (fun D ns l e => ho ⟨D, ns, l, e⟩)
    obtain ⟨P, kx, hp, _⟩ := kit_of I ry ty
    exact ⟨_, kx.ty _ _ I.kIn hp, T.ty n hn⟩
theorem pd_eqO (T : EqAny X.K cls C) (h1 : PySem.W.findIn X.K (.ref C) "__eq__" = some (some (.ref f))) (h2 : PySem.W.isFn X.K (.ref f) = true) (F : FnOk X.prog X.w X.K X.mg X.base (L2.CX X.prog X.w) k f fd ps (spG X.K S)) (hS : MonoSp S) (hr : Room k X.A) (hb : Binds X.K fd ps [])
    (ha : PD c X a wa) (hbb : PD c X b wb) (hm : behindInMarks .Eq b = false := by rfl) : PD c X (.Compare a [.Eq] [b] pos) (wEqO cls S C wa wb) := by
  refine ⟨⟨fun pins s σ H Q I ⟨F0, ρ, rl, q⟩ => ?_⟩, fun ρ Q Q' k q => ha.mo _ _ _ (fun d ρ1 q => hbb.mo _ _ _ (fun ds ρ2 q => ⟨q.1, ⟨hS _ _ _ _ _ (fun d ⟨j, e, q⟩ => ⟨j, e, k _ _ q⟩) (fun _ h => h) q.2.h⟩⟩) q) q⟩
  refine wpAny_Compare1 (binT (R := fun x y H2 => ∃ (p dx : Addr) (fs : List (Str × V)) (F2 : Hp) (dy : D), x = .ref p ∧ H2 p = some (.ins C dx fs) ∧ Same F2 H2 ∧ Rep X.K c.g F2 y dy ∧ noTok dy = true ∧ inCls cls dy = true ∧ spG X.K S [.ref p, y] H2 (fun v H' => ∃ k : Bool, v = .bl k ∧ Q (.bl k) H') E0) ha.pe hbb.pe I ?_ fun v u s2 x y H2 I2 rx ry q => ?_) hm
  · refine ⟨F0, ρ, rl, ha.mo _ _ _ (fun x ρ1 q v F1 H1 r1 s1 e1 => ?_) q⟩
    refine ⟨F1, ρ1, r1, hbb.mo _ _ _ (fun y ρ2 q u F2 H2 r2 s2 e2 => ?_) q⟩
    obtain ⟨⟨⟨ns, l, rfl⟩, n1, n2⟩, q⟩ := q
    have e1 := Rep.mono s2 e1
    cases e1 with
    | obj g1 g2 g3 =>
      refine ⟨_, _, _, F2, y, rfl, r2.step.fh _ _ g1, r2.step.fh, e2, n1, n2, c.g, F2, [.obj C ns l, y], r2.step.fh, r2.step.hand, .cons (.obj g1 g2 g3) (.cons e2 .nil), hS _ _ _ _ _ (fun d ⟨j, e, q⟩ => ?_) (fun _ z => z.elim) q.h⟩
      subst e
      intro v F' H' st rp
      cases rp
      exact ⟨j, rfl, q _ F' H' (r2.after st) ((s1.trans s2).trans st.ff) (.bl _)⟩
  · obtain ⟨p, dx, fs, F2, dy, rfl, i1, sm, re, n1, n2, q⟩ := q
    obtain rfl : v = Value.ref p := rx
    obtain ⟨mA, J, _⟩ := ins_get I2.hok i1
    obtain ⟨od, J, _⟩ := J.look
    obtain ⟨m, hF⟩ := I2.fr
    obtain ⟨tb, lk, nf⟩ := second T I2 sm re ry n1 n2
    have run := run_fnSD (E := fun _ => E0) (dvs := []) (ds := []) F hr hb .nil (fun pins H s e s' I h => passL pins σ H s e s' I h) I2 (us := [.ref p, u]) (vs := [.ref p, y]) (.cons rfl (.cons ry .nil)) q
    refine PySem.W.cmp_K (op := .Eq) (tb := tb) hr.units0 hF I2.ok.mod.kin J lk nf h1 h2 (wpAny_mono run (fun w s' ⟨z, H', I', rz, kk, e, qz⟩ => ?_) fun _ _ z => z)
    exact SlX.cmpback rz ⟨z, H', I', rz, by rw [e]; exact qz⟩
theorem pd_neO (T : EqAny X.K cls C) (h0 : PySem.W.findIn X.K (.ref C) "__ne__" = some (some (.builtin "object.__ne__"))) (h1 : PySem.W.findIn X.K (.ref C) "__eq__" = some (some (.ref f))) (h2 : PySem.W.isFn X.K (.ref f) = true) (h3 : PySem.W.mroIn X.K C (.type "object") = some true) (F : FnOk X.prog X.w X.K X.mg X.base (L2.CX X.prog X.w) k f fd ps (spG X.K S)) (hS : MonoSp S) (hr : Room (k + 1) X.A) (hb : Binds X.K fd ps [])
    (ha : PD c X a wa) (hbb : PD c X b wb) (hm : behindInMarks .NotEq b = false := by rfl) : PD c X (.Compare a [.NotEq] [b] pos) (wNeO cls S C wa wb) := by
  refine ⟨⟨fun pins s σ H Q I ⟨F0, ρ, rl, q⟩ => ?_⟩, fun ρ Q Q' k q => ha.mo _ _ _ (fun d ρ1 q => hbb.mo _ _ _ (fun ds ρ2 q => ⟨q.1, ⟨hS _ _ _ _ _ (fun d ⟨j, e, q⟩ => ⟨j, e, k _ _ q⟩) (fun _ h => h) q.2.h⟩⟩) q) q⟩
  refine wpAny_Compare1 (binT (R := fun x y H2 => ∃ (p dx : Addr) (fs : List (Str × V)) (F2 : Hp) (dy : D), x = .ref p ∧ H2 p = some (.ins C dx fs) ∧ Same F2 H2 ∧ Rep X.K c.g F2 y dy ∧ noTok dy = true ∧ inCls cls dy = true ∧ spG X.K S [.ref p, y] H2 (fun v H' => ∃ k : Bool, v = .bl k ∧ Q (.bl (!k)) H') E0) ha.pe hbb.pe I ?_ fun v u s2 x y H2 I2 rx ry q => ?_) hm
  · refine ⟨F0, ρ, rl, ha.mo _ _ _ (fun x ρ1 q v F1 H1 r1 s1 e1 => ?_) q⟩
    refine ⟨F1, ρ1, r1, hbb.mo _ _ _ (fun y ρ2 q u F2 H2 r2 s2 e2 => ?_) q⟩
    obtain ⟨⟨⟨ns, l, rfl⟩, n1, n2⟩, q⟩ := q
    have e1 := Rep.mono s2 e1
    cases e1 with
    | obj g1 g2 g3 =>
      refine ⟨_, _, _, F2, y, rfl, r2.step.fh _ _ g1, r2.step.fh, e2, n1, n2, c.g, F2, [.obj C ns l, y], r2.step.fh, r2.step.hand, .cons (.obj g1 g2 g3) (.cons e2 .nil), hS _ _ _ _ _ (fun d ⟨j, e, q⟩ => ?_) (fun _ z => z.elim) q.h⟩
      subst e
      intro v F' H' st rp
      cases rp
      exact ⟨j, rfl, q _ F' H' (r2.after st) ((s1.trans s2).trans st.ff) (.bl _)⟩
  · obtain ⟨p, dx, fs, F2, dy, rfl, i1, sm, re, n1, n2, q⟩ := q
    obtain rfl : v = Value.ref p := rx
    obtain ⟨mA, J, _⟩ := ins_get I2.hok i1
    obtain ⟨od, J, _⟩ := J.look
    obtain ⟨m, hF⟩ := I2.fr
    obtain ⟨tb, lk, nf⟩ := second T I2 sm re ry n1 n2
    have run := run_in1 F hr hb I2 (us := [.ref p, u]) (vs := [.ref p, y]) (.cons rfl (.cons ry .nil)) q
    refine ne_K (tb := tb) (room_un1 hr) hF I2.ok.mod.kin J lk nf h0 h1 h2 h3 (wpAny_mono run (fun w s' ⟨z, H', I', rz, kk, e, qz⟩ => ?_) fun _ _ z => z)
    subst e
    obtain rfl : w = Value.bool kk := rz
    exact ⟨kk, rfl, .bl (!kk), H', I', rfl, qz⟩
end
end PL
end L2

namespace L2
namespace PL
open PySem PySem.Spec PyProof.Rows
variable [Tabl]
open AutoSeq1 (wpAny_loadPart')
/-! enumerate(t) of a tuple, of a list -/
theorem meets_enumT (l : Addr) (items : Array Value) (n : Nat) (dct : Option Addr) (sl : Array (Option Value)) :
    Meets (Builtin.«enumerate.__new__» ⟨[.type "enumerate", .ref l], []⟩) (fun _ R s => s.heap.get? l = some { cls := .type "tuple", dict := dct, data := .seq items n, slots := sl } ∧
      R (.ok (.ret (.ref (s.heap.push { cls := .type "tuple_iterator", data := .fields #[.ref l, .int 0 0] }).objs.size)))
        { s with heap := (s.heap.push { cls := .type "tuple_iterator", data := .fields #[.ref l, .int 0 0] }).push { cls := .type "enumerate", data := .fields #[.none, .bool false, .ref s.heap.objs.size, rawInt 0, .none, .none] } }) :=
  .of_wp fun prog w A R s h => by
    obtain ⟨hp, g, d, tk, os⟩ := s; obtain ⟨hl, h⟩ := h
    have hsub := sub_enumerate
    have hL : Heap.IsTuple (Shared.heap ⟨hp, g, d, tk, os⟩) l items := ⟨_, hl, rfl, n, rfl⟩
    wp_walk using wpAny_loadPart' hl
    refine wpAny_stack_any fun st => wpAny_pure ?_
    split
    · rename_i c _ _ _ _ _
      cases (c == Value.type "enumerate")
      · wp_walk using wpAny_loadPart' hl, wpAny_pyIter_tuple hL
        exact ⟨_, rfl, h⟩
      · wp_walk using wpAny_loadPart' hl, wpAny_pyIter_tuple hL
        exact ⟨_, rfl, h⟩
    · wp_walk using wpAny_loadPart' hl, wpAny_pyIter_tuple hL
      exact ⟨_, rfl, h⟩
section
variable {prog : Program} {w : World} {A : Around} {E : Value → Shared → Prop} {s : Shared}
theorem call_enumT {l : Addr} {items : Array Value} {Q : Value → Shared → Prop} (hL : s.heap.IsTuple l items)
    (h : ∀ h', IsEnum h' (s.heap.objs.size + 1) s.heap.objs.size 0 .none → h'.IsTupleIter s.heap.objs.size l 0 → h'.objs.size = s.heap.objs.size + 2 →
      (∀ b o, s.heap.get? b = some o → h'.get? b = some o) → Q (.ref (s.heap.objs.size + 1)) { s with heap := h' }) :
    wpAny (model prog w) A (call (.type "enumerate") [.ref l]) Q E s := by
  obtain ⟨⟨c, dct, dt, sl⟩, hl, hc, n, hd⟩ := hL
  replace hc : c = .type "tuple" := hc
  replace hd : dt = .seq items n := hd
  subst hc hd
  refine callType_new F.called_enumerate (by decide) (F.typeCall_enumerate_1 _) (F.newCall_enumerate_1 _) (fun obj => F.args_object_init_2 obj _) F.entry_enumerate_new
    (meets_enumT l items n dct sl) ⟨hl, ?_⟩
  have hz : (s.heap.push { cls := .type "tuple_iterator", data := .fields #[.ref l, .int 0 0] }).objs.size = s.heap.objs.size + 1 := Heap.size_push ..
  show _ ∧ _
  rw [hz]
  have he : IsEnum ((s.heap.push { cls := .type "tuple_iterator", data := .fields #[.ref l, .int 0 0] }).push
      { cls := .type "enumerate", data := .fields #[.none, .bool false, .ref s.heap.objs.size, rawInt 0, .none, .none] }) (s.heap.objs.size + 1) s.heap.objs.size 0 .none := by
    have := Heap.get?_push_size (s.heap.push { cls := .type "tuple_iterator", data := .fields #[.ref l, .int 0 0] })
      (o := { cls := .type "enumerate", data := .fields #[.none, .bool false, .ref s.heap.objs.size, rawInt 0, .none, .none] }) rfl
    rw [hz] at this; exact this
  refine ⟨⟨_, he, rfl⟩, h _ he ⟨_, Heap.get?_push_of_some _ (Heap.get?_push_size _ rfl), rfl, rfl⟩ (by rw [Heap.size_push, hz]) fun b o x => Heap.get?_push_of_some _ (Heap.get?_push_of_some _ x)⟩
end
section
variable {prog : Program} {w : World} {A : Around} {E : Value → Shared → Prop} {s : Shared}
theorem enum_endT {e it l : Addr} {i : Nat} {k : Int} {items : Array Value} {old : Value} {Q : Option Value → Shared → Prop} (hh : A.handled = none) (he : IsEnum s.heap e it k old) (hit : s.heap.IsTupleIter it l i) (hl : s.heap.IsTuple l items) (hx : items[i]? = none)
    (hQ : ∀ h', Heap.ExtBut it s.heap h' → Q none { s with heap := h' }) : wpAny (model prog w) A (pyNext (.ref e)) Q E s := by
  have hT : s.TypeIs (.ref e) "enumerate" := ⟨_, he, rfl⟩
  unfold pyNext
  refine wpAny_bind (wpAny_attempt (wpAny_callSpecial?_slot (name := Str.ofString "__next__") hT F.slot_enumerate_next
    (wpAny_call_entry F.slot_enumerate_next hT F.entry_enumerate_next ?_ (F.args_enumerate_next_1 _))))
  show wpAny _ _ (field (.ref e) 2 >>= _) _ _ _
  refine wpAny_bind (wpAny_field he rfl (x := .ref it) rfl ?_)
  refine wpAny_bind (wpAny_nextOf_tuple_end (A := A.in1) hh hit hl hx fun h' x he' hx' => ?_)
  obtain ⟨o, ho, hc⟩ := hx'
  refine wpAny_bind (wpAny_isInstance (T := "StopIteration") (b := true) ⟨o, ho, hc⟩ isSubtype_stop ?_)
  exact wpAny_pure (hQ _ he')
end
def IteT (K : PySem.W.Frag) (a : Addr) : It :=
  ⟨fun i H => ∃ (xs : List V) (x : V), SqT K H a xs ∧ xs[i]? = some x, fun i H v H' => ∃ T x, v = .ref T ∧ H T = none ∧ H' = upd H T (.tup [.int (i : Nat), x]) ∧ ∀ xs, SqT K H a xs → xs[i]? = some x, fun i H => ∃ xs : List V, SqT K H a xs ∧ xs.length ≤ i⟩
theorem turn_enumT {P : Program} {w : World} {K : PySem.W.Frag} {elts : List Expr} {kk : Nat} {tpos : Pos} (a e it : Addr) :
    Turn P w K (.Tuple elts kk tpos) (IteT K a) [e, it] e (fun i h => (∃ old, IsEnum h e it ((i : Nat) : Int) old) ∧ h.IsTupleIter it a i ∧ e ≠ it ∧ a ≠ it ∧ e ≠ a) where
  mem := by simp
  obj := fun i h st b hb => by
    obtain ⟨⟨old, he⟩, ⟨o, ho, hc, hd⟩, _⟩ := st
    have e' : b = e ∨ b = it := by simpa using hb
    rcases e' with z | z
    · rw [z]; exact ⟨_, he, fun v q => nomatch q⟩
    · rw [z]; exact ⟨o, ho, fun v q => by rw [hd] at q; cases q⟩
  keep := fun i h h' st k => let ⟨⟨old, he⟩, hi, hne⟩ := st; ⟨⟨old, k e (by simp) _ he⟩, (let ⟨o, ho, r⟩ := hi; ⟨o, k it (by simp) o ho, r⟩), hne⟩
  item := by
    intro X hP hw hK hc i pins s σ H E I hf st hg
    subst hP hw hK
    obtain ⟨⟨old, he⟩, hit, hne, hai, hea⟩ := st
    obtain ⟨xs, x, hq, hx⟩ := hg
    obtain ⟨its, rv, p, hz⟩ := I.tuple hq
    obtain ⟨u, hu, ru⟩ := rv.get hx
    have hel : e < s.heap.objs.size := Heap.lt_size he
    have hil : it < s.heap.objs.size := by obtain ⟨_, q, _⟩ := hit; exact Heap.lt_size q
    have hlt : i < its.toArray.size := by
      have := List.getElem?_eq_some_iff.mp hu
      simpa using this.1
    have DT : Draws X.prog X.w X.A.in1 it [it, a] its.toArray.size (fun i v => its.toArray[i]? = some v) (fun i h => h.IsTupleIter it a i ∧ h.IsTuple a its.toArray) := Draws.tuple (A := X.A.in1) (I.ok.hd hc) it a hai its.toArray
    refine wpAny_pyNext_enum_itemD DT he ⟨hit, (show s.heap.IsTuple a its.toArray from p)⟩ hlt hne (by simp [hne, hea]) fun y h' tk hy ho st' hT hsz hk => ?_
    have hy' : y = u := by
      have hy : its.toArray[i]? = some y := hy
      rw [List.getElem?_toArray, hu] at hy
      exact (Option.some.inj hy).symm
    subst hy'
    refine ⟨_, rfl, wpAny_letOwnedTupleGo_enum (s := { s with heap := h', toks := tk + 1 }) ho fun h'' he' sb => ?_⟩
    have hT2 : h''.get? s.heap.objs.size = some { cls := .type "tuple", data := .seq #[.int i tk, y] } := (sb.2 _ (Nat.ne_of_gt hel)).trans hT
    have new : ObjOk X.prog X.w (upd H s.heap.objs.size (.tup [.int (i : Nat), x])) h'' s.heap.objs.size (.tup [.int (i : Nat), x]) :=
      ⟨by show 2 ≤ sizeLine; decide, [.int i tk, y], .cons ⟨_, rfl⟩ (.cons ru .nil), ⟨_, hT2, rfl, _, rfl⟩⟩
    have I1 : Inv X pins σ (upd H s.heap.objs.size (.tup [.int (i : Nat), x])) { s with heap := h'', toks := tk + 1 } :=
      I.turnedNew (ch := [e, it]) (fun b ob hb q => (sb.2 b (fun z => hb (by simp [z]))).trans (hk b ob (fun z => hb (by simp [z])) (fun z => hb (by simp [z])) q)) hf (Nat.le_refl _) new
    refine ⟨.ref s.heap.objs.size, _, I1, rfl, ⟨_, x, rfl, I.hok.fresh (Nat.le_refl _), rfl, fun ys hy => by rw [I.tuple_inj hy hq]; exact hx⟩, ⟨⟨y, ?_⟩, (let ⟨o, q, r⟩ := st'.1; ⟨o, (sb.2 it (Ne.symm hne)).trans q, r⟩), hne, hai, hea⟩, fun b hb => ?_⟩
    · have e1 : ((i + 1 : Nat) : Int) = (i : Int) + 1 := by omega
      rw [e1]; exact he'
    · have hb' : b < s.heap.objs.size := by
        have e' : b = e ∨ b = it := by simpa using hb
        rcases e' with z | z
        · rw [z]; exact hel
        · rw [z]; exact hil
      rw [upd_ne (Nat.ne_of_lt hb')]
      exact (hf b hb).1
  done := by
    intro X hP hw hK hc i pins s σ H E I hf st hg
    subst hP hw hK
    obtain ⟨⟨old, he⟩, hit, hne, hai, hea⟩ := st
    obtain ⟨xs, hq, hx⟩ := hg
    obtain ⟨its, rv, p, hz⟩ := I.tuple hq
    obtain ⟨f0, f1, f2, f3, f4, f5⟩ := hf it (by simp)
    have hl := rv.length
    exact enum_endT (I.ok.hd hc) he hit (show s.heap.IsTuple a its.toArray from p) (by simp; omega) fun h' eb => ⟨rfl, I.turned (t' := s.toks) (fun b o hb q => eb b o hb q) f0 f1 f3 f4 f5⟩
  self := fun A i s Q E st h => let ⟨⟨_, he⟩, _⟩ := st; wpAny_pyIter_enum he h
def iEnumT (K : PySem.W.Frag) (ta : TA) : TI := fun σ H R => ta σ H fun vs H1 => ∃ a xs, vs = [.ref a] ∧ ((SqT K H1 a xs ∧ R (IteT K a) H1) ∨ (SqL K H1 a xs ∧ R (Ite K a) H1))
theorem pi_enumT {X : Cx} {e : Expr} {ta : TA} {p pos tpos : Pos} {elts : List Expr} {kk : Nat} (hg : Gl X "enumerate") (hm : X.mg "enumerate" = none) (ha : PA X [e] ta) (hs : starEach [e] X.env = [(false, eval e X.env)] := by rfl) :
    PI X (.Tuple elts kk tpos) (.Call (.Name "enumerate" p) [e] [] pos) (iEnumT X.K ta) := by
  refine ⟨fun pins s σ H R I h => ?_⟩
  refine Call_ (ld_blt I hg hm boot_enumerate (PyProof.Rows.callWith_type1 (thn (ha.run pos pins s σ H _ I h) fun us s1 ⟨vs, H1, I1, r1, q1⟩ => ?_) hs rfl))
  obtain ⟨a, xs, ex, q⟩ := q1
  subst ex
  cases r1 with
  | cons r rr =>
    cases rr
    cases r
    have fresh : ∀ b, b ∈ [s1.heap.objs.size + 1, s1.heap.objs.size] → FpOk X pins H1 b := fun b hb => by
      have e' : b = s1.heap.objs.size + 1 ∨ b = s1.heap.objs.size := by simpa using hb
      have hle : s1.heap.objs.size ≤ b := by
        rcases e' with z | z
        · rw [z]; exact Nat.le_add_right _ _
        · rw [z]; exact Nat.le_refl _
      exact I1.fpOk hle (I1.hok.fresh hle)
    rcases q with ⟨hq, q⟩ | ⟨hq, q⟩
    · obtain ⟨its, rv, p', hz⟩ := I1.tuple hq
      have lt : a < s1.heap.objs.size := by obtain ⟨o, ho, _⟩ := id p'; exact Heap.lt_size ho
      refine call_enumT (show s1.heap.IsTuple a its.toArray from p') fun h' he hit hsz hk => wpAny_pyIter_enum he ?_
      have I2 : Inv X pins σ H1 { s1 with heap := h' } := I1.kept (t' := s1.toks) hk
      exact ⟨s1.heap.objs.size + 1, [s1.heap.objs.size + 1, s1.heap.objs.size], _, _, H1, rfl, I2, turn_enumT a (s1.heap.objs.size + 1) s1.heap.objs.size, ⟨⟨.none, he⟩, hit, Nat.succ_ne_self _, Nat.ne_of_lt lt, Nat.ne_of_gt (Nat.lt_succ_of_lt lt)⟩, fresh, q⟩
    · obtain ⟨its, rv, p', hz⟩ := I1.list hq
      refine call_enumerate_list p'.isList fun h' he hit hsz hk => wpAny_pyIter_enum he ?_
      have I2 : Inv X pins σ H1 { s1 with heap := h' } := I1.kept (t' := s1.toks) hk
      exact ⟨s1.heap.objs.size + 1, [s1.heap.objs.size + 1, s1.heap.objs.size], _, _, H1, rfl, I2, turn_enum a (s1.heap.objs.size + 1) s1.heap.objs.size, ⟨⟨.none, he⟩, hit, Nat.succ_ne_self _⟩, fresh, q⟩
/-! over data -/
def enumD (l : List D) : List D := l.mapIdx fun i d => .tup [.int (i : Nat), d]
theorem enum_step {K : PySem.W.Frag} {g : G} {F F' H' : Hp} {l : List D} {vs : List V} {i : Nat} {T : Addr} {x : V} {d : D} (r : Reps K g F vs l) (e : (enumD l)[i]? = some d) (s : Same F F') (s' : Same F' H') (hk : HandOk g F' H') (n : H' T = none)
    (h1 : vs[i]? = some x) : ∃ F'', Step g F' H' F'' (upd H' T (.tup [.int (i : Nat), x])) ∧ Rep K g F'' (.ref T) d := by
  obtain ⟨a, ea, ra⟩ := r.get' h1
  unfold enumD at e
  rw [List.getElem?_mapIdx, ea] at e
  cases e
  have nf : F' T = none := by
    cases q : F' T with
    | none => rfl
    | some o => rw [s' _ _ q] at n; cases n
  have sl : Same F' (upd F' T (.tup [.int (i : Nat), x])) := same_laid nf
  exact ⟨_, Step.laid s' hk n, .tup (SqT.of upd_same) (.cons (.int _) (.cons ((ra.mono s).mono sl) .nil))⟩
theorem enum_len (l : List D) : (enumD l).length = l.length := by simp [enumD]
theorem walks_enumL {K : PySem.W.Frag} {g : G} {F : Hp} {a : Addr} {vs : List V} {l : List D} (h : SqL K F a vs) (r : Reps K g F vs l) : Walks K g (Ite K a) F (enumD l) where
  go := fun i F' H' hi s s' => by
    rw [enum_len] at hi
    have hi1 : i < vs.length := by rw [r.length]; omega
    exact ⟨vs, vs[i], s'.seq (s.seq h), List.getElem?_eq_getElem hi1⟩
  stop := fun i F' H' hi0 s s' => by
    have hi := Nat.le_of_eq hi0.symm
    rw [enum_len] at hi
    exact ⟨vs, s'.seq (s.seq h), by rw [r.length]; omega⟩
  yld := fun i F' H' x H'' d e s s' hk y => by
    obtain ⟨T, x, rfl, n, rfl, y1⟩ := y
    exact enum_step r e s s' hk n (y1 vs (s'.seq (s.seq h)))
theorem walks_enumT {K : PySem.W.Frag} {g : G} {F : Hp} {a : Addr} {vs : List V} {l : List D} (h : SqT K F a vs) (r : Reps K g F vs l) : Walks K g (IteT K a) F (enumD l) where
  go := fun i F' H' hi s s' => by
    rw [enum_len] at hi
    have hi1 : i < vs.length := by rw [r.length]; omega
    exact ⟨vs, vs[i], same_tup s' (same_tup s h), List.getElem?_eq_getElem hi1⟩
  stop := fun i F' H' hi0 s s' => by
    have hi := Nat.le_of_eq hi0.symm
    rw [enum_len] at hi
    exact ⟨vs, same_tup s' (same_tup s h), by rw [r.length]; omega⟩
  yld := fun i F' H' x H'' d e s s' hk y => by
    obtain ⟨T, x, rfl, n, rfl, y1⟩ := y
    exact enum_step r e s s' hk n (y1 vs (same_tup s' (same_tup s h)))
def wEnum (wr : DA) : DA := fun ρ Q => wr ρ fun ds ρ1 => match ds with
  | [.lst l] => Q (enumD l) ρ1
  | [.tup l] => Q (enumD l) ρ1
  | _ => False
theorem pdi_enum {X : Cx} {c : C} {a : Expr} {wr : DA} {p pos tpos : Pos} {elts : List Expr} {kk : Nat} (hg : Gl X "enumerate") (hm : X.mg "enumerate" = none) (ha : PDA c X [a] wr) (hs : starEach [a] X.env = [(false, eval a X.env)] := by rfl) :
    PDI c X (.Tuple elts kk tpos) (.Call (.Name "enumerate" p) [a] [] pos) (wEnum wr) := by
  refine ⟨(pi_enumT hg hm ha.pe hs).imp fun σ H R ⟨F, ρ, rl, q⟩ => ⟨F, ρ, rl, ha.mo _ _ _ (fun ds ρ1 q vs F1 H1 r1 s1 e1 => ?_) q⟩, fun ρ Q Q' k q => ha.mo _ _ _ (fun ds ρ1 q => ?_) q⟩
  · split at q
    · cases e1 with
      | cons k1 k2 =>
        cases k2
        obtain ⟨a1, v1, rfl, g1, g2⟩ := k1.seqL
        exact ⟨a1, v1, rfl, .inr ⟨SqL.of (r1.step.fh _ _ g1), q _ F1 H1 r1 s1 (walks_enumL (SqL.of g1) g2)⟩⟩
    · cases e1 with
      | cons k1 k2 =>
        cases k2
        obtain ⟨a1, v1, rfl, g1, g2⟩ := k1.seqT
        exact ⟨a1, v1, rfl, .inl ⟨same_tup r1.step.fh g1, q _ F1 H1 r1 s1 (walks_enumT g1 g2)⟩⟩
    · exact q.elim
  · split at q
    · exact k _ _ q
    · exact k _ _ q
    · exact q.elim
end PL
end L2

namespace L2
namespace PL
open PySem PySem.Spec PyProof.Rows
variable [Tabl]
section
variable {X : Cx} {c : C} {a b e : Expr} {wa wb we : DW} {pos p : Pos} {x : Str} {n : Str}
/-! ### isinstance of the caught exception -/
def wIsX (L : List Addr) (i : Nat) (a : Addr) (x : D) (f : Addr → Bool) : DW := fun ρ Q => match x with
  | .obj Ce _ _ => Ce ∈ L ∧ gt ρ i = .ad a ∧ Q (.bl (f Ce)) ρ
  | _ => False
theorem mo_IsX {L : List Addr} {i : Nat} {a : Addr} {x : D} {f : Addr → Bool} : Mono (wIsX L i a x f) := fun ρ Q Q' k q => by
  cases x <;> first | exact q.elim | exact ⟨q.1, q.2.1, k _ _ q.2.2⟩
theorem pd_isXg {L : List Addr} {f : Addr → Bool} {cv : Value} {v2 : V} {e2 : Expr} {i : Nat} {a Ce dd : Addr} {oe : Obj} {cls : Value} {d : Option Addr} {pn : List (Addr × Obj)} {c' : C} {g : G} {ns : List Str} {xs : List V} {ds : List D} {p0 : Pos} (hi : X.N[i]? = some n) (hv : Vis X.env.scope n) (hz : Zc cls d oe) (hf : ∃ vs, oe.data = .fields vs) (hg : c'.g = g) (hc : cls = .ref Ce) (hd : d = some dd)
    (hx : c'.H0 dd = some (.xd (ns.zip xs))) (nt : Kp g dd) (T : ∀ C ∈ L, ExcC X.K C ∧ PySem.W.kitOne X.K (.ref C) cv = some (f C))
    (h2 : PE (X.suite a ((a, oe) :: pn)) e2 (tC v2)) (hcv : ∀ u, RelV v2 u → u = cv) (hgi : Gl X "isinstance") (hmi : X.mg "isinstance" = none)
    (hdb : (n == ("__debug__" : Str)) = false := by decide) (hcd : (n == ("__classdict__" : Str)) = false := by decide)
    (hs : starEach [.Name n p0, e2] (X.suite a ((a, oe) :: pn)).env = (false, eval (.Name n p0) (X.suite a ((a, oe) :: pn)).env) :: starEach [e2] (X.suite a ((a, oe) :: pn)).env := by rfl) (hs2 : starEach [e2] (X.suite a ((a, oe) :: pn)).env = (false, eval e2 (X.suite a ((a, oe) :: pn)).env) :: starEach [] (X.suite a ((a, oe) :: pn)).env := by rfl) (hpl : (backTo pos (starEach [e2] (X.suite a ((a, oe) :: pn)).env)).any (·.1) = false := by rfl) :
    PD c' (X.suite a ((a, oe) :: pn)) (.Call (.Name "isinstance" p) [.Name n p0, e2] [] pos) (wIsX L i a (.obj Ce ns ds) f) := by
  subst hg hc hd
  by_cases h : Ce ∈ L
  · obtain ⟨t1, t2⟩ := T Ce h
    refine ⟨(pe_callB (X := X.suite a ((a, oe) :: pn)) (call_isX (fs := ns.zip xs) t1 hz hf) hgi hmi (by decide +kernel) (pa_cons (pe_var (X := X.suite a ((a, oe) :: pn)) (i := i) hi hv hdb hcd) (pa_cons h2 pa_nil hs2) hs) (he := hs) (hpl := hpl)).imp fun σ H Q ⟨F, ρ, rl, q⟩ => ?_, mo_IsX⟩
    obtain ⟨_, e1, q⟩ := q
    have sl := rl.slot i
    rw [e1] at sl
    exact ⟨_, join_some sl, v2, cv, _, rfl, rl.step.keep dd _ hx nt, hcv, t2, q _ F H rl (Same.refl _) (.bl _)⟩
  · exact ⟨⟨fun pins s σ H Q I ⟨F, ρ, rl, q⟩ => absurd q.1 h⟩, mo_IsX⟩
/-! ### while -/
def whE (E : DE) (I : Nat → List SD → Prop) (m : Nat) : DE := { nx := fun ρ3 => ∃ m', m' < m ∧ I m' ρ3, rt := E.rt, bk := E.nx, ct := fun ρ3 => ∃ m', m' < m ∧ I m' ρ3 }
def wWhile (wt : DT) (wb : DS) : DS := fun E ρ => ∃ I : Nat → List SD → Prop, (∃ m, I m ρ) ∧ ∀ m ρ1, I m ρ1 → wt ρ1 fun k ρ2 =>
  (k = true → wb (whE E I m) ρ2) ∧ (k = false → E.nx ρ2)
theorem pds_while {t : Expr} {body : List Stmt} {wt : DT} {w : DS} (hp : PassesOwn (model X.prog X.w) X.A X.env X.xe) (ht : PDT c X t wt) (hb : PDB c X body w) : PDS c X (.While t body [] pos) (wWhile wt w) := by
  refine ⟨(ps_while hp ht.pe hb.pe).imp fun E σ H ⟨F, ρ, rl, I, ⟨m, hm⟩, q⟩ => ?_, fun E E' ρ l ⟨I, h0, q⟩ => ⟨I, h0, fun m ρ1 hI => ht.mo _ _ _ (fun k ρ2 q => ⟨fun e => hb.mo (whE E I m) (whE E' I m) _ ⟨fun _ h => h, l.rt, l.nx, fun _ h => h⟩ (q.1 e), fun e => l.nx _ (q.2 e)⟩) (q m ρ1 hI)⟩⟩
  refine ⟨fun m σ H => ∃ F1 ρ1, Rel X.K c F1 σ H ρ1 ∧ Same F F1 ∧ I m ρ1, ⟨m, F, ρ, rl, Same.refl _, hm⟩, fun m σ H ⟨F1, ρ1, r1, s1, hI⟩ => ?_⟩
  refine ⟨F1, ρ1, r1, ht.mo _ _ _ (fun k ρ2 q F2 H2 r2 s2 => ?_) (q m ρ1 hI)⟩
  cases k with
  | true =>
    rw [if_pos rfl]
    refine ⟨fun σ' H' => ∃ F3 ρ3, Rel X.K c F3 σ' H' ρ3 ∧ Same F F3 ∧ ∃ m', m' < m ∧ I m' ρ3, fun σ' H' ⟨F3, ρ3, r3, s3, m', hlt, hI'⟩ => ⟨m', hlt, F3, ρ3, r3, s3, hI'⟩, F2, ρ2, r2, hb.mo (whE (endsOf X.K c F E) I m) _ _ ⟨fun ρ3 h σ' F3 H3 r3 s3 => ?_, fun d h => h, fun ρ3 h σ' F3 H3 r3 s3 => ?_, fun ρ3 h σ' F3 H3 r3 s3 => ?_⟩ (q.1 rfl)⟩
    · exact ⟨F3, ρ3, r3, (s1.trans s2).trans s3, h⟩
    · exact h σ' F3 H3 r3 ((s1.trans s2).trans s3)
    · exact ⟨F3, ρ3, r3, (s1.trans s2).trans s3, h⟩
  | false =>
    rw [if_neg Bool.false_ne_true]
    exact q.2 rfl σ F2 H2 r2 (s1.trans s2)
/-! ### x, y = a, b of names -/
def wPar (i j : Nat) (wa wb : DW) : DS := fun E ρ => wa ρ fun d ρ1 => wb ρ1 fun d2 ρ2 => E.nx (st (st ρ2 i (.d d)) j (.d d2))
theorem pds_par {i j : Nat} {x y : Str} {px py pt : Pos} {kt k2 pt2} (hc : X.calm = true) (hN : X.N.Nodup) (hi : X.N[i]? = some x) (hj : X.N[j]? = some y) (hij : i ≠ j)
    (hx : X.env.scope.names.lookup x = some .local) (hy : X.env.scope.names.lookup y = some .local) (ha : PD c X a wa) (hb : PD c X b wb)
    (hw : swappedStores [.Tuple [.Name x px, .Name y py] kt pt] (.Tuple [a, b] k2 pt2) X.env = pure (some [x, y]) := by rfl)
    (hs : swapsWithSole [.Tuple [.Name x px, .Name y py] kt pt] (.Tuple [a, b] k2 pt2) pos.line X.env = pure false := by rfl) (hs1 : starEach [a, b] X.env = (false, eval a X.env) :: starEach [b] X.env := by rfl) (hs2 : starEach [b] X.env = (false, eval b X.env) :: starEach [] X.env := by rfl) :
    PDS c X (.Assign [.Tuple [.Name x px, .Name y py] kt pt] (.Tuple [a, b] k2 pt2) pos) (wPar i j wa wb) := by
  refine ⟨(ps_par hc hN hi hj hij hx hy (pa_cons ha.pe (pa_cons hb.pe pa_nil hs2) hs1) hw hs).imp fun E σ H ⟨F, ρ, rl, q⟩ => ⟨F, ρ, rl, ha.mo _ _ _ (fun d ρ1 q v F1 H1 r1 s1 e1 => ⟨F1, ρ1, r1, hb.mo _ _ _ (fun d2 ρ2 q u F2 H2 r2 s2 e2 => ?_) q⟩) q⟩, fun E E' ρ l q => ha.mo _ _ _ (fun d ρ1 q => hb.mo _ _ _ (fun d2 ρ2 q => l.nx _ q) q) q⟩
  exact ⟨v, u, rfl, q _ F2 H2 ((r2.setd (e1.mono s2)).setd e2) (s1.trans s2)⟩
/-! ### x[i], .. = ..: a cell of an owned list as a target -/
def gSb (i : Nat) (wi : DW) : DG := fun d ρ Q => match gt ρ i with
  | .ol _ => wi ρ fun y ρ2 => match gt ρ2 i, y with
    | .ol l, .int k => match ixN l.length k with
      | some j => Q (st ρ2 i (.ol (l.set j d)))
      | none => False
    | _, _ => False
  | _ => False
theorem pdg_sub {i : Nat} {x : Str} {px ps : Pos} {ix : Expr} {wi : DW} (h : PE X (.Name x px) (tVar i)) (hi : PD c X ix wi)
    (ha : ∀ v, assign (.Subscript (.Name x px) ix ps) X.env v = (do
      let ov ← holding [v] (eval (.Name x px) X.env)
      let iv ← holding [v, ov] (eval ix X.env)
      standAt ps
      holding [v, ov, iv] (setItem ov iv v)
      release [v, ov, iv] []) := by intro _; rfl) : PDG c X (.Subscript (.Name x px) ix ps) [] (gSb i wi) := by
  refine ⟨(pg_sub h hi.pe set_list ha).imp fun v σ H Q ⟨F, ρ, d, rl, r, q⟩ => ?_, fun d ρ Q Q' l q => ?_⟩
  · unfold gSb at q
    split at q
    · rename_i l0 e0
      obtain ⟨p, o0, e2, _⟩ := rl.owns (i := i) (by rw [e0]; rfl)
      refine ⟨_, join_some e2, F, ρ, rl, hi.mo _ _ _ (fun y ρ2 q u F2 H2 r2 s2 e3 => ?_) q⟩
      split at q
      · rename_i l k e4
        have o2 := r2.owns (i := i) (by rw [e4]; rfl)
        rw [e4] at o2
        obtain ⟨p2, o, e5, h6, _, _, _, vs, rfl, h8⟩ := o2
        rw [e2] at e5
        cases e5
        cases e3
        split at q
        · rename_i j e9
          refine ⟨p, vs, k, j, rfl, rfl, h6, by rw [h8.length]; exact e9, ?_⟩
          exact q σ F2 _ (r2.write (by rw [e4]; rfl) e2 rfl ⟨_, rfl, h8.set (r.mono s2) j⟩) s2 fun vs _ => rfl
        · exact q.elim
      · exact q.elim
    · exact q.elim
  · unfold gSb at q ⊢
    split
    · rename_i e0
      rw [e0] at q
      refine hi.mo _ _ _ (fun y ρ2 q => ?_) q
      split
      · rename_i e1
        rw [e1] at q
        split
        · rename_i e2
          simp only [e2] at q
          exact l _ q
        · rename_i e2
          simp only [e2] at q
      · rename_i e1
        split at q
        · exact e1 _ _ (by assumption) rfl
        · exact q
    · rename_i e0
      split at q
      · exact e0 _ (by assumption)
      · exact q
/-! ### a <= b < c -/
theorem pd_lelt {cc : Expr} {wc : DW} (ha : PD c X a wa) (hb : PD c X b wb) (hc : PD c X cc wc) (hm : lastMarks [.LtE, .Lt] [b, cc] = false := by rfl) : PD c X (.Compare a [.LtE, .Lt] [b, cc] pos) (wChain fLe fLt wa wb wc) := pd_chain op_le op_lt br_le br_lt ha hb hc hm
theorem pdt_lelt {cc : Expr} {wc : DW} (ha : PD c X a wa) (hb : PD c X b wb) (hc : PD c X cc wc) (hm : lastMarks [.LtE, .Lt] [b, cc] = false := by rfl) : PDT c X (.Compare a [.LtE, .Lt] [b, cc] pos) (wTst (wChain fLe fLt wa wb wc)) := pdt_chain op_le op_lt br_le br_lt ha hb hc hm
/-! ### x in l, flat things -/
def flatD : D → Bool
  | .non => true
  | .bl _ => true
  | .int _ => true
  | .str _ => true
  | _ => false
def vOf : D → V
  | .bl b => .bl b
  | .int i => .int i
  | .str s => .str s
  | _ => .non
theorem Rep.flat {K : PySem.W.Frag} {t : G} {F : Hp} {v : V} {d : D} (h : Rep K t F v d) (f : flatD d = true) : v = vOf d ∧ flatV v = true := by
  cases h <;> first | exact ⟨rfl, rfl⟩ | cases f
theorem Reps.flat {K : PySem.W.Frag} {t : G} {F : Hp} : ∀ {vs : List V} {ds : List D}, Reps K t F vs ds → ds.all flatD = true → vs = ds.map vOf ∧ vs.all flatV = true
  | _, _, .nil, _ => ⟨rfl, rfl⟩
  | _, _, .cons h r, f => by
    simp only [List.all_cons, Bool.and_eq_true] at f
    obtain ⟨e1, e2⟩ := h.flat f.1
    obtain ⟨e3, e4⟩ := Reps.flat r f.2
    exact ⟨by rw [e1, e3]; rfl, by simp [e2, e4]⟩
def inD (x : D) (l : List D) : Bool := l.any fun y => eqV (vOf y) (vOf x)
def fInN (neg : Bool) : D → D → R1 := fun x y => match y with
  | .tup l => .gd (flatD x = true ∧ l.all flatD = true) (.bl (if neg then !inD x l else inD x l))
  | .lst l => .gd (flatD x = true ∧ l.all flatD = true) (.bl (if neg then !inD x l else inD x l))
  | _ => .no
theorem inV_D {x : D} {l : List D} {v : V} {vs : List V} (e1 : v = vOf x) (e2 : vs = l.map vOf) : inV v vs = inD x l := by
  subst e1 e2
  unfold inV inD
  rw [List.any_map]
  rfl
theorem br_in {neg : Bool} : BrO c X.K (rIn X.K neg) (fInN neg) := by
  intro F σ H ρ x y a b Q rl r1 r2 q
  cases b <;> first | exact (show False from q).elim | skip
  · obtain ⟨⟨f1, f2⟩, q⟩ := q
    obtain ⟨p, vs, rfl, k1, k2⟩ := r2.seqT
    obtain ⟨g1, g2⟩ := r1.flat f1
    obtain ⟨g3, g4⟩ := k2.flat f2
    exact ⟨p, vs, rfl, .inr (same_tup rl.step.fh k1), g2, g4, by rw [inV_D g1 g3]; exact q _ F H rl (Same.refl _) (.bl _)⟩
  · obtain ⟨⟨f1, f2⟩, q⟩ := q
    obtain ⟨p, vs, rfl, k1, k2⟩ := r2.seqL
    obtain ⟨g1, g2⟩ := r1.flat f1
    obtain ⟨g3, g4⟩ := k2.flat f2
    exact ⟨p, vs, rfl, .inl (SqL.of (rl.step.fh _ _ k1)), g2, g4, by rw [inV_D g1 g3]; exact q _ F H rl (Same.refl _) (.bl _)⟩
theorem pd_in (ha : PD c X a wa) (hb : PD c X b wb) (hm : behindInMarks .In b = false := by rfl) : PD c X (.Compare a [.In] [b] pos) (wOp (fInN false) wa wb) := pd_cmp op_in_seq br_in ha hb hm
theorem pd_notin (ha : PD c X a wa) (hb : PD c X b wb) (hm : behindInMarks .NotIn b = false := by rfl) : PD c X (.Compare a [.NotIn] [b] pos) (wOp (fInN true) wa wb) := pd_cmp op_notIn_seq br_in ha hb hm
theorem pdt_in (ha : PD c X a wa) (hb : PD c X b wb) (hm : behindInMarks .In b = false := by rfl) : PDT c X (.Compare a [.In] [b] pos) (wTst (wOp (fInN false) wa wb)) := pdt_cmp op_in_seq br_in ha hb hm
theorem pdt_notin (ha : PD c X a wa) (hb : PD c X b wb) (hm : behindInMarks .NotIn b = false := by rfl) : PDT c X (.Compare a [.NotIn] [b] pos) (wTst (wOp (fInN true) wa wb)) := pdt_cmp op_notIn_seq br_in ha hb hm
/-- .. the list a name that stays owned -/
def tNInV (neg : Bool) (i : Nat) (wa : DW) : DW := fun ρ Q => wa ρ fun x ρ1 => match lstOf (gt ρ1 i) with
  | some l => (fInN neg x l).run fun d => Q d ρ1
  | none => False
theorem mo_NInV {neg : Bool} {i : Nat} (ha : Mono wa) : Mono (tNInV neg i wa) := fun ρ Q Q' k q => ha _ _ _ (fun x ρ1 q => by
  cases e : lstOf (gt ρ1 i) with
  | some l =>
    rw [e] at q
    exact R1.mo (fun d => k d ρ1) q
  | none =>
    rw [e] at q
    exact q.elim) q
theorem inV_br {neg : Bool} {i : Nat} (ma : Mono wa) (σ : St) (H : Hp) (Q : VK) (q : tOf X.K c (tNInV neg i wa) σ H Q) : tOp (rIn X.K neg) (tOf X.K c wa) (tVar i) σ H Q := by
  obtain ⟨F, ρ, rl, q⟩ := q
  refine ⟨F, ρ, rl, ma _ _ _ (fun x ρ1 q v F1 H1 r1 s1 e1 => ?_) q⟩
  split at q
  · rename_i l e
    obtain ⟨u, e2, k⟩ := lst_at r1 e
    refine ⟨u, join_some e2, ?_⟩
    rcases k with k | ⟨l', p, vs, rfl, rfl, h1, k⟩
    · exact br_in F1 σ H1 ρ1 v u x l Q r1 e1 k (R1.mo (fun d q w F3 H3 r3 s3 e3 => q w F3 H3 r3 (s1.trans s3) e3) q)
    · obtain ⟨⟨f1, f2⟩, q⟩ := q
      obtain ⟨g1, g2⟩ := e1.flat f1
      obtain ⟨g3, g4⟩ := k.flat f2
      exact ⟨p, vs, rfl, .inl (SqL.of h1), g2, g4, by rw [inV_D g1 g3]; exact q _ F1 H1 r1 s1 (.bl _)⟩
  · exact q.elim
theorem pdt_notinV {y : Str} {py : Pos} (i : Nat) (ha : PD c X a wa) (h : PE X (.Name y py) (tVar i)) (hm : behindInMarks .NotIn (.Name y py) = false := by rfl) : PDT c X (.Compare a [.NotIn] [.Name y py] pos) (wTst (tNInV true i wa)) := by
  refine ⟨(pt_cmpR op_notIn_seq ha.pe h hm).imp fun σ H Q q => ?_, mo_Tst (mo_NInV ha.mo)⟩
  exact inV_br ha.mo σ H _ (tst_br (mo_NInV ha.mo) σ H Q q)
/-! ### a value's truth -/
def wTru (wa : DW) : DT := fun ρ Q => wa ρ fun d ρ1 => match d with
  | .non => Q false ρ1
  | .bl k => Q k ρ1
  | .int i => Q (i != 0) ρ1
  | .lst l => Q (!l.isEmpty) ρ1
  | .tup l => Q (!l.isEmpty) ρ1
  | _ => False
theorem pdt_tru (h : PD c X e we) (he : ∀ whole, isTrue e X.env whole = (do let v ← whole; standAt e.pos; holding [v] (truthy v)) := by intro _; rfl) : PDT c X e (wTru we) := by
  refine ⟨(pt_truth h.pe he).imp fun σ H Q ⟨F, ρ, rl, q⟩ => ⟨F, ρ, rl, h.mo _ _ _ (fun d ρ1 q v F1 H1 r1 s1 e1 => ?_) q⟩, fun ρ Q Q' k q => h.mo _ _ _ (fun d ρ1 q => by cases d <;> first | exact k _ _ q | exact q) q⟩
  have em : ∀ {vs : List V} {l : List D}, Reps X.K c.g F1 vs l → vs.isEmpty = l.isEmpty := fun r => by cases r <;> rfl
  cases d <;> first | exact (show False from q).elim | skip
  · cases e1; exact ⟨_, rfl, q F1 H1 r1 s1⟩
  · cases e1; exact ⟨_, rfl, q F1 H1 r1 s1⟩
  · cases e1; exact ⟨_, rfl, q F1 H1 r1 s1⟩
  · obtain ⟨p, vs, rfl, k1, k2⟩ := e1.seqT
    exact ⟨_, .inr (.inl ⟨vs, same_tup r1.step.fh k1, rfl⟩), by rw [em k2]; exact q F1 H1 r1 s1⟩
  · obtain ⟨p, vs, rfl, k1, k2⟩ := e1.seqL
    exact ⟨_, .inl ⟨vs, SqL.of (r1.step.fh _ _ k1), rfl⟩, by rw [em k2]; exact q F1 H1 r1 s1⟩
/-! ### sorted(ints) -/
def srtI (ns : List Int) : List Int := ns.mergeSort fun a b => decide (a ≤ b)
theorem srt_uniq {l m : List Int} (p : l.Perm m) (h : l.Pairwise (· ≤ ·)) (h' : m.Pairwise (· ≤ ·)) : l = m := p.eq_of_pairwise (le := (· ≤ ·)) (fun a b _ _ h1 h2 => Int.le_antisymm h1 h2) h h'
theorem srtI_perm (ns : List Int) : (srtI ns).Perm ns := List.mergeSort_perm _ _
theorem srtI_pw (ns : List Int) : (srtI ns).Pairwise (· ≤ ·) := by
  have := List.pairwise_mergeSort (le := fun a b : Int => decide (a ≤ b)) (fun a b c h1 h2 => by simp at *; omega) (fun a b => by simp; omega) ns
  exact this.imp fun h => by simpa using h
def fSorted : List D → R1
  | [.lst l] => match intsD l with
    | some ns => .ok (.lst ((srtI ns).map .int))
    | none => .no
  | _ => .no
theorem br_sorted : BrC c X.K (rSortedI X.K) fSorted := by
  intro F σ H ρ vs ds Q rl r q
  unfold fSorted at q
  split at q
  · split at q
    · rename_i ns e
      cases r with
      | cons r1 r2 =>
        cases r2
        obtain ⟨p, ws, rfl, k1, k2⟩ := r1.seqL
        have z := ints_reps (X := X) k2 e
        subst z
        refine ⟨p, ns, rfl, SqL.of (rl.step.fh _ _ k1), fun ms p2 h1 h2 n => ?_⟩
        have em : ms = srtI ns := srt_uniq (h1.trans (srtI_perm ns).symm) h2 (srtI_pw ns)
        subst em
        exact new_lst rl (reps_ints _) q n
    · exact (show False from q).elim
  · exact (show False from q).elim
variable {es : List Expr} {wr : DA}
theorem pd_B_sorted (hg : Gl X "sorted") (hm : X.mg "sorted" = none) (ha : PDA c X (e :: es) wr) (he : starEach (e :: es) X.env = (false, eval e X.env) :: starEach es X.env := by rfl) (hpl : (backTo pos (starEach es X.env)).any (·.1) = false := by rfl) : PD c X (.Call (.Name "sorted" p) (e :: es) [] pos) (wCal fSorted wr) :=
  pd_calB cr_sortedI br_sorted hg hm (by decide +kernel) ha (he := he) (hpl := hpl)
end
end PL
end L2

namespace L2
namespace PL
open PySem PySem.Spec PyProof.Rows
variable [Tabl]
/-! str of an int, repr of an own instance -/
def fStrI : List D → R1
  | [.int i] => .gd (i.natAbs.log2 < 1920) (.str (toString i))
  | _ => .no
section
variable {X : Cx} {c : C} {e : Expr} {es : List Expr} {wr : DA} {pos p : Pos}
theorem br_strI : BrC c X.K (fun xs H Q => ∃ i, xs = [.int i] ∧ i.natAbs.log2 < 1920 ∧ Q (.str (toString i)) H) fStrI := by
  intro F σ H ρ vs ds Q rl r q
  unfold fStrI at q
  split at q
  · cases r with
    | cons r1 r2 => cases r2; cases r1; exact ⟨_, rfl, q.1, q.2 _ F H rl (Same.refl _) (.str _)⟩
  · exact (show False from q).elim
theorem pd_T_str (hg : Gl X "str") (hm : X.mg "str" = none) (ha : PDA c X (e :: es) wr) (he : starEach (e :: es) X.env = (false, eval e X.env) :: starEach es X.env := by rfl) (hpl : (backTo pos (starEach es X.env)).any (·.1) = false := by rfl) : PD c X (.Call (.Name "str" p) (e :: es) [] pos) (wCal fStrI wr) :=
  pd_calT call_str_int br_strI hg hm (by decide +kernel) ha (he := he) (hpl := hpl)
def rReprO (K : PySem.W.Frag) (C : Addr) (S : Spec) : List V → Hp → VK → Prop := fun vs H Q => ∃ (p dx : Addr) (fs : List (Str × V)), vs = [.ref p] ∧ H p = some (.ins C dx fs) ∧ spG K S vs H (fun v H' => ∃ n : Str, v = .str n ∧ Q (.str n) H') E0
theorem cr_reprO {C f : Addr} {fd : FuncData} {ps : List Str} {S : Spec} {k : Nat} (h1 : PySem.W.findIn X.K (.ref C) "__repr__" = some (some (.ref f))) (h2 : PySem.W.isFn X.K (.ref f) = true) (hb : Binds X.K fd ps []) (F : FnOk X.prog X.w X.K X.mg X.base (L2.CX X.prog X.w) k f fd ps (spG X.K S)) (hr : Room (k + 1) X.A) : CallR X (.builtin "repr") (rReprO X.K C S) := by
  intro pins s σ H vs us Q I r h
  obtain ⟨p, dx, fs, rfl, hp, q⟩ := h
  rw [Vals.ref1 r]
  obtain ⟨mA, J, _⟩ := ins_get I.hok hp
  obtain ⟨od, J, _⟩ := J.look
  obtain ⟨m, hF⟩ := I.fr
  refine PySem.W.repr_K (by have := hr.un; show X.A.units + 1 < cLine; omega) hF I.ok.mod.kin J h1 h2 (wpAny_mono (run_in1 F hr hb I (us := [.ref p]) (vs := [.ref p]) (.cons rfl .nil) q) (fun w s' h => ?_) fun _ _ z => z)
  obtain ⟨z, H', I', rz, n, rfl, qz⟩ := h
  obtain ⟨t, rfl⟩ := (show ∃ t, w = Value.str n t from rz)
  exact ⟨.str n, H', I', ⟨_, rfl⟩, qz⟩
def wReprO (S : Spec) (C : Addr) (wr : DA) : DW := fun ρ Q => wr ρ fun ds ρ1 => (∃ ns l, ds = [.obj C ns l]) ∧ Call S ds (fun d => ∃ n : Str, d = .str n ∧ Q (.str n) ρ1) fun _ => False
theorem pd_reprO {C f : Addr} {fd : FuncData} {ps : List Str} {S : Spec} {k : Nat} (h1 : PySem.W.findIn X.K (.ref C) "__repr__" = some (some (.ref f))) (h2 : PySem.W.isFn X.K (.ref f) = true) (hb : Binds X.K fd ps []) (F : FnOk X.prog X.w X.K X.mg X.base (L2.CX X.prog X.w) k f fd ps (spG X.K S)) (hS : MonoSp S) (hr : Room (k + 1) X.A)
    (hg : Gl X "repr") (hm : X.mg "repr" = none) (ha : PDA c X (e :: es) wr) (he : starEach (e :: es) X.env = (false, eval e X.env) :: starEach es X.env := by rfl) (hpl : (backTo pos (starEach es X.env)).any (·.1) = false := by rfl) : PD c X (.Call (.Name "repr" p) (e :: es) [] pos) (wReprO S C wr) := by
  refine ⟨(pe_callB (cr_reprO (S := S) h1 h2 hb F hr) hg hm (by decide +kernel) ha.pe (by decide) (by decide) he hpl).imp fun σ H Q ⟨F, ρ, rl, q⟩ => ⟨F, ρ, rl, ha.mo _ _ _ (fun ds ρ1 q vs F1 H1 r1 s1 e1 => ?_) q⟩, fun ρ Q Q' k q => ha.mo _ _ _ (fun ds ρ1 ⟨q1, q2⟩ => ⟨q1, ⟨hS _ _ _ _ _ (fun d ⟨n, a, q⟩ => ⟨n, a, k _ _ q⟩) (fun _ z => z) q2.h⟩⟩) q⟩
  obtain ⟨⟨ns, l, rfl⟩, q⟩ := q
  cases e1 with
  | cons r1' r2 =>
    cases r2
    cases r1' with
    | obj g1 g2 g3 =>
      refine ⟨_, _, _, rfl, r1.step.fh _ _ g1, c.g, F1, [.obj _ ns l], r1.step.fh, r1.step.hand, .cons (.obj g1 g2 g3) .nil, hS _ _ _ _ _ (fun d ⟨n, a, q⟩ => ?_) (fun _ z => z.elim) q.h⟩
      subst a
      intro v F' H' st rp
      cases rp
      exact ⟨n, rfl, q _ F' H' (r1.after st) (s1.trans st.ff) (.str n)⟩
end
/-! f'..' -/
def wFmt (we : DW) : DW := fun ρ Q => we ρ fun d ρ1 => (∃ y : Str, d = .str y ∧ y.length ≤ 16777216 ∧ Q (.str y) ρ1) ∨ (∃ i : Int, d = .int i ∧ i.natAbs.log2 < 1920 ∧ Q (.str (toString i)) ρ1)
def wJs : List DW → Str → List SD → (Str → List SD → Prop) → Prop
  | [], acc, ρ, Q => Q acc ρ
  | w :: ws, acc, ρ, Q => w ρ fun d ρ1 => ∃ y : Str, d = .str y ∧ (acc ++ y).length ≤ 16777216 ∧ wJs ws (acc ++ y) ρ1 Q
def wJoin (ws : List DW) : DW := fun ρ Q => wJs ws Str.empty ρ fun out ρ1 => Q (.str out) ρ1
section
variable {X : Cx} {c : C} {e : Expr} {we : DW} {pos : Pos}
theorem pd_fmt (he : PD c X e we) : PD c X (.FormattedValue e (-1) none pos) (wFmt we) := by
  refine ⟨(pe_fmt he.pe).imp fun σ H Q ⟨F, ρ, rl, q⟩ => ⟨F, ρ, rl, he.mo _ _ _ (fun d ρ1 q v F1 H1 r1 s1 e1 => ?_) q⟩, fun ρ Q Q' k q => he.mo _ _ _ (fun d ρ1 q => q.imp (fun ⟨y, a, b, q⟩ => ⟨y, a, b, k _ _ q⟩) (fun ⟨y, a, b, q⟩ => ⟨y, a, b, k _ _ q⟩)) q⟩
  rcases q with ⟨y, rfl, hz, q⟩ | ⟨i, rfl, hz, q⟩
  · cases e1
    exact .inl ⟨y, rfl, by rw [sizeLine16]; exact hz, q _ F1 H1 r1 s1 (.str _)⟩
  · cases e1
    exact .inr ⟨i, rfl, hz, q _ F1 H1 r1 s1 (.str _)⟩
inductive PDJ (c : C) (X : Cx) : List Expr → List DW → Prop where
  | nil : PDJ c X [] []
  | cons {e : Expr} {w : DW} {es : List Expr} {ws : List DW} (h : PD c X e w) (r : PDJ c X es ws) : PDJ c X (e :: es) (w :: ws)
theorem PDJ.pj {es : List Expr} {ws : List DW} (h : PDJ c X es ws) : PJ X es (ws.map (tOf X.K c)) := by
  induction h with
  | nil => exact .nil
  | cons h r ih => exact .cons h.pe ih
theorem PDJ.mo {es : List Expr} {ws : List DW} (h : PDJ c X es ws) : ∀ (acc : Str) (ρ : List SD) (Q Q' : Str → List SD → Prop), (∀ o ρ', Q o ρ' → Q' o ρ') → wJs ws acc ρ Q → wJs ws acc ρ Q' := by
  induction h with
  | nil => exact fun acc ρ Q Q' k q => k _ _ q
  | cons h r ih => exact fun acc ρ Q Q' k q => h.mo _ _ _ (fun d ρ1 ⟨y, a, b, q⟩ => ⟨y, a, b, ih _ _ _ _ k q⟩) q
theorem PDJ.read {es : List Expr} {ws : List DW} (h : PDJ c X es ws) : ∀ (acc : Str) (σ : St) (F H : Hp) (ρ : List SD) (Q : Str → Hp → Prop), Rel X.K c F σ H ρ → wJs ws acc ρ (fun out ρ' => ∀ F' H', Rel X.K c F' σ H' ρ' → Same F F' → Q out H') → tJs (ws.map (tOf X.K c)) acc σ H Q := by
  induction h with
  | nil => exact fun acc σ F H ρ Q rl q => q F H rl (Same.refl _)
  | @cons e w es ws h r ih =>
    intro acc σ F H ρ Q rl q
    refine ⟨F, ρ, rl, h.mo _ _ _ (fun d ρ1 q v F1 H1 r1 s1 e1 => ?_) q⟩
    obtain ⟨y, rfl, hy, q⟩ := q
    refine ⟨y, e1.str_eq, by rw [sizeLine16]; exact hy, ih _ _ _ _ _ _ r1 (r.mo _ _ _ _ (fun o ρ' q F' H' r' s' => q F' H' r' (s1.trans s')) q)⟩
theorem pd_join {v1 v2 : Expr} {rest : List Expr} {ws : List DW} (h : PDJ c X (v1 :: v2 :: rest) ws) : PD c X (.JoinedStr (v1 :: v2 :: rest) pos) (wJoin ws) := by
  refine ⟨(pe_joined h.pj).imp fun σ H Q ⟨F, ρ, rl, q⟩ => h.read _ _ _ _ _ _ rl (h.mo _ _ _ _ (fun o ρ' q F' H' r' s' => q _ F' H' r' s' (.str _)) q), fun ρ Q Q' k q => h.mo _ _ _ _ (fun o ρ' q => k _ _ q) q⟩
end
end PL
end L2

namespace L2
namespace PL
open PySem PySem.Spec PyProof.Rows
variable [Tabl]
/-! a fresh list, to be changed later: [..] * n, list(x), x + y -/
def tOfO (K : PySem.W.Frag) (c : C) (w : DA) : TE := fun σ H Q => ∃ F ρ, Rel K c F σ H ρ ∧ w ρ fun ds ρ' => ∀ p vs F' H', Rel K c F' σ H' ρ' → Same F F' → H' p = none → Reps K c.g F' vs ds → Q (.ref p) (upd H' p (.lst vs))
structure PDO (c : C) (X : Cx) (e : Expr) (w : DA) : Prop where
  pe : PE X e (tOfO X.K c w)
  mo : Mono w
def wSetN (i : Nat) (w : DA) : DS := fun E ρ => w ρ fun ds ρ1 => E.nx (st ρ1 i (.ol ds))
section
variable {X : Cx} {c : C} {a b e : Expr} {es : List Expr} {wa wb : DW} {wr : DA} {pos p : Pos}
theorem pds_setN {i : Nat} {x : Str} {pos' : Pos} {w : DA} (hN : X.N.Nodup) (hi : X.N[i]? = some x) (hx : Loc X.env.scope x) (h : PDO c X e w) (hs : swapsWith e (some (.Name x pos')) pos.line X.env = pure false := by rfl) (hf : X.fn x = true ∨ X.env.scope.names.lookup x = some .local := by first | exact .inl rfl | exact .inr rfl | assumption) :
    PDS c X (.Assign [.Name x pos'] e pos) (wSetN i w) := by
  refine ⟨(ps_set hN hi hx h.pe hs hf).imp fun E σ H ⟨F, ρ, rl, q⟩ => ⟨F, ρ, rl, h.mo _ _ _ (fun ds ρ1 q p vs F1 H1 r1 s1 n e1 => ?_) q⟩, fun E E' ρ l q => h.mo _ _ _ (fun d ρ1 q => l.nx _ q) q⟩
  exact q _ F1 _ (r1.seto n e1) s1
def wMulO (wa wb : DW) : DA := fun ρ Q => wa ρ fun x ρ1 => wb ρ1 fun y ρ2 => match x, y with
  | .lst l, .int k => (0 ≤ k ∧ k < 2 ^ 60 ∧ l.length * k.toNat ≤ 16777216) ∧ Q (List.replicate k.toNat l).flatten ρ2
  | _, _ => False
theorem pdo_mul (ha : PD c X a wa) (hb : PD c X b wb) : PDO c X (.BinOp a .Mult b pos) (wMulO wa wb) := by
  refine ⟨(pe_op op_rep ha.pe hb.pe).imp fun σ H Q ⟨F, ρ, rl, q⟩ => ⟨F, ρ, rl, ha.mo _ _ _ (fun x ρ1 q v F1 H1 r1 s1 e1 => ⟨F1, ρ1, r1, hb.mo _ _ _ (fun y ρ2 q u F2 H2 r2 s2 e2 => ?_) q⟩) q⟩, fun ρ Q Q' k q => ha.mo _ _ _ (fun x ρ1 q => hb.mo _ _ _ (fun y ρ2 q => ?_) q) q⟩
  · have e1 := e1.mono s2
    cases x <;> first | exact (show False from q).elim | skip
    cases y <;> first | exact (show False from q).elim | skip
    obtain ⟨⟨h0, h1, h2⟩, q⟩ := q
    obtain ⟨p, vs, rfl, k1, k2⟩ := e1.seqL
    have n := k2.length
    cases e2
    exact ⟨p, _, vs, rfl, rfl, r2.step.fh _ _ k1, by omega, by omega, by rw [sizeLine16, n]; exact h2, fun l nl => q l _ F2 H2 r2 (s1.trans s2) nl (flat_reps k2 _)⟩
  · cases x <;> first | exact (show False from q).elim | skip
    cases y <;> first | exact (show False from q).elim | skip
    exact ⟨q.1, k _ _ q.2⟩
def wLisO (wr : DA) : DA := fun ρ Q => wr ρ fun ds ρ1 => match ds with
  | [.lst l] => Q l ρ1
  | [.tup l] => Q l ρ1
  | _ => False
theorem mo_LisO (h : Mono wr) : Mono (wLisO wr) := fun ρ Q Q' k q => h _ _ _ (fun ds ρ1 q => by
  match ds, q with
  | [.lst l], q => exact k _ _ q
  | [.tup l], q => exact k _ _ q) q
theorem pdo_list (hg : Gl X "list") (hm : X.mg "list" = none) (ha : PDA c X (e :: es) wr) (he : starEach (e :: es) X.env = (false, eval e X.env) :: starEach es X.env := by rfl) (hpl : (backTo pos (starEach es X.env)).any (·.1) = false := by rfl) : PDO c X (.Call (.Name "list" p) (e :: es) [] pos) (wLisO wr) := by
  refine ⟨(pe_callTy call_list_of hg hm (by decide +kernel) ha.pe (by decide) (by decide) he hpl).imp fun σ H Q ⟨F, ρ, rl, q⟩ => ⟨F, ρ, rl, ha.mo _ _ _ (fun ds ρ1 q vs F1 H1 r1 s1 e1 => ?_) q⟩, mo_LisO ha.mo⟩
  match ds, q, e1 with
  | [.lst l], q, .cons h .nil =>
    obtain ⟨p, ws, rfl, k1, k2⟩ := h.seqL
    exact ⟨p, ws, rfl, .inl (SqL.of (r1.step.fh _ _ k1)), fun l n => q l _ F1 H1 r1 s1 n k2⟩
  | [.tup l], q, .cons h .nil =>
    obtain ⟨p, ws, rfl, k1, k2⟩ := h.seqT
    exact ⟨p, ws, rfl, .inr (same_tup r1.step.fh k1), fun l n => q l _ F1 H1 r1 s1 n k2⟩
def wCatO (wa wb : DW) : DA := fun ρ Q => wa ρ fun x ρ1 => wb ρ1 fun y ρ2 => match x, y with
  | .lst l, .lst m => l.length + m.length ≤ 16777216 ∧ Q (l ++ m) ρ2
  | _, _ => False
theorem pdo_add (ha : PD c X a wa) (hb : PD c X b wb) : PDO c X (.BinOp a .Add b pos) (wCatO wa wb) := by
  refine ⟨(pe_op op_cat ha.pe hb.pe).imp fun σ H Q ⟨F, ρ, rl, q⟩ => ⟨F, ρ, rl, ha.mo _ _ _ (fun x ρ1 q v F1 H1 r1 s1 e1 => ⟨F1, ρ1, r1, hb.mo _ _ _ (fun y ρ2 q u F2 H2 r2 s2 e2 => ?_) q⟩) q⟩, fun ρ Q Q' k q => ha.mo _ _ _ (fun x ρ1 q => hb.mo _ _ _ (fun y ρ2 q => ?_) q) q⟩
  · have e1 := e1.mono s2
    cases x <;> first | exact (show False from q).elim | skip
    cases y <;> first | exact (show False from q).elim | skip
    obtain ⟨h2, q⟩ := q
    obtain ⟨p, vs, rfl, k1, k2⟩ := e1.seqL
    obtain ⟨p', ws, rfl, k3, k4⟩ := e2.seqL
    have n := k2.length
    have n' := k4.length
    exact ⟨p, p', vs, ws, rfl, rfl, r2.step.fh _ _ k1, r2.step.fh _ _ k3, by rw [sizeLine16, n, n']; exact h2, fun l nl => q l _ F2 H2 r2 (s1.trans s2) nl (k2.append k4)⟩
  · cases x <;> first | exact (show False from q).elim | skip
    cases y <;> first | exact (show False from q).elim | skip
    exact ⟨q.1, k _ _ q.2⟩
/-- x[i] = e, said otherwise -/
def wSetJ (i : Nat) (we wi : DW) : DS := fun E ρ => we ρ fun d ρ1 => (∃ l, gt ρ1 i = .ol l) ∧ wi ρ1 fun y ρ2 => ∃ (l : List D) (j : Nat), gt ρ2 i = .ol l ∧ y = .int (j : Int) ∧ j < l.length ∧ E.nx (st ρ2 i (.ol (l.set j d)))
theorem setJ_I {i : Nat} {we wi : DW} (m1 : Mono we) (m2 : Mono wi) (E : DE) (ρ : List SD) (q : wSetJ i we wi E ρ) : wSetI i we wi E ρ := by
  refine m1 _ _ _ (fun d ρ1 q => ?_) q
  obtain ⟨⟨l, hl⟩, q⟩ := q
  show (match gt ρ1 i with | .ol _ => _ | _ => False)
  rw [hl]
  refine m2 _ _ _ (fun y ρ2 q => ?_) q
  obtain ⟨l2, j, h2, rfl, hj, q⟩ := q
  have g2 : ixN l2.length (j : Int) = some j := by unfold ixN; simp; omega
  simp only [h2, g2]
  exact q
theorem pds_setj {i : Nat} {x : Str} {px ps : Pos} {ix e : Expr} {we wi : DW} (h : PE X (.Name x px) (tVar i)) (he : PD c X e we) (hi : PD c X ix wi) (hs : swapsWithSole [.Subscript (.Name x px) ix ps] e pos.line X.env = pure false := by rfl) (hw : swappedStores [.Subscript (.Name x px) ix ps] e X.env = pure none := by rfl)
    (h1 : (assignEach [.Subscript (.Name x px) ix ps] X.env).map (·.2) = [assign (.Subscript (.Name x px) ix ps) X.env] := by rfl)
    (ha : ∀ v, assign (.Subscript (.Name x px) ix ps) X.env v = (do
      let ov ← holding [v] (eval (.Name x px) X.env)
      let iv ← holding [v, ov] (eval ix X.env)
      standAt ps
      holding [v, ov, iv] (setItem ov iv v)
      release [v, ov, iv] []) := by intro _; rfl) : PDS c X (.Assign [.Subscript (.Name x px) ix ps] e pos) (wSetJ i we wi) :=
  ⟨(pds_seti h he hi hs hw h1 ha).pe.imp fun E σ H ⟨F, ρ, rl, q⟩ => ⟨F, ρ, rl, setJ_I he.mo hi.mo _ _ q⟩, fun E E' ρ l q => he.mo _ _ _ (fun d ρ1 q => ⟨q.1, hi.mo _ _ _ (fun y ρ2 ⟨l2, j, a, b, d, q⟩ => ⟨l2, j, a, b, d, l.nx _ q⟩) q.2⟩) q⟩
end
/-! what a reading keeps: calls with a keyword-only parameter, methods -/
theorem mo_CallN {S : Spec} {n m : Nat} {wr wk : DA} {Ed : DX} (hS : MonoSp S) (ha : Mono wr) (hk : Mono wk) : Mono (wCallN S n m wr wk Ed) := fun ρ Q Q' k q => ha _ _ _ (fun ds ρ1 q => hk _ _ _ (fun es ρ2 q => ⟨q.1, q.2.1, ⟨hS _ _ _ _ _ (fun d => k d ρ2) (fun _ h => h) q.2.2.h⟩⟩) q) q
theorem mo_CallD {S : Spec} {x : D} {wr : DA} {Ed : DX} (hS : MonoSp S) (ha : Mono wr) : Mono (wCallD S x wr Ed) := fun ρ Q Q' k q => ha _ _ _ (fun ds ρ1 q => ⟨hS _ _ _ _ _ (fun d => k d ρ1) (fun _ h => h) q.h⟩) q
theorem mo_CallK {S : Spec} {n : Nat} {g : {α : Type} → List α → List α} {wr : DA} {Ed : DX} (hS : MonoSp S) (ha : Mono wr) : Mono (wCallK S n g wr Ed) := fun ρ Q Q' k q => ha _ _ _ (fun ds ρ1 q => ⟨q.1, ⟨hS _ _ _ _ _ (fun d => k d ρ1) (fun _ h => h) q.2.h⟩⟩) q
theorem mo_Meth {S : Spec} {C : Addr} {m : Str} {wo : DW} {wr : DA} {Ed : DX} (hS : MonoSp S) (ho : Mono wo) (ha : Mono wr) : Mono (wMeth S C m wo wr Ed) := fun ρ Q Q' k q => ho _ _ _ (fun d ρ1 q => ⟨q.1, ha _ _ _ (fun ds ρ2 q => ⟨hS _ _ _ _ _ (fun d => k d ρ2) (fun _ h => h) q.h⟩) q.2⟩) q
theorem mo_BinO {S : Spec} {C : Addr} {wa wb : DW} {Ed : DX} (hS : MonoSp S) (ha : Mono wa) (hb : Mono wb) : Mono (wBinO S C wa wb Ed) := fun ρ Q Q' k q => ha _ _ _ (fun d ρ1 q => hb _ _ _ (fun ds ρ2 q => ⟨q.1, q.2.1, ⟨hS _ _ _ _ _ (fun d => k d ρ2) (fun _ h => h) q.2.2.h⟩⟩) q) q
end PL
end L2

namespace L2
namespace PL
open PySem PySem.Spec PyProof.Rows
variable [Tabl]
section
variable {ta tb : DT} {wa wb we : DW} {i : Nat}
theorem mo_AndT (ha : Mono ta) (hb : Mono tb) : Mono (wAndT ta tb) := fun ρ Q Q' h q => ha ρ _ _ (fun k ρ1 q => ⟨fun e => hb _ _ _ h (q.1 e), fun e => h _ _ (q.2 e)⟩) q
theorem mo_OrT (ha : Mono ta) (hb : Mono tb) : Mono (wOrT ta tb) := fun ρ Q Q' h q => ha ρ _ _ (fun k ρ1 q => ⟨fun e => h _ _ (q.1 e), fun e => hb _ _ _ h (q.2 e)⟩) q
theorem mo_NotT (ha : Mono ta) : Mono (wNotT ta) := fun ρ Q Q' h q => ha ρ _ _ (fun k ρ1 q => h _ _ q) q
theorem mo_IfE (h0 : Mono ta) (ha : Mono wa) (hb : Mono wb) : Mono (wIfE ta wa wb) := fun ρ Q Q' h q => h0 ρ _ _ (fun k ρ1 q => ⟨fun e => ha _ _ _ h (q.1 e), fun e => hb _ _ _ h (q.2 e)⟩) q
theorem mo_IdxV (hb : Mono wb) : Mono (wIdxV i wb) := fun ρ Q Q' k q => by
  unfold wIdxV at q ⊢
  cases e : lstOf (gt ρ i) with
  | none => rw [e] at q; exact (show False from q).elim
  | some x0 =>
    rw [e] at q
    refine hb _ _ _ (fun y ρ1 q => ?_) q
    cases e3 : lstOf (gt ρ1 i) with
    | none => rw [e3] at q; exact (show False from q).elim
    | some x1 => rw [e3] at q; exact R1.mo (fun d => k d ρ1) q
/-- == in an except suite -/
theorem pd_eqU {X : Cx} {c : C} {a b : Expr} {pos : Pos} (hu : X.A.units + 64 < cLine) (ha : PD c X a wa) (hb : PD c X b wb) : PD c X (.Compare a [.Eq] [b] pos) (wOp fEq wa wb) := pd_cmp (OpR.or op_eq (op_eqD hu)) br_eq ha hb (nomark _)
theorem pdt_eqU {X : Cx} {c : C} {a b : Expr} {pos : Pos} (hu : X.A.units + 64 < cLine) (ha : PD c X a wa) (hb : PD c X b wb) : PDT c X (.Compare a [.Eq] [b] pos) (wTst (wOp fEq wa wb)) := pdt_cmp (OpR.or op_eq (op_eqD hu)) br_eq ha hb (nomark _)
theorem pd_neU {X : Cx} {c : C} {a b : Expr} {pos : Pos} (hu : X.A.units + 64 < cLine) (ha : PD c X a wa) (hb : PD c X b wb) : PD c X (.Compare a [.NotEq] [b] pos) (wOp fNe wa wb) := pd_cmp (OpR.or op_ne (op_neD hu)) br_ne ha hb (nomark _)
theorem pdt_neU {X : Cx} {c : C} {a b : Expr} {pos : Pos} (hu : X.A.units + 64 < cLine) (ha : PD c X a wa) (hb : PD c X b wb) : PDT c X (.Compare a [.NotEq] [b] pos) (wTst (wOp fNe wa wb)) := pdt_cmp (OpR.or op_ne (op_neD hu)) br_ne ha hb (nomark _)
/-- values that are compared by == -/
def PyOk (v : D) : Prop := ∃ p, toPy v = some p ∧ SeqAt.shaped p = true ∧ PyData.eqv p p = true
theorem eq_self {v : D} {Q : D → Prop} (h : PyOk v) (q : Q (.bl true)) : (fEq v v).run Q := by
  obtain ⟨p, h1, h2, h3⟩ := h
  have gen : (fEqG v v).run Q := by
    unfold fEqG
    rw [h1]
    exact ⟨⟨h2, h2⟩, by rw [h3]; exact q⟩
  cases v <;> first | exact gen | (show Q (.bl (decide (_ = _))); simpa using q)
theorem ne_selfO {v : D} {Q : D → Prop} (h : PyOk v) (q : Q (.bl false)) : (fNe v v).run Q := by
  obtain ⟨p, h1, h2, h3⟩ := h
  have gen : (fNeG v v).run Q := by
    unfold fNeG
    rw [h1]
    exact ⟨⟨h2, h2⟩, by rw [h3]; exact q⟩
  cases v <;> first | exact gen | (show Q (.bl (!decide (_ = _))); simpa using q)
end
/-- plain data of this depth at most -/
def okP : Nat → D → Bool
  | _, .non => true
  | _, .bl _ => true
  | _, .int _ => true
  | _, .str x => PyData.strOk x
  | n + 1, .tup l => l.all (okP n)
  | n + 1, .lst l => l.all (okP n)
  | _, _ => false
theorem okP_all {n : Nat} (ih : ∀ d, okP n d = true → ∃ p, toPy d = some p ∧ p.canLay0 = true ∧ p.depth ≤ n) : ∀ l : List D, l.all (okP n) = true → ∃ ps, toPys l = some ps ∧ PyData.canLayAll0 ps = true ∧ PyData.depthAll ps ≤ n
  | [], _ => ⟨[], rfl, rfl, Nat.zero_le _⟩
  | d :: l, h => by
    simp only [List.all_cons, Bool.and_eq_true] at h
    obtain ⟨p, h1, h2, h3⟩ := ih d h.1
    obtain ⟨ps, k1, k2, k3⟩ := okP_all ih l h.2
    refine ⟨p :: ps, by simp [toPys, h1, k1], by simp [PyData.canLayAll0, h2, k2], ?_⟩
    simp only [PyData.depthAll]
    exact Nat.max_le.mpr ⟨h3, k3⟩
theorem okP_py : ∀ (n : Nat) (d : D), okP n d = true → ∃ p, toPy d = some p ∧ p.canLay0 = true ∧ p.depth ≤ n := by
  intro n
  induction n with
  | zero =>
    intro d h
    cases d <;> first | (cases h; done) | exact ⟨_, rfl, rfl, Nat.le_refl _⟩ | exact ⟨_, rfl, h, Nat.le_refl _⟩
  | succ n ih =>
    intro d h
    cases d with
    | tup l =>
      obtain ⟨ps, k1, k2, k3⟩ := okP_all ih l h
      exact ⟨.tuple ps, by simp [toPy, k1], by simpa [PyData.canLay0] using k2, by simpa [PyData.depth] using k3⟩
    | lst l =>
      obtain ⟨ps, k1, k2, k3⟩ := okP_all ih l h
      exact ⟨.list ps, by simp [toPy, k1], by simpa [PyData.canLay0] using k2, by simpa [PyData.depth] using k3⟩
    | str x => exact ⟨.str x, rfl, h, Nat.zero_le _⟩
    | non => exact ⟨.none, rfl, rfl, Nat.zero_le _⟩
    | bl b => exact ⟨.bool b, rfl, rfl, Nat.zero_le _⟩
    | int i => exact ⟨.int i, rfl, rfl, Nat.zero_le _⟩
    | _ => cases h
theorem okP_ok {n : Nat} {d : D} (h : okP n d = true) (hn : n ≤ 64) : PyOk d := by
  obtain ⟨p, h1, h2, h3⟩ := okP_py n d h
  refine ⟨p, h1, ?_, SeqAt.eqv_refl p h2⟩
  unfold SeqAt.shaped
  simp [h2]
  omega
end PL
end L2

namespace L2
namespace PL
open PySem PySem.Spec PyProof.Rows
variable [Tabl]
/-! the tape: a dict of six keys -/
def TK : List Key := [.inr "cells", .inr "at", .inr "great", .inr "left", .inr "seed", .inr "turn"]
def stT (ns : List Int) (n : Nat) (a b d u : Int) : List D := [.lst (ns.map .int), .int (n : Int), .int a, .int b, .int d, .int u]
/-- the key k stands at j -/
structure TKey (k : Str) (j : Nat) : Prop where
  val : ∀ vs : List V, vs.length = 6 → valV (TK.zip vs) (.inr k) = vs[j]?
  put : ∀ (vs : List V) (v : V), vs.length = 6 → putK (TK.zip vs) (.inr k) v = TK.zip (vs.set j v)
  lt : j < 6
theorem tk_cells : TKey "cells" 0 where
  val vs h := by
    match vs, h with
    | [a, b, c, d, e, f], _ => rfl
  put vs v h := by
    match vs, h with
    | [a, b, c, d, e, f], _ => rfl
  lt := by decide
theorem tk_at : TKey "at" 1 where
  val vs h := by
    match vs, h with
    | [a, b, c, d, e, f], _ => rfl
  put vs v h := by
    match vs, h with
    | [a, b, c, d, e, f], _ => rfl
  lt := by decide
theorem tk_great : TKey "great" 2 where
  val vs h := by
    match vs, h with
    | [a, b, c, d, e, f], _ => rfl
  put vs v h := by
    match vs, h with
    | [a, b, c, d, e, f], _ => rfl
  lt := by decide
theorem tk_left : TKey "left" 3 where
  val vs h := by
    match vs, h with
    | [a, b, c, d, e, f], _ => rfl
  put vs v h := by
    match vs, h with
    | [a, b, c, d, e, f], _ => rfl
  lt := by decide
theorem tk_seed : TKey "seed" 4 where
  val vs h := by
    match vs, h with
    | [a, b, c, d, e, f], _ => rfl
  put vs v h := by
    match vs, h with
    | [a, b, c, d, e, f], _ => rfl
  lt := by decide
theorem tk_turn : TKey "turn" 5 where
  val vs h := by
    match vs, h with
    | [a, b, c, d, e, f], _ => rfl
  put vs v h := by
    match vs, h with
    | [a, b, c, d, e, f], _ => rfl
  lt := by decide
section
variable {X : Cx} {c : C} {pos : Pos} {e : Expr} {we : DW} {k : Str} {j i kk : Nat} {x : Str} {px : Pos} {jj : Option Str}
/-- x['k'], x the tape -/
def wTpI (i j : Nat) : DW := fun ρ Q => match gt ρ i with
  | .od _ ks l => ks = TK ∧ l.length = 6 ∧ (fAt l[j]?).run fun d => Q d ρ
  | _ => False
theorem pd_tpI {p1 : Pos} {j1} (T : TKey k j) (hr : Room kk X.A) (h : PE X (.Name x px) (tVar i)) : PD c X (.Subscript (.Name x px) (.Constant (.str k) j1 p1) pos) (wTpI i j) := by
  refine ⟨(pe_dget (by have := hr.toRoom.units; omega) h (pe_str (x := k)) (fun _ _ => rfl)).imp fun σ H Q ⟨F, ρ, rl, q⟩ => ?_, fun ρ Q Q' h q => ?_⟩
  · unfold wTpI at q
    split at q
    · rename_i a ks l e0
      obtain ⟨rfl, hl, q⟩ := q
      have o1 := rl.owns (i := i) (by rw [e0]; rfl)
      rw [e0] at o1
      obtain ⟨p, o, e1, h1, _, _, _, rfl, vs, rfl, hn, r⟩ := o1
      obtain ⟨d, e, q⟩ := fAt_run q
      obtain ⟨v, e2, e3⟩ := r.get e
      refine ⟨_, join_some e1, _, v, rfl, ?_, q v F H rl (Same.refl _) e3⟩
      have g := DGet.k (k := .inr k) h1
      rw [T.val vs (by rw [r.length]; exact hl), e2] at g
      exact g
    · exact q.elim
  · unfold wTpI at q ⊢
    split
    · rename_i e0
      rw [e0] at q
      exact ⟨q.1, q.2.1, R1.mo (fun d => h d ρ) q.2.2⟩
    · rename_i e0
      split at q
      · exact e0 _ _ _ (by assumption)
      · exact q
/-- x['k'] = e -/
def wTpS (i j : Nat) (we : DW) : DS := fun E ρ => we ρ fun d ρ1 => match gt ρ1 i with
  | .od a ks l => ks = TK ∧ l.length = 6 ∧ E.nx (st ρ1 i (.od a ks (l.set j d)))
  | _ => False
theorem pds_tpS {p1 ps : Pos} {j1} (T : TKey k j) (hr : Room kk X.A) (h : PE X (.Name x px) (tVar i)) (he : PD c X e we)
    (hs : swapsWithSole [.Subscript (.Name x px) (.Constant (.str k) j1 p1) ps] e pos.line X.env = pure false := by rfl) (hw : swappedStores [.Subscript (.Name x px) (.Constant (.str k) j1 p1) ps] e X.env = pure none := by rfl)
    (h1 : (assignEach [.Subscript (.Name x px) (.Constant (.str k) j1 p1) ps] X.env).map (·.2) = [assign (.Subscript (.Name x px) (.Constant (.str k) j1 p1) ps) X.env] := by rfl)
    (ha : ∀ v, assign (.Subscript (.Name x px) (.Constant (.str k) j1 p1) ps) X.env v = (do
      let ov ← holding [v] (eval (.Name x px) X.env)
      let iv ← holding [v, ov] (eval (.Constant (.str k) j1 p1) X.env)
      standAt ps
      holding [v, ov, iv] (setItem ov iv v)
      release [v, ov, iv] []) := by intro _; rfl) : PDS c X (.Assign [.Subscript (.Name x px) (.Constant (.str k) j1 p1) ps] e pos) (wTpS i j we) := by
  refine ⟨(ps_asg he.pe (pg_sub h pe_str (set_dict (by have := hr.toRoom.units; omega)) ha) hs hw h1).imp fun E σ H ⟨F, ρ, rl, q⟩ => ⟨F, ρ, rl, he.mo _ _ _ (fun d ρ1 q v F1 H1 r1 s1 e1 => ?_) q⟩, fun E E' ρ l q => he.mo _ _ _ (fun d ρ1 q => ?_) q⟩
  · split at q
    · rename_i a ks l e0
      obtain ⟨rfl, hl, q⟩ := q
      have o1 := r1.owns (i := i) (by rw [e0]; rfl)
      rw [e0] at o1
      obtain ⟨p, o, e2, h2, _, _, _, rfl, vs, rfl, hn, r⟩ := o1
      have hv : vs.length = 6 := by rw [r.length]; exact hl
      refine ⟨_, join_some e2, _, _, rfl, DPut.k (k := .inr k) h2 (by rw [List.length_zip, sizeLine16, hv]; decide), ?_⟩
      rw [T.put vs v hv]
      exact q σ F1 _ (r1.write (x' := .od _ TK (l.set j d)) (by rw [e0]; rfl) e2 rfl ⟨rfl, _, rfl, by rw [List.length_set]; exact hn, r.set e1 j⟩) s1
    · exact q.elim
  · split
    · rename_i e0
      rw [e0] at q
      exact ⟨q.1, q.2.1, l.nx _ q.2.2⟩
    · rename_i e0
      split at q
      · exact e0 _ _ _ (by assumption)
      · exact q
end
/-- the tape is made -/
theorem tape_start {K : PySem.W.Frag} {σ : St} {H : Hp} {Q : VK} {a : Addr} {ns : List Int} {tl : TE} (hTb : Tab0 H) (hS : SqL K H a (ns.map V.int))
    (hq : ∀ (p : Addr) (F H' : Hp), Same F H' → HandOk ⟨p, 3⟩ F H' → 3 ≠ 0 → Q (.ref p) H')
    (htl : ∀ (H1 : Hp) (Q1 : VK), SqL K H1 a (ns.map V.int) → (∀ l, H1 l = none → Q1 (.ref l) (upd H1 l (.lst (ns.map V.int)))) → tl σ H1 Q1) :
    tDisp [(tC (.str "cells"), tl), (tC (.str "at"), tC (.int 0)), (tC (.str "great"), tC (.int 0)), (tC (.str "left"), tC (.int 0)), (tC (.str "seed"), tC (.int 7)), (tC (.str "turn"), tC (.int 0))] σ H Q := by
  intro p hp
  refine htl _ _ ((same_laid hp).seq hS) fun l hl => ?_
  have lp : l ≠ p := fun z => by rw [z, upd_same] at hl; cases hl
  have pl : p ≠ l := fun z => lp z.symm
  have nT : ∀ q ∈ Tabl.T, q.1 ≠ p ∧ q.1 ≠ l := fun q hq => by
    have h0 := hTb q hq
    refine ⟨fun z => ?_, fun z => ?_⟩
    · rw [z, hp] at h0; cases h0
    · rw [upd_ne lp, ← z, h0] at hl; cases hl
  refine ⟨by rw [upd_ne pl, upd_same], TK.zip [.ref l, .int 0, .int 0, .int 0, .int 7, .int 0], rfl, Nat.le_of_ble_eq_true rfl, ?_⟩
  have eT : Tab0 (upd (upd (upd H p (.dK [])) l (.lst (ns.map V.int))) p (.dK (mergeK [] (TK.zip [V.ref l, .int 0, .int 0, .int 0, .int 7, .int 0])))) := fun q hq => by
    rw [upd_ne (nT q hq).1, upd_ne (nT q hq).2, upd_ne (nT q hq).1]; exact hTb q hq
  have lT : l ∉ Tabl.T.map (·.1) := fun z => by
    obtain ⟨q, hq, e⟩ := List.mem_map.mp z
    exact (nT q hq).2 e
  refine hq p (fun b => if b = p then none else fz (upd (upd (upd H p (.dK [])) l (.lst (ns.map V.int))) p (.dK (mergeK [] (TK.zip [V.ref l, .int 0, .int 0, .int 0, .int 7, .int 0])))) b) _ (fun b u e => ?_) ⟨.inr ⟨if_pos rfl, (fun z => nomatch (show (3 : Nat) = 0 from z)), _, upd_same, .inr (.inr ⟨rfl, l, 0, 0, 0, 7, 0, ns, rfl, ?_⟩)⟩, eT.ok fun q hq => ?_⟩ (by decide)
  · have e : (if b = p then none else fz _ b) = some u := e
    split at e
    · cases e
    · exact fz_same _ _ e
  · show (if l = p then none else fz _ l) = _
    rw [if_neg lp, fz_ne lT, upd_ne lp, upd_same]
  · show (if q.1 = p then none else fz _ q.1) = _
    split
    · rfl
    · exact fz_tab q hq
/-! ### the promise of _law_draw(tape, many) -/
def S__law_drawT : Spec := fun ds Q _ => ∃ m : Int, ds = [.tok 3, .int m] ∧ 0 < m ∧ ∀ v : Int, 0 ≤ v → v < m → Q (.int v)
theorem mS__law_drawT : MonoSp S__law_drawT := fun ds Q Q' E E' h h' ⟨m, e, o, q⟩ => ⟨m, e, o, fun v a b => h _ (q v a b)⟩
theorem Step.back3 {K : PySem.W.Frag} {g : G} {F H F' H' : Hp} {n : Nat} {a b d u : Int} {ns : List Int} {vs : List V} (hg : g.hk = 3) (hF : F g.tok = none) (hh : ∃ o, H g.tok = some o) (hT : TabOk g F H) (s : Step ⟨g.tok, 0⟩ F (wo H g.tok) F' H') (e : H' g.tok = some (.dK (TK.zip vs))) (eF : F' g.tok = none)
    (r : Reps K ⟨g.tok, 0⟩ F' vs (stT ns n a b d u)) : Step g F H F' H' := by
  refine ⟨s.ff, s.fh, fun x o e1 k => ?_, fun x o e1 => ?_, .inr ⟨eF, by omega, _, e, ?_⟩, s.hand.2⟩
  · have nx : x ≠ g.tok := by
      rcases k.1 with k | k
      · omega
      · exact k
    exact s.keep x o (by rw [wo_ne nx]; exact e1) ⟨.inl rfl, k.2⟩
  · have nx : x ≠ g.tok := fun z => by subst z; rw [eF] at e1; cases e1
    rcases s.fresh x o e1 with h | h
    · exact .inl h
    · rw [wo_ne nx] at h; exact .inr h
  · rw [hg]
    cases r with
    | cons h1 r => cases r with
      | cons h2 r => cases r with
        | cons h3 r => cases r with
          | cons h4 r => cases r with
            | cons h5 r => cases r with
              | cons h6 r =>
                cases r
                obtain ⟨dr, rfl, h7⟩ := rep_t0 (t' := ⟨0, 0⟩) h1
                cases h2; cases h3; cases h4; cases h5; cases h6
                exact .inr (.inr ⟨rfl, dr, n, a, b, d, u, ns, rfl, h7⟩)
section
variable {P : Program} {w : World} {K : PySem.W.Frag} {mg : Str → Option Value} {base : Heap}
theorem fn_tape {x qual : Str} {stm : Stmt} {f : Addr} {fd : FuncData} {N ps : List Str} {k : Nat} (Fn : Fun K x qual stm f fd) (Sc : FnScope N ps (defScope stm)) (hp : ps.length = 2)
    (hbody : ∀ (X : Cx) (c : C), (∃ cdv A outer s H E, X = cxOf (L2.CX P w) P w K mg base N qual (defScope stm) f cdv A outer s H E) → Room k X.A →
      ∃ wb : DS2, PDB2 c X (defBody stm) wb ∧ ∀ (t : Addr) (ns : List Int) (n : Nat) (a b d u m : Int), 0 < m →
        wb { nx := fun _ => False, rt := fun x ρ => (∃ v : Int, x = .int v ∧ 0 ≤ v ∧ v < m) ∧ ∃ ns n a b d u, gt ρ 0 = .od t TK (stT ns n a b d u) } (.od t TK (stT ns n a b d u) :: .d (.int m) :: List.replicate (N.length - 2) .no)) :
    FnOk P w K mg base (L2.CX P w) (k + 1) f fd ps (spG K S__law_drawT) := by
  refine Fn.okG Sc (fun vs H Q E h => ?_) (fun cdv A outer s H vs Q E hr h => ?_)
  · obtain ⟨g, F, ds, _, _, r, m, rfl, _⟩ := h
    rw [r.length, hp]; rfl
  · obtain ⟨g, F, ds, sF, hk, r, m, rfl, hm, q⟩ := h
    have hlen := r.length
    cases r with
    | cons h1 r => cases r with
      | cons h2 r =>
        cases r
        cases h2
        have hk2 : g.hk = 3 ∧ ∀ v, Rep K g F v (.tok 3) → v = .ref g.tok := by
          generalize hd : D.tok 3 = x at h1
          cases h1 with
          | tok =>
            injection hd with hd
            refine ⟨hd.symm, fun v hv => ?_⟩
            cases hv; rfl
          | _ => cases hd
        have e1 := hk2.2 _ h1
        subst e1
        obtain ⟨hk, hT⟩ := hk
        rcases hk with z | ⟨k1, k2, o, k3, k4⟩
        · omega
        rw [hk2.1] at k4
        rcases k4 with ⟨z, _⟩ | ⟨z, _⟩ | ⟨_, dr, n, a, b, d, t, ns, rfl, k5⟩
        · cases z
        · cases z
        obtain ⟨wb, pb, qb⟩ := hbody (cxOf (L2.CX P w) P w K mg base N qual (defScope stm) f cdv A outer s H E) ⟨⟨g.tok, 0⟩, F, wo H g.tok⟩ ⟨cdv, A, outer, s, H, E, rfl⟩ hr
        have hpl := congrArg List.length Sc.pre
        rw [List.length_take] at hpl
        have st0 : Step ⟨g.tok, 0⟩ F (wo H g.tok) F H := ⟨Same.refl _, sF, fun x o e _ => by
          by_cases nx : x = g.tok
          · subst nx; rw [wo_same] at e; cases e
          · rw [wo_ne nx] at e; exact e, fun x o e => .inl e, .inl rfl, hT⟩
        have r0 : Rel K ⟨⟨g.tok, 0⟩, F, wo H g.tok⟩ F (start N [.non, .int m]) H ([D.non, D.int m].map SD.d ++ List.replicate (N.length - 2) .no) :=
          start_rel (c := ⟨⟨g.tok, 0⟩, F, wo H g.tok⟩) (ds := [.non, .int m]) st0 (.cons .non (.cons (.int m) .nil)) (by show 2 ≤ _; omega)
        have nog : ∀ (l : List D) (m k : Nat), isO (gt (l.map SD.d ++ List.replicate m .no) k) = false := by
          intro l m
          induction l with
          | nil =>
            induction m with
            | zero => intro k; rfl
            | succ m ih => intro k; cases k with
              | zero => rfl
              | succ k => exact ih k
          | cons d l ih => intro k; cases k with
            | zero => rfl
            | succ k => exact ih k
        have ntk : ∀ q ∈ Tabl.T, g.tok ≠ q.1 := fun q hq z => by
          obtain ⟨_, ps, e, _⟩ := hT q hq
          rw [← z, k3] at e; cases e
        have fr : Fresh0 ⟨⟨g.tok, 0⟩, F, wo H g.tok⟩ F (start N [.non, .int m]) ([D.non, D.int m].map SD.d ++ List.replicate (N.length - 2) .no) g.tok := ⟨k1, wo_same, ⟨.inl rfl, ntk⟩, fun k z => by rw [nog] at z; cases z⟩
        have r2 := r0.adopt (i := 0) (x := .od g.tok TK (stT ns n a b d t)) fr k3 ⟨rfl, [.ref dr, .int (n : Int), .int a, .int b, .int d, .int t], rfl, rfl, .cons (.lst k5 (reps_ints0 ns)) (.cons (.int _) (.cons (.int _) (.cons (.int _) (.cons (.int _) (.cons (.int _) .nil)))))⟩ rfl
        have e1 : (start N [V.non, .int m]).set 0 (some (.ref g.tok)) = start N [.ref g.tok, .int m] := by
          unfold start; rfl
        rw [e1] at r2
        refine ⟨_, pb.pe, F, _, r2, pb.mo _ _ _ ⟨fun ρ (q : False) => q.elim, fun x ρ h v σ' F' H' rl _ e => ?_⟩ (qb g.tok ns n a b d t m hm)⟩
        obtain ⟨⟨u, rfl, u0, u1⟩, ns', n', a', b', d', t', eg⟩ := h
        obtain ⟨p, o, y1, y2, y3, y4, y5, y6⟩ := rl.owns (i := 0) (by rw [eg]; rfl)
        rw [eg] at y6
        obtain ⟨rfl, vs, rfl, _, y7⟩ := y6
        have z := rl.step
        exact q u u0 u1 v F' H' (Step.back3 hk2.1 k1 ⟨_, k3⟩ hT z y2 y3 y7) (by cases e; exact .int u)
end
end PL
end L2

namespace L2
namespace PL
open PySem PySem.Spec PyProof.Rows NdefX
variable [Tabl]
/-! a lambda of one parameter, made and handed to a def that calls it -/
section
variable {X : Cx} {pins : List (Addr × Obj)} {σ : St} {H : Hp} {s : Shared}
/-- the heap behind the making: as it was, or one code object more -/
def Made1 (R : Addr → Prop) (P : Addr) (q : Str) (c' : Addr) (H H1 : Hp) : Prop :=
  (H1 = H ∧ R c') ∨ ∃ (ps ps' : Array Value), H P = some (.tbl ps) ∧ H c' = none ∧ H1 = upd (upd H P (.tbl ps')) c' (LamX.CodeO c' q) ∧ TriplesOk ps'.toList ∧
    ∀ (pos : Pos) (cv : Value), codeAmong pos ps'.toList = some cv → codeAmong pos ps.toList = some cv ∨ cv = .ref c'
theorem lam_make1 (R : Addr → Prop) {c P : Addr} {q : Str} {ps : Array Value} {params : Arguments} {body : Expr} {scope : Scope} {pos : Pos} {E : Value → Shared → Prop} {Q : Value → Shared → Prop} (I : Inv X pins σ H s) (TB : LamX.TabB X.base X.mg c P)
    (hcode : X.env.code = .ref c) (eq : q = X.env.qual ++ "<lambda>") (hP : H P = some (.tbl ps)) (ht : TriplesOk ps.toList) (ha : ∀ (pos : Pos) (cv : Value), codeAmong pos ps.toList = some cv → ∃ c, cv = .ref c ∧ R c)
    (hdef : defaultsOf params X.env = ([], [])) (hfree : ∀ y ∈ scope.names, y.2 = .free → ∃ c, X.env.cells.lookup y.1 = some c)
    (h : ∀ (f c' : Addr) (pm ctv : Value) (H1 : Hp) (s' : Shared), Inv X pins σ H1 s' → Made1 R P q c' H H1 → s'.heap.get? f = some (PySem.W.kla_obj "<lambda>" q params body scope (cloFrom X.env.cells scope.names []) pm c' ctv) →
      H1 f = none → f ∉ frs X.stack → Q (.ref f) s') : wpAny (model X.prog X.w) X.A (eval (.Lambda params body scope pos) X.env) Q E s := by
  subst eq
  have gl := I.mod.glob.keeps I.bk
  have bP := TB.bm.keeps I.bk
  have hd := TB.code.keeps I.bk
  have gP : s.heap.get? P = some { cls := .none, data := .fields ps } := I.hok P _ hP
  have lP := Heap.lt_size gP
  have out : ∀ g, s.heap.objs.size ≤ g → g ∉ frs X.stack := fun g hg z => by
    rcases List.mem_cons.mp (I.stkSub _ z) with e | e
    · subst e
      exact absurd I.lt (Nat.not_lt.mpr hg)
    · exact I.nofs hg e
  refine PySem.W.kla_eval hdef ?_
  rcases hc : codeAmong pos ps.toList with _ | cv
  · refine PySem.W.kla_makeFunction (mg := X.mg) (closure_ok hfree) I.ok.glob gl hcode hd gP ht hc TB.gP bP fun c1 ctv h' tk hx g1 g2 hr hb => ?_
    obtain ⟨_, oc, vs, t, e2, ho, hdt, hv⟩ := hr
    cases e2
    have n1 : H c1 = none := I.hok.fresh g1
    have sz : s.heap.objs.size ≤ h'.objs.size := by omega
    have J := LamX.inv_table (q := X.env.qual ++ "<lambda>") (t' := tk) (more := #[rawInt pos.line, rawInt pos.col, .ref c1])
      (h' := h'.push (PySem.W.kla_obj "<lambda>" (X.env.qual ++ "<lambda>") params body scope (cloFrom X.env.cells scope.names []) ((X.mg "__name__").getD .none) c1 ctv)) I hP
      (fun b o nb e => Heap.get?_push_of_some _ (hx b o nb e)) (Heap.get?_push_of_some _ hb) g1 ⟨oc, vs, t, Heap.get?_push_of_some _ ho, hdt, hv⟩
    have eL : (ps ++ #[rawInt pos.line, rawInt pos.col, .ref c1]).toList = ps.toList ++ [rawInt pos.line, rawInt pos.col, .ref c1] := by simp
    refine h _ c1 _ ctv _ _ J (.inr ⟨ps, _, hP, n1, rfl, by rw [eL]; exact PySem.TriplesOk_snoc _ _ _ _ ht, fun p' cv z => ?_⟩) (Heap.get?_push_size _ rfl) ?_ (out _ sz)
    · rw [eL] at z
      exact LamX.among_app _ ht z
    · rw [upd_ne (Nat.ne_of_gt g2), upd_ne (Nat.ne_of_gt (Nat.lt_of_lt_of_le lP sz))]
      exact I.hok.fresh sz
  · obtain ⟨c1, e, hco⟩ := ha pos cv hc
    subst e
    refine PySem.W.kla_makeFunctionHit (mg := X.mg) (closure_ok hfree) I.ok.glob gl hcode hd gP ht hc bP fun ctv h' tk hx sz => ?_
    exact h _ c1 _ ctv H _ (I.kept fun b o e => Heap.get?_push_of_some _ (hx b o e)) (.inl ⟨rfl, hco⟩) (Heap.get?_push_size _ rfl) (I.hok.fresh sz) (out _ sz)
theorem slotAt_join {σ : St} {j : Nat} : NdefX.slotAt σ j = σ[j]?.join := by
  unfold NdefX.slotAt
  cases σ[j]? <;> rfl
end
section
variable {K : PySem.W.Frag} {c : C} {F : Hp} {σ : St} {H H1 : Hp} {ρ : List SD}
theorem made_rel {P c' : Addr} {q : Str} (r : Rel K c F σ H ρ) (m : Made1 (fun a => F a = some (LamX.CodeO a q)) P q c' H H1) (hm : (P, q) ∈ Tabl.T) (hu : ∀ p ∈ Tabl.T, p.1 = P → p.2 = q) :
    ∃ F1, Same F F1 ∧ Rel K c F1 σ H1 ρ ∧ F1 c' = some (LamX.CodeO c' q) := by
  rcases m with ⟨rfl, h⟩ | ⟨ps, ps', hP, n, rfl, ht, ha⟩
  · exact ⟨F, Same.refl _, r, h⟩
  have tb := r.step.hand.2
  have nF := r.freeF n
  have s1 : Same F (upd F c' (LamX.CodeO c' q)) := same_laid nF
  have Pc : P ≠ c' := ne_of_none hP n
  have FP : F P = none := (tb _ hm).1
  refine ⟨_, s1, r.after ⟨s1, fun b u e => ?_, fun a o e k => ?_, fun a o e => ?_, ?_, fun p hp => ?_⟩, upd_same⟩
  · by_cases hb : b = c'
    · subst hb; rw [upd_same] at e ⊢; exact e
    · rw [upd_ne hb] at e
      have hP2 : b ≠ P := fun z => by subst z; rw [FP] at e; cases e
      rw [upd_ne hb, upd_ne hP2]; exact r.step.fh _ _ e
  · rw [upd_ne (ne_of_none e n), upd_ne (k.2 _ hm)]; exact e
  · by_cases hb : a = c'
    · subst hb; exact .inr n
    · rw [upd_ne hb] at e; exact .inl e
  · rcases r.step.hand.1 with z | ⟨h1, h2, o, h3, h4⟩
    · exact .inl z
    · have tc : c.g.tok ≠ c' := ne_of_none h3 n
      have tP : c.g.tok ≠ P := fun z => by
        rw [z, hP] at h3
        cases h3
        rcases h4 with ⟨_, _, _, _, w, _⟩ | ⟨_, _, _, _, _, _, _, w, _⟩ | ⟨_, _, _, _, _, _, _, _, w, _⟩ <;> cases w
      exact .inr ⟨by rw [upd_ne tc]; exact h1, h2, o, by rw [upd_ne tc, upd_ne tP]; exact h3, h4.mono s1⟩
  · obtain ⟨a1, qs, a2, a3, a4⟩ := tb p hp
    have pc : p.1 ≠ c' := ne_of_none a2 n
    by_cases hb : p.1 = P
    · have e2 : p.2 = q := hu p hp hb
      refine ⟨by rw [upd_ne pc]; exact a1, ps', by rw [upd_ne pc, hb, upd_same], ht, fun pos cv hc => ?_⟩
      rw [hb, hP] at a2
      cases a2
      rcases ha pos cv hc with z | z
      · obtain ⟨c0, e1, e3⟩ := a4 pos cv z
        exact ⟨c0, e1, s1 _ _ e3⟩
      · exact ⟨c', z, by rw [e2]; exact upd_same⟩
    · refine ⟨by rw [upd_ne pc]; exact a1, qs, by rw [upd_ne pc, upd_ne hb]; exact a2, a3, fun pos cv hc => ?_⟩
      obtain ⟨c0, e1, e3⟩ := a4 pos cv hc
      exact ⟨c0, e1, s1 _ _ e3⟩
end
/-- what the cells held when the frame began they hold still -/
theorem cells_later {X : Cx} {pins : List (Addr × Obj)} {σ : St} {H : Hp} {s : Shared} {cl : List (Str × Addr)} {fr : List Str} {ws : List (Option V)} (C : CellsAt cl fr ws X.s_0.heap X.H_0) (hx : X.ex = []) (I : Inv X pins σ H s) : CellsAt cl fr ws s.heap H := by
  have nx : ∀ a, a ∉ X.ex := fun a z => by rw [hx] at z; cases z
  have kp : ∀ y c, cl.lookup y = some c → ∀ v, X.s_0.heap.IsCell c v → s.heap.IsCell c v := fun y c e v ⟨o, ho, hd⟩ => by
    obtain ⟨sl, z⟩ := I.base.any ho (C.all y c e).1 (nx c)
    exact ⟨_, z, hd⟩
  refine ⟨C.len, fun y c e => ?_, C.inj, fun i y e => ?_⟩
  · obtain ⟨n, v, z⟩ := C.all y c e
    have zc := kp y c e v z
    obtain ⟨o, ho, _⟩ := z
    exact ⟨I.base.free c o ho n (nx c), v, zc⟩
  · obtain ⟨c, hc, hv⟩ := C.has i y e
    exact ⟨c, hc, fun v ev => let ⟨u, r, z⟩ := hv v ev; ⟨u, r, kp y c hc _ z⟩⟩
/-! ### the reading -/
def capS : SD → SD
  | .d x => .d x
  | .ad a => .ad a
  | _ => .no
def caps (ρ : List SD) (js : List Nat) : List SD := js.map fun j => capS (gt ρ j)
/-- the lambda's call in the def that got it at slot 1, with what slot 2 holds -/
def wLamV (f : Addr) (cp : List SD) (m : Nat) (wb : DW) : DW := fun ρ Q => gt ρ 1 = .ad f ∧ match gt ρ 2 with
  | .d x => wb (.d x :: (cp ++ List.replicate m .no)) fun r _ => Q r ρ
  | _ => False
theorem mo_LamV {f : Addr} {cp : List SD} {m : Nat} {wb : DW} (h : Mono wb) : Mono (wLamV f cp m wb) := fun ρ Q Q' k q => by
  refine ⟨q.1, ?_⟩
  have q := q.2
  split at q
  · exact h _ _ _ (fun r _ => k r ρ) q
  · exact q.elim
/-- x(e, lambda ..), x by its body -/
def wLamC (w1 : DW) (js : List Nat) (m n : Nat) (wb : DW) (wg : DW → DS) : DW := fun ρ Q => w1 ρ fun d ρ1 => ∀ f : Addr,
  wg (wLamV f (caps ρ1 js) m wb) { nx := fun _ => Q .non ρ1, rt := fun d => Q d ρ1 } (.d d :: .ad f :: List.replicate (n - 2) .no)
theorem gt_rep0 : ∀ (m i : Nat), gt (List.replicate m SD.no) i = .no
  | 0, _ => rfl
  | _ + 1, 0 => rfl
  | m + 1, i + 1 => gt_rep0 m i
theorem gt_app : ∀ (a b : List SD) (i : Nat), gt (a ++ b) (a.length + i) = gt b i
  | [], b, i => by simp
  | x :: a, b, i => by
    rw [List.length_cons, Nat.add_right_comm]
    exact gt_app a b i
theorem gt_appL : ∀ (a b : List SD) (i : Nat), i < a.length → gt (a ++ b) i = gt a i
  | [], _, _, h => by simp at h
  | x :: a, b, 0, _ => rfl
  | x :: a, b, i + 1, h => gt_appL a b i (by simpa using h)
section
variable {K : PySem.W.Frag} {c : C}
/-- the lambda's slots at its entry -/
theorem lam_rel {F1 F H1 H : Hp} {σ : St} {ρ1 : List SD} {NL : List Str} {js : List Nat} {vx : V} {x : D} (r1 : Rel K c F1 σ H1 ρ1) (s : Same F1 F) (fh : Same F H) (hk : HandOk c.g F H) (rx : Rep K c.g F vx x) (hl : 1 + js.length ≤ NL.length) :
    Rel K ⟨c.g, F, H⟩ F (startF NL [vx] (js.map (NdefX.slotAt σ))) H (.d x :: (caps ρ1 js ++ List.replicate (NL.length - 1 - js.length) .no)) := by
  have nO : ∀ k, isO (gt (.d x :: (caps ρ1 js ++ List.replicate (NL.length - 1 - js.length) .no)) k) = false := fun k => by
    cases k with
    | zero => rfl
    | succ k =>
      show isO (gt (caps ρ1 js ++ _) k) = false
      by_cases hb : k < (caps ρ1 js).length
      · rw [gt_appL _ _ _ hb]
        unfold caps at hb ⊢
        clear hl
        induction js generalizing k with
        | nil => simp at hb
        | cons j js ih => cases k with
          | zero =>
            show isO (capS (gt ρ1 j)) = false
            cases gt ρ1 j <;> rfl
          | succ k => exact ih k (by simpa using hb)
      · obtain ⟨i, rfl⟩ : ∃ i, k = (caps ρ1 js).length + i := ⟨k - (caps ρ1 js).length, by omega⟩
        rw [gt_app, gt_rep0]; rfl
  refine ⟨Step.refl fh hk, ?_, fun k => ?_, fun a b p e => ?_⟩
  · unfold startF caps
    simp
  · cases k with
    | zero => exact ⟨vx, rfl, rx⟩
    | succ k =>
      show SlotOk K _ F H ((js.map (NdefX.slotAt σ) ++ List.replicate (NL.length - 1 - (js.map (NdefX.slotAt σ)).length) none)[k]?.join) (gt (caps ρ1 js ++ _) k)
      by_cases hb : k < js.length
      · have e1 : gt (caps ρ1 js ++ List.replicate (NL.length - 1 - js.length) SD.no) k = capS (gt ρ1 js[k]) := by
          rw [gt_appL _ _ _ (by unfold caps; simpa using hb)]
          unfold caps
          clear hl nO
          induction js generalizing k with
          | nil => simp at hb
          | cons j js ih => cases k with
            | zero => rfl
            | succ k => exact ih k (by simpa using hb)
        have e2 : (js.map (NdefX.slotAt σ) ++ List.replicate (NL.length - 1 - (js.map (NdefX.slotAt σ)).length) none)[k]?.join = σ[js[k]]?.join := by
          rw [List.getElem?_append_left (by simpa using hb), List.getElem?_map, List.getElem?_eq_getElem hb, ← slotAt_join]
          rfl
        rw [e1, e2]
        have sl := r1.slot js[k]
        cases e : gt ρ1 js[k] with
        | d y =>
          rw [e] at sl
          obtain ⟨u, e3, r⟩ := sl
          exact ⟨u, e3, r.mono s⟩
        | ad a => rw [e] at sl; exact sl
        | _ => trivial
      · have e1 : gt (caps ρ1 js ++ List.replicate (NL.length - 1 - js.length) SD.no) k = .no := by
          obtain ⟨i, rfl⟩ : ∃ i, k = (caps ρ1 js).length + i := ⟨k - (caps ρ1 js).length, by unfold caps; rw [List.length_map]; omega⟩
          rw [gt_app, gt_rep0]
        rw [e1]; trivial
  · have z := nO a
    rw [isW_O e] at z
    cases z
end
section
variable {X : Cx} {c : C} {k : Nat} {x pv pl pp : Str} {g : Addr} {fdg : FuncData} {sg : Stmt} {Ng : List Str} {e : Expr} {w1 : DW} {cc P : Addr} {params : Arguments} {body : Expr} {scope : Scope} {at_ : Str} {NL fr : List Str} {js : List Nat} {wb : DW} {wg : DW → DS} {p lpos pos : Pos}
abbrev lamF (X : Cx) (params : Arguments) (scope : Scope) (c1 : Addr) : NF := ⟨"<lambda>", X.env.qual ++ "<lambda>", params, [], scope, cloFrom X.env.cells scope.names [], c1⟩
theorem pd_lamC (hr : Room (k + 2) X.A) (hg : Gl X x) (D : DefT X.K X.mg x sg g fdg [pv, pl]) (Sc : FnScope Ng [pv, pl] (defScope sg)) (hN2 : 2 ≤ Ng.length) (hN3 : Ng[2]? = some pp) (hvl : Vis (defScope sg) pl) (hvp : Vis (defScope sg) pp)
    (hbody : ∀ (Z : Cx) (c' : C) (wL : DW), (∃ cdv A outer s H E, Z = cxOf (L2.CX X.prog X.w) X.prog X.w X.K X.mg X.base Ng x (defScope sg) g cdv A outer s H E) → Room (k + 1) Z.A →
      (∀ p1 p2 p3, PD c' Z (.Call (.Name pl p1) [.Name pp p2] [] p3) wL) → PDB c' Z (defBody sg) (wg wL))
    (he : PD c X e w1) (TB : LamX.TabB X.base X.mg cc P) (hcode : X.env.code = .ref cc) (hmT : (P, X.env.qual ++ "<lambda>") ∈ Tabl.T) (hu : ∀ p ∈ Tabl.T, p.1 = P → p.2 = X.env.qual ++ "<lambda>")
    (hdef : defaultsOf params X.env = ([], [])) (NS : NScope NL [at_] fr scope) (hfree : ∀ y ∈ scope.names, y.2 = .free → X.env.scope.names.lookup y.1 = some .cell ∨ X.env.scope.names.lookup y.1 = some .free)
    (hfr : ∀ y ∈ fr, (y, NameKind.free) ∈ scope.names) (hjs : js.map (fun j => X.N[j]?) = fr.map some)
    (hbind : ∀ (q : Str) (cl : List (Str × Addr)) (pm cv ctv u : Value), bindArgs (PySem.W.kla_fn "<lambda>" q params body scope cl pm cv ctv) ⟨[u], []⟩ = pure [(at_, u)])
    (hlb : ∀ (c' : C), c'.g = c.g → ∀ (A : Around) (outer : List Env) (s : Shared) (H : Hp) (f c1 : Addr), Room k (A.deeper (envF (lamF X params scope c1) f s.heap.objs.size)) →
      PD c' (ncx (L2.CX X.prog X.w) X.prog X.w X.K X.mg X.base NL (lamF X params scope c1) f A outer s H E0) body wb)
    (hdb : (x == ("__debug__" : Str)) = false := by decide) (hd1 : (pl == ("__debug__" : Str)) = false := by decide) (hc1 : (pl == ("__classdict__" : Str)) = false := by decide) (hd2 : (pp == ("__debug__" : Str)) = false := by decide) (hc2 : (pp == ("__classdict__" : Str)) = false := by decide)
    (he1 : starEach [e, .Lambda params body scope lpos] X.env = (false, eval e X.env) :: starEach [.Lambda params body scope lpos] X.env := by rfl) :
    PD c X (.Call (.Name x p) [e, .Lambda params body scope lpos] [] pos) (wLamC w1 js (NL.length - 1 - js.length) Ng.length wb wg) := by
  have jl : js.length = fr.length := by
    have q := congrArg List.length hjs
    rwa [List.length_map, List.length_map] at q
  have nl : 1 + js.length ≤ NL.length := by
    have q := congrArg List.length NS.pre
    rw [List.length_take, List.length_append] at q
    rw [jl]
    simp at q
    omega
  have hN1 : Ng[1]? = some pl := by
    have q := congrArg (fun l => l[1]?) Sc.pre
    simp only [List.length_cons, List.length_nil, List.getElem?_take_of_lt (show 1 < 0 + 1 + 1 by decide)] at q
    exact q
  have mB : Mono wb := (hlb c rfl { X.A with depth := 0, units := 0 } [] X.s_0 X.H_0 0 0 ⟨⟨hr.hd, by have := hr.dp; show 0 + 1 + 3 * k + 5 < _; omega, by have := hr.un; show 0 + 3 + 16 * k + 200 < _; omega⟩, hr.gd⟩).mo
  have mG : ∀ wL, Mono wL → MonoS (wg wL) := fun wL hL => by
    refine (hbody (cxOf (L2.CX X.prog X.w) X.prog X.w X.K X.mg X.base Ng x (defScope sg) g .none { X.A with frames := none } [] X.s_0 X.H_0 E0) c wL ⟨_, _, _, _, _, _, rfl⟩ ?_ fun p1 p2 p3 => ⟨⟨fun pins s σ H Q I _ => ?_⟩, hL⟩).mo
    · exact ⟨⟨hr.hd, by have := hr.dp; show X.A.depth + 1 + 3 * (k + 1) + 5 < _; omega, by have := hr.un; show X.A.units + 3 + 16 * (k + 1) + 200 < _; omega⟩, hr.gd⟩
    · have z := I.ok.frames
      cases z
  refine ⟨⟨fun pins s σ H Q I ⟨F0, ρ, rl, q⟩ => ?_⟩, fun ρ Q Q' h q => he.mo _ _ _ (fun d ρ1 q f => mG _ (mo_LamV mB) { nx := fun _ => Q .non ρ1, rt := fun d => Q d ρ1 } { nx := fun _ => Q' .non ρ1, rt := fun d => Q' d ρ1 } _ ⟨fun _ => h _ _, fun d => h d ρ1, fun _ z => z, fun _ z => z⟩ (q f)) q⟩
  refine wpAny_Call_Name_kw (ld_glob I hg D.g ?_ hdb)
  refine PySem.W.callWith_K (h₀ := X.base) I.ok.mod.kin D.k ?_ he1 (by rfl)
  rw [he1]
  show wpAny _ _ (spliced ((false, eval e X.env) :: (false, eval (.Lambda params body scope lpos) X.env) :: backTo pos (starEach [] X.env))) _ _ s
  refine Calls.spliced_cons (thn (he.pe.run pins s σ H (fun v H1 => ∃ F1 ρ1 d, Rel X.K c F1 σ H1 ρ1 ∧ Same F0 F1 ∧ Rep X.K c.g F1 v d ∧ ∀ f : Addr, wg (wLamV f (caps ρ1 js) (NL.length - 1 - js.length) wb) { nx := fun _ => ∀ v F' H', Rel X.K c F' σ H' ρ1 → Same F0 F' → Rep X.K c.g F' v .non → Q v H', rt := fun d => ∀ v F' H', Rel X.K c F' σ H' ρ1 → Same F0 F' → Rep X.K c.g F' v d → Q v H' } (.d d :: .ad f :: List.replicate (Ng.length - 2) .no)) I
    ⟨F0, ρ, rl, he.mo _ _ _ (fun d ρ1 q v F1 H1 r1 s1 e1 => ⟨F1, ρ1, d, r1, s1, e1, q⟩) q⟩) fun u1 s1 ⟨v, H1, I1, r1, F1, ρ1, d, rl1, sF, rep, q1⟩ => ?_)
  obtain ⟨_, ps, hP, ht, ha⟩ := rl1.step.hand.2 _ hmT
  have hfc : ∀ y ∈ scope.names, y.2 = .free → ∃ c, X.env.cells.lookup y.1 = some c := fun y hy z => (hfree y hy z).elim (fun z => I.ok.has y.1 (.inl z)) fun z => I.ok.has y.1 (.inr z)
  refine Calls.spliced_cons (lam_make1 (fun a => F1 a = some (LamX.CodeO a (X.env.qual ++ "<lambda>"))) I1 TB hcode rfl hP ht ha hdef hfc fun f c1 pm ctv H2 s2 I2 md hf hfn hfo => ?_)
  refine Calls.spliced_nil ⟨I2.kIn, ?_⟩
  obtain ⟨F2, s12, rl2, hco⟩ := made_rel rl1 md hmT hu
  have C0 : CellsAt (cloFrom X.env.cells scope.names []) fr (js.map (NdefX.slotAt σ)) s2.heap H2 := cells_of I2 (Caps.made I2.ok hfree hfr hjs)
  obtain ⟨oc, od, kV, doc, pmg, an, cdv, ct, osl, rfl, lk, hcd⟩ := D.F.ex
  have rc : codeAny (model X.prog X.w) X.A (.call (.ref g) ⟨[u1, .ref f], []⟩) (CR (L2.CX X.prog X.w) X.stack X.prog X.w H2 s2 Q E0) s2 := by
    refine LamX.run_ofS (N := Ng) (ps := [pv, pl]) (us := [u1, .ref f]) (vs := [v, .ref f]) lk hcd Sc hr.toRoom I2.env0 (D.b s2 [u1, .ref f] I2.kIn rfl) (.cons r1 (.cons rfl .nil)) rfl fun _ => ?_
    have rZ := hr.deeper (envOfC x (defScope sg) s2.heap.objs.size g cdv)
    have HB := hbody (cxOf (L2.CX X.prog X.w) X.prog X.w X.K X.mg X.base Ng x (defScope sg) g cdv X.A X.stack s2 H2 E0) ⟨c.g, F2, H2⟩ (wLamV f (caps ρ1 js) (NL.length - 1 - js.length) wb) ⟨_, _, _, _, _, _, rfl⟩ rZ (fun p1 p2 p3 => ⟨⟨fun pinsZ sZ σZ HZ QZ IZ ⟨FZ, ρZ, rZl, qZ⟩ => ?_⟩, mo_LamV mB⟩)
    · refine ⟨_, HB.pe, F2, .d d :: .ad f :: List.replicate (Ng.length - 2) .no, ?_, HB.mo { nx := fun _ => ∀ v F' H', Rel X.K c F' σ H' ρ1 → Same F0 F' → Rep X.K c.g F' v .non → Q v H', rt := fun d => ∀ v F' H', Rel X.K c F' σ H' ρ1 → Same F0 F' → Rep X.K c.g F' v d → Q v H' } _ _ ⟨fun _ q σ' F' H' r' s' => ?_, fun d q v F' H' st e => ?_, fun _ z => z.elim, fun _ z => z.elim⟩ (q1 f)⟩
      · have r0 : Rel X.K ⟨c.g, F2, H2⟩ F2 (start Ng [v, .non]) H2 ([d, PL.D.non].map SD.d ++ List.replicate (Ng.length - 2) .no) :=
          start_rel (c := ⟨c.g, F2, H2⟩) (ds := [d, .non]) (Step.refl rl2.step.fh rl2.step.hand) (.cons (rep.mono s12) (.cons .non .nil)) hN2
        exact r0.seta (i := 1) (a := f)
      · exact q _ F' H' (rl2.after r'.step) (sF.trans (s12.trans s')) .non
      · exact q v F' H' (rl2.after st) (sF.trans (s12.trans st.ff)) e
    · obtain ⟨e1, qZ⟩ := qZ
      split at qZ
      rotate_left
      · exact qZ.elim
      rename_i xk e2
      have sl1 := rZl.slot 1
      rw [e1] at sl1
      have sl2 := rZl.slot 2
      rw [e2] at sl2
      obtain ⟨vx, e3, rx⟩ := sl2
      refine wpAny_Call_Name_kw (thn ((pe_var (pos := p1) (i := 1) hN1 hvl hd1 hc1).run pinsZ sZ σZ HZ (fun v H1 => v = .ref f ∧ H1 = HZ) IZ ⟨.ref f, join_some sl1, rfl, rfl⟩) fun u s3 ⟨v3, H3, I3, r3, q3⟩ => ?_)
      obtain ⟨ev, eH⟩ := q3
      subst ev
      rw [eH] at I3
      obtain rfl : u = Value.ref f := r3
      have noex : ∀ b, b ∉ (cxOf (L2.CX X.prog X.w) X.prog X.w X.K X.mg X.base Ng x (defScope sg) g cdv X.A X.stack s2 H2 E0).ex := fun b z => nomatch (show b ∈ ([] : List Addr) from z)
      have of3 := I3.base.keep f _ hf hfn hfo (noex f)
      refine PySem.W.callWith_F (first := []) ⟨_, _, _, _, of3⟩ (thn ((pa_cons (pe_var (pos := p2) (i := 2) hN3 hvp hd2 hc2) pa_nil rfl).run p3 pinsZ s3 σZ HZ (fun vs H1 => vs = [vx] ∧ H1 = HZ) I3 ⟨vx, join_some e3, rfl, rfl⟩) fun us s4 ⟨vs, H4, I4, r4, ev, eH⟩ => ?_) rfl rfl
      subst ev
      rw [eH] at I4
      have of4 := I4.base.keep f _ hf hfn hfo (noex f)
      refine ⟨⟨_, _, _, _, of4⟩, ?_⟩
      obtain ⟨uk, rfl, rv⟩ : ∃ uk, us = [uk] ∧ RelV vx uk := by
        cases r4 with
        | cons rv rn => cases rn; exact ⟨_, rfl, rv⟩
      have hcZ : HZ c1 = some (LamX.CodeO c1 (X.env.qual ++ "<lambda>")) := rZl.step.fh _ _ (rZl.step.ff _ _ hco)
      obtain ⟨⟨oc1, vs1, t1, ho1, hd1', hv1⟩, _, _⟩ := I4.hok c1 _ hcZ
      have C4 := cells_later C0 rfl I4
      have rc2 : codeAny (model X.prog X.w) (X.A.deeper (envOfC x (defScope sg) s2.heap.objs.size g cdv)) (.call (.ref f) ⟨[uk], []⟩) (CR (L2.CX X.prog X.w) (envOfC x (defScope sg) s2.heap.objs.size g cdv :: X.stack) X.prog X.w HZ s4 QZ E0) s4 := by
        refine PySem.W.kla_callFunE rZ.toRoom.depth of4 rfl NS.co NS.gen rfl ⟨c1, oc1, vs1, t1, rfl, ho1, hd1', hv1⟩ ?_
        rw [hbind]
        refine wpAny_pure (wpAny_newFunctionEnv NS.nocell (fun y hy => ?_) (fun h₁ hns hsb => ⟨I4.nolimit.fresh _ hsb, ?_⟩) NS.kind)
        · rw [List.mem_singleton.mp hy]
          exact NS.par at_ (by simp)
        · show codeAny _ _ (.expr body (envF (lamF X params scope c1) f s4.heap.objs.size)) _ _
          have kp : ∀ b o, s4.heap.get? b = some o → h₁.get? b = some o := fun b o z => hsb.extBut b o (Nat.ne_of_lt (Heap.lt_size z)) (Heap.get?_push_of_some _ z)
          have J := inv_startN (CX := L2.CX X.prog X.w) (N := NL) (F := lamF X params scope c1) (f := f) (E := E0) (us := [uk]) (vs := [vx]) (tk := s4.toks + [(at_, uk)].length) NS rZ.hd I4.env0 rfl (.cons rv .nil) C4 hns kp
          have PB := hlb ⟨c.g, FZ, HZ⟩ rfl (X.A.deeper (envOfC x (defScope sg) s2.heap.objs.size g cdv)) (envOfC x (defScope sg) s2.heap.objs.size g cdv :: X.stack) s4 HZ f c1 (rZ.deeper _)
          have RL := lam_rel (NL := NL) (js := js) (rl1.after (⟨Same.refl _, rl1.step.fh, fun _ _ z _ => z, fun _ _ z => .inl z, rl1.step.hand⟩ : Step c.g F1 H1 F1 H1)) (s12.trans rZl.step.ff) rZl.step.fh rZl.step.hand rx nl
          refine PySem.W.kla_codeExpr (wpAny_mono (PB.pe.run [] _ _ HZ QZ J ⟨FZ, _, RL, PB.mo _ _ _ (fun r ρ' q v F' H' r' s' e' => q v F' H' (rZl.after r'.step) s' e') qZ⟩) (fun v s' hq => ?_) fun _ _ hq => hq)
          obtain ⟨w', H', J', rv', q'⟩ := hq
          exact ⟨w', H', J'.os, J'.bare, J'.base, J'.hok, rv', q'⟩
      refine wpAny_call (codeAny_mono rc2 fun r s' hq => ?_)
      rcases r with er | fl
      · exact passL pinsZ σZ HZ s4 er s' I4 hq
      · rcases fl with _ | _ | _ | u
        all_goals first | exact I4.after hq | exact (show False from hq).elim
  refine wpAny_call (codeAny_mono rc fun r s' hq => ?_)
  rcases r with er | fl
  · exact passL pins σ H2 s2 er s' I2 hq
  · rcases fl with _ | _ | _ | u
    all_goals first | exact I2.after hq | exact (show False from hq).elim
end
end PL
end L2

namespace L2
namespace PL
open PySem PySem.Spec PyProof.Rows
variable [Tabl]
/-! data: its text, its order, what it holds; whether an own object holds something -/
/-! ### repr -/
structure Shows (p : PyData) : Prop where
  sh : p.showable = true
  nd : p.hasDict = false
  dp : p.depth ≤ 60
  sz : p.shown.length ≤ 16777216
section
variable {X : Cx} {c : C} {k : Nat}
def rRepr (K : PySem.W.Frag) : List V → Hp → VK → Prop := fun xs H Q => ∃ x d, xs = [x] ∧ Dp K H x d ∧ Shows d ∧ Q (.str d.shown) H
theorem cr_repr (hr : Room k X.A) : CallR X (.builtin "repr") (rRepr X.K) := by
  intro pins s σ H xs us Q I r h
  obtain ⟨x, d, rfl, hd, S, q⟩ := h
  obtain ⟨u, rfl, rx⟩ := vals1 r
  obtain ⟨as, ra⟩ := Dp.reads I d x u hd rx
  have fin : ∀ (t : Tok), EP X pins σ Q (.str d.shown t) { s with toks := s.toks + 1 } := fun t => ⟨.str _, H, I.tok _, ⟨t, rfl⟩, q⟩
  have ref : ∀ a, u = .ref a → wpAny (model X.prog X.w) X.A (call (.builtin "repr") [u]) (EP X pins σ Q) X.xe s := fun a e => by
    subst e
    refine repr_of_reads' ra S.sh (fun z => by rw [S.nd] at z; cases z) hr.gd ?_ (fun b o z => z) (fun h' t tk hk => ?_) (by rw [sizeLine_eq]; exact S.sz)
    · have := hr.toRoom.units
      have := S.dp
      omega
    · exact ⟨.str _, H, I.kept hk, ⟨t, rfl⟩, q⟩
  have hs := S.sh
  cases hd with
  | non => cases rx; exact PySem.P.repr_of_none (fin _)
  | bl b => cases rx; exact PySem.P.repr_of_bool (fin _)
  | int i =>
    obtain ⟨t, rfl⟩ := (show ∃ t, u = Value.int i t from rx)
    exact PySem.P.repr_of_int (by simpa [PyData.showable] using hs) (fin _)
  | str i =>
    obtain ⟨t, rfl⟩ := (show ∃ t, u = Value.str i t from rx)
    exact PySem.P.repr_of_str (fin _) (by rw [sizeLine_eq]; exact S.sz)
  | lst _ _ => exact ref _ rx
  | tup _ _ => exact ref _ rx
def fRepr : List D → R1
  | [d] => match toPy d with
    | some p => .gd (Shows p) (.str p.shown)
    | none => .no
  | _ => .no
theorem br_repr : BrC c X.K (rRepr X.K) fRepr := by
  intro F σ H ρ vs ds Q rl r q
  cases r with
  | nil => exact (show False from q).elim
  | cons r1 r2 => cases r2 with
    | cons _ _ => exact (show False from q).elim
    | nil =>
      rename_i v d
      unfold fRepr at q
      simp only at q
      cases e : toPy d with
      | none => rw [e] at q; exact (show False from q).elim
      | some p =>
        rw [e] at q
        exact ⟨_, p, rfl, r1.dp rl.step.fh e, q.1, q.2 _ F H rl (Same.refl _) (.str _)⟩
variable {x : Str} {p pos : Pos} {e : Expr} {es : List Expr} {wr : DA}
theorem pd_repr (hr : Room k X.A) (hg : Gl X "repr") (hm : X.mg "repr" = none) (ha : PDA c X (e :: es) wr) (he : starEach (e :: es) X.env = (false, eval e X.env) :: starEach es X.env := by rfl) (hpl : (backTo pos (starEach es X.env)).any (·.1) = false := by rfl) :
    PD c X (.Call (.Name "repr" p) (e :: es) [] pos) (wCal fRepr wr) := pd_calB (cr_repr hr) br_repr hg hm (by decide +kernel) ha (he := he) (hpl := hpl)
/-! ### a < b -/
def rLtD (K : PySem.W.Frag) : R2 := fun x y H Q => ∃ a b, Dp K H x a ∧ Dp K H y b ∧ PySem.W.alike a b = true ∧ a ≠ .none ∧ min a.depth b.depth ≤ 60 ∧ Q (.bl (PySem.W.dataLt a b)) H
theorem op_ltD (hu : X.A.units + 64 < cLine) : OpR X (compareOp .Lt) (rLtD X.K) := by
  intro pins s σ H x y v u Q I rx ry h
  obtain ⟨a, b, ha, hb, h1, h2, h3, q⟩ := h
  obtain ⟨as, ra⟩ := Dp.reads I a x v ha rx
  obtain ⟨bs, rb⟩ := Dp.reads I b y u hb ry
  exact PySem.W.lt_data ra rb h1 h2 (by omega) ⟨.bl _, H, I, rfl, q⟩
def fLtD (a b : D) : R1 := match toPy a, toPy b with
  | some x, some y => .gd (PySem.W.alike x y = true ∧ x ≠ .none ∧ min x.depth y.depth ≤ 60) (.bl (PySem.W.dataLt x y))
  | _, _ => .no
theorem br_ltD : BrO c X.K (rLtD X.K) fLtD := by
  intro F σ H ρ x y a b Q rl r1 r2 q
  unfold fLtD at q
  split at q
  · rename_i p1 p2 e1 e2
    obtain ⟨⟨s1, s2, s3⟩, q⟩ := q
    exact ⟨p1, p2, r1.dp rl.step.fh e1, r2.dp rl.step.fh e2, s1, s2, s3, q _ F H rl (Same.refl _) (.bl _)⟩
  · exact (show False from q).elim
variable {a b : Expr} {wa wb : DW}
theorem pd_ltD (hr : Room k X.A) (ha : PD c X a wa) (hb : PD c X b wb) (hm : behindInMarks .Lt b = false := by rfl) : PD c X (.Compare a [.Lt] [b] pos) (wOp fLtD wa wb) := pd_cmp (op_ltD hr.toRoom.units) br_ltD ha hb hm
/-! ### x in l -/
def rInDA (neg : Bool) (K : PySem.W.Frag) : R2 := fun x y H Q => ∃ d ds y', Dp K H x d ∧ Dp K H y y' ∧ (y' = .list ds ∨ y' = .tuple ds) ∧ d.plain = true ∧ PyData.plainAll ds = true ∧ d.depth ≤ 60 ∧ Q (.bl (neg ^^ ds.any fun z => PyData.eqv z d)) H
theorem op_inDA (hu : X.A.units + 64 < cLine) : OpR X (compareOp .In) (rInDA false X.K) := by
  intro pins s σ H x y v u Q I rx ry h
  obtain ⟨d, ds, y', hd, he, hy, sd, se, hp, q⟩ := h
  obtain ⟨as, r1⟩ := Dp.reads I d x v hd rx
  obtain ⟨bs, r2⟩ := Dp.reads I y' y u he ry
  rw [Bool.false_xor] at q
  have hq : EP X pins σ Q (.bool (ds.any fun z => PyData.eqv z d)) s := ⟨.bl _, H, I, rfl, q⟩
  rcases hy with rfl | rfl
  · exact SeqAt.in_list_data r2 r1 se sd (by omega) hq
  · exact SeqAt.in_tuple_data r2 r1 se sd (by omega) hq
theorem op_notInDA (hu : X.A.units + 64 < cLine) : OpR X (compareOp .NotIn) (rInDA true X.K) := by
  intro pins s σ H x y v u Q I rx ry h
  obtain ⟨d, ds, y', hd, he, hy, sd, se, hp, q⟩ := h
  obtain ⟨as, r1⟩ := Dp.reads I d x v hd rx
  obtain ⟨bs, r2⟩ := Dp.reads I y' y u he ry
  rw [Bool.true_xor] at q
  have hq : EP X pins σ Q (.bool (!ds.any fun z => PyData.eqv z d)) s := ⟨.bl _, H, I, rfl, q⟩
  rcases hy with rfl | rfl
  · exact SeqAt.notIn_list_data r2 r1 se sd (by omega) hq
  · exact SeqAt.notIn_tuple_data r2 r1 se sd (by omega) hq
def fInND (neg : Bool) (x y : D) : R1 := match toPy x, toPy y with
  | some d, some (.list ds) => .gd (d.plain = true ∧ PyData.plainAll ds = true ∧ d.depth ≤ 60) (.bl (neg ^^ ds.any fun z => PyData.eqv z d))
  | some d, some (.tuple ds) => .gd (d.plain = true ∧ PyData.plainAll ds = true ∧ d.depth ≤ 60) (.bl (neg ^^ ds.any fun z => PyData.eqv z d))
  | _, _ => .no
theorem br_inDA {neg : Bool} : BrO c X.K (rInDA neg X.K) (fInND neg) := by
  intro F σ H ρ x y a b Q rl r1 r2 q
  unfold fInND at q
  split at q
  · rename_i p1 ds e1 e2
    obtain ⟨⟨s1, s2, s3⟩, q⟩ := q
    exact ⟨p1, ds, _, r1.dp rl.step.fh e1, r2.dp rl.step.fh e2, .inl rfl, s1, s2, s3, q _ F H rl (Same.refl _) (.bl _)⟩
  · rename_i p1 ds e1 e2
    obtain ⟨⟨s1, s2, s3⟩, q⟩ := q
    exact ⟨p1, ds, _, r1.dp rl.step.fh e1, r2.dp rl.step.fh e2, .inr rfl, s1, s2, s3, q _ F H rl (Same.refl _) (.bl _)⟩
  · exact (show False from q).elim
theorem pd_inD (hr : Room k X.A) (ha : PD c X a wa) (hb : PD c X b wb) (hm : behindInMarks .In b = false := by rfl) : PD c X (.Compare a [.In] [b] pos) (wOp (fInND false) wa wb) := pd_cmp (op_inDA hr.toRoom.units) br_inDA ha hb hm
theorem pd_notinD (hr : Room k X.A) (ha : PD c X a wa) (hb : PD c X b wb) (hm : behindInMarks .NotIn b = false := by rfl) : PD c X (.Compare a [.NotIn] [b] pos) (wOp (fInND true) wa wb) := pd_cmp (op_notInDA hr.toRoom.units) br_inDA ha hb hm
/-! ### x in an own object -/
def wInO (neg : Bool) (S : Spec) (C : Addr) (wa wb : DW) : DW := fun ρ Q => wa ρ fun x ρ1 => wb ρ1 fun y ρ2 => (∃ ns l, y = .obj C ns l) ∧ Call S [y, x] (fun d => ∃ k : Bool, d = .bl k ∧ Q (.bl (neg ^^ k)) ρ2) fun _ => False
theorem mo_InO {neg : Bool} {S : Spec} {C : Addr} (hS : MonoSp S) (ha : Mono wa) (hb : Mono wb) : Mono (wInO neg S C wa wb) := fun ρ Q Q' k q => ha _ _ _ (fun d ρ1 q => hb _ _ _ (fun ds ρ2 q => ⟨q.1, ⟨hS _ _ _ _ _ (fun d ⟨j, e, q⟩ => ⟨j, e, k _ _ q⟩) (fun _ h => h) q.2.h⟩⟩) q) q
section
variable {f C : Addr} {fd : FuncData} {ps : List Str} {S : Spec}
theorem inO_read (ha : PD c X a wa) (hb : PD c X b wb) (hS : MonoSp S) {neg : Bool} {σ : St} {H F0 : Hp} {ρ : List SD} {Q : VK} (rl : Rel X.K c F0 σ H ρ)
    (q : wInO neg S C wa wb ρ fun d ρ' => ∀ v F' H', Rel X.K c F' σ H' ρ' → Same F0 F' → Rep X.K c.g F' v d → Q v H') :
    tOf X.K c wa σ H fun x H1 => tOf X.K c wb σ H1 fun y H2 => ∃ (p dx : Addr) (fs : List (Str × V)), y = .ref p ∧ H2 p = some (.ins C dx fs) ∧ spG X.K S [y, x] H2 (fun v H' => ∃ k : Bool, v = .bl k ∧ Q (.bl (neg ^^ k)) H') E0 := by
  refine ⟨F0, ρ, rl, ha.mo _ _ _ (fun x ρ1 q v F1 H1 r1 s1 e1 => ?_) q⟩
  refine ⟨F1, ρ1, r1, hb.mo _ _ _ (fun y ρ2 q u F2 H2 r2 s2 e2 => ?_) q⟩
  obtain ⟨⟨ns, l, rfl⟩, q⟩ := q
  have e1 := Rep.mono s2 e1
  cases e2 with
  | obj g1 g2 g3 =>
    refine ⟨_, _, _, rfl, r2.step.fh _ _ g1, c.g, F2, [.obj C ns l, x], r2.step.fh, r2.step.hand, .cons (.obj g1 g2 g3) (.cons e1 .nil), hS _ _ _ _ _ (fun d ⟨j, e, q⟩ => ?_) (fun _ z => z.elim) q.h⟩
    subst e
    intro v F' H' st rp
    cases rp
    exact ⟨j, rfl, q _ F' H' (r2.after st) ((s1.trans s2).trans st.ff) (.bl _)⟩
theorem in_run {neg : Bool} (h1 : PySem.W.findIn X.K (.ref C) "__contains__" = some (some (.ref f))) (h2 : PySem.W.isFn X.K (.ref f) = true) (F : FnOk X.prog X.w X.K X.mg X.base (L2.CX X.prog X.w) k f fd ps (spG X.K S)) (hr : Room k X.A) (hb : Binds X.K fd ps [])
    {pins : List (Addr × Obj)} {σ : St} {H2 : Hp} {s2 : Shared} {x y : V} {v u : Value} {Q : VK} (I2 : Inv X pins σ H2 s2) (rx : RelV x v) (ry : RelV y u)
    (q : ∃ (p dx : Addr) (fs : List (Str × V)), y = .ref p ∧ H2 p = some (.ins C dx fs) ∧ spG X.K S [y, x] H2 (fun v H' => ∃ k : Bool, v = .bl k ∧ Q (.bl (neg ^^ k)) H') E0) :
    wpAny (model X.prog X.w) X.A (compareOp (if neg then .NotIn else .In) v u) (EP X pins σ Q) X.xe s2 := by
  obtain ⟨p, dx, fs, rfl, i1, q⟩ := q
  obtain rfl : u = Value.ref p := ry
  obtain ⟨mA, J, _⟩ := ins_get I2.hok i1
  obtain ⟨od, J, _⟩ := J.look
  obtain ⟨m, hF⟩ := I2.fr
  have run := PL.run_fnSD (E := fun _ => E0) (dvs := []) (ds := []) F hr hb .nil (fun pins H s e s' I h => passL pins σ H s e s' I h) I2 (us := [.ref p, v]) (vs := [.ref p, x]) (.cons rfl (.cons rx .nil)) q
  have fin : ∀ w s', EP X pins σ (fun v H' => ∃ k : Bool, v = .bl k ∧ Q (.bl (neg ^^ k)) H') w s' → wpAny (model X.prog X.w) X.A (truthy w) (fun b => EP X pins σ Q (.bool (neg ^^ b))) X.xe s' := fun w s' ⟨z, H', I', rz, kk, e, qz⟩ => by
    subst e
    obtain rfl : w = Value.bool kk := rz
    exact wpAny_truthy_bool ⟨.bl _, H', I', rfl, qz⟩
  cases neg with
  | true => exact PySem.W.notIn_K hF I2.ok.mod.kin J h1 h2 (wpAny_mono run (fun w s' h => wpAny_mono (fin w s' h) (fun b s'' h => by simpa using h) fun _ _ z => z) fun _ _ z => z)
  | false => exact PySem.W.in_K hF I2.ok.mod.kin J h1 h2 (wpAny_mono run (fun w s' h => wpAny_mono (fin w s' h) (fun b s'' h => by simpa using h) fun _ _ z => z) fun _ _ z => z)
theorem pd_inO (h1 : PySem.W.findIn X.K (.ref C) "__contains__" = some (some (.ref f))) (h2 : PySem.W.isFn X.K (.ref f) = true) (F : FnOk X.prog X.w X.K X.mg X.base (L2.CX X.prog X.w) k f fd ps (spG X.K S)) (hS : MonoSp S) (hr : Room k X.A) (hbd : Binds X.K fd ps [])
    (ha : PD c X a wa) (hb : PD c X b wb) (hm : behindInMarks .In b = false := by rfl) : PD c X (.Compare a [.In] [b] pos) (wInO false S C wa wb) := by
  refine ⟨⟨fun pins s σ H Q I ⟨F0, ρ, rl, q⟩ => ?_⟩, mo_InO hS ha.mo hb.mo⟩
  exact wpAny_Compare1 (binT (R := fun x y H2 => ∃ (p dx : Addr) (fs : List (Str × V)), y = .ref p ∧ H2 p = some (.ins C dx fs) ∧ spG X.K S [y, x] H2 (fun v H' => ∃ k : Bool, v = .bl k ∧ Q (.bl (false ^^ k)) H') E0) ha.pe hb.pe I (inO_read ha hb hS rl q) fun v u s2 x y H2 I2 rx ry q => in_run (neg := false) h1 h2 F hr hbd I2 rx ry q) hm
theorem pd_notinO (h1 : PySem.W.findIn X.K (.ref C) "__contains__" = some (some (.ref f))) (h2 : PySem.W.isFn X.K (.ref f) = true) (F : FnOk X.prog X.w X.K X.mg X.base (L2.CX X.prog X.w) k f fd ps (spG X.K S)) (hS : MonoSp S) (hr : Room k X.A) (hbd : Binds X.K fd ps [])
    (ha : PD c X a wa) (hb : PD c X b wb) (hm : behindInMarks .NotIn b = false := by rfl) : PD c X (.Compare a [.NotIn] [b] pos) (wInO true S C wa wb) := by
  refine ⟨⟨fun pins s σ H Q I ⟨F0, ρ, rl, q⟩ => ?_⟩, mo_InO hS ha.mo hb.mo⟩
  exact wpAny_Compare1 (binT (R := fun x y H2 => ∃ (p dx : Addr) (fs : List (Str × V)), y = .ref p ∧ H2 p = some (.ins C dx fs) ∧ spG X.K S [y, x] H2 (fun v H' => ∃ k : Bool, v = .bl k ∧ Q (.bl (true ^^ k)) H') E0) ha.pe hb.pe I (inO_read ha hb hS rl q) fun v u s2 x y H2 I2 rx ry q => in_run (neg := true) h1 h2 F hr hbd I2 rx ry q) hm
end
end
end PL
end L2

namespace L2
namespace PL
open PySem PySem.Spec PyProof.Rows
variable [Tabl]
/-! data that can be compared and shown -/
mutual
/-- no instance in it, its numbers not too great -/
def gD : D → Bool
  | .non => true
  | .bl _ => true
  | .int i => decide (i.natAbs < 2 ^ 1000)
  | .str x => PyData.strOk x
  | .tup l => gDs l
  | .lst l => gDs l
  | _ => false
def gDs : List D → Bool
  | [] => true
  | d :: l => gD d && gDs l
end
mutual
/-- how much there is in it -/
def bkD : D → Nat
  | .str x => x.cps.size
  | .tup l => bkDs l
  | .lst l => bkDs l
  | _ => 0
def bkDs : List D → Nat
  | [] => 0
  | d :: l => bkD d + 1 + bkDs l
end
mutual
def dpD : D → Nat
  | .tup l => dpDs l + 1
  | .lst l => dpDs l + 1
  | _ => 0
def dpDs : List D → Nat
  | [] => 0
  | d :: l => max (dpD d) (dpDs l)
end
mutual
/-- no True or False in it -/
def nbD : D → Bool
  | .non => true
  | .int _ => true
  | .str _ => true
  | .tup l => nbDs l
  | .lst l => nbDs l
  | _ => false
def nbDs : List D → Bool
  | [] => true
  | d :: l => nbD d && nbDs l
end
structure Py (d : D) (p : PyData) : Prop where
  e : toPy d = some p
  lay : p.canLay0 = true
  pl : p.plain = true
  sh : p.showable = true
  nd : p.hasDict = false
  lv : p.leavesShort 1010 = true
  bk : p.bulk = bkD d
  dp : p.depth = dpD d
structure Pys (d : List D) (p : List PyData) : Prop where
  e : toPys d = some p
  lay : PyData.canLayAll0 p = true
  pl : PyData.plainAll p = true
  sh : PyData.showableAll p = true
  nd : PyData.hasDictAll p = false
  lv : PyData.leavesShortAll 1010 p = true
  bk : PyData.bulkAll p = bkDs d
  dp : PyData.depthAll p = dpDs d
theorem log_lt {n : Nat} (h : n < 2 ^ 1000) : n.log2 < 1920 := by
  by_cases z : n = 0
  · subst z; decide
  · have := (Nat.log2_lt z).mpr h
    omega
mutual
theorem gD_py : ∀ {d : D}, gD d = true → ∃ p, Py d p
  | .non, _ => ⟨.none, rfl, rfl, rfl, rfl, rfl, rfl, rfl, rfl⟩
  | .bl b, _ => ⟨.bool b, rfl, rfl, rfl, rfl, rfl, rfl, rfl, rfl⟩
  | .int i, h => by
    have h := of_decide_eq_true (show decide (i.natAbs < 2 ^ 1000) = true from h)
    refine ⟨.int i, rfl, rfl, rfl, ?_, rfl, ?_, rfl, rfl⟩
    · simpa [PyData.showable] using log_lt h
    · have hl := log_lt h
      have := int_text_length_le (a := i) (k := 1000) (by decide) (by
        by_cases z : i.natAbs = 0
        · rw [z]; decide
        · exact (Nat.log2_lt z).mpr h)
      have e : (PyData.shown (.int i)).length ≤ 1010 := by
        show (Str.ofString (toString i)).length ≤ 1010
        rw [PySem.ofString_length]
        omega
      simpa [PyData.leavesShort] using e
  | .str x, h => by
    have h : PyData.strOk x = true := h
    refine ⟨.str x, rfl, h, rfl, rfl, rfl, ?_, rfl, rfl⟩
    unfold PyData.strOk at h
    rw [← Array.all_toList, List.all_eq_true] at h
    simp only [PyData.leavesShort, List.all_eq_true, decide_eq_true_eq]
    intro c hc
    have := of_decide_eq_true (h c hc)
    omega
  | .tup l, h => by
    obtain ⟨ps, a⟩ := gDs_py (show gDs l = true from h)
    exact ⟨.tuple ps, by simp [toPy, a.e], a.lay, a.pl, a.sh, a.nd, a.lv, a.bk, by show PyData.depthAll ps + 1 = dpDs l + 1; rw [a.dp]⟩
  | .lst l, h => by
    obtain ⟨ps, a⟩ := gDs_py (show gDs l = true from h)
    exact ⟨.list ps, by simp [toPy, a.e], a.lay, a.pl, a.sh, a.nd, a.lv, a.bk, by show PyData.depthAll ps + 1 = dpDs l + 1; rw [a.dp]⟩
  | .obj _ _ _, h => by cases h
  | .tok _, h => by cases h
  | .scr _, h => by cases h
  | .fn _, h => by cases h
theorem gDs_py : ∀ {l : List D}, gDs l = true → ∃ p, Pys l p
  | [], _ => ⟨[], rfl, rfl, rfl, rfl, rfl, rfl, rfl, rfl⟩
  | d :: l, h => by
    have h : gD d = true ∧ gDs l = true := by simpa [gDs] using h
    obtain ⟨p, a⟩ := gD_py h.1
    obtain ⟨ps, b⟩ := gDs_py h.2
    exact ⟨p :: ps, by simp [toPys, a.e, b.e], by simp [PyData.canLayAll0, a.lay, b.lay], by simp [PyData.plainAll, a.pl, b.pl], by simp [PyData.showableAll, a.sh, b.sh], by simp [PyData.hasDictAll, a.nd, b.nd], by simp [PyData.leavesShortAll, a.lv, b.lv], by simp [PyData.bulkAll, bkDs, a.bk, b.bk], by simp [PyData.depthAll, dpDs, a.dp, b.dp]⟩
end
theorem gDs_all : ∀ {l : List D}, gDs l = true ↔ ∀ d ∈ l, gD d = true
  | [] => by simp [gDs]
  | d :: l => by simp [gDs, gDs_all (l := l)]
theorem nbDs_all : ∀ {l : List D}, nbDs l = true ↔ ∀ d ∈ l, nbD d = true
  | [] => by simp [nbDs]
  | d :: l => by simp [nbDs, nbDs_all (l := l)]
theorem bkDs_le {c : Nat} : ∀ {l : List D}, (∀ d ∈ l, bkD d ≤ c) → bkDs l ≤ l.length * (c + 1)
  | [], _ => by simp [bkDs]
  | d :: l, h => by
    have h1 := h d List.mem_cons_self
    have h2 := bkDs_le (l := l) fun x hx => h x (List.mem_cons_of_mem _ hx)
    rw [bkDs, List.length_cons, Nat.succ_mul]
    omega
theorem dpDs_le {c : Nat} : ∀ {l : List D}, (∀ d ∈ l, dpD d ≤ c) → dpDs l ≤ c
  | [], _ => by simp [dpDs]
  | d :: l, h => by
    have h1 := h d List.mem_cons_self
    have h2 := dpDs_le (l := l) fun x hx => h x (List.mem_cons_of_mem _ hx)
    rw [dpDs]
    omega
/-- what can be shown -/
structure ShD (d : D) : Prop where
  g : gD d = true
  b : bkD d ≤ 16000
  p : dpD d ≤ 60
theorem ShD.shows {d : D} (h : ShD d) : ∃ p, Py d p ∧ Shows p := by
  obtain ⟨p, a⟩ := gD_py h.g
  refine ⟨p, a, a.sh, a.nd, by rw [a.dp]; exact h.p, ?_⟩
  have := PyData.shown_le_bulk 1010 (by decide) p a.lv
  have hb := h.b
  rw [a.bk] at this
  have : 1012 * bkD d ≤ 1012 * 16000 := Nat.mul_le_mul_left _ hb
  omega
/-- its text -/
def showD (d : D) : Str := match toPy d with
  | some p => p.shown
  | none => Str.empty
theorem repr_run {d : D} {Q : D → Prop} (h : ShD d) (q : Q (.str (showD d))) : (fRepr [d]).run Q := by
  obtain ⟨p, a, s⟩ := h.shows
  have e : showD d = p.shown := by unfold showD; rw [a.e]
  rw [e] at q
  show (match toPy d with
    | some p => (R1.gd (Shows p) (.str p.shown))
    | none => .no).run Q
  rw [a.e]
  exact ⟨s, q⟩
theorem str_ne {x : Str} {Q : D → Prop} (q : Q (.bl false)) : (fNe (.str x) (.str x)).run Q := by
  show Q (.bl (!decide (x = x)))
  rw [decide_eq_true rfl]
  exact q
theorem str_eq {x : Str} {Q : D → Prop} (q : Q (.bl true)) : (fEq (.str x) (.str x)).run Q := by
  show Q (.bl (decide (x = x)))
  rw [decide_eq_true rfl]
  exact q
/-! equality -/
mutual
theorem eqv_iff : ∀ {a b : D} {x y : PyData}, nbD a = true → nbD b = true → toPy a = some x → toPy b = some y → (PyData.eqv x y = true ↔ a = b)
  | .non, b, _, _, _, hb, ha, h => by
    cases ha
    cases b <;> simp only [toPy, Option.some.injEq, Option.map_eq_some_iff] at h <;> first | (cases hb; done) | skip
    · subst h; simp [PyData.eqv]
    · subst h; simp [PyData.eqv]
    · subst h; simp [PyData.eqv]
    · obtain ⟨_, _, rfl⟩ := h; simp [PyData.eqv]
    · obtain ⟨_, _, rfl⟩ := h; simp [PyData.eqv]
  | .int i, b, _, _, _, hb, ha, h => by
    cases ha
    cases b <;> simp only [toPy, Option.some.injEq, Option.map_eq_some_iff] at h <;> first | (cases hb; done) | skip
    · subst h; simp [PyData.eqv]
    · subst h; simp [PyData.eqv]
    · subst h; simp [PyData.eqv]
    · obtain ⟨_, _, rfl⟩ := h; simp [PyData.eqv]
    · obtain ⟨_, _, rfl⟩ := h; simp [PyData.eqv]
  | .str i, b, _, _, _, hb, ha, h => by
    cases ha
    cases b <;> simp only [toPy, Option.some.injEq, Option.map_eq_some_iff] at h <;> first | (cases hb; done) | skip
    · subst h; simp [PyData.eqv]
    · subst h; simp [PyData.eqv]
    · subst h; simp [PyData.eqv]
    · obtain ⟨_, _, rfl⟩ := h; simp [PyData.eqv]
    · obtain ⟨_, _, rfl⟩ := h; simp [PyData.eqv]
  | .tup l, b, _, _, h1, hb, ha, h => by
    simp only [toPy, Option.map_eq_some_iff] at ha
    obtain ⟨xs, e1, rfl⟩ := ha
    cases b <;> simp only [toPy, Option.some.injEq, Option.map_eq_some_iff] at h <;> first | (cases hb; done) | skip
    · subst h; simp [PyData.eqv]
    · subst h; simp [PyData.eqv]
    · subst h; simp [PyData.eqv]
    · obtain ⟨ys, e2, rfl⟩ := h
      have := eqvs_iff (show nbDs l = true from h1) (show nbDs _ = true from hb) e1 e2
      simpa [PyData.eqv] using this
    · obtain ⟨_, _, rfl⟩ := h; simp [PyData.eqv]
  | .lst l, b, _, _, h1, hb, ha, h => by
    simp only [toPy, Option.map_eq_some_iff] at ha
    obtain ⟨xs, e1, rfl⟩ := ha
    cases b <;> simp only [toPy, Option.some.injEq, Option.map_eq_some_iff] at h <;> first | (cases hb; done) | skip
    · subst h; simp [PyData.eqv]
    · subst h; simp [PyData.eqv]
    · subst h; simp [PyData.eqv]
    · obtain ⟨_, _, rfl⟩ := h; simp [PyData.eqv]
    · obtain ⟨ys, e2, rfl⟩ := h
      have := eqvs_iff (show nbDs l = true from h1) (show nbDs _ = true from hb) e1 e2
      simpa [PyData.eqv] using this
  | .bl _, _, _, _, h, _, _, _ => by cases h
  | .obj _ _ _, _, _, _, h, _, _, _ => by cases h
  | .tok _, _, _, _, h, _, _, _ => by cases h
  | .scr _, _, _, _, h, _, _, _ => by cases h
  | .fn _, _, _, _, h, _, _, _ => by cases h
theorem eqvs_iff : ∀ {a b : List D} {x y : List PyData}, nbDs a = true → nbDs b = true → toPys a = some x → toPys b = some y → (PyData.eqvAll x y = true ↔ a = b)
  | [], [], _, _, _, _, ha, hb => by
    cases ha; cases hb
    simp [PyData.eqvAll]
  | [], d :: l, _, _, _, _, ha, hb => by
    cases ha
    simp only [toPys, Option.bind_eq_some_iff, Option.map_eq_some_iff] at hb
    obtain ⟨_, _, _, _, rfl⟩ := hb
    simp [PyData.eqvAll]
  | d :: l, [], _, _, _, _, ha, hb => by
    cases hb
    simp only [toPys, Option.bind_eq_some_iff, Option.map_eq_some_iff] at ha
    obtain ⟨_, _, _, _, rfl⟩ := ha
    simp [PyData.eqvAll]
  | d :: l, d' :: l', _, _, h1, h2, ha, hb => by
    simp only [toPys, Option.bind_eq_some_iff, Option.map_eq_some_iff] at ha hb
    obtain ⟨x, e1, xs, e2, rfl⟩ := ha
    obtain ⟨y, e3, ys, e4, rfl⟩ := hb
    have h1 : nbD d = true ∧ nbDs l = true := by simpa [nbDs] using h1
    have h2 : nbD d' = true ∧ nbDs l' = true := by simpa [nbDs] using h2
    have a := eqv_iff h1.1 h2.1 e1 e3
    have b := eqvs_iff h1.2 h2.2 e2 e4
    simp [PyData.eqvAll, a, b]
end
/-- what can be compared -/
structure CmD (d : D) : Prop where
  g : gD d = true
  n : nbD d = true
  p : dpD d ≤ 60
theorem CmD.shaped {d : D} {p : PyData} (h : CmD d) (a : Py d p) : SeqAt.shaped p = true := by
  unfold SeqAt.shaped
  rw [a.lay, a.dp]
  have := h.p
  simp
  omega
/-- x == y, lists or tuples -/
theorem eq_runD {a b : D} {Q : D → Prop} (ha : CmD a) (hb : CmD b) (hk : (∃ l, a = .tup l) ∨ ∃ l, a = .lst l) (q : ∀ k : Bool, (k = true ↔ a = b) → Q (.bl k)) : (fEq a b).run Q := by
  obtain ⟨x, px⟩ := gD_py ha.g
  obtain ⟨y, py⟩ := gD_py hb.g
  have e : fEq a b = fEqG a b := by
    rcases hk with ⟨l, rfl⟩ | ⟨l, rfl⟩ <;> rfl
  rw [e]
  unfold fEqG
  rw [px.e, py.e]
  exact ⟨⟨ha.shaped px, hb.shaped py⟩, q _ (eqv_iff ha.n hb.n px.e py.e)⟩
theorem ne_runD {a b : D} {Q : D → Prop} (ha : CmD a) (hb : CmD b) (hk : (∃ l, a = .tup l) ∨ ∃ l, a = .lst l) (q : ∀ k : Bool, (k = true ↔ a = b) → Q (.bl (!k))) : (fNe a b).run Q := by
  obtain ⟨x, px⟩ := gD_py ha.g
  obtain ⟨y, py⟩ := gD_py hb.g
  have e : fNe a b = fNeG a b := by
    rcases hk with ⟨l, rfl⟩ | ⟨l, rfl⟩ <;> rfl
  rw [e]
  unfold fNeG
  rw [px.e, py.e]
  exact ⟨⟨ha.shaped px, hb.shaped py⟩, q _ (eqv_iff ha.n hb.n px.e py.e)⟩
theorem toPys_some : ∀ {l : List D} {ps : List PyData} {x : D}, toPys l = some ps → x ∈ l → ∃ p, toPy x = some p ∧ p ∈ ps
  | d :: l, _, x, h, hx => by
    simp only [toPys, Option.bind_eq_some_iff, Option.map_eq_some_iff] at h
    obtain ⟨p, e1, ps, e2, rfl⟩ := h
    rcases List.mem_cons.mp hx with rfl | hx
    · exact ⟨p, e1, List.mem_cons_self⟩
    · obtain ⟨q, e3, m⟩ := toPys_some e2 hx
      exact ⟨q, e3, List.mem_cons_of_mem _ m⟩
theorem any_eqv {x : D} {p : PyData} (hx : nbD x = true) (ex : toPy x = some p) : ∀ {l : List D} {ps : List PyData}, nbDs l = true → toPys l = some ps → ((ps.any fun z => PyData.eqv z p) = true ↔ x ∈ l)
  | [], _, _, h => by cases h; simp
  | d :: l, _, hn, h => by
    simp only [toPys, Option.bind_eq_some_iff, Option.map_eq_some_iff] at h
    obtain ⟨q, e1, ps, e2, rfl⟩ := h
    have hn : nbD d = true ∧ nbDs l = true := by simpa [nbDs] using hn
    have a := eqv_iff hn.1 hx e1 ex
    have b := any_eqv hx ex hn.2 e2
    rw [List.any_cons, Bool.or_eq_true, a, b, List.mem_cons]
    constructor
    · rintro (h | h)
      · exact .inl h.symm
      · exact .inr h
    · rintro (h | h)
      · exact .inl h.symm
      · exact .inr h
/-- x in l -/
theorem in_runD {neg : Bool} {x y : D} {l : List D} {Q : D → Prop} (hx : CmD x) (hy : y = .tup l ∨ y = .lst l) (hl : gDs l = true ∧ nbDs l = true) (q : ∀ k : Bool, (k = true ↔ x ∈ l) → Q (.bl (neg ^^ k))) : (fInND neg x y).run Q := by
  obtain ⟨p, px⟩ := gD_py hx.g
  obtain ⟨ps, pl⟩ := gDs_py hl.1
  have q := q _ (any_eqv hx.n px.e hl.2 pl.e)
  rcases hy with rfl | rfl
  · unfold fInND
    have e : toPy (.tup l) = some (.tuple ps) := by simp [toPy, pl.e]
    rw [px.e, e]
    exact ⟨⟨px.pl, pl.pl, by rw [px.dp]; exact hx.p⟩, q⟩
  · unfold fInND
    have e : toPy (.lst l) = some (.list ps) := by simp [toPy, pl.e]
    rw [px.e, e]
    exact ⟨⟨px.pl, pl.pl, by rw [px.dp]; exact hx.p⟩, q⟩
end PL
end L2

/-! what the defs promise, shared by the laws -/
namespace L2
namespace PL
open PySem PySem.Spec PyProof.Rows
variable [Tabl]

mutual
/-- nothing drawn from, and no instance but of these classes -/
def okW (cls : List Addr) : D → Bool
  | .tok _ => false
  | .fn _ => false
  | .obj C _ _ => cls.contains C
  | .tup l => okWs cls l
  | .lst l => okWs cls l
  | .scr _ => false
  | _ => true
def okWs (cls : List Addr) : List D → Bool
  | [] => true
  | d :: l => okW cls d && okWs cls l
end
theorem okWs_all {cls : List Addr} : ∀ {l : List D}, okWs cls l = true ↔ ∀ d ∈ l, okW cls d = true
  | [] => by simp [okWs]
  | d :: l => by simp [okWs, okWs_all (l := l)]
def betw (v : D) (lo hi : Int) : Bool := match v with
  | .int i => decide (lo ≤ i) && decide (i ≤ hi)
  | _ => false
def isInt : D → Bool
  | .int _ => true
  | _ => false
def isBit (v : D) : Bool := betw v 0 1
def isWd (v : D) (n : Int) : Bool := match v with
  | .tup l => decide (1 ≤ n ∧ n ≤ 12 ∧ (l.length : Int) = n) && l.all isBit
  | _ => false
def isWo (v : D) : Bool := match v with
  | .tup l => isWd v l.length
  | _ => false
def isMx (v : D) (n : Int) : Bool := match v with
  | .tup l => decide (n ≠ 0 ∧ (l.length : Int) = n) && l.all fun r => isWd r n
  | _ => false
def isMa (v : D) : Bool := match v with
  | .tup l => isMx v l.length
  | _ => false
def lenD : D → Nat
  | .tup l => l.length
  | .lst l => l.length
  | _ => 0
/-- few things in it -/
def shrt (v : D) : Prop := lenD v ≤ 1000
def bit (b : Bool) : D := .int (if b then 1 else 0)
def wd (u : List Bool) : D := .tup (u.map bit)
def mx (m : List (List Bool)) : D := .tup (m.map wd)
def xorL (u v : List Bool) : List Bool := List.zipWith (fun a b => a != b) u v
def dotL (u v : List Bool) : Bool := (List.zipWith (fun a b => a && b) u v).foldr (fun a b => a != b) false
def sqL (u v : List Bool) : List (List Bool) := u.map fun a => v.map fun b => a && b
def xorM (m k : List (List Bool)) : List (List Bool) := List.zipWith xorL m k
def dotM (m k : List (List Bool)) : Bool := (List.zipWith dotL m k).foldr (fun a b => a != b) false
/-- n words of n bits -/
def SqM (n : Nat) (m : List (List Bool)) : Prop := m.length = n ∧ ∀ r ∈ m, r.length = n
end PL
end L2

namespace L2
namespace PL
open PySem PySem.Spec PyProof.Rows
variable [Tabl]
/-- where the classes stand; which instances are about; how they compare -/
structure Ad where
  cls : List Addr
  excs : List Addr
  eqs : Addr → Option (D → D → R1)
  Share : Addr
  Table : Addr
  System : Addr
  Circuit : Addr
  TablePaper : Addr
  SumsPaper : Addr
  Judge : Addr
  Desk : Addr
  ReadError : Addr
  InvalidNumber : Addr
  InvalidWord : Addr
  InvalidWords : Addr
  InvalidMatrix : Addr
  InvalidSquare : Addr
  InvalidTable : Addr
  InvalidShare : Addr
  InvalidSystem : Addr
  InvalidClause : Addr
  InvalidGate : Addr
  InvalidTie : Addr
  InvalidTerm : Addr
  InvalidPaper : Addr
  InvalidTape : Addr
  InvalidList : Addr
  InvalidText : Addr
  InvalidLine : Addr
  UnknownWord : Addr
  TooMany : Addr
  Undefined : Addr
  NothingToUndo : Addr
/-- one wrong value carried -/
def ev (C : Addr) (x : D) : D := .obj C ["value"] [x]
def S_is_integer (A : Ad) : Spec := fun ds Q E => ∃ v, ds = [v] ∧ okW A.cls v = true ∧ Q (.bl (isInt v))
theorem mS_is_integer (A : Ad) : MonoSp (S_is_integer A) := fun ds Q Q' E E' h h' ⟨v, e, o, q⟩ => ⟨v, e, o, h _ q⟩
def S_is_between (A : Ad) : Spec := fun ds Q E => ∃ v lo hi, ds = [v, .int lo, .int hi] ∧ okW A.cls v = true ∧ Q (.bl (betw v lo hi))
theorem mS_is_between (A : Ad) : MonoSp (S_is_between A) := fun ds Q Q' E E' h h' ⟨v, lo, hi, e, o, q⟩ => ⟨v, lo, hi, e, o, h _ q⟩
def S_are_bits (A : Ad) : Spec := fun ds Q E => ∃ v l, ds = [v] ∧ (v = .tup l ∨ v = .lst l) ∧ l.length ≤ 100000 ∧ okWs A.cls l = true ∧ Q (.bl (l.all isBit))
theorem mS_are_bits (A : Ad) : MonoSp (S_are_bits A) := fun ds Q Q' E E' h h' ⟨v, l, e, o, p, r, q⟩ => ⟨v, l, e, o, p, r, h _ q⟩
def isRow (v : D) (n : Int) : Bool := match v with
  | .tup l => decide ((l.length : Int) = n) && l.all isBit
  | _ => false
def S_is_row_of_bits (A : Ad) : Spec := fun ds Q E => ∃ v n, ds = [v, .int n] ∧ (okW A.cls v = true ∧ n ≤ 1000) ∧ Q (.bl (isRow v n))
theorem mS_is_row_of_bits (A : Ad) : MonoSp (S_is_row_of_bits A) := fun ds Q Q' E E' h h' ⟨v, n, e, o, q⟩ => ⟨v, n, e, o, h _ q⟩
def S_is_word (A : Ad) : Spec := fun ds Q E => ∃ v n, ds = [v, .int n] ∧ okW A.cls v = true ∧ Q (.bl (isWd v n))
theorem mS_is_word (A : Ad) : MonoSp (S_is_word A) := fun ds Q Q' E E' h h' ⟨v, n, e, o, q⟩ => ⟨v, n, e, o, h _ q⟩
def S_is_any_word (A : Ad) : Spec := fun ds Q E => ∃ v, ds = [v] ∧ okW A.cls v = true ∧ Q (.bl (isWo v))
theorem mS_is_any_word (A : Ad) : MonoSp (S_is_any_word A) := fun ds Q Q' E E' h h' ⟨v, e, o, q⟩ => ⟨v, e, o, h _ q⟩
/-- the first of the two that is refused -/
def pairW (x y : D) : Option D := if isWo x = false then some x else if isWo y = false then some y else if lenD y ≠ lenD x then some y else none
def pairM (x y : D) : Option D := if isMa x = false then some x else if isMa y = false then some y else if lenD y ≠ lenD x then some y else none
def S_check_word_pair (A : Ad) : Spec := fun ds Q E => ∃ x y, ds = [x, y] ∧ (okW A.cls x = true ∧ okW A.cls y = true) ∧ match pairW x y with
  | some z => E (ev A.InvalidWord z)
  | none => Q .non
theorem mS_check_word_pair (A : Ad) : MonoSp (S_check_word_pair A) := fun ds Q Q' E E' h h' ⟨x, y, e, o, q⟩ => ⟨x, y, e, o, by
  split
  · rename_i e; rw [e] at q; exact h' _ q
  · rename_i e; rw [e] at q; exact h _ q⟩
def S_added (A : Ad) : Spec := fun ds Q E => ∃ x y, ds = [x, y] ∧ (okW A.cls x = true ∧ okW A.cls y = true) ∧ match pairW x y with
  | some z => E (ev A.InvalidWord z)
  | none => ∀ u v, x = wd u → y = wd v → Q (wd (xorL u v))
theorem mS_added (A : Ad) : MonoSp (S_added A) := fun ds Q Q' E E' h h' ⟨x, y, e, o, q⟩ => ⟨x, y, e, o, by
  split
  · rename_i e; rw [e] at q; exact h' _ q
  · rename_i e; rw [e] at q; exact fun u v a b => h _ (q u v a b)⟩
def S_product_of (A : Ad) : Spec := fun ds Q E => ∃ x y, ds = [x, y] ∧ (okW A.cls x = true ∧ okW A.cls y = true) ∧ match pairW x y with
  | some z => E (ev A.InvalidWord z)
  | none => ∀ u v, x = wd u → y = wd v → Q (bit (dotL u v))
theorem mS_product_of (A : Ad) : MonoSp (S_product_of A) := fun ds Q Q' E E' h h' ⟨x, y, e, o, q⟩ => ⟨x, y, e, o, by
  split
  · rename_i e; rw [e] at q; exact h' _ q
  · rename_i e; rw [e] at q; exact fun u v a b => h _ (q u v a b)⟩
def S_is_matrix (A : Ad) : Spec := fun ds Q E => ∃ v n, ds = [v, .int n] ∧ okW A.cls v = true ∧ lenD v ≤ 1000 ∧ Q (.bl (isMx v n))
theorem mS_is_matrix (A : Ad) : MonoSp (S_is_matrix A) := fun ds Q Q' E E' h h' ⟨v, n, e, o, s, q⟩ => ⟨v, n, e, o, s, h _ q⟩
def S_is_any_matrix (A : Ad) : Spec := fun ds Q E => ∃ v, ds = [v] ∧ okW A.cls v = true ∧ lenD v ≤ 1000 ∧ Q (.bl (isMa v))
theorem mS_is_any_matrix (A : Ad) : MonoSp (S_is_any_matrix A) := fun ds Q Q' E E' h h' ⟨v, e, o, s, q⟩ => ⟨v, e, o, s, h _ q⟩
def S_check_square_pair (A : Ad) : Spec := fun ds Q E => ∃ x y, ds = [x, y] ∧ ((okW A.cls x = true ∧ lenD x ≤ 1000) ∧ okW A.cls y = true ∧ lenD y ≤ 1000) ∧ match pairM x y with
  | some z => E (ev A.InvalidSquare z)
  | none => Q .non
theorem mS_check_square_pair (A : Ad) : MonoSp (S_check_square_pair A) := fun ds Q Q' E E' h h' ⟨x, y, e, o, q⟩ => ⟨x, y, e, o, by
  split
  · rename_i e; rw [e] at q; exact h' _ q
  · rename_i e; rw [e] at q; exact h _ q⟩
def S_square_of (A : Ad) : Spec := fun ds Q E => ∃ x y, ds = [x, y] ∧ (okW A.cls x = true ∧ okW A.cls y = true) ∧ match pairW x y with
  | some z => E (ev A.InvalidWord z)
  | none => ∀ u v, x = wd u → y = wd v → Q (mx (sqL u v))
theorem mS_square_of (A : Ad) : MonoSp (S_square_of A) := fun ds Q Q' E E' h h' ⟨x, y, e, o, q⟩ => ⟨x, y, e, o, by
  split
  · rename_i e; rw [e] at q; exact h' _ q
  · rename_i e; rw [e] at q; exact fun u v a b => h _ (q u v a b)⟩
def S_added_squares (A : Ad) : Spec := fun ds Q E => ∃ x y, ds = [x, y] ∧ ((okW A.cls x = true ∧ lenD x ≤ 1000) ∧ okW A.cls y = true ∧ lenD y ≤ 1000) ∧ match pairM x y with
  | some z => E (ev A.InvalidSquare z)
  | none => ∀ u v, x = mx u → y = mx v → Q (mx (xorM u v))
theorem mS_added_squares (A : Ad) : MonoSp (S_added_squares A) := fun ds Q Q' E E' h h' ⟨x, y, e, o, q⟩ => ⟨x, y, e, o, by
  split
  · rename_i e; rw [e] at q; exact h' _ q
  · rename_i e; rw [e] at q; exact fun u v a b => h _ (q u v a b)⟩
def S_square_product (A : Ad) : Spec := fun ds Q E => ∃ x y, ds = [x, y] ∧ ((okW A.cls x = true ∧ lenD x ≤ 1000) ∧ okW A.cls y = true ∧ lenD y ≤ 1000) ∧ match pairM x y with
  | some z => E (ev A.InvalidSquare z)
  | none => ∀ u v, x = mx u → y = mx v → Q (bit (dotM u v))
theorem mS_square_product (A : Ad) : MonoSp (S_square_product A) := fun ds Q Q' E E' h h' ⟨x, y, e, o, q⟩ => ⟨x, y, e, o, by
  split
  · rename_i e; rw [e] at q; exact h' _ q
  · rename_i e; rw [e] at q; exact fun u v a b => h _ (q u v a b)⟩
/-! the law's own -/
def S__law_take (A : Ad) : Spec := fun ds Q E => ∃ m, ds = [.tok 1, .int m] ∧ 0 < m ∧ ∀ v, 0 ≤ v → v < m → Q (.int v)
theorem mS__law_take (A : Ad) : MonoSp (S__law_take A) := fun ds Q Q' E E' h h' ⟨m, e, o, q⟩ => ⟨m, e, o, fun v a b => h _ (q v a b)⟩
def S__law_draws (A : Ad) : Spec := fun ds Q E => ∃ ns m, ds = [.scr ns, .int m] ∧ (ns.length ≤ 63 ∧ 0 ≤ m ∧ m ≤ 100000) ∧ ∀ ks : List Int, Q (.lst (ks.map .int))
theorem mS__law_draws (A : Ad) : MonoSp (S__law_draws A) := fun ds Q Q' E E' h h' ⟨ns, m, e, o, q⟩ => ⟨ns, m, e, o, fun ks => h _ (q ks)⟩
def S__law_word (A : Ad) : Spec := fun ds Q E => ∃ n : Nat, ds = [.tok 1, .int n] ∧ n ≤ 100000 ∧ ∀ u : List Bool, u.length = n → Q (wd u)
theorem mS__law_word (A : Ad) : MonoSp (S__law_word A) := fun ds Q Q' E E' h h' ⟨m, e, o, q⟩ => ⟨m, e, o, fun u a => h _ (q u a)⟩
def S__law_added (A : Ad) : Spec := fun ds Q E => ∃ u v, ds = [wd u, wd v] ∧ (u.length = v.length ∧ u.length ≤ 1000) ∧ Q (wd (xorL u v))
theorem mS__law_added (A : Ad) : MonoSp (S__law_added A) := fun ds Q Q' E E' h h' ⟨u, v, e, o, q⟩ => ⟨u, v, e, o, h _ q⟩
def S__law_product (A : Ad) : Spec := fun ds Q E => ∃ u v, ds = [wd u, wd v] ∧ (u.length = v.length ∧ u.length ≤ 1000) ∧ Q (bit (dotL u v))
theorem mS__law_product (A : Ad) : MonoSp (S__law_product A) := fun ds Q Q' E E' h h' ⟨u, v, e, o, q⟩ => ⟨u, v, e, o, h _ q⟩
/-- like itself, at most n deep -/
inductive LikeOk (A : Ad) : Nat → D → Prop
  | non {n} : LikeOk A n .non
  | bl {n b} : LikeOk A n (.bl b)
  | int {n i} : LikeOk A n (.int i)
  | str {n x} : LikeOk A n (.str x)
  | obj {n C ns l} : (∃ f, A.eqs C = some f ∧ f (.obj C ns l) (.obj C ns l) = .ok (.bl true)) → C ∈ A.cls → LikeOk A n (.obj C ns l)
  | tup {n l} : (∀ d ∈ l, LikeOk A n d) → l.length ≤ 100000 → LikeOk A (n + 1) (.tup l)
  | lst {n l} : (∀ d ∈ l, LikeOk A n d) → l.length ≤ 100000 → LikeOk A (n + 1) (.lst l)
def S_like (A : Ad) (n : Nat) : Spec := fun ds Q E => ∃ d, ds = [d, d] ∧ LikeOk A n d ∧ Q (.bl true)
theorem mS_like (A : Ad) (n : Nat) : MonoSp (S_like A n) := fun ds Q Q' E E' h h' ⟨d, e, o, q⟩ => ⟨d, e, o, h _ q⟩
abbrev S__law_like (A : Ad) : Spec := S_like A 6
theorem mS__law_like (A : Ad) : MonoSp (S__law_like A) := mS_like A 6
/-- no word, and like itself -/
def NoWd (A : Ad) (w : D) : Prop := okW A.cls w = true ∧ isWo w = false ∧ LikeOk A 4 w
def NoMx (A : Ad) (w : D) : Prop := (okW A.cls w = true ∧ lenD w ≤ 1000) ∧ isMa w = false ∧ LikeOk A 4 w
def S__law_wrong_word (A : Ad) : Spec := fun ds Q E => ∃ u : List Bool, ds = [.tok 1, wd u] ∧ (1 ≤ u.length ∧ u.length ≤ 12) ∧ ∀ w, NoWd A w → Q w
theorem mS__law_wrong_word (A : Ad) : MonoSp (S__law_wrong_word A) := fun ds Q Q' E E' h h' ⟨u, e, o, q⟩ => ⟨u, e, o, fun w a => h _ (q w a)⟩
def S__law_matrix (A : Ad) : Spec := fun ds Q E => ∃ n : Nat, ds = [.tok 1, .int n] ∧ (1 ≤ n ∧ n ≤ 12) ∧ ∀ m, SqM n m → Q (mx m)
theorem mS__law_matrix (A : Ad) : MonoSp (S__law_matrix A) := fun ds Q Q' E E' h h' ⟨u, e, o, q⟩ => ⟨u, e, o, fun w a => h _ (q w a)⟩
/-- u times m -/
def timesL (u : List Bool) (m : List (List Bool)) : List Bool := (u.zip m).foldl (fun f p => if p.1 then xorL f p.2 else f) (List.replicate u.length false)
def S__law_times (A : Ad) : Spec := fun ds Q E => ∃ u m, ds = [wd u, mx m] ∧ (SqM u.length m ∧ 1 ≤ u.length ∧ u.length ≤ 12) ∧ Q (wd (timesL u m))
theorem mS__law_times (A : Ad) : MonoSp (S__law_times A) := fun ds Q Q' E E' h h' ⟨u, m, e, o, q⟩ => ⟨u, m, e, o, h _ q⟩
def S__law_wrong_matrix (A : Ad) : Spec := fun ds Q E => ∃ n m, ds = [.tok 1, mx m] ∧ (SqM n m ∧ 1 ≤ n ∧ n ≤ 12) ∧ ∀ w, NoMx A w → Q w
theorem mS__law_wrong_matrix (A : Ad) : MonoSp (S__law_wrong_matrix A) := fun ds Q Q' E E' h h' ⟨n, m, e, o, q⟩ => ⟨n, m, e, o, fun w a => h _ (q w a)⟩
def S__law_square_of (A : Ad) : Spec := fun ds Q E => ∃ u v, ds = [wd u, wd v] ∧ (u.length ≤ 1000 ∧ v.length ≤ 1000) ∧ Q (mx (sqL u v))
theorem mS__law_square_of (A : Ad) : MonoSp (S__law_square_of A) := fun ds Q Q' E E' h h' ⟨u, v, e, o, q⟩ => ⟨u, v, e, o, h _ q⟩
def S__law_square_added (A : Ad) : Spec := fun ds Q E => ∃ n m k, ds = [mx m, mx k] ∧ (SqM n m ∧ SqM n k ∧ n ≤ 1000) ∧ Q (mx (xorM m k))
theorem mS__law_square_added (A : Ad) : MonoSp (S__law_square_added A) := fun ds Q Q' E E' h h' ⟨n, u, v, e, o, q⟩ => ⟨n, u, v, e, o, h _ q⟩
def S__law_square_product (A : Ad) : Spec := fun ds Q E => ∃ n m k, ds = [mx m, mx k] ∧ (SqM n m ∧ SqM n k ∧ n ≤ 1000) ∧ Q (bit (dotM m k))
theorem mS__law_square_product (A : Ad) : MonoSp (S__law_square_product A) := fun ds Q Q' E E' h h' ⟨n, u, v, e, o, q⟩ => ⟨n, u, v, e, o, h _ q⟩
def S__law_other_size (A : Ad) : Spec := fun ds Q E => ∃ n : Int, ds = [.int n] ∧ Q (.int (if n < 12 then n + 1 else 11))
theorem mS__law_other_size (A : Ad) : MonoSp (S__law_other_size A) := fun ds Q Q' E E' h h' ⟨n, e, q⟩ => ⟨n, e, h _ q⟩
/-! Share -/
def sgn (a b : Int) : Int := if b < 0 then -((Nat.gcd a.natAbs b.natAbs : Nat) : Int) else ((Nat.gcd a.natAbs b.natAbs : Nat) : Int)
def I_Share (A : Ad) : SpI := fun ds Q E => ∃ a b : Int, ds = [.int a, .int b] ∧ (b ≠ 0 ∧ b.natAbs < 1073741824) ∧ Q ["over", "under"] [.int (a.fdiv (sgn a b)), .int (b.fdiv (sgn a b))]
theorem mI_Share (A : Ad) : MonoI (I_Share A) := fun ds Q Q' E E' h h' ⟨a, b, e, o, q⟩ => ⟨a, b, e, o, h _ _ q⟩
def eqSh (A : Ad) (x y : D) : R1 := match x, y with
  | .obj C _ _, .obj C' _ _ => if C = A.Share ∧ C' = A.Share ∧ A.Share ∈ A.cls then
      match fldX "over" x, fldX "over" y, fldX "under" x, fldX "under" y with
      | some (.int a), some (.int b), some (.int c), some (.int d) => .ok (.bl (decide (a = b) && decide (c = d)))
      | _, _, _, _ => .no
    else .no
  | _, _ => .no
end PL
end L2

namespace L2
namespace PL
open PySem PySem.Spec PyProof.Rows
abbrev N_is_integer : List Str := ["value"]
abbrev N_is_between : List Str := ["value", "low", "high"]
abbrev N_are_bits : List Str := ["values", "value"]
abbrev N_is_row_of_bits : List Str := ["value", "many"]
abbrev N_is_word : List Str := ["value", "n"]
abbrev N_is_any_word : List Str := ["value"]
abbrev N_check_word_pair : List Str := ["one", "other", "word"]
abbrev N_added : List Str := ["one", "other", "left", "right"]
abbrev N_product_of : List Str := ["one", "other", "left", "right"]
abbrev N_is_matrix : List Str := ["value", "n", "row"]
abbrev N_is_any_matrix : List Str := ["value"]
abbrev N_check_square_pair : List Str := ["one", "other", "square"]
abbrev N_square_of : List Str := ["one", "other", "left", "right"]
abbrev N_added_squares : List Str := ["one", "other", "row", "beside"]
abbrev N_square_product : List Str := ["one", "other", "row", "beside"]
abbrev N_Share_init : List Str := ["self", "over", "under", "number", "divisor"]
abbrev N_Share_eq : List Str := ["self", "other"]
abbrev N__law_draws : List Str := ["script", "many", "rests", "draws", "k", "cell", "mixed", "at"]
abbrev N__law_take : List Str := ["hand", "many", "at", "draws"]
abbrev N__law_word : List Str := ["hand", "n", "k"]
abbrev N__law_added : List Str := ["one", "other", "k"]
abbrev N__law_product : List Str := ["one", "other", "k"]
abbrev N__law_like : List Str := ["found", "due", "at"]
abbrev N__law_wrong_word : List Str := ["hand", "word", "at", "part", "wrong"]
abbrev N__law_matrix : List Str := ["hand", "n", "rows", "kind", "step", "k", "at", "other", "j"]
abbrev N__law_times : List Str := ["word", "matrix", "found", "k"]
abbrev N__law_wrong_matrix : List Str := ["hand", "matrix", "n", "at", "place", "part", "row", "wrong"]
abbrev N__law_square_of : List Str := ["one", "other", "a", "b"]
abbrev N__law_square_added : List Str := ["one", "other", "k"]
abbrev N__law_square_product : List Str := ["one", "other", "k"]
abbrev N__law_other_size : List Str := ["n"]
variable [Tabl]
-- is_integer calls [] facts ['b_bool', 'b_int', 'b_isinstance']
def w_is_integer (A : Ad) (Ed : DX) : DS :=
    (wRet (wAnd (wUn (fIsi A.cls .int) (wV 0)) (wUn fNot (wUn (fIsi A.cls .bool) (wV 0)))))

-- is_between calls ['is_integer'] facts []
def w_is_between (A : Ad) (Ed : DX) : DS :=
    (wRet (wAnd (wCall (S_is_integer A) (wCons (wV 0) wNil) Ed) (wChain fLe fLe (wV 1) (wV 0) (wV 2))))

-- are_bits calls ['is_between'] facts ['b_all']
def w_are_bits (A : Ad) (Ed : DX) : DS :=
    (wRet (wCal fAll (wCons (wLc (wItems (wV 0)) (gNm 1) wYes (wCall (S_is_between A) (wCons (wV 1) (wCons (wC (.int 0)) (wCons (wC (.int 1)) wNil))) NoX) [1]) wNil)))

-- is_row_of_bits calls ['are_bits'] facts ['b_isinstance', 'b_len', 'b_tuple']
def w_is_row_of_bits (A : Ad) (Ed : DX) : DS :=
    (wRet (wAnd (wUn (fIsi A.cls .tuple) (wV 0)) (wAnd (wOp fEq (wCal fLen (wCons (wV 0) wNil)) (wV 1)) (wCall (S_are_bits A) (wCons (wV 0) wNil) Ed))))

-- is_word calls ['is_row_of_bits'] facts ['c_LONGEST_WORD']
def w_is_word (A : Ad) (Ed : DX) : DS :=
    (wRet (wAnd (wChain fLe fLe (wC (.int 1)) (wV 1) (wC (.int 12))) (wCall (S_is_row_of_bits A) (wCons (wV 0) (wCons (wV 1) wNil)) Ed)))

-- is_any_word calls ['is_word'] facts ['b_isinstance', 'b_len', 'b_tuple']
def w_is_any_word (A : Ad) (Ed : DX) : DS :=
    (wRet (wAnd (wUn (fIsi A.cls .tuple) (wV 0)) (wCall (S_is_word A) (wCons (wV 0) (wCons (wCal fLen (wCons (wV 0) wNil)) wNil)) Ed)))

-- check_word_pair calls ['InvalidWord', 'is_any_word'] facts ['b_len']
def w_check_word_pair (A : Ad) (Ed : DX) : DS :=
    (wSeq (wFor (wItems (wTup (wCons (wV 0) (wCons (wV 1) wNil)))) (gNm 2)
    (wIf (wNotT (wTst (wCall (S_is_any_word A) (wCons (wV 2) wNil) Ed))) (wRaise1 A.InvalidWord "value" (wV 2) Ed) wNext))
    (wIf (wTst (wOp fNe (wCal fLen (wCons (wV 1) wNil)) (wCal fLen (wCons (wV 0) wNil)))) (wRaise1 A.InvalidWord "value" (wV 1) Ed) wNext))

-- added calls ['check_word_pair'] facts ['b_tuple', 'b_zip']
def w_added (A : Ad) (Ed : DX) : DS :=
    (wSeq (wDrop (wCall (S_check_word_pair A) (wCons (wV 0) (wCons (wV 1) wNil)) Ed))
    (wRet (wCal fTuple (wCons (wLc (wZip (wCons (wV 0) (wCons (wV 1) wNil))) (gTp 2 (gCn (gNm 2) (gCn (gNm 3) gNl))) wYes (wOp fXor (wV 2) (wV 3)) [2, 3]) wNil))))

-- product_of calls ['check_word_pair'] facts ['b_sum', 'b_zip']
def w_product_of (A : Ad) (Ed : DX) : DS :=
    (wSeq (wDrop (wCall (S_check_word_pair A) (wCons (wV 0) (wCons (wV 1) wNil)) Ed))
    (wRet (wOp fAnd (wCal fSum (wCons (wLc (wZip (wCons (wV 0) (wCons (wV 1) wNil))) (gTp 2 (gCn (gNm 2) (gCn (gNm 3) gNl))) wYes (wOp fAnd (wV 2) (wV 3)) [2, 3]) wNil)) (wC (.int 1)))))

-- is_matrix calls ['is_word'] facts ['b_all', 'b_isinstance', 'b_len', 'b_tuple']
def w_is_matrix (A : Ad) (Ed : DX) : DS :=
    (wSeq (wIf (wOrT (wNotT (wTst (wUn (fIsi A.cls .tuple) (wV 0)))) (wTst (wOp fEq (wV 1) (wC (.int 0))))) (wRet (wC (.bl false))) wNext)
    (wRet (wAnd (wOp fEq (wCal fLen (wCons (wV 0) wNil)) (wV 1)) (wCal fAll (wCons (wLc (wItems (wV 0)) (gNm 2) wYes (wCall (S_is_word A) (wCons (wV 2) (wCons (wV 1) wNil)) NoX) [2]) wNil)))))

-- is_any_matrix calls ['is_matrix'] facts ['b_isinstance', 'b_len', 'b_tuple']
def w_is_any_matrix (A : Ad) (Ed : DX) : DS :=
    (wRet (wAnd (wUn (fIsi A.cls .tuple) (wV 0)) (wCall (S_is_matrix A) (wCons (wV 0) (wCons (wCal fLen (wCons (wV 0) wNil)) wNil)) Ed)))

-- check_square_pair calls ['InvalidSquare', 'is_any_matrix'] facts ['b_len']
def w_check_square_pair (A : Ad) (Ed : DX) : DS :=
    (wSeq (wFor (wItems (wTup (wCons (wV 0) (wCons (wV 1) wNil)))) (gNm 2)
    (wIf (wNotT (wTst (wCall (S_is_any_matrix A) (wCons (wV 2) wNil) Ed))) (wRaise1 A.InvalidSquare "value" (wV 2) Ed) wNext))
    (wIf (wTst (wOp fNe (wCal fLen (wCons (wV 1) wNil)) (wCal fLen (wCons (wV 0) wNil)))) (wRaise1 A.InvalidSquare "value" (wV 1) Ed) wNext))

-- square_of calls ['check_word_pair'] facts ['b_tuple']
def w_square_of (A : Ad) (Ed : DX) : DS :=
    (wSeq (wDrop (wCall (S_check_word_pair A) (wCons (wV 0) (wCons (wV 1) wNil)) Ed))
    (wRet (wCal fTuple (wCons (wLc (wItems (wV 0)) (gNm 2) wYes (wCal fTuple (wCons (wLc (wItems (wV 1)) (gNm 3) wYes (wOp fAnd (wV 2) (wV 3)) [3]) wNil)) [2]) wNil))))

-- added_squares calls ['added', 'check_square_pair'] facts ['b_tuple', 'b_zip']
def w_added_squares (A : Ad) (Ed : DX) : DS :=
    (wSeq (wDrop (wCall (S_check_square_pair A) (wCons (wV 0) (wCons (wV 1) wNil)) Ed))
    (wRet (wCal fTuple (wCons (wLc (wZip (wCons (wV 0) (wCons (wV 1) wNil))) (gTp 2 (gCn (gNm 2) (gCn (gNm 3) gNl))) wYes (wCall (S_added A) (wCons (wV 2) (wCons (wV 3) wNil)) NoX) [2, 3]) wNil))))

-- square_product calls ['check_square_pair', 'product_of'] facts ['b_sum', 'b_zip']
def w_square_product (A : Ad) (Ed : DX) : DS :=
    (wSeq (wDrop (wCall (S_check_square_pair A) (wCons (wV 0) (wCons (wV 1) wNil)) Ed))
    (wRet (wOp fAnd (wCal fSum (wCons (wLc (wZip (wCons (wV 0) (wCons (wV 1) wNil))) (gTp 2 (gCn (gNm 2) (gCn (gNm 3) gNl))) wYes (wCall (S_product_of A) (wCons (wV 2) (wCons (wV 3) wNil)) NoX) [2, 3]) wNil)) (wC (.int 1)))))

-- Share_init calls ['InvalidNumber', 'is_integer'] facts ['fl_Share_over', 'fl_Share_under', 'im_gcd']
def w_Share_init (A : Ad) (Ed : DX) : DS :=
    (wSeq (wFor (wItems (wTup (wCons (wV 1) (wCons (wV 2) wNil)))) (gNm 3)
    (wIf (wNotT (wTst (wCall (S_is_integer A) (wCons (wV 3) wNil) Ed))) (wRaise1 A.InvalidNumber "value" (wV 3) Ed) wNext))
    (wSeq (wIf (wTst (wOp fEq (wV 2) (wC (.int 0)))) (wRaise1 A.InvalidNumber "value" (wV 2) Ed) wNext)
    (wSeq (wSet 4 (wCal fGcd (wCons (wV 1) (wCons (wV 2) wNil))))
    (wSeq (wIf (wTst (wOp fLt (wV 2) (wC (.int 0)))) (wSet 4 (wUn fNeg (wV 4))) wNext)
    (wSeq (wSetF 0 A.Share "over" (wOp fDiv (wV 1) (wV 4)))
    (wSetF 0 A.Share "under" (wOp fDiv (wV 2) (wV 4))))))))

-- Share_eq calls [] facts ['b_isinstance', 'fl_Share_over', 'fl_Share_under', 'ii_Share']
def w_Share_eq (A : Ad) (Ed : DX) : DS :=
    (wRet (wAnd (wUn (fIsC A.cls A.Share) (wV 1)) (wAnd (wOp fEq (wFld A.Share "over" (wV 0)) (wFld A.Share "over" (wV 1))) (wOp fEq (wFld A.Share "under" (wV 0)) (wFld A.Share "under" (wV 1))))))

-- _law_draws calls [] facts ['b_abs', 'b_int', 'b_len', 'b_range']
def w__law_draws (A : Ad) (Ed : DX) : DS :=
    (wSeq (wSetLcO 2 (wItems (wV 0)) (gNm 5) wYes (wCal fAbs (wCons (wCal fInt (wCons (wV 5) wNil)) wNil)) [5])
    (wSeq (wSetO 3 wNil)
    (wSeq (wFor (wRng1 (wCons (wV 1) wNil)) (gNm 4)
    (wSeq (wSet 5 (wV 4))
    (wSeq (wIf (wTst (wOp fGt (wCal fLen (wCons (wV 0) wNil)) (wC (.int 0)))) (wSeq (wSet 7 (wOp fMod (wV 4) (wCal fLen (wCons (wV 0) wNil))))
    (wSeq (wSet 5 (wCal fInt (wCons (wOp fIdx (wV 0) (wV 7)) wNil)))
    (wIf (wAndT (wTst (wOp fGe (wV 5) (wOp fPow (wC (.int 10)) (wC (.int 18))))) (wTst (wOp fGt (wIdxV 2 (wV 7)) (wC (.int 0))))) (wSeq (wApp 3 (wOp fMod (wCal fInt (wCons (wIdxV 2 (wV 7)) wNil)) (wC (.int 1000003))))
    (wSeq (wSetI 2 (wOp fDiv (wCal fInt (wCons (wIdxV 2 (wV 7)) wNil)) (wC (.int 1000003))) (wV 7))
    wCont)) wNext))) wNext)
    (wSeq (wSet 6 (wOp fMod (wCal fInt (wCons (wOp fAdd (wOp fAdd (wOp fMul (wV 5) (wC (.int 48271))) (wOp fMul (wV 4) (wC (.int 69621)))) (wC (.int 11))) wNil)) (wC (.int 2147483647))))
    (wSeq (wSet 6 (wOp fMod (wCal fInt (wCons (wOp fAdd (wOp fDiv (wOp fMul (wV 6) (wV 6)) (wC (.int 4096))) (wV 6)) wNil)) (wC (.int 2147483629))))
    (wApp 3 (wOp fMod (wCal fInt (wCons (wOp fAdd (wOp fDiv (wOp fMul (wV 6) (wV 6)) (wC (.int 4096))) (wOp fMul (wV 4) (wC (.int 7919)))) wNil)) (wC (.int 2147483629)))))))))
    (wRet (wV 3)))))

-- _law_take calls [] facts ['b_int', 'b_len']
def w__law_take (A : Ad) (Ed : DX) : DS :=
    (wSeq (wSet 2 (wTok1 0))
    (wSeq (wTokS 0 (wOp fAdd (wV 2) (wC (.int 1))))
    (wSeq (wSet 3 (wTok0 0))
    (wSeq (wIf (wTst (wOp fGe (wV 2) (wCal fLen (wCons (wV 3) wNil)))) (wRet (wC (.int 0))) wNext)
    (wRet (wOp fMod (wOp fDiv (wCal fInt (wCons (wOp fIdx (wV 3) (wV 2)) wNil)) (wC (.int 7))) (wV 1)))))))

-- _law_word calls ['_law_take'] facts ['b_range', 'b_tuple']
def w__law_word (A : Ad) (Ed : DX) : DS :=
    (wRet (wCal fTuple (wCons (wLc (wRng1 (wCons (wV 1) wNil)) (gNm 2) wYes (wCall (S__law_take A) (wCons (wV 0) (wCons (wC (.int 2)) wNil)) NoX) [2]) wNil)))

-- _law_added calls [] facts ['b_int', 'b_len', 'b_range', 'b_tuple']
def w__law_added (A : Ad) (Ed : DX) : DS :=
    (wRet (wCal fTuple (wCons (wLc (wRng1 (wCons (wCal fLen (wCons (wV 0) wNil)) wNil)) (gNm 2) wYes (wCal fInt (wCons (wOp fNe (wOp fIdx (wV 0) (wV 2)) (wOp fIdx (wV 1) (wV 2))) wNil)) [2]) wNil)))

-- _law_product calls [] facts ['b_int', 'b_len', 'b_range', 'b_sum']
def w__law_product (A : Ad) (Ed : DX) : DS :=
    (wRet (wOp fMod (wCal fInt (wCons (wCal fSum (wCons (wLc (wRng1 (wCons (wCal fLen (wCons (wV 0) wNil)) wNil)) (gNm 2) wYes (wOp fMul (wOp fIdx (wV 0) (wV 2)) (wOp fIdx (wV 1) (wV 2))) [2]) wNil)) wNil)) (wC (.int 2))))

-- _law_like calls ['_law_like'] facts ['b_bool', 'b_int', 'b_isinstance', 'b_len', 'b_list', 'b_range', 'b_str', 'b_tuple']
def w__law_like (A : Ad) (Sr : Spec) (Ed : DX) : DS :=
    (wSeq (wIf (wOrT (wTst (wUn (fIsi A.cls .tuple) (wV 1))) (wTst (wUn (fIsi A.cls .list) (wV 1)))) (wSeq (wIf (wOrT (wTst (wOp fNe (wUn (fIsi A.cls .tuple) (wV 0)) (wUn (fIsi A.cls .tuple) (wV 1)))) (wTst (wOp fNe (wUn (fIsi A.cls .list) (wV 0)) (wUn (fIsi A.cls .list) (wV 1))))) (wRet (wC (.bl false))) wNext)
    (wSeq (wIf (wTst (wOp fNe (wCal fLen (wCons (wV 0) wNil)) (wCal fLen (wCons (wV 1) wNil)))) (wRet (wC (.bl false))) wNext)
    (wSeq (wFor (wRng1 (wCons (wCal fLen (wCons (wV 1) wNil)) wNil)) (gNm 2)
    (wIf (wNotT (wTst (wCall Sr (wCons (wOp fIdx (wV 0) (wV 2)) (wCons (wOp fIdx (wV 1) (wV 2)) wNil)) Ed))) (wRet (wC (.bl false))) wNext))
    (wRet (wC (.bl true)))))) wNext)
    (wSeq (wIf (wTst (wUn fIsN (wV 1))) (wRet (wUn fIsN (wV 0))) wNext)
    (wSeq (wIf (wOrT (wTst (wUn (fIsi A.cls .bool) (wV 1))) (wTst (wUn (fIsi A.cls .bool) (wV 0)))) (wRet (wAnd (wUn (fIsi A.cls .bool) (wV 1)) (wAnd (wUn (fIsi A.cls .bool) (wV 0)) (wOp (fEqT A.eqs) (wV 0) (wV 1))))) wNext)
    (wSeq (wIf (wTst (wUn (fIsi A.cls .str) (wV 1))) (wRet (wAnd (wUn (fIsi A.cls .str) (wV 0)) (wOp (fEqT A.eqs) (wV 0) (wV 1)))) wNext)
    (wSeq (wIf (wTst (wUn (fIsi A.cls .int) (wV 1))) (wRet (wAnd (wUn (fIsi A.cls .int) (wV 0)) (wOp (fEqT A.eqs) (wV 0) (wV 1)))) wNext)
    (wRet (wOp (fEqT A.eqs) (wV 0) (wV 1))))))))

-- _law_wrong_word calls ['Share', '_law_take'] facts ['b_len', 'b_list']
def w__law_wrong_word (A : Ad) (Ed : DX) : DS :=
    (wSeq (wSet 2 (wCall (S__law_take A) (wCons (wV 0) (wCons (wCal fLen (wCons (wV 1) wNil)) wNil)) Ed))
    (wSeq (wSet 3 (wOp fIdx (wLst (wCons (wC (.int 2)) (wCons (wUn fNeg (wC (.int 1))) (wCons (wC (.bl true)) (wCons (wC .non) (wCons (wC (.str "1")) (wCons (wTup (wCons (wC (.int 0)) wNil)) (wCons (wC (.bl false)) wNil)))))))) (wCall (S__law_take A) (wCons (wV 0) (wCons (wC (.int 7)) wNil)) Ed)))
    (wSeq (wSet 4 (wLst (wCons (wOp fAdd (wOp fAdd (wCut (wV 1) wP0 (wP1 (wV 2))) (wTup (wCons (wV 3) wNil))) (wCut (wV 1) (wP1 (wOp fAdd (wV 2) (wC (.int 1)))) wP0)) (wCons (wCal fList (wCons (wV 1) wNil)) (wCons (wTup wNil) (wCons (wC .non) (wCons (wC (.int 5)) (wCons (wC (.str "01")) (wCons (wOp fMul (wTup (wCons (wC (.int 0)) wNil)) (wC (.int 13))) (wCons (wTup (wCons (wTup (wCons (wC (.int 0)) (wCons (wC (.int 1)) wNil))) wNil)) (wCons (wMake A.Share (I_Share A) (wCons (wC (.int 1)) (wCons (wC (.int 1)) wNil)) Ed) wNil)))))))))))
    (wRet (wOp fIdx (wV 4) (wCall (S__law_take A) (wCons (wV 0) (wCons (wC (.int 9)) wNil)) Ed))))))

-- _law_matrix calls ['_law_added', '_law_take', '_law_word'] facts ['b_int', 'b_range', 'b_tuple']
def w__law_matrix (A : Ad) (Ed : DX) : DS :=
    (wSeq (wSetLcO 2 (wRng1 (wCons (wV 1) wNil)) (gNm 5) wYes (wCall (S__law_word A) (wCons (wV 0) (wCons (wV 1) wNil)) NoX) [5])
    (wSeq (wSet 3 (wCall (S__law_take A) (wCons (wV 0) (wCons (wC (.int 4)) wNil)) Ed))
    (wSeq (wIf (wAndT (wTst (wOp fEq (wV 3) (wC (.int 0)))) (wTst (wOp fGt (wV 1) (wC (.int 1))))) (wSetI 2 (wCall (S__law_added A) (wCons (wIdxV 2 (wC (.int 0))) (wCons (wIdxV 2 (wOp fDiv (wV 1) (wC (.int 2)))) wNil)) Ed) (wOp fSub (wV 1) (wC (.int 1)))) wNext)
    (wSeq (wIf (wTst (wOp fEq (wV 3) (wC (.int 1)))) (wSeq (wSetLcO 2 (wRng1 (wCons (wV 1) wNil)) (gNm 5) wYes (wCal fTuple (wCons (wLc (wRng1 (wCons (wV 1) wNil)) (gNm 8) wYes (wCal fInt (wCons (wOp fEq (wV 8) (wV 5)) wNil)) [8]) wNil)) [5])
    (wFor (wRng1 (wCons (wV 1) wNil)) (gNm 4)
    (wSeq (wSet 6 (wCall (S__law_take A) (wCons (wV 0) (wCons (wV 1) wNil)) Ed))
    (wSeq (wSet 7 (wCall (S__law_take A) (wCons (wV 0) (wCons (wV 1) wNil)) Ed))
    (wIf (wTst (wOp fNe (wV 6) (wV 7))) (wSetI 2 (wCall (S__law_added A) (wCons (wIdxV 2 (wV 6)) (wCons (wIdxV 2 (wV 7)) wNil)) Ed) (wV 6)) wNext))))) wNext)
    (wRet (wCal fTuple (wCons (wV 2) wNil)))))))

-- _law_times calls ['_law_added'] facts ['b_len', 'b_range']
def w__law_times (A : Ad) (Ed : DX) : DS :=
    (wSeq (wSet 2 (wOp fMul (wTup (wCons (wC (.int 0)) wNil)) (wCal fLen (wCons (wV 0) wNil))))
    (wSeq (wFor (wRng1 (wCons (wCal fLen (wCons (wV 0) wNil)) wNil)) (gNm 3)
    (wIf (wTst (wOp fEq (wOp fIdx (wV 0) (wV 3)) (wC (.int 1)))) (wSet 2 (wCall (S__law_added A) (wCons (wV 2) (wCons (wOp fIdx (wV 1) (wV 3)) wNil)) Ed)) wNext))
    (wRet (wV 2))))

-- _law_wrong_matrix calls ['_law_take'] facts ['b_len', 'b_list']
def w__law_wrong_matrix (A : Ad) (Ed : DX) : DS :=
    (wSeq (wSet 2 (wCal fLen (wCons (wV 1) wNil)))
    (wSeq (wSet 3 (wCall (S__law_take A) (wCons (wV 0) (wCons (wV 2) wNil)) Ed))
    (wSeq (wSet 4 (wCall (S__law_take A) (wCons (wV 0) (wCons (wV 2) wNil)) Ed))
    (wSeq (wSet 5 (wOp fIdx (wLst (wCons (wC (.int 2)) (wCons (wUn fNeg (wC (.int 1))) (wCons (wC (.bl true)) (wCons (wC .non) (wCons (wC (.str "1")) wNil)))))) (wCall (S__law_take A) (wCons (wV 0) (wCons (wC (.int 5)) wNil)) Ed)))
    (wSeq (wSet 6 (wOp fAdd (wOp fAdd (wCut (wOp fIdx (wV 1) (wV 3)) wP0 (wP1 (wV 4))) (wTup (wCons (wV 5) wNil))) (wCut (wOp fIdx (wV 1) (wV 3)) (wP1 (wOp fAdd (wV 4) (wC (.int 1)))) wP0)))
    (wSeq (wSet 7 (wLst (wCons (wOp fAdd (wOp fAdd (wCut (wV 1) wP0 (wP1 (wV 3))) (wTup (wCons (wV 6) wNil))) (wCut (wV 1) (wP1 (wOp fAdd (wV 3) (wC (.int 1)))) wP0)) (wCons (wOp fAdd (wOp fAdd (wCut (wV 1) wP0 (wP1 (wV 3))) (wTup (wCons (wCal fList (wCons (wOp fIdx (wV 1) (wV 3)) wNil)) wNil))) (wCut (wV 1) (wP1 (wOp fAdd (wV 3) (wC (.int 1)))) wP0)) (wCons (wCal fList (wCons (wV 1) wNil)) wNil)))))
    (wSeq (wSet 7 (wOp fAdd (wV 7) (wLst (wCons (wOp fAdd (wV 1) (wCut (wV 1) wP0 (wP1 (wC (.int 1))))) (wCons (wOp fAdd (wOp fAdd (wCut (wV 1) wP0 (wP1 (wV 3))) (wTup (wCons (wOp fAdd (wOp fIdx (wV 1) (wV 3)) (wTup (wCons (wC (.int 0)) wNil))) wNil))) (wCut (wV 1) (wP1 (wOp fAdd (wV 3) (wC (.int 1)))) wP0)) (wCons (wTup wNil) (wCons (wC .non) (wCons (wC (.int 3)) (wCons (wOp fMul (wTup (wCons (wC (.int 0)) wNil)) (wV 2)) wNil)))))))))
    (wRet (wOp fIdx (wV 7) (wCall (S__law_take A) (wCons (wV 0) (wCons (wC (.int 9)) wNil)) Ed))))))))))

-- _law_square_of calls [] facts ['b_tuple']
def w__law_square_of (A : Ad) (Ed : DX) : DS :=
    (wRet (wCal fTuple (wCons (wLc (wItems (wV 0)) (gNm 2) wYes (wCal fTuple (wCons (wLc (wItems (wV 1)) (gNm 3) wYes (wOp fMul (wV 2) (wV 3)) [3]) wNil)) [2]) wNil)))

-- _law_square_added calls ['_law_added'] facts ['b_len', 'b_range', 'b_tuple']
def w__law_square_added (A : Ad) (Ed : DX) : DS :=
    (wRet (wCal fTuple (wCons (wLc (wRng1 (wCons (wCal fLen (wCons (wV 0) wNil)) wNil)) (gNm 2) wYes (wCall (S__law_added A) (wCons (wOp fIdx (wV 0) (wV 2)) (wCons (wOp fIdx (wV 1) (wV 2)) wNil)) NoX) [2]) wNil)))

-- _law_square_product calls ['_law_product'] facts ['b_int', 'b_len', 'b_range', 'b_sum']
def w__law_square_product (A : Ad) (Ed : DX) : DS :=
    (wRet (wOp fMod (wCal fInt (wCons (wCal fSum (wCons (wLc (wRng1 (wCons (wCal fLen (wCons (wV 0) wNil)) wNil)) (gNm 2) wYes (wCall (S__law_product A) (wCons (wOp fIdx (wV 0) (wV 2)) (wCons (wOp fIdx (wV 1) (wV 2)) wNil)) NoX) [2]) wNil)) wNil)) (wC (.int 2))))

-- _law_other_size calls [] facts []
def w__law_other_size (A : Ad) (Ed : DX) : DS :=
    (wSeq (wIf (wTst (wOp fLt (wV 0) (wC (.int 12)))) (wRet (wOp fAdd (wV 0) (wC (.int 1)))) wNext)
    (wRet (wC (.int 11))))


end PL
end L2

namespace L2
namespace PL
open PySem PySem.Spec PyProof.Rows
variable [Tabl]
/-- the slots at a def's start -/
abbrev ρ0 (N : List Str) (ds : List D) : List SD := ds.map .d ++ List.replicate (N.length - ds.length) .no
abbrev E0D (Q : D → Prop) : DE := { nx := fun _ => Q .non, rt := Q }
abbrev X0 (E : D → Prop) : DX := fun x _ => E x
section
variable {A : Ad} {ds : List D} {Q E : D → Prop}
theorem isi_run {cls : List Addr} {T : TyN} {v : D} {Q : D → Prop} (o : okW cls v = true) (q : Q (.bl (isTy T v))) : (fIsi cls T v).run Q := by
  cases v with
  | obj C ns l => exact ⟨by simpa [okW] using o, by cases T <;> exact q⟩
  | tok k => cases o
  | fn k => cases o
  | scr ns => cases o
  | _ => exact q
/-! ### comprehensions, loops -/
theorem lcN {te : DW} {i : Nat} {ρb : List SD} {f : D → D} {Q : List D → Prop} : ∀ (xs acc : List D), (∀ x ∈ xs, ∀ P : D → Prop, P (f x) → te (st ρb i (.d x)) fun y _ => P y) → Q (acc ++ xs.map f) → lcW (gNm i) wYes te ρb xs acc Q
  | [], acc, _, q => by
    show Q acc
    simpa using q
  | x :: xs, acc, h, q => ⟨fun _ => h x List.mem_cons_self (fun y => lcW (gNm i) wYes te ρb xs (acc ++ [y]) Q) (lcN xs _ (fun y hy => h y (List.mem_cons_of_mem _ hy)) (by simpa using q)), fun e => nomatch e⟩
/-- what is found is some list of such -/
theorem lcR {te : DW} {i : Nat} {ρb : List SD} {R : D → Prop} {Q : List D → Prop} : ∀ (xs acc : List D), (∀ x ∈ xs, ∀ P : D → Prop, (∀ y, R y → P y) → te (st ρb i (.d x)) fun y _ => P y) → (∀ ys, ys.length = xs.length → (∀ y ∈ ys, R y) → Q (acc ++ ys)) → lcW (gNm i) wYes te ρb xs acc Q
  | [], acc, _, q => by
    have := q [] rfl (fun _ h => nomatch h)
    show Q acc
    simpa using this
  | x :: xs, acc, h, q => ⟨fun _ => h x List.mem_cons_self (fun y => lcW (gNm i) wYes te ρb xs (acc ++ [y]) Q) fun y hy => lcR xs _ (fun y hy => h y (List.mem_cons_of_mem _ hy)) fun ys hl hr => by
      have := q (y :: ys) (by simp [hl]) (fun z hz => by
        rcases List.mem_cons.mp hz with rfl | hz
        · exact hy
        · exact hr z hz)
      simpa using this, fun e => nomatch e⟩
/-- for a, b in zip(..) -/
theorem lcZ {te : DW} {i j : Nat} {ρb : List SD} {f : D → D → D} {Q : List D → Prop} : ∀ (xs ys acc : List D), (∀ p ∈ xs.zip ys, ∀ P : D → Prop, P (f p.1 p.2) → te (st (st ρb i (.d p.1)) j (.d p.2)) fun y _ => P y) → Q (acc ++ List.zipWith f xs ys) →
    lcW (gTp 2 (gCn (gNm i) (gCn (gNm j) gNl))) wYes te ρb (zipD xs ys) acc Q
  | [], _, acc, _, q => by
    show Q acc
    simpa using q
  | _ :: _, [], acc, _, q => by
    show Q acc
    simpa using q
  | x :: xs, y :: ys, acc, h, q => by
    have h1 := h (x, y) (by simp) (fun z => lcW (gTp 2 (gCn (gNm i) (gCn (gNm j) gNl))) wYes te ρb (zipD xs ys) (acc ++ [z]) Q) (lcZ xs ys _ (fun p hp => h p (by simp [hp])) (by simpa using q))
    exact ⟨rfl, rfl, fun _ => h1, fun e => nomatch e⟩
theorem forI {g : DG} {wb : DS} {E : DE} {I : List D → List SD → Prop} (step : ∀ x xs ρ (k : List SD → Prop), I (x :: xs) ρ → (∀ ρ2, I xs ρ2 → k ρ2) → g x ρ fun ρ1 => wb (turnE E k) ρ1) (fin : ∀ ρ, I [] ρ → E.nx ρ) : ∀ items ρ, I items ρ → forW g wb items E ρ
  | [], ρ, h => fin ρ h
  | x :: xs, ρ, h => step x xs ρ _ h fun ρ2 h2 => forI step fin xs ρ2 h2
/-! ### numbers, bits, words -/
theorem p_is_integer (h : S_is_integer A ds Q E) : w_is_integer A (X0 E) (E0D Q) (ρ0 N_is_integer ds) := by
  obtain ⟨v, rfl, o, q⟩ := h
  refine isi_run o ⟨fun e => isi_run o ?_, fun e => ?_⟩
  · cases v <;> first | (cases e; done) | exact q
  · cases v <;> first | (cases e; done) | exact q
theorem p_is_between (h : S_is_between A ds Q E) : w_is_between A (X0 E) (E0D Q) (ρ0 N_is_between ds) := by
  obtain ⟨v, lo, hi, rfl, o, q⟩ := h
  refine ⟨v, rfl, o, fun e => ?_, fun e => ?_⟩
  · cases v <;> first | (cases e; done) | skip
    rename_i i
    refine ⟨fun e => ?_, fun e => ?_⟩
    · show Q _
      simpa [betw, of_decide_eq_true e] using q
    · show Q _
      simpa [betw, of_decide_eq_false e] using q
  · cases v <;> first | (cases e; done) | exact q
theorem bools_all {α : Type} {f : α → Bool} : ∀ l : List α, bools (l.map fun x => D.bl (f x)) = some (l.map f)
  | [] => rfl
  | x :: l => by simp [bools, bools_all l]
theorem all_run {α : Type} {f : α → Bool} {l : List α} {Q : D → Prop} (q : Q (.bl (l.all f))) : (fAll [.lst (l.map fun x => D.bl (f x))]).run Q := by
  unfold fAll
  simp only [bools_all]
  show Q _
  simpa [List.all_map, Function.comp_def] using q
theorem p_are_bits (h : S_are_bits A ds Q E) : w_are_bits A (X0 E) (E0D Q) (ρ0 N_are_bits ds) := by
  obtain ⟨v, l, rfl, hv, hl, o, q⟩ := h
  rcases hv with rfl | rfl
  · exact ⟨by omega, lcN (f := fun x => .bl (isBit x)) l [] (fun x hx P p => ⟨x, 0, 1, rfl, okWs_all.mp o x hx, p⟩) (all_run q)⟩
  · exact ⟨by omega, lcN (f := fun x => .bl (isBit x)) l [] (fun x hx P p => ⟨x, 0, 1, rfl, okWs_all.mp o x hx, p⟩) (all_run q)⟩
theorem p_is_row_of_bits (h : S_is_row_of_bits A ds Q E) : w_is_row_of_bits A (X0 E) (E0D Q) (ρ0 N_is_row_of_bits ds) := by
  obtain ⟨v, n, rfl, ⟨o, hn⟩, q⟩ := h
  cases v <;> simp [okW] at o <;> simp [w_is_row_of_bits, fIsi, wSeq, wIf, wRet, wRetN, wNext, wPass, wDrop, wSet, wSetO, wAsg, wV, wC, wOp, wUn, wCal, wCall, wCons, wNil, wTup, wLst, wTst, wChain, wAnd, wOr, wAndT, wOrT, wNotT, wIfE, gt, st, lstOf, wIdxV, wLenV, wItems, wRng1, wRng2, wZip, wRevR, wRev, wSetLc2, wLc2, wLc2G, wFor, turnE, wSetI, wApp, wTok1, wTok0, wTokS, wRaise1, wRaise2, wCont, wBreak, wCut, wP0, wP1, wLc, wLcG, wSetLc, wSetLcO, roD, roS, wipeD, R1.run, fAdd, fSub, fMul, fDiv, fMod, fAnd, fXor, fShl, fShr, fPow, fLt, fLe, fGt, fGe, fEq, fNe, fLen, fInt, fAbs, fNot, fNeg, fIsN, fNotN, isNon, fIdx, fAt, isTy, ρ0, E0D, X0, List.map, List.replicate, List.append, List.cons_append, List.nil_append]
  case tup l =>
    refine ⟨fun h3 => ⟨_, l, rfl, .inl rfl, by omega, o, ?_⟩, fun h3 => ?_⟩
    · have : isRow (.tup l) n = l.all isBit := by simp [isRow, h3]
      rw [this] at q; exact q
    · have : isRow (.tup l) n = false := by simp [isRow, h3]
      rw [this] at q; exact q
  all_goals first | exact q | exact ⟨o, q⟩ | skip
theorem isWd_row (v : D) (n : Int) : isWd v n = (decide (1 ≤ n ∧ n ≤ 12) && isRow v n) := by
  cases v <;> simp [isWd, isRow, Bool.and_assoc]
theorem p_is_word (h : S_is_word A ds Q E) : w_is_word A (X0 E) (E0D Q) (ρ0 N_is_word ds) := by
  obtain ⟨v, n, rfl, o, q⟩ := h
  rw [isWd_row] at q
  refine And.intro (fun h1 => And.intro (fun h2 => ⟨v, n, rfl, ⟨o, ?_⟩, ?_⟩) fun h2 => ?_) fun h1 => ?_
  · have := of_decide_eq_true h2
    omega
  · have a := of_decide_eq_true h1
    have b := of_decide_eq_true h2
    simpa [a, b] using q
  · have b := of_decide_eq_false h2
    simpa [b] using q
  · have b := of_decide_eq_false h1
    simpa [b] using q
theorem p_is_any_word (h : S_is_any_word A ds Q E) : w_is_any_word A (X0 E) (E0D Q) (ρ0 N_is_any_word ds) := by
  obtain ⟨v, rfl, o, q⟩ := h
  cases v <;> (have o' := o; simp [okW] at o') <;> simp [w_is_any_word, fIsi, wSeq, wIf, wRet, wRetN, wNext, wPass, wDrop, wSet, wSetO, wAsg, wV, wC, wOp, wUn, wCal, wCall, wCons, wNil, wTup, wLst, wTst, wChain, wAnd, wOr, wAndT, wOrT, wNotT, wIfE, gt, st, lstOf, wIdxV, wLenV, wItems, wRng1, wRng2, wZip, wRevR, wRev, wSetLc2, wLc2, wLc2G, wFor, turnE, wSetI, wApp, wTok1, wTok0, wTokS, wRaise1, wRaise2, wCont, wBreak, wCut, wP0, wP1, wLc, wLcG, wSetLc, wSetLcO, roD, roS, wipeD, R1.run, fAdd, fSub, fMul, fDiv, fMod, fAnd, fXor, fShl, fShr, fPow, fLt, fLe, fGt, fGe, fEq, fNe, fLen, fInt, fAbs, fNot, fNeg, fIsN, fNotN, isNon, fIdx, fAt, isTy, ρ0, E0D, X0, List.map, List.replicate, List.append, List.cons_append, List.nil_append]
  case tup l => exact ⟨.tup l, l.length, rfl, o, q⟩
  all_goals first | exact q | exact ⟨o', q⟩
theorem bit_isBit (b : Bool) : isBit (bit b) = true := by cases b <;> rfl
theorem isBit_bit {d : D} (h : isBit d = true) : ∃ b, d = bit b := by
  cases d <;> simp [isBit, betw] at h
  rename_i i
  by_cases e : i = 0
  · exact ⟨false, by simp [bit, e]⟩
  · have : i = 1 := by omega
    exact ⟨true, by simp [bit, this]⟩
theorem bits_of : ∀ {l : List D}, l.all isBit = true → ∃ u : List Bool, l = u.map bit
  | [], _ => ⟨[], rfl⟩
  | d :: l, h => by
    simp only [List.all_cons, Bool.and_eq_true] at h
    obtain ⟨b, rfl⟩ := isBit_bit h.1
    obtain ⟨u, rfl⟩ := bits_of h.2
    exact ⟨b :: u, rfl⟩
theorem wo_wd {x : D} (h : isWo x = true) : ∃ u, x = wd u ∧ 1 ≤ u.length ∧ u.length ≤ 12 := by
  cases x <;> simp [isWo, isWd] at h
  rename_i l
  obtain ⟨u, rfl⟩ := bits_of (l := l) (by simpa using h.2)
  simp at h
  exact ⟨u, rfl, by omega, by omega⟩
theorem wd_wd {u : List Bool} {n : Nat} (h1 : 1 ≤ u.length) (h2 : u.length ≤ 12) (h : u.length = n) : isWd (wd u) n = true := by
  simp [isWd, wd, bit_isBit]
  omega
theorem wd_wo {u : List Bool} (h1 : 1 ≤ u.length) (h2 : u.length ≤ 12) : isWo (wd u) = true := by
  have := wd_wd h1 h2 rfl
  simpa [isWo, wd] using this
theorem okW_bit {cls : List Addr} (b : Bool) : okW cls (bit b) = true := by cases b <;> rfl
theorem okWs_bits {cls : List Addr} (u : List Bool) : okWs cls (u.map bit) = true := okWs_all.mpr fun d h => by
  obtain ⟨b, _, rfl⟩ := List.mem_map.mp h
  exact okW_bit b
theorem okW_wd {cls : List Addr} (u : List Bool) : okW cls (wd u) = true := okWs_bits u
theorem okW_mx {cls : List Addr} (m : List (List Bool)) : okW cls (mx m) = true := okWs_all.mpr fun d h => by
  obtain ⟨b, _, rfl⟩ := List.mem_map.mp h
  exact okW_wd b
theorem rows_of {n : Int} : ∀ {l : List D}, (l.all fun r => isWd r n) = true → ∃ m : List (List Bool), l = m.map wd ∧ ∀ r ∈ m, (r.length : Int) = n ∧ 1 ≤ n ∧ n ≤ 12
  | [], _ => ⟨[], rfl, fun _ h => nomatch h⟩
  | d :: l, h => by
    simp only [List.all_cons, Bool.and_eq_true] at h
    obtain ⟨m, rfl, hm⟩ := rows_of h.2
    have h1 := h.1
    cases d <;> simp [isWd] at h1
    rename_i k
    obtain ⟨u, rfl⟩ := bits_of (l := k) (by simpa using h1.2)
    simp at h1
    refine ⟨u :: m, rfl, fun r hr => ?_⟩
    rcases List.mem_cons.mp hr with rfl | hr
    · exact ⟨h1.1.2.2, h1.1.1, h1.1.2.1⟩
    · exact hm r hr
theorem ma_mx {x : D} (h : isMa x = true) : ∃ m, x = mx m ∧ SqM m.length m ∧ 1 ≤ m.length ∧ m.length ≤ 12 := by
  cases x <;> simp [isMa, isMx] at h
  rename_i l
  obtain ⟨m, rfl, hm⟩ := rows_of (l := l) (n := (l.length : Int)) (by simpa using h.2)
  simp at h
  cases m with
  | nil => simp at h
  | cons r m =>
    have := hm r List.mem_cons_self
    simp at this
    exact ⟨r :: m, rfl, ⟨rfl, fun s hs => by have := (hm s hs).1; simp at this ⊢; omega⟩, by simp, by simp; omega⟩
theorem mx_mx {m : List (List Bool)} {n : Nat} (h : SqM n m) (h1 : 1 ≤ n) (h2 : n ≤ 12) : isMx (mx m) n = true := by
  have e := h.1
  have : m ≠ [] := by
    intro z; subst z; simp at e; omega
  simp [isMx, mx, e]
  exact ⟨by omega, fun r hr => wd_wd (by have := h.2 r hr; omega) (by have := h.2 r hr; omega) (h.2 r hr)⟩
theorem mx_ma {m : List (List Bool)} {n : Nat} (h : SqM n m) (h1 : 1 ≤ n) (h2 : n ≤ 12) : isMa (mx m) = true := by
  have := mx_mx h h1 h2
  have e := h.1
  simpa [isMa, mx, e] using this
theorem p_check_word_pair (h : S_check_word_pair A ds Q E) : w_check_word_pair A (X0 E) (E0D Q) (ρ0 N_check_word_pair ds) := by
  obtain ⟨x, y, rfl, ⟨ox, oy⟩, q⟩ := h
  simp [w_check_word_pair, wSeq, wIf, wRet, wRetN, wNext, wPass, wDrop, wSet, wSetO, wAsg, wV, wC, wOp, wUn, wCal, wCall, wCons, wNil, wTup, wLst, wTst, wChain, wAnd, wOr, wAndT, wOrT, wNotT, wIfE, gt, st, lstOf, wIdxV, wLenV, wItems, wRng1, wRng2, wZip, wRevR, wRev, wSetLc2, wLc2, wLc2G, wFor, turnE, wSetI, wApp, wTok1, wTok0, wTokS, wRaise1, wRaise2, wCont, wBreak, wCut, wP0, wP1, wLc, wLcG, wSetLc, wSetLcO, roD, roS, wipeD, R1.run, fAdd, fSub, fMul, fDiv, fMod, fAnd, fXor, fShl, fShr, fPow, fLt, fLe, fGt, fGe, fEq, fNe, fLen, fInt, fAbs, fNot, fNeg, fIsN, fNotN, isNon, fIdx, fAt, isTy, ρ0, E0D, X0, List.map, List.replicate, List.append, List.cons_append, List.nil_append, forW, gNm]
  refine ⟨x, rfl, ox, fun e1 => ?_, fun e1 => ⟨y, rfl, oy, fun e2 => ?_, fun e2 => ?_⟩⟩
  · simpa [ev, pairW, e1] using q
  · simpa [ev, pairW, e1, e2] using q
  · obtain ⟨u, rfl, h1, h2⟩ := wo_wd e1
    obtain ⟨v, rfl, h3, h4⟩ := wo_wd e2
    simp [wd] at e1 e2
    simp [wd]
    refine ⟨fun e3 => ?_, fun e3 => ?_⟩
    · have e4 : ¬ v.length = u.length := by omega
      simpa [ev, pairW, e1, e2, wd, lenD, e4] using q
    · have e4 : v.length = u.length := by omega
      simpa [ev, pairW, e1, e2, wd, lenD, e4] using q
theorem pair_none {x y : D} (h : pairW x y = none) : ∃ u v, x = wd u ∧ y = wd v ∧ u.length = v.length ∧ 1 ≤ u.length ∧ u.length ≤ 12 := by
  unfold pairW at h
  split at h
  · cases h
  · rename_i e1
    split at h
    · cases h
    · rename_i e2
      split at h
      · cases h
      · rename_i e3
        obtain ⟨u, rfl, h1, h2⟩ := wo_wd (by simpa using e1)
        obtain ⟨v, rfl, h3, h4⟩ := wo_wd (by simpa using e2)
        simp [lenD, wd] at e3
        exact ⟨u, v, rfl, rfl, e3.symm, h1, h2⟩
theorem pairW_wd {u v : List Bool} (h : u.length = v.length) (h1 : 1 ≤ u.length) (h2 : u.length ≤ 12) : pairW (wd u) (wd v) = none := by
  unfold pairW
  rw [wd_wo h1 h2, wd_wo (by omega) (by omega)]
  simp [lenD, wd, h]
theorem bxor (a b : Bool) : Builtin.bitXor (if a then 1 else 0) (if b then 1 else 0) = (if (a != b) then 1 else 0) := by cases a <;> cases b <;> decide
theorem band (a b : Bool) : Builtin.bitAnd (if a then 1 else 0) (if b then 1 else 0) = (if (a && b) then 1 else 0) := by cases a <;> cases b <;> decide
theorem zip_map {α β γ δ : Type} {f : α → γ} {g : β → δ} {h : γ → δ → γ} {k : α → β → α} (e : ∀ a b, h (f a) (g b) = f (k a b)) : ∀ (u : List α) (v : List β), List.zipWith h (u.map f) (v.map g) = (List.zipWith k u v).map f
  | [], _ => by simp
  | _ :: _, [] => by simp
  | a :: u, b :: v => by simp [e, zip_map e u v]
theorem lcW_to {g : DG} {tt : DT} {te : DW} {ρb : List SD} {xs acc : List D} {Q Q' : List D → Prop} (h : lcW g tt te ρb xs acc Q) (e : Q = Q') : lcW g tt te ρb xs acc Q' := e ▸ h
def fx (a b : D) : D := match a, b with
  | .int i, .int j => .int (Builtin.bitXor i j)
  | _, _ => .non
def fa (a b : D) : D := match a, b with
  | .int i, .int j => .int (Builtin.bitAnd i j)
  | _, _ => .non
theorem p_added (h : S_added A ds Q E) : w_added A (X0 E) (E0D Q) (ρ0 N_added ds) := by
  obtain ⟨x, y, rfl, o, q⟩ := h
  simp [w_added, wSeq, wIf, wRet, wRetN, wNext, wPass, wDrop, wSet, wSetO, wAsg, wV, wC, wOp, wUn, wCal, wCall, wCons, wNil, wTup, wLst, wTst, wChain, wAnd, wOr, wAndT, wOrT, wNotT, wIfE, gt, st, lstOf, wIdxV, wLenV, wItems, wRng1, wRng2, wZip, wRevR, wRev, wSetLc2, wLc2, wLc2G, wFor, turnE, wSetI, wApp, wTok1, wTok0, wTokS, wRaise1, wRaise2, wCont, wBreak, wCut, wP0, wP1, wLc, wLcG, wSetLc, wSetLcO, roD, roS, wipeD, R1.run, fAdd, fSub, fMul, fDiv, fMod, fAnd, fXor, fShl, fShr, fPow, fLt, fLe, fGt, fGe, fEq, fNe, fLen, fInt, fAbs, fNot, fNeg, fIsN, fNotN, isNon, fIdx, fAt, isTy, ρ0, E0D, X0, List.map, List.replicate, List.append, List.cons_append, List.nil_append]
  refine ⟨x, y, rfl, o, ?_⟩
  cases e : pairW x y with
  | some z => simpa [e] using q
  | none =>
    rw [e] at q
    obtain ⟨u, v, rfl, rfl, h0, h1, h2⟩ := pair_none e
    simp only [wd]
    refine ⟨by simp [zipD]; omega, lcZ (f := fx) _ _ [] (fun p hp P hP => ?_) ?_⟩
    · obtain ⟨a, b⟩ := p
      have := List.of_mem_zip hp
      obtain ⟨a, _, rfl⟩ := List.mem_map.mp this.1
      obtain ⟨b, _, rfl⟩ := List.mem_map.mp this.2
      simp [wSeq, wIf, wRet, wRetN, wNext, wPass, wDrop, wSet, wSetO, wAsg, wV, wC, wOp, wUn, wCal, wCall, wCons, wNil, wTup, wLst, wTst, wChain, wAnd, wOr, wAndT, wOrT, wNotT, wIfE, gt, st, lstOf, wIdxV, wLenV, wItems, wRng1, wRng2, wZip, wRevR, wRev, wSetLc2, wLc2, wLc2G, wFor, turnE, wSetI, wApp, wTok1, wTok0, wTokS, wRaise1, wRaise2, wCont, wBreak, wCut, wP0, wP1, wLc, wLcG, wSetLc, wSetLcO, roD, roS, wipeD, R1.run, fAdd, fSub, fMul, fDiv, fMod, fAnd, fXor, fShl, fShr, fPow, fLt, fLe, fGt, fGe, fEq, fNe, fLen, fInt, fAbs, fNot, fNeg, fIsN, fNotN, isNon, fIdx, fAt, isTy, ρ0, E0D, X0, List.map, List.replicate, List.append, List.cons_append, List.nil_append, bit]
      simpa [bit, fx] using hP
    · have := q u v rfl rfl
      have z := zip_map (f := bit) (g := bit) (h := fx) (k := fun a b => a != b) (fun a b => by simp [bit, fx, bxor]) u v
      rw [List.nil_append, z]
      exact this
def par (u : List Bool) : Bool := u.foldr (fun a b => a != b) false
theorem sumBits : ∀ u : List Bool, ∃ k : Nat, intsD (u.map bit) = some (u.map fun b => if b then (1 : Int) else 0) ∧ (u.map fun b => if b then (1 : Int) else 0).sum = k ∧ (k % 2 = if par u then 1 else 0)
  | [] => ⟨0, rfl, rfl, rfl⟩
  | b :: u => by
    obtain ⟨k, h1, h2, h3⟩ := sumBits u
    have e : par (b :: u) = (b != par u) := rfl
    rw [e]
    cases b
    · refine ⟨k, by simp [bit, intsD, h1], by simp [h2], ?_⟩
      rw [h3]
      cases par u <;> rfl
    · refine ⟨k + 1, by simp [bit, intsD, h1], by simp [h2]; omega, ?_⟩
      cases e : par u <;> simp [e] at h3 ⊢ <;> omega
theorem sum_bits (u : List Bool) : ∃ k : Nat, fSum [.lst (u.map bit)] = .ok (.int k) ∧ ((k : Int) % 2 = if par u then 1 else 0) := by
  obtain ⟨k, h1, h2, h3⟩ := sumBits u
  refine ⟨k, by unfold fSum; simp only [h1, h2], ?_⟩
  have : ((k % 2 : Nat) : Int) = if par u then 1 else 0 := by
    rw [h3]; cases par u <;> rfl
  simpa using this
theorem p_product_of (h : S_product_of A ds Q E) : w_product_of A (X0 E) (E0D Q) (ρ0 N_product_of ds) := by
  obtain ⟨x, y, rfl, o, q⟩ := h
  simp [w_product_of, wSeq, wIf, wRet, wRetN, wNext, wPass, wDrop, wSet, wSetO, wAsg, wV, wC, wOp, wUn, wCal, wCall, wCons, wNil, wTup, wLst, wTst, wChain, wAnd, wOr, wAndT, wOrT, wNotT, wIfE, gt, st, lstOf, wIdxV, wLenV, wItems, wRng1, wRng2, wZip, wRevR, wRev, wSetLc2, wLc2, wLc2G, wFor, turnE, wSetI, wApp, wTok1, wTok0, wTokS, wRaise1, wRaise2, wCont, wBreak, wCut, wP0, wP1, wLc, wLcG, wSetLc, wSetLcO, roD, roS, wipeD, R1.run, fAdd, fSub, fMul, fDiv, fMod, fAnd, fXor, fShl, fShr, fPow, fLt, fLe, fGt, fGe, fEq, fNe, fLen, fInt, fAbs, fNot, fNeg, fIsN, fNotN, isNon, fIdx, fAt, isTy, ρ0, E0D, X0, List.map, List.replicate, List.append, List.cons_append, List.nil_append]
  refine ⟨x, y, rfl, o, ?_⟩
  cases e : pairW x y with
  | some z => simpa [e] using q
  | none =>
    rw [e] at q
    obtain ⟨u, v, rfl, rfl, h0, h1, h2⟩ := pair_none e
    simp only [wd]
    refine ⟨by simp [zipD]; omega, lcZ (f := fa) _ _ [] (fun p hp P hP => ?_) ?_⟩
    · obtain ⟨a, b⟩ := p
      have := List.of_mem_zip hp
      obtain ⟨a, _, rfl⟩ := List.mem_map.mp this.1
      obtain ⟨b, _, rfl⟩ := List.mem_map.mp this.2
      simp [wSeq, wIf, wRet, wRetN, wNext, wPass, wDrop, wSet, wSetO, wAsg, wV, wC, wOp, wUn, wCal, wCall, wCons, wNil, wTup, wLst, wTst, wChain, wAnd, wOr, wAndT, wOrT, wNotT, wIfE, gt, st, lstOf, wIdxV, wLenV, wItems, wRng1, wRng2, wZip, wRevR, wRev, wSetLc2, wLc2, wLc2G, wFor, turnE, wSetI, wApp, wTok1, wTok0, wTokS, wRaise1, wRaise2, wCont, wBreak, wCut, wP0, wP1, wLc, wLcG, wSetLc, wSetLcO, roD, roS, wipeD, R1.run, fAdd, fSub, fMul, fDiv, fMod, fAnd, fXor, fShl, fShr, fPow, fLt, fLe, fGt, fGe, fEq, fNe, fLen, fInt, fAbs, fNot, fNeg, fIsN, fNotN, isNon, fIdx, fAt, isTy, ρ0, E0D, X0, List.map, List.replicate, List.append, List.cons_append, List.nil_append, bit]
      simpa [bit, fa] using hP
    · have q := q u v rfl rfl
      have z := zip_map (f := bit) (g := bit) (h := fa) (k := fun a b => a && b) (fun a b => by simp [bit, fa, band]) u v
      rw [List.nil_append, z]
      obtain ⟨k, k1, k2⟩ := sum_bits (List.zipWith (fun a b => a && b) u v)
      rw [k1]
      show Q (.int (Builtin.bitAnd (k : Int) 1))
      rw [bitAnd_m1, k2]
      exact q
theorem p_is_matrix (h : S_is_matrix A ds Q E) : w_is_matrix A (X0 E) (E0D Q) (ρ0 N_is_matrix ds) := by
  obtain ⟨v, n, rfl, o, s, q⟩ := h
  cases v <;> (have o' := o; simp [okW] at o') <;> simp [w_is_matrix, fIsi, wSeq, wIf, wRet, wRetN, wNext, wPass, wDrop, wSet, wSetO, wAsg, wV, wC, wOp, wUn, wCal, wCall, wCons, wNil, wTup, wLst, wTst, wChain, wAnd, wOr, wAndT, wOrT, wNotT, wIfE, gt, st, lstOf, wIdxV, wLenV, wItems, wRng1, wRng2, wZip, wRevR, wRev, wSetLc2, wLc2, wLc2G, wFor, turnE, wSetI, wApp, wTok1, wTok0, wTokS, wRaise1, wRaise2, wCont, wBreak, wCut, wP0, wP1, wLc, wLcG, wSetLc, wSetLcO, roD, roS, wipeD, R1.run, fAdd, fSub, fMul, fDiv, fMod, fAnd, fXor, fShl, fShr, fPow, fLt, fLe, fGt, fGe, fEq, fNe, fLen, fInt, fAbs, fNot, fNeg, fIsN, fNotN, isNon, fIdx, fAt, isTy, ρ0, E0D, X0, List.map, List.replicate, List.append, List.cons_append, List.nil_append]
  case tup l =>
    simp [lenD] at s
    refine ⟨fun h1 => ?_, fun h1 => ⟨fun h2 => ⟨by omega, ?_⟩, fun h2 => ?_⟩⟩
    · have : isMx (.tup l) n = false := by simp [isMx, h1]
      rw [this] at q; exact q
    · refine lcN (f := fun x => .bl (isWd x n)) l [] (fun x hx P p => ⟨x, n, rfl, okWs_all.mp o' x hx, p⟩) ?_
      have : isMx (.tup l) n = l.all fun r => isWd r n := by simp [isMx, h1, h2]
      rw [this] at q
      exact all_run q
    · have : isMx (.tup l) n = false := by simp [isMx, h2]
      rw [this] at q; exact q
  all_goals first | exact q | exact ⟨o', q⟩
theorem p_is_any_matrix (h : S_is_any_matrix A ds Q E) : w_is_any_matrix A (X0 E) (E0D Q) (ρ0 N_is_any_matrix ds) := by
  obtain ⟨v, rfl, o, s, q⟩ := h
  cases v <;> (have o' := o; simp [okW] at o') <;> simp [w_is_any_matrix, fIsi, wSeq, wIf, wRet, wRetN, wNext, wPass, wDrop, wSet, wSetO, wAsg, wV, wC, wOp, wUn, wCal, wCall, wCons, wNil, wTup, wLst, wTst, wChain, wAnd, wOr, wAndT, wOrT, wNotT, wIfE, gt, st, lstOf, wIdxV, wLenV, wItems, wRng1, wRng2, wZip, wRevR, wRev, wSetLc2, wLc2, wLc2G, wFor, turnE, wSetI, wApp, wTok1, wTok0, wTokS, wRaise1, wRaise2, wCont, wBreak, wCut, wP0, wP1, wLc, wLcG, wSetLc, wSetLcO, roD, roS, wipeD, R1.run, fAdd, fSub, fMul, fDiv, fMod, fAnd, fXor, fShl, fShr, fPow, fLt, fLe, fGt, fGe, fEq, fNe, fLen, fInt, fAbs, fNot, fNeg, fIsN, fNotN, isNon, fIdx, fAt, isTy, ρ0, E0D, X0, List.map, List.replicate, List.append, List.cons_append, List.nil_append]
  case tup l => exact ⟨.tup l, l.length, rfl, o, s, q⟩
  all_goals first | exact q | exact ⟨o', q⟩
theorem p_check_square_pair (h : S_check_square_pair A ds Q E) : w_check_square_pair A (X0 E) (E0D Q) (ρ0 N_check_square_pair ds) := by
  obtain ⟨x, y, rfl, ⟨⟨ox, sx⟩, oy, sy⟩, q⟩ := h
  simp [w_check_square_pair, wSeq, wIf, wRet, wRetN, wNext, wPass, wDrop, wSet, wSetO, wAsg, wV, wC, wOp, wUn, wCal, wCall, wCons, wNil, wTup, wLst, wTst, wChain, wAnd, wOr, wAndT, wOrT, wNotT, wIfE, gt, st, lstOf, wIdxV, wLenV, wItems, wRng1, wRng2, wZip, wRevR, wRev, wSetLc2, wLc2, wLc2G, wFor, turnE, wSetI, wApp, wTok1, wTok0, wTokS, wRaise1, wRaise2, wCont, wBreak, wCut, wP0, wP1, wLc, wLcG, wSetLc, wSetLcO, roD, roS, wipeD, R1.run, fAdd, fSub, fMul, fDiv, fMod, fAnd, fXor, fShl, fShr, fPow, fLt, fLe, fGt, fGe, fEq, fNe, fLen, fInt, fAbs, fNot, fNeg, fIsN, fNotN, isNon, fIdx, fAt, isTy, ρ0, E0D, X0, List.map, List.replicate, List.append, List.cons_append, List.nil_append, forW, gNm]
  refine ⟨x, rfl, ox, sx, fun e1 => ?_, fun e1 => ⟨y, rfl, oy, sy, fun e2 => ?_, fun e2 => ?_⟩⟩
  · simpa [ev, pairM, e1] using q
  · simpa [ev, pairM, e1, e2] using q
  · obtain ⟨u, rfl, h1, h2⟩ := ma_mx e1
    obtain ⟨v, rfl, h3, h4⟩ := ma_mx e2
    simp [mx] at e1 e2
    simp [mx]
    refine ⟨fun e3 => ?_, fun e3 => ?_⟩
    · have e4 : ¬ v.length = u.length := by omega
      simpa [ev, pairM, e1, e2, mx, lenD, e4] using q
    · have e4 : v.length = u.length := by omega
      simpa [ev, pairM, e1, e2, mx, lenD, e4] using q
theorem pairM_none {x y : D} (h : pairM x y = none) : ∃ n u v, x = mx u ∧ y = mx v ∧ SqM n u ∧ SqM n v ∧ 1 ≤ n ∧ n ≤ 12 := by
  unfold pairM at h
  split at h
  · cases h
  · rename_i e1
    split at h
    · cases h
    · rename_i e2
      split at h
      · cases h
      · rename_i e3
        obtain ⟨u, rfl, h1, h2⟩ := ma_mx (by simpa using e1)
        obtain ⟨v, rfl, h3, h4⟩ := ma_mx (by simpa using e2)
        simp [lenD, mx] at e3
        exact ⟨_, u, v, rfl, rfl, h1, e3 ▸ h3, h2.1, h2.2⟩
theorem pairM_mx {n : Nat} {u v : List (List Bool)} (h : SqM n u) (h' : SqM n v) (h1 : 1 ≤ n) (h2 : n ≤ 12) : pairM (mx u) (mx v) = none := by
  unfold pairM
  rw [mx_ma h h1 h2, mx_ma h' h1 h2]
  simp [lenD, mx, h.1, h'.1]
end
end PL
end L2

namespace L2
namespace PL
open PySem PySem.Spec PyProof.Rows
variable [Tabl]
section
variable {A : Ad} {ds : List D} {Q E : D → Prop}
theorem atI_nat {l : List D} {k : Nat} (h : k < l.length) : atI l (k : Int) = some l[k] := by
  have : ixN l.length (k : Int) = some k := by
    unfold ixN
    simp [h]
  unfold atI
  rw [this]
  exact List.getElem?_eq_getElem h
theorem lcRng {te : DW} {i : Nat} {ρb : List SD} {F : Nat → D} {Q : List D → Prop} {n : Nat} (h : ∀ k, k < n → ∀ P : D → Prop, P (F k) → te (st ρb i (.d (.int (k : Int)))) fun y _ => P y) (q : Q ((List.range n).map F)) : lcW (gNm i) wYes te ρb (rng 0 n) [] Q := by
  refine lcN (f := fun d => match d with | .int k => F k.toNat | _ => .non) (rng 0 n) [] (fun x hx P p => ?_) ?_
  · unfold rng at hx
    obtain ⟨k, hk, rfl⟩ := List.mem_map.mp hx
    have hk := List.mem_range.mp hk
    have e : (0 : Int) + (k : Int) = (k : Int) := by omega
    rw [e] at p ⊢
    exact h k hk P (by simpa using p)
  · unfold rng
    simpa [List.map_map, Function.comp_def] using q
theorem lcRngR {te : DW} {i : Nat} {ρb : List SD} {R : D → Prop} {Q : List D → Prop} {n : Nat} (h : ∀ k, k < n → ∀ P : D → Prop, (∀ y, R y → P y) → te (st ρb i (.d (.int (k : Int)))) fun y _ => P y) (q : ∀ ys, ys.length = n → (∀ y ∈ ys, R y) → Q ys) : lcW (gNm i) wYes te ρb (rng 0 n) [] Q := by
  refine lcR (R := R) (rng 0 n) [] (fun x hx P p => ?_) fun ys hl hr => by simpa using q ys (by simpa [rng] using hl) hr
  unfold rng at hx
  obtain ⟨k, hk, rfl⟩ := List.mem_map.mp hx
  have e : (0 : Int) + (k : Int) = (k : Int) := by omega
  rw [e]
  exact h k (List.mem_range.mp hk) P p
theorem rng_len {n : Nat} : (rng 0 n).length = n := by simp [rng]
theorem range_eq {α : Type} {n : Nat} {F : Nat → α} {L : List α} (hl : L.length = n) (h : ∀ k (hk : k < L.length), F k = L[k]) : (List.range n).map F = L := by
  apply List.ext_getElem
  · simp [hl]
  · intro k h1 h2
    simp [h k h2]
theorem p_square_of (h : S_square_of A ds Q E) : w_square_of A (X0 E) (E0D Q) (ρ0 N_square_of ds) := by
  obtain ⟨x, y, rfl, o, q⟩ := h
  simp [w_square_of, wSeq, wIf, wRet, wRetN, wNext, wPass, wDrop, wSet, wSetO, wAsg, wV, wC, wOp, wUn, wCal, wCall, wCons, wNil, wTup, wLst, wTst, wChain, wAnd, wOr, wAndT, wOrT, wNotT, wIfE, gt, st, lstOf, wIdxV, wLenV, wItems, wRng1, wRng2, wZip, wRevR, wRev, wSetLc2, wLc2, wLc2G, wFor, turnE, wSetI, wApp, wTok1, wTok0, wTokS, wRaise1, wRaise2, wCont, wBreak, wCut, wP0, wP1, wLc, wLcG, wSetLc, wSetLcO, roD, roS, wipeD, R1.run, fAdd, fSub, fMul, fDiv, fMod, fAnd, fXor, fShl, fShr, fPow, fLt, fLe, fGt, fGe, fEq, fNe, fLen, fInt, fAbs, fNot, fNeg, fIsN, fNotN, isNon, fIdx, fAt, isTy, ρ0, E0D, X0, List.map, List.replicate, List.append, List.cons_append, List.nil_append]
  refine ⟨x, y, rfl, o, ?_⟩
  cases e : pairW x y with
  | some z => simpa [e] using q
  | none =>
    rw [e] at q
    obtain ⟨u, v, rfl, rfl, h0, h1, h2⟩ := pair_none e
    simp only [wd]
    refine ⟨by simp; omega, lcN (f := fun d => .tup (v.map fun b => fa d (bit b))) _ [] (fun x hx P p => ?_) ?_⟩
    · obtain ⟨a, _, rfl⟩ := List.mem_map.mp hx
      simp only [wSeq, wIf, wRet, wRetN, wNext, wPass, wDrop, wSet, wSetO, wAsg, wV, wC, wOp, wUn, wCal, wCall, wCons, wNil, wTup, wLst, wTst, wChain, wAnd, wOr, wAndT, wOrT, wNotT, wIfE, gt, st, lstOf, wIdxV, wLenV, wItems, wRng1, wRng2, wZip, wRevR, wRev, wSetLc2, wLc2, wLc2G, wFor, turnE, wSetI, wApp, wTok1, wTok0, wTokS, wRaise1, wRaise2, wCont, wBreak, wCut, wP0, wP1, wLc, wLcG, wSetLc, wSetLcO, roD, roS, wipeD, R1.run, fAdd, fSub, fMul, fDiv, fMod, fAnd, fXor, fShl, fShr, fPow, fLt, fLe, fGt, fGe, fEq, fNe, fLen, fInt, fAbs, fNot, fNeg, fIsN, fNotN, isNon, fIdx, fAt, isTy, ρ0, E0D, X0, List.map, List.replicate, List.append, List.cons_append, List.nil_append]
      refine ⟨by simp; omega, lcN (f := fun d => fa (bit a) d) _ [] (fun x hx P p => ?_) ?_⟩
      · obtain ⟨b, _, rfl⟩ := List.mem_map.mp hx
        simp [wSeq, wIf, wRet, wRetN, wNext, wPass, wDrop, wSet, wSetO, wAsg, wV, wC, wOp, wUn, wCal, wCall, wCons, wNil, wTup, wLst, wTst, wChain, wAnd, wOr, wAndT, wOrT, wNotT, wIfE, gt, st, lstOf, wIdxV, wLenV, wItems, wRng1, wRng2, wZip, wRevR, wRev, wSetLc2, wLc2, wLc2G, wFor, turnE, wSetI, wApp, wTok1, wTok0, wTokS, wRaise1, wRaise2, wCont, wBreak, wCut, wP0, wP1, wLc, wLcG, wSetLc, wSetLcO, roD, roS, wipeD, R1.run, fAdd, fSub, fMul, fDiv, fMod, fAnd, fXor, fShl, fShr, fPow, fLt, fLe, fGt, fGe, fEq, fNe, fLen, fInt, fAbs, fNot, fNeg, fIsN, fNotN, isNon, fIdx, fAt, isTy, ρ0, E0D, X0, List.map, List.replicate, List.append, List.cons_append, List.nil_append, bit]
        simpa [bit, fa] using p
      · show P _
        simpa [List.map_map, Function.comp_def] using p
    · have q := q u v rfl rfl
      show Q _
      have e : ∀ a b, fa (bit a) (bit b) = bit (a && b) := fun a b => by simp [bit, fa, band]
      simpa [mx, sqL, wd, List.map_map, Function.comp_def, e] using q
theorem row_len {n : Nat} {m : List (List Bool)} (h : SqM n m) {k : Nat} (hk : k < m.length) : m[k].length = n := h.2 _ (List.getElem_mem hk)
def ax (a b : D) : D := match a, b with
  | .tup l, .tup k => .tup (List.zipWith fx l k)
  | _, _ => .non
def dx (a b : D) : D := match a, b with
  | .tup l, .tup k => match fSum [.lst (List.zipWith fa l k)] with
    | .ok (.int i) => .int (i % 2)
    | _ => .non
  | _, _ => .non
theorem ax_wd (u v : List Bool) : ax (wd u) (wd v) = wd (xorL u v) := by
  simp only [ax, wd]
  rw [zip_map (f := bit) (g := bit) (h := fx) (k := fun a b => a != b) (fun a b => by simp [bit, fx, bxor]) u v]
  rfl
theorem dx_wd (u v : List Bool) : dx (wd u) (wd v) = bit (dotL u v) := by
  simp only [dx, wd]
  rw [zip_map (f := bit) (g := bit) (h := fa) (k := fun a b => a && b) (fun a b => by simp [bit, fa, band]) u v]
  obtain ⟨k, k1, k2⟩ := sum_bits (List.zipWith (fun a b => a && b) u v)
  rw [k1]
  simp only [k2]
  rfl
theorem p_added_squares (h : S_added_squares A ds Q E) : w_added_squares A (X0 E) (E0D Q) (ρ0 N_added_squares ds) := by
  obtain ⟨x, y, rfl, o, q⟩ := h
  simp [w_added_squares, wSeq, wIf, wRet, wRetN, wNext, wPass, wDrop, wSet, wSetO, wAsg, wV, wC, wOp, wUn, wCal, wCall, wCons, wNil, wTup, wLst, wTst, wChain, wAnd, wOr, wAndT, wOrT, wNotT, wIfE, gt, st, lstOf, wIdxV, wLenV, wItems, wRng1, wRng2, wZip, wRevR, wRev, wSetLc2, wLc2, wLc2G, wFor, turnE, wSetI, wApp, wTok1, wTok0, wTokS, wRaise1, wRaise2, wCont, wBreak, wCut, wP0, wP1, wLc, wLcG, wSetLc, wSetLcO, roD, roS, wipeD, R1.run, fAdd, fSub, fMul, fDiv, fMod, fAnd, fXor, fShl, fShr, fPow, fLt, fLe, fGt, fGe, fEq, fNe, fLen, fInt, fAbs, fNot, fNeg, fIsN, fNotN, isNon, fIdx, fAt, isTy, ρ0, E0D, X0, List.map, List.replicate, List.append, List.cons_append, List.nil_append]
  refine ⟨x, y, rfl, o, ?_⟩
  cases e : pairM x y with
  | some z => simpa [e] using q
  | none =>
    rw [e] at q
    obtain ⟨n, u, v, rfl, rfl, h0, h0', h1, h2⟩ := pairM_none e
    simp only [mx]
    have e1 := h0.1
    have e2 := h0'.1
    refine ⟨by simp [zipD]; omega, lcZ (f := ax) _ _ [] (fun p hp P hP => ?_) ?_⟩
    · obtain ⟨a, b⟩ := p
      have := List.of_mem_zip hp
      obtain ⟨a, ha, rfl⟩ := List.mem_map.mp this.1
      obtain ⟨b, hb, rfl⟩ := List.mem_map.mp this.2
      have la := h0.2 a ha
      have lb := h0'.2 b hb
      refine ⟨wd a, wd b, rfl, ⟨okW_wd a, okW_wd b⟩, ?_⟩
      rw [pairW_wd (by omega) (by omega) (by omega)]
      intro u' v' eu ev
      simp only [eu, ev] at hP
      rw [ax_wd] at hP
      exact hP
    · have q := q u v rfl rfl
      show Q _
      rw [List.nil_append, zip_map (f := wd) (g := wd) (h := ax) (k := xorL) ax_wd u v]
      exact q
theorem p_square_product (h : S_square_product A ds Q E) : w_square_product A (X0 E) (E0D Q) (ρ0 N_square_product ds) := by
  obtain ⟨x, y, rfl, o, q⟩ := h
  simp [w_square_product, wSeq, wIf, wRet, wRetN, wNext, wPass, wDrop, wSet, wSetO, wAsg, wV, wC, wOp, wUn, wCal, wCall, wCons, wNil, wTup, wLst, wTst, wChain, wAnd, wOr, wAndT, wOrT, wNotT, wIfE, gt, st, lstOf, wIdxV, wLenV, wItems, wRng1, wRng2, wZip, wRevR, wRev, wSetLc2, wLc2, wLc2G, wFor, turnE, wSetI, wApp, wTok1, wTok0, wTokS, wRaise1, wRaise2, wCont, wBreak, wCut, wP0, wP1, wLc, wLcG, wSetLc, wSetLcO, roD, roS, wipeD, R1.run, fAdd, fSub, fMul, fDiv, fMod, fAnd, fXor, fShl, fShr, fPow, fLt, fLe, fGt, fGe, fEq, fNe, fLen, fInt, fAbs, fNot, fNeg, fIsN, fNotN, isNon, fIdx, fAt, isTy, ρ0, E0D, X0, List.map, List.replicate, List.append, List.cons_append, List.nil_append]
  refine ⟨x, y, rfl, o, ?_⟩
  cases e : pairM x y with
  | some z => simpa [e] using q
  | none =>
    rw [e] at q
    obtain ⟨n, u, v, rfl, rfl, h0, h0', h1, h2⟩ := pairM_none e
    simp only [mx]
    have e1 := h0.1
    have e2 := h0'.1
    refine ⟨by simp [zipD]; omega, lcZ (f := dx) _ _ [] (fun p hp P hP => ?_) ?_⟩
    · obtain ⟨a, b⟩ := p
      have := List.of_mem_zip hp
      obtain ⟨a, ha, rfl⟩ := List.mem_map.mp this.1
      obtain ⟨b, hb, rfl⟩ := List.mem_map.mp this.2
      have la := h0.2 a ha
      have lb := h0'.2 b hb
      refine ⟨wd a, wd b, rfl, ⟨okW_wd a, okW_wd b⟩, ?_⟩
      rw [pairW_wd (by omega) (by omega) (by omega)]
      intro u' v' eu ev
      simp only [eu, ev] at hP
      rw [dx_wd] at hP
      exact hP
    · have q := q u v rfl rfl
      have z : List.zipWith dx (u.map wd) (v.map wd) = (List.zipWith dotL u v).map bit := by
        clear e o q h0 h0' e1 e2
        induction u generalizing v with
        | nil => simp
        | cons a u ih => cases v with
          | nil => simp
          | cons b v => simp [dx_wd, ih]
      rw [List.nil_append, z]
      obtain ⟨k, k1, k2⟩ := sum_bits (List.zipWith dotL u v)
      rw [k1]
      show Q (.int (Builtin.bitAnd (k : Int) 1))
      rw [bitAnd_m1, k2]
      exact q
theorem p__law_take (h : S__law_take A ds Q E) : w__law_take A (X0 E) (E0D Q) (ρ0 N__law_take ds) := by
  obtain ⟨m, rfl, h0, q⟩ := h
  simp [w__law_take, wSeq, wIf, wRet, wRetN, wNext, wPass, wDrop, wSet, wSetO, wAsg, wV, wC, wOp, wUn, wCal, wCall, wCons, wNil, wTup, wLst, wTst, wChain, wAnd, wOr, wAndT, wOrT, wNotT, wIfE, gt, st, lstOf, wIdxV, wLenV, wItems, wRng1, wRng2, wZip, wRevR, wRev, wSetLc2, wLc2, wLc2G, wFor, turnE, wSetI, wApp, wTok1, wTok0, wTokS, wRaise1, wRaise2, wCont, wBreak, wCut, wP0, wP1, wLc, wLcG, wSetLc, wSetLcO, roD, roS, wipeD, R1.run, fAdd, fSub, fMul, fDiv, fMod, fAnd, fXor, fShl, fShr, fPow, fLt, fLe, fGt, fGe, fEq, fNe, fLen, fInt, fAbs, fNot, fNeg, fIsN, fNotN, isNon, fIdx, fAt, isTy, ρ0, E0D, X0, List.map, List.replicate, List.append, List.cons_append, List.nil_append]
  refine fun n => ⟨⟨n + 1, by simp⟩, fun ns => ⟨fun _ => q 0 (by omega) h0, fun hn => ?_⟩⟩
  rw [atI_nat (by simpa using hn)]
  simp
  refine ⟨⟨by decide, .inl (by decide)⟩, by omega, ?_⟩
  rw [Int.fmod_eq_emod_of_nonneg _ (by omega)]
  exact q _ (Int.emod_nonneg _ (by omega)) (Int.emod_lt_of_pos _ h0)
theorem p__law_word (h : S__law_word A ds Q E) : w__law_word A (X0 E) (E0D Q) (ρ0 N__law_word ds) := by
  obtain ⟨n, rfl, h0, q⟩ := h
  simp [w__law_word, wSeq, wIf, wRet, wRetN, wNext, wPass, wDrop, wSet, wSetO, wAsg, wV, wC, wOp, wUn, wCal, wCall, wCons, wNil, wTup, wLst, wTst, wChain, wAnd, wOr, wAndT, wOrT, wNotT, wIfE, gt, st, lstOf, wIdxV, wLenV, wItems, wRng1, wRng2, wZip, wRevR, wRev, wSetLc2, wLc2, wLc2G, wFor, turnE, wSetI, wApp, wTok1, wTok0, wTokS, wRaise1, wRaise2, wCont, wBreak, wCut, wP0, wP1, wLc, wLcG, wSetLc, wSetLcO, roD, roS, wipeD, R1.run, fAdd, fSub, fMul, fDiv, fMod, fAnd, fXor, fShl, fShr, fPow, fLt, fLe, fGt, fGe, fEq, fNe, fLen, fInt, fAbs, fNot, fNeg, fIsN, fNotN, isNon, fIdx, fAt, isTy, ρ0, E0D, X0, List.map, List.replicate, List.append, List.cons_append, List.nil_append]
  refine ⟨by omega, by rw [rng_len]; omega, lcRngR (R := fun y => ∃ b, y = bit b) (fun k hk P p => ?_) fun ys hl hr => ?_⟩
  · refine ⟨2, rfl, by decide, fun v h1 h2 => ?_⟩
    have : v = 0 ∨ v = 1 := by omega
    rcases this with rfl | rfl
    · exact p _ ⟨false, rfl⟩
    · exact p _ ⟨true, rfl⟩
  · have : ∃ u : List Bool, ys = u.map bit := by
      clear hl
      induction ys with
      | nil => exact ⟨[], rfl⟩
      | cons y ys ih =>
        obtain ⟨b, rfl⟩ := hr y List.mem_cons_self
        obtain ⟨u, rfl⟩ := ih fun z hz => hr z (List.mem_cons_of_mem _ hz)
        exact ⟨b :: u, rfl⟩
    obtain ⟨u, rfl⟩ := this
    exact q u (by simpa using hl)
theorem getbit {u : List Bool} {k : Nat} (h : k < u.length) : atI (u.map bit) (k : Int) = some (bit u[k]) := by
  rw [atI_nat (by simpa using h)]
  simp
theorem getrow {m : List (List Bool)} {k : Nat} (h : k < m.length) : atI (m.map wd) (k : Int) = some (wd m[k]) := by
  rw [atI_nat (by simpa using h)]
  simp
theorem p__law_added (h : S__law_added A ds Q E) : w__law_added A (X0 E) (E0D Q) (ρ0 N__law_added ds) := by
  obtain ⟨u, v, rfl, ⟨h0, h1⟩, q⟩ := h
  simp [w__law_added, wSeq, wIf, wRet, wRetN, wNext, wPass, wDrop, wSet, wSetO, wAsg, wV, wC, wOp, wUn, wCal, wCall, wCons, wNil, wTup, wLst, wTst, wChain, wAnd, wOr, wAndT, wOrT, wNotT, wIfE, gt, st, lstOf, wIdxV, wLenV, wItems, wRng1, wRng2, wZip, wRevR, wRev, wSetLc2, wLc2, wLc2G, wFor, turnE, wSetI, wApp, wTok1, wTok0, wTokS, wRaise1, wRaise2, wCont, wBreak, wCut, wP0, wP1, wLc, wLcG, wSetLc, wSetLcO, roD, roS, wipeD, R1.run, fAdd, fSub, fMul, fDiv, fMod, fAnd, fXor, fShl, fShr, fPow, fLt, fLe, fGt, fGe, fEq, fNe, fLen, fInt, fAbs, fNot, fNeg, fIsN, fNotN, isNon, fIdx, fAt, isTy, ρ0, E0D, X0, List.map, List.replicate, List.append, List.cons_append, List.nil_append, wd]
  refine ⟨by omega, by rw [rng_len]; omega, lcRng (F := fun k => bit (u[k]! != v[k]!)) (fun k hk P p => ?_) ?_⟩
  · have hv : k < v.length := by omega
    simp [wSeq, wIf, wRet, wRetN, wNext, wPass, wDrop, wSet, wSetO, wAsg, wV, wC, wOp, wUn, wCal, wCall, wCons, wNil, wTup, wLst, wTst, wChain, wAnd, wOr, wAndT, wOrT, wNotT, wIfE, gt, st, lstOf, wIdxV, wLenV, wItems, wRng1, wRng2, wZip, wRevR, wRev, wSetLc2, wLc2, wLc2G, wFor, turnE, wSetI, wApp, wTok1, wTok0, wTokS, wRaise1, wRaise2, wCont, wBreak, wCut, wP0, wP1, wLc, wLcG, wSetLc, wSetLcO, roD, roS, wipeD, R1.run, fAdd, fSub, fMul, fDiv, fMod, fAnd, fXor, fShl, fShr, fPow, fLt, fLe, fGt, fGe, fEq, fNe, fLen, fInt, fAbs, fNot, fNeg, fIsN, fNotN, isNon, fIdx, fAt, isTy, ρ0, E0D, X0, List.map, List.replicate, List.append, List.cons_append, List.nil_append, getbit hk, getbit hv]
    simp [hk, hv] at p
    cases e1 : u[k] <;> cases e2 : v[k] <;> simpa [e1, e2, bit] using p
  · show Q _
    rw [range_eq (L := (xorL u v).map bit) (by simp [xorL]; omega) fun k hk => ?_]
    · exact q
    · have hk' : k < min u.length v.length := by simpa [xorL] using hk
      have a1 : k < u.length := by omega
      have a2 : k < v.length := by omega
      simp [xorL, a1, a2]
theorem p__law_product (h : S__law_product A ds Q E) : w__law_product A (X0 E) (E0D Q) (ρ0 N__law_product ds) := by
  obtain ⟨u, v, rfl, ⟨h0, h1⟩, q⟩ := h
  simp [w__law_product, wSeq, wIf, wRet, wRetN, wNext, wPass, wDrop, wSet, wSetO, wAsg, wV, wC, wOp, wUn, wCal, wCall, wCons, wNil, wTup, wLst, wTst, wChain, wAnd, wOr, wAndT, wOrT, wNotT, wIfE, gt, st, lstOf, wIdxV, wLenV, wItems, wRng1, wRng2, wZip, wRevR, wRev, wSetLc2, wLc2, wLc2G, wFor, turnE, wSetI, wApp, wTok1, wTok0, wTokS, wRaise1, wRaise2, wCont, wBreak, wCut, wP0, wP1, wLc, wLcG, wSetLc, wSetLcO, roD, roS, wipeD, R1.run, fAdd, fSub, fMul, fDiv, fMod, fAnd, fXor, fShl, fShr, fPow, fLt, fLe, fGt, fGe, fEq, fNe, fLen, fInt, fAbs, fNot, fNeg, fIsN, fNotN, isNon, fIdx, fAt, isTy, ρ0, E0D, X0, List.map, List.replicate, List.append, List.cons_append, List.nil_append, wd]
  refine ⟨by omega, by rw [rng_len]; omega, lcRng (F := fun k => bit (u[k]! && v[k]!)) (fun k hk P p => ?_) ?_⟩
  · have hv : k < v.length := by omega
    simp [wSeq, wIf, wRet, wRetN, wNext, wPass, wDrop, wSet, wSetO, wAsg, wV, wC, wOp, wUn, wCal, wCall, wCons, wNil, wTup, wLst, wTst, wChain, wAnd, wOr, wAndT, wOrT, wNotT, wIfE, gt, st, lstOf, wIdxV, wLenV, wItems, wRng1, wRng2, wZip, wRevR, wRev, wSetLc2, wLc2, wLc2G, wFor, turnE, wSetI, wApp, wTok1, wTok0, wTokS, wRaise1, wRaise2, wCont, wBreak, wCut, wP0, wP1, wLc, wLcG, wSetLc, wSetLcO, roD, roS, wipeD, R1.run, fAdd, fSub, fMul, fDiv, fMod, fAnd, fXor, fShl, fShr, fPow, fLt, fLe, fGt, fGe, fEq, fNe, fLen, fInt, fAbs, fNot, fNeg, fIsN, fNotN, isNon, fIdx, fAt, isTy, ρ0, E0D, X0, List.map, List.replicate, List.append, List.cons_append, List.nil_append, getbit hk, getbit hv]
    simp [hk, hv] at p
    cases e1 : u[k] <;> cases e2 : v[k] <;> simp [e1, e2, bit] at p ⊢ <;> exact ⟨.inl (.inl (by decide)), p⟩
  · rw [range_eq (L := (List.zipWith (fun a b => a && b) u v).map bit) (by simp; omega) fun k hk => ?_]
    · obtain ⟨k, k1, k2⟩ := sum_bits (List.zipWith (fun a b => a && b) u v)
      rw [k1]
      simp
      have : Int.fmod (k : Int) 2 = (k : Int) % 2 := by rw [Int.fmod_eq_emod_of_nonneg _ (by decide)]
      rw [this, k2]
      exact q
    · have hk' : k < min u.length v.length := by simpa using hk
      have a1 : k < u.length := by omega
      have a2 : k < v.length := by omega
      simp [a1, a2]
theorem p__law_square_added (h : S__law_square_added A ds Q E) : w__law_square_added A (X0 E) (E0D Q) (ρ0 N__law_square_added ds) := by
  obtain ⟨n, u, v, rfl, ⟨h0, h0', h1⟩, q⟩ := h
  have e1 := h0.1
  have e2 := h0'.1
  simp [w__law_square_added, wSeq, wIf, wRet, wRetN, wNext, wPass, wDrop, wSet, wSetO, wAsg, wV, wC, wOp, wUn, wCal, wCall, wCons, wNil, wTup, wLst, wTst, wChain, wAnd, wOr, wAndT, wOrT, wNotT, wIfE, gt, st, lstOf, wIdxV, wLenV, wItems, wRng1, wRng2, wZip, wRevR, wRev, wSetLc2, wLc2, wLc2G, wFor, turnE, wSetI, wApp, wTok1, wTok0, wTokS, wRaise1, wRaise2, wCont, wBreak, wCut, wP0, wP1, wLc, wLcG, wSetLc, wSetLcO, roD, roS, wipeD, R1.run, fAdd, fSub, fMul, fDiv, fMod, fAnd, fXor, fShl, fShr, fPow, fLt, fLe, fGt, fGe, fEq, fNe, fLen, fInt, fAbs, fNot, fNeg, fIsN, fNotN, isNon, fIdx, fAt, isTy, ρ0, E0D, X0, List.map, List.replicate, List.append, List.cons_append, List.nil_append, mx]
  refine ⟨by omega, by rw [rng_len]; omega, lcRng (F := fun k => wd (xorL u[k]! v[k]!)) (fun k hk P p => ?_) ?_⟩
  · have hv : k < v.length := by omega
    simp [wSeq, wIf, wRet, wRetN, wNext, wPass, wDrop, wSet, wSetO, wAsg, wV, wC, wOp, wUn, wCal, wCall, wCons, wNil, wTup, wLst, wTst, wChain, wAnd, wOr, wAndT, wOrT, wNotT, wIfE, gt, st, lstOf, wIdxV, wLenV, wItems, wRng1, wRng2, wZip, wRevR, wRev, wSetLc2, wLc2, wLc2G, wFor, turnE, wSetI, wApp, wTok1, wTok0, wTokS, wRaise1, wRaise2, wCont, wBreak, wCut, wP0, wP1, wLc, wLcG, wSetLc, wSetLcO, roD, roS, wipeD, R1.run, fAdd, fSub, fMul, fDiv, fMod, fAnd, fXor, fShl, fShr, fPow, fLt, fLe, fGt, fGe, fEq, fNe, fLen, fInt, fAbs, fNot, fNeg, fIsN, fNotN, isNon, fIdx, fAt, isTy, ρ0, E0D, X0, List.map, List.replicate, List.append, List.cons_append, List.nil_append, getrow hk, getrow hv]
    simp [hk, hv] at p
    exact ⟨_, _, rfl, ⟨by rw [row_len h0, row_len h0'], by rw [row_len h0]; omega⟩, p⟩
  · show Q _
    rw [range_eq (L := (xorM u v).map wd) (by simp [xorM]; omega) fun k hk => ?_]
    · exact q
    · have hk' : k < min u.length v.length := by simpa [xorM] using hk
      have a1 : k < u.length := by omega
      have a2 : k < v.length := by omega
      simp [xorM, a1, a2]
theorem p__law_square_product (h : S__law_square_product A ds Q E) : w__law_square_product A (X0 E) (E0D Q) (ρ0 N__law_square_product ds) := by
  obtain ⟨n, u, v, rfl, ⟨h0, h0', h1⟩, q⟩ := h
  have e1 := h0.1
  have e2 := h0'.1
  simp [w__law_square_product, wSeq, wIf, wRet, wRetN, wNext, wPass, wDrop, wSet, wSetO, wAsg, wV, wC, wOp, wUn, wCal, wCall, wCons, wNil, wTup, wLst, wTst, wChain, wAnd, wOr, wAndT, wOrT, wNotT, wIfE, gt, st, lstOf, wIdxV, wLenV, wItems, wRng1, wRng2, wZip, wRevR, wRev, wSetLc2, wLc2, wLc2G, wFor, turnE, wSetI, wApp, wTok1, wTok0, wTokS, wRaise1, wRaise2, wCont, wBreak, wCut, wP0, wP1, wLc, wLcG, wSetLc, wSetLcO, roD, roS, wipeD, R1.run, fAdd, fSub, fMul, fDiv, fMod, fAnd, fXor, fShl, fShr, fPow, fLt, fLe, fGt, fGe, fEq, fNe, fLen, fInt, fAbs, fNot, fNeg, fIsN, fNotN, isNon, fIdx, fAt, isTy, ρ0, E0D, X0, List.map, List.replicate, List.append, List.cons_append, List.nil_append, mx]
  refine ⟨by omega, by rw [rng_len]; omega, lcRng (F := fun k => bit (dotL u[k]! v[k]!)) (fun k hk P p => ?_) ?_⟩
  · have hv : k < v.length := by omega
    simp [wSeq, wIf, wRet, wRetN, wNext, wPass, wDrop, wSet, wSetO, wAsg, wV, wC, wOp, wUn, wCal, wCall, wCons, wNil, wTup, wLst, wTst, wChain, wAnd, wOr, wAndT, wOrT, wNotT, wIfE, gt, st, lstOf, wIdxV, wLenV, wItems, wRng1, wRng2, wZip, wRevR, wRev, wSetLc2, wLc2, wLc2G, wFor, turnE, wSetI, wApp, wTok1, wTok0, wTokS, wRaise1, wRaise2, wCont, wBreak, wCut, wP0, wP1, wLc, wLcG, wSetLc, wSetLcO, roD, roS, wipeD, R1.run, fAdd, fSub, fMul, fDiv, fMod, fAnd, fXor, fShl, fShr, fPow, fLt, fLe, fGt, fGe, fEq, fNe, fLen, fInt, fAbs, fNot, fNeg, fIsN, fNotN, isNon, fIdx, fAt, isTy, ρ0, E0D, X0, List.map, List.replicate, List.append, List.cons_append, List.nil_append, getrow hk, getrow hv]
    simp [hk, hv] at p
    exact ⟨_, _, rfl, ⟨by rw [row_len h0, row_len h0'], by rw [row_len h0]; omega⟩, p⟩
  · rw [range_eq (L := (List.zipWith dotL u v).map bit) (by simp; omega) fun k hk => ?_]
    · obtain ⟨k, k1, k2⟩ := sum_bits (List.zipWith dotL u v)
      rw [k1]
      simp
      have : Int.fmod (k : Int) 2 = (k : Int) % 2 := by rw [Int.fmod_eq_emod_of_nonneg _ (by decide)]
      rw [this, k2]
      exact q
    · have hk' : k < min u.length v.length := by simpa using hk
      have a1 : k < u.length := by omega
      have a2 : k < v.length := by omega
      simp [a1, a2]
end
end PL
end L2

namespace L2
namespace PL
open PySem PySem.Spec PyProof.Rows
variable [Tabl]
section
variable {A : Ad} {ds : List D} {Q E : D → Prop}
theorem forRng {wb : DS} {E : DE} {i n : Nat} {I : Nat → List SD → Prop} (step : ∀ k, k < n → ∀ ρ (K : List SD → Prop), I k ρ → (∀ ρ2, I (k + 1) ρ2 → K ρ2) → wb (turnE E K) (st ρ i (.d (.int (k : Int)))))
    (fin : ∀ ρ, I n ρ → E.nx ρ) {ρ : List SD} (h : I 0 ρ) : forW (gNm i) wb (rng 0 n) E ρ := by
  have key : ∀ (m s : Nat) (ρ : List SD), s + m = n → I s ρ → forW (gNm i) wb ((List.range' s m).map fun (k : Nat) => D.int (k : Int)) E ρ := by
    intro m
    induction m with
    | zero => intro s ρ e h; exact fin ρ (by rw [← e]; exact h)
    | succ m ih =>
      intro s ρ e h
      rw [List.range'_succ]
      exact step s (by omega) ρ _ h fun ρ2 h2 => ih (s + 1) ρ2 (by omega) h2
  have e : rng 0 n = (List.range' 0 n).map fun (k : Nat) => D.int (k : Int) := by
    unfold rng
    rw [List.range_eq_range']
    simp
  rw [e]
  exact key n 0 ρ (by omega) h
theorem p__law_square_of (h : S__law_square_of A ds Q E) : w__law_square_of A (X0 E) (E0D Q) (ρ0 N__law_square_of ds) := by
  obtain ⟨u, v, rfl, ⟨h0, h1⟩, q⟩ := h
  simp [w__law_square_of, wSeq, wIf, wRet, wRetN, wNext, wPass, wDrop, wSet, wSetO, wAsg, wV, wC, wOp, wUn, wCal, wCall, wCons, wNil, wTup, wLst, wTst, wChain, wAnd, wOr, wAndT, wOrT, wNotT, wIfE, gt, st, lstOf, wIdxV, wLenV, wItems, wRng1, wRng2, wZip, wRevR, wRev, wSetLc2, wLc2, wLc2G, wFor, turnE, wSetI, wApp, wTok1, wTok0, wTokS, wRaise1, wRaise2, wCont, wBreak, wCut, wP0, wP1, wLc, wLcG, wSetLc, wSetLcO, roD, roS, wipeD, R1.run, fAdd, fSub, fMul, fDiv, fMod, fAnd, fXor, fShl, fShr, fPow, fLt, fLe, fGt, fGe, fEq, fNe, fLen, fInt, fAbs, fNot, fNeg, fIsN, fNotN, isNon, fIdx, fAt, isTy, ρ0, E0D, X0, List.map, List.replicate, List.append, List.cons_append, List.nil_append, wd]
  refine ⟨by omega, lcN (f := fun d => .tup (v.map fun b => fa d (bit b))) _ [] (fun x hx P p => ?_) ?_⟩
  · obtain ⟨a, _, rfl⟩ := List.mem_map.mp hx
    simp only [wSeq, wIf, wRet, wRetN, wNext, wPass, wDrop, wSet, wSetO, wAsg, wV, wC, wOp, wUn, wCal, wCall, wCons, wNil, wTup, wLst, wTst, wChain, wAnd, wOr, wAndT, wOrT, wNotT, wIfE, gt, st, lstOf, wIdxV, wLenV, wItems, wRng1, wRng2, wZip, wRevR, wRev, wSetLc2, wLc2, wLc2G, wFor, turnE, wSetI, wApp, wTok1, wTok0, wTokS, wRaise1, wRaise2, wCont, wBreak, wCut, wP0, wP1, wLc, wLcG, wSetLc, wSetLcO, roD, roS, wipeD, R1.run, fAdd, fSub, fMul, fDiv, fMod, fAnd, fXor, fShl, fShr, fPow, fLt, fLe, fGt, fGe, fEq, fNe, fLen, fInt, fAbs, fNot, fNeg, fIsN, fNotN, isNon, fIdx, fAt, isTy, ρ0, E0D, X0, List.map, List.replicate, List.append, List.cons_append, List.nil_append]
    refine ⟨by simp; omega, lcN (f := fun d => fa (bit a) d) _ [] (fun x hx P p => ?_) ?_⟩
    · obtain ⟨b, _, rfl⟩ := List.mem_map.mp hx
      cases a <;> cases b <;> simp [wSeq, wIf, wRet, wRetN, wNext, wPass, wDrop, wSet, wSetO, wAsg, wV, wC, wOp, wUn, wCal, wCall, wCons, wNil, wTup, wLst, wTst, wChain, wAnd, wOr, wAndT, wOrT, wNotT, wIfE, gt, st, lstOf, wIdxV, wLenV, wItems, wRng1, wRng2, wZip, wRevR, wRev, wSetLc2, wLc2, wLc2G, wFor, turnE, wSetI, wApp, wTok1, wTok0, wTokS, wRaise1, wRaise2, wCont, wBreak, wCut, wP0, wP1, wLc, wLcG, wSetLc, wSetLcO, roD, roS, wipeD, R1.run, fAdd, fSub, fMul, fDiv, fMod, fAnd, fXor, fShl, fShr, fPow, fLt, fLe, fGt, fGe, fEq, fNe, fLen, fInt, fAbs, fNot, fNeg, fIsN, fNotN, isNon, fIdx, fAt, isTy, ρ0, E0D, X0, List.map, List.replicate, List.append, List.cons_append, List.nil_append, bit, fa] at p ⊢ <;> exact ⟨.inl (.inl (by decide)), p⟩
    · show P _
      simpa [List.map_map, Function.comp_def] using p
  · show Q _
    have e : ∀ a b, fa (bit a) (bit b) = bit (a && b) := fun a b => by simp [bit, fa, band]
    simpa [mx, sqL, wd, List.map_map, Function.comp_def, e] using q
theorem p__law_other_size (h : S__law_other_size A ds Q E) : w__law_other_size A (X0 E) (E0D Q) (ρ0 N__law_other_size ds) := by
  obtain ⟨n, rfl, q⟩ := h
  simp [w__law_other_size, wSeq, wIf, wRet, wRetN, wNext, wPass, wDrop, wSet, wSetO, wAsg, wV, wC, wOp, wUn, wCal, wCall, wCons, wNil, wTup, wLst, wTst, wChain, wAnd, wOr, wAndT, wOrT, wNotT, wIfE, gt, st, lstOf, wIdxV, wLenV, wItems, wRng1, wRng2, wZip, wRevR, wRev, wSetLc2, wLc2, wLc2G, wFor, turnE, wSetI, wApp, wTok1, wTok0, wTokS, wRaise1, wRaise2, wCont, wBreak, wCut, wP0, wP1, wLc, wLcG, wSetLc, wSetLcO, roD, roS, wipeD, R1.run, fAdd, fSub, fMul, fDiv, fMod, fAnd, fXor, fShl, fShr, fPow, fLt, fLe, fGt, fGe, fEq, fNe, fLen, fInt, fAbs, fNot, fNeg, fIsN, fNotN, isNon, fIdx, fAt, isTy, ρ0, E0D, X0, List.map, List.replicate, List.append, List.cons_append, List.nil_append]
  refine ⟨fun e => ?_, fun e => ?_⟩
  · simpa [e] using q
  · simpa [show ¬ n < 12 by omega] using q
theorem eqT_int {T : Addr → Option (D → D → R1)} {i : Int} {Q : D → Prop} (q : Q (.bl true)) : (fEqT T (.int i) (.int i)).run Q := by simpa [fEqT, fEq, R1.run] using q
theorem eqT_bl {T : Addr → Option (D → D → R1)} {i : Bool} {Q : D → Prop} (q : Q (.bl true)) : (fEqT T (.bl i) (.bl i)).run Q := by simpa [fEqT, fEq, R1.run] using q
theorem eqT_str {T : Addr → Option (D → D → R1)} {i : Str} {Q : D → Prop} (q : Q (.bl true)) : (fEqT T (.str i) (.str i)).run Q := by simpa [fEqT, fEq, R1.run] using q
theorem p__law_like {n : Nat} (h : S_like A (n + 1) ds Q E) : w__law_like A (S_like A n) (X0 E) (E0D Q) (ρ0 N__law_like ds) := by
  obtain ⟨d, rfl, h, q⟩ := h
  cases h with
  | non => simp [w__law_like, wSeq, wIf, wRet, wRetN, wNext, wPass, wDrop, wSet, wSetO, wAsg, wV, wC, wOp, wUn, wCal, wCall, wCons, wNil, wTup, wLst, wTst, wChain, wAnd, wOr, wAndT, wOrT, wNotT, wIfE, gt, st, lstOf, wIdxV, wLenV, wItems, wRng1, wRng2, wZip, wRevR, wRev, wSetLc2, wLc2, wLc2G, wFor, turnE, wSetI, wApp, wTok1, wTok0, wTokS, wRaise1, wRaise2, wCont, wBreak, wCut, wP0, wP1, wLc, wLcG, wSetLc, wSetLcO, roD, roS, wipeD, R1.run, fAdd, fSub, fMul, fDiv, fMod, fAnd, fXor, fShl, fShr, fPow, fLt, fLe, fGt, fGe, fEq, fNe, fLen, fInt, fAbs, fNot, fNeg, fIsN, fNotN, isNon, fIdx, fAt, isTy, ρ0, E0D, X0, List.map, List.replicate, List.append, List.cons_append, List.nil_append, fIsi]; exact q
  | bl => simp [w__law_like, wSeq, wIf, wRet, wRetN, wNext, wPass, wDrop, wSet, wSetO, wAsg, wV, wC, wOp, wUn, wCal, wCall, wCons, wNil, wTup, wLst, wTst, wChain, wAnd, wOr, wAndT, wOrT, wNotT, wIfE, gt, st, lstOf, wIdxV, wLenV, wItems, wRng1, wRng2, wZip, wRevR, wRev, wSetLc2, wLc2, wLc2G, wFor, turnE, wSetI, wApp, wTok1, wTok0, wTokS, wRaise1, wRaise2, wCont, wBreak, wCut, wP0, wP1, wLc, wLcG, wSetLc, wSetLcO, roD, roS, wipeD, R1.run, fAdd, fSub, fMul, fDiv, fMod, fAnd, fXor, fShl, fShr, fPow, fLt, fLe, fGt, fGe, fEq, fNe, fLen, fInt, fAbs, fNot, fNeg, fIsN, fNotN, isNon, fIdx, fAt, isTy, ρ0, E0D, X0, List.map, List.replicate, List.append, List.cons_append, List.nil_append, fIsi]; exact eqT_bl (T := A.eqs) q
  | int => simp [w__law_like, wSeq, wIf, wRet, wRetN, wNext, wPass, wDrop, wSet, wSetO, wAsg, wV, wC, wOp, wUn, wCal, wCall, wCons, wNil, wTup, wLst, wTst, wChain, wAnd, wOr, wAndT, wOrT, wNotT, wIfE, gt, st, lstOf, wIdxV, wLenV, wItems, wRng1, wRng2, wZip, wRevR, wRev, wSetLc2, wLc2, wLc2G, wFor, turnE, wSetI, wApp, wTok1, wTok0, wTokS, wRaise1, wRaise2, wCont, wBreak, wCut, wP0, wP1, wLc, wLcG, wSetLc, wSetLcO, roD, roS, wipeD, R1.run, fAdd, fSub, fMul, fDiv, fMod, fAnd, fXor, fShl, fShr, fPow, fLt, fLe, fGt, fGe, fEq, fNe, fLen, fInt, fAbs, fNot, fNeg, fIsN, fNotN, isNon, fIdx, fAt, isTy, ρ0, E0D, X0, List.map, List.replicate, List.append, List.cons_append, List.nil_append, fIsi]; exact eqT_int (T := A.eqs) q
  | str => simp [w__law_like, wSeq, wIf, wRet, wRetN, wNext, wPass, wDrop, wSet, wSetO, wAsg, wV, wC, wOp, wUn, wCal, wCall, wCons, wNil, wTup, wLst, wTst, wChain, wAnd, wOr, wAndT, wOrT, wNotT, wIfE, gt, st, lstOf, wIdxV, wLenV, wItems, wRng1, wRng2, wZip, wRevR, wRev, wSetLc2, wLc2, wLc2G, wFor, turnE, wSetI, wApp, wTok1, wTok0, wTokS, wRaise1, wRaise2, wCont, wBreak, wCut, wP0, wP1, wLc, wLcG, wSetLc, wSetLcO, roD, roS, wipeD, R1.run, fAdd, fSub, fMul, fDiv, fMod, fAnd, fXor, fShl, fShr, fPow, fLt, fLe, fGt, fGe, fEq, fNe, fLen, fInt, fAbs, fNot, fNeg, fIsN, fNotN, isNon, fIdx, fAt, isTy, ρ0, E0D, X0, List.map, List.replicate, List.append, List.cons_append, List.nil_append, fIsi]; exact eqT_str (T := A.eqs) q
  | obj h hc =>
    simp [w__law_like, wSeq, wIf, wRet, wRetN, wNext, wPass, wDrop, wSet, wSetO, wAsg, wV, wC, wOp, wUn, wCal, wCall, wCons, wNil, wTup, wLst, wTst, wChain, wAnd, wOr, wAndT, wOrT, wNotT, wIfE, gt, st, lstOf, wIdxV, wLenV, wItems, wRng1, wRng2, wZip, wRevR, wRev, wSetLc2, wLc2, wLc2G, wFor, turnE, wSetI, wApp, wTok1, wTok0, wTokS, wRaise1, wRaise2, wCont, wBreak, wCut, wP0, wP1, wLc, wLcG, wSetLc, wSetLcO, roD, roS, wipeD, R1.run, fAdd, fSub, fMul, fDiv, fMod, fAnd, fXor, fShl, fShr, fPow, fLt, fLe, fGt, fGe, fEq, fNe, fLen, fInt, fAbs, fNot, fNeg, fIsN, fNotN, isNon, fIdx, fAt, isTy, ρ0, E0D, X0, List.map, List.replicate, List.append, List.cons_append, List.nil_append, fIsi]
    obtain ⟨f, h1, h2⟩ := h
    refine ⟨hc, ?_⟩
    simp [fEqT, h1, h2, R1.wh]
    exact q
  | @tup _ l h hl =>
    simp [w__law_like, wSeq, wIf, wRet, wRetN, wNext, wPass, wDrop, wSet, wSetO, wAsg, wV, wC, wOp, wUn, wCal, wCall, wCons, wNil, wTup, wLst, wTst, wChain, wAnd, wOr, wAndT, wOrT, wNotT, wIfE, gt, st, lstOf, wIdxV, wLenV, wItems, wRng1, wRng2, wZip, wRevR, wRev, wSetLc2, wLc2, wLc2G, wFor, turnE, wSetI, wApp, wTok1, wTok0, wTokS, wRaise1, wRaise2, wCont, wBreak, wCut, wP0, wP1, wLc, wLcG, wSetLc, wSetLcO, roD, roS, wipeD, R1.run, fAdd, fSub, fMul, fDiv, fMod, fAnd, fXor, fShl, fShr, fPow, fLt, fLe, fGt, fGe, fEq, fNe, fLen, fInt, fAbs, fNot, fNeg, fIsN, fNotN, isNon, fIdx, fAt, isTy, ρ0, E0D, X0, List.map, List.replicate, List.append, List.cons_append, List.nil_append, fIsi]
    refine ⟨by omega, forRng (I := fun k ρ => ∃ x, ρ = [.d (.tup l), .d (.tup l), x]) (fun k hk ρ K hI hK => ?_) (fun ρ _ => q) ⟨_, rfl⟩⟩
    obtain ⟨x, rfl⟩ := hI
    simp [wSeq, wIf, wRet, wRetN, wNext, wPass, wDrop, wSet, wSetO, wAsg, wV, wC, wOp, wUn, wCal, wCall, wCons, wNil, wTup, wLst, wTst, wChain, wAnd, wOr, wAndT, wOrT, wNotT, wIfE, gt, st, lstOf, wIdxV, wLenV, wItems, wRng1, wRng2, wZip, wRevR, wRev, wSetLc2, wLc2, wLc2G, wFor, turnE, wSetI, wApp, wTok1, wTok0, wTokS, wRaise1, wRaise2, wCont, wBreak, wCut, wP0, wP1, wLc, wLcG, wSetLc, wSetLcO, roD, roS, wipeD, R1.run, fAdd, fSub, fMul, fDiv, fMod, fAnd, fXor, fShl, fShr, fPow, fLt, fLe, fGt, fGe, fEq, fNe, fLen, fInt, fAbs, fNot, fNeg, fIsN, fNotN, isNon, fIdx, fAt, isTy, ρ0, E0D, X0, List.map, List.replicate, List.append, List.cons_append, List.nil_append, atI_nat hk]
    exact ⟨l[k], rfl, h _ (List.getElem_mem hk), fun e => (nomatch e), fun _ => hK _ ⟨_, rfl⟩⟩
  | @lst _ l h hl =>
    simp [w__law_like, wSeq, wIf, wRet, wRetN, wNext, wPass, wDrop, wSet, wSetO, wAsg, wV, wC, wOp, wUn, wCal, wCall, wCons, wNil, wTup, wLst, wTst, wChain, wAnd, wOr, wAndT, wOrT, wNotT, wIfE, gt, st, lstOf, wIdxV, wLenV, wItems, wRng1, wRng2, wZip, wRevR, wRev, wSetLc2, wLc2, wLc2G, wFor, turnE, wSetI, wApp, wTok1, wTok0, wTokS, wRaise1, wRaise2, wCont, wBreak, wCut, wP0, wP1, wLc, wLcG, wSetLc, wSetLcO, roD, roS, wipeD, R1.run, fAdd, fSub, fMul, fDiv, fMod, fAnd, fXor, fShl, fShr, fPow, fLt, fLe, fGt, fGe, fEq, fNe, fLen, fInt, fAbs, fNot, fNeg, fIsN, fNotN, isNon, fIdx, fAt, isTy, ρ0, E0D, X0, List.map, List.replicate, List.append, List.cons_append, List.nil_append, fIsi]
    refine ⟨by omega, forRng (I := fun k ρ => ∃ x, ρ = [.d (.lst l), .d (.lst l), x]) (fun k hk ρ K hI hK => ?_) (fun ρ _ => q) ⟨_, rfl⟩⟩
    obtain ⟨x, rfl⟩ := hI
    simp [wSeq, wIf, wRet, wRetN, wNext, wPass, wDrop, wSet, wSetO, wAsg, wV, wC, wOp, wUn, wCal, wCall, wCons, wNil, wTup, wLst, wTst, wChain, wAnd, wOr, wAndT, wOrT, wNotT, wIfE, gt, st, lstOf, wIdxV, wLenV, wItems, wRng1, wRng2, wZip, wRevR, wRev, wSetLc2, wLc2, wLc2G, wFor, turnE, wSetI, wApp, wTok1, wTok0, wTokS, wRaise1, wRaise2, wCont, wBreak, wCut, wP0, wP1, wLc, wLcG, wSetLc, wSetLcO, roD, roS, wipeD, R1.run, fAdd, fSub, fMul, fDiv, fMod, fAnd, fXor, fShl, fShr, fPow, fLt, fLe, fGt, fGe, fEq, fNe, fLen, fInt, fAbs, fNot, fNeg, fIsN, fNotN, isNon, fIdx, fAt, isTy, ρ0, E0D, X0, List.map, List.replicate, List.append, List.cons_append, List.nil_append, atI_nat hk]
    exact ⟨l[k], rfl, h _ (List.getElem_mem hk), fun e => (nomatch e), fun _ => hK _ ⟨_, rfl⟩⟩
theorem p__law_like0 (h : S_like A 0 ds Q E) : w__law_like A S_none (X0 E) (E0D Q) (ρ0 N__law_like ds) := by
  obtain ⟨d, rfl, h, q⟩ := h
  cases h with
  | non => simp [w__law_like, wSeq, wIf, wRet, wRetN, wNext, wPass, wDrop, wSet, wSetO, wAsg, wV, wC, wOp, wUn, wCal, wCall, wCons, wNil, wTup, wLst, wTst, wChain, wAnd, wOr, wAndT, wOrT, wNotT, wIfE, gt, st, lstOf, wIdxV, wLenV, wItems, wRng1, wRng2, wZip, wRevR, wRev, wSetLc2, wLc2, wLc2G, wFor, turnE, wSetI, wApp, wTok1, wTok0, wTokS, wRaise1, wRaise2, wCont, wBreak, wCut, wP0, wP1, wLc, wLcG, wSetLc, wSetLcO, roD, roS, wipeD, R1.run, fAdd, fSub, fMul, fDiv, fMod, fAnd, fXor, fShl, fShr, fPow, fLt, fLe, fGt, fGe, fEq, fNe, fLen, fInt, fAbs, fNot, fNeg, fIsN, fNotN, isNon, fIdx, fAt, isTy, ρ0, E0D, X0, List.map, List.replicate, List.append, List.cons_append, List.nil_append, fIsi]; exact q
  | bl => simp [w__law_like, wSeq, wIf, wRet, wRetN, wNext, wPass, wDrop, wSet, wSetO, wAsg, wV, wC, wOp, wUn, wCal, wCall, wCons, wNil, wTup, wLst, wTst, wChain, wAnd, wOr, wAndT, wOrT, wNotT, wIfE, gt, st, lstOf, wIdxV, wLenV, wItems, wRng1, wRng2, wZip, wRevR, wRev, wSetLc2, wLc2, wLc2G, wFor, turnE, wSetI, wApp, wTok1, wTok0, wTokS, wRaise1, wRaise2, wCont, wBreak, wCut, wP0, wP1, wLc, wLcG, wSetLc, wSetLcO, roD, roS, wipeD, R1.run, fAdd, fSub, fMul, fDiv, fMod, fAnd, fXor, fShl, fShr, fPow, fLt, fLe, fGt, fGe, fEq, fNe, fLen, fInt, fAbs, fNot, fNeg, fIsN, fNotN, isNon, fIdx, fAt, isTy, ρ0, E0D, X0, List.map, List.replicate, List.append, List.cons_append, List.nil_append, fIsi]; exact eqT_bl (T := A.eqs) q
  | int => simp [w__law_like, wSeq, wIf, wRet, wRetN, wNext, wPass, wDrop, wSet, wSetO, wAsg, wV, wC, wOp, wUn, wCal, wCall, wCons, wNil, wTup, wLst, wTst, wChain, wAnd, wOr, wAndT, wOrT, wNotT, wIfE, gt, st, lstOf, wIdxV, wLenV, wItems, wRng1, wRng2, wZip, wRevR, wRev, wSetLc2, wLc2, wLc2G, wFor, turnE, wSetI, wApp, wTok1, wTok0, wTokS, wRaise1, wRaise2, wCont, wBreak, wCut, wP0, wP1, wLc, wLcG, wSetLc, wSetLcO, roD, roS, wipeD, R1.run, fAdd, fSub, fMul, fDiv, fMod, fAnd, fXor, fShl, fShr, fPow, fLt, fLe, fGt, fGe, fEq, fNe, fLen, fInt, fAbs, fNot, fNeg, fIsN, fNotN, isNon, fIdx, fAt, isTy, ρ0, E0D, X0, List.map, List.replicate, List.append, List.cons_append, List.nil_append, fIsi]; exact eqT_int (T := A.eqs) q
  | str => simp [w__law_like, wSeq, wIf, wRet, wRetN, wNext, wPass, wDrop, wSet, wSetO, wAsg, wV, wC, wOp, wUn, wCal, wCall, wCons, wNil, wTup, wLst, wTst, wChain, wAnd, wOr, wAndT, wOrT, wNotT, wIfE, gt, st, lstOf, wIdxV, wLenV, wItems, wRng1, wRng2, wZip, wRevR, wRev, wSetLc2, wLc2, wLc2G, wFor, turnE, wSetI, wApp, wTok1, wTok0, wTokS, wRaise1, wRaise2, wCont, wBreak, wCut, wP0, wP1, wLc, wLcG, wSetLc, wSetLcO, roD, roS, wipeD, R1.run, fAdd, fSub, fMul, fDiv, fMod, fAnd, fXor, fShl, fShr, fPow, fLt, fLe, fGt, fGe, fEq, fNe, fLen, fInt, fAbs, fNot, fNeg, fIsN, fNotN, isNon, fIdx, fAt, isTy, ρ0, E0D, X0, List.map, List.replicate, List.append, List.cons_append, List.nil_append, fIsi]; exact eqT_str (T := A.eqs) q
  | obj h hc =>
    simp [w__law_like, wSeq, wIf, wRet, wRetN, wNext, wPass, wDrop, wSet, wSetO, wAsg, wV, wC, wOp, wUn, wCal, wCall, wCons, wNil, wTup, wLst, wTst, wChain, wAnd, wOr, wAndT, wOrT, wNotT, wIfE, gt, st, lstOf, wIdxV, wLenV, wItems, wRng1, wRng2, wZip, wRevR, wRev, wSetLc2, wLc2, wLc2G, wFor, turnE, wSetI, wApp, wTok1, wTok0, wTokS, wRaise1, wRaise2, wCont, wBreak, wCut, wP0, wP1, wLc, wLcG, wSetLc, wSetLcO, roD, roS, wipeD, R1.run, fAdd, fSub, fMul, fDiv, fMod, fAnd, fXor, fShl, fShr, fPow, fLt, fLe, fGt, fGe, fEq, fNe, fLen, fInt, fAbs, fNot, fNeg, fIsN, fNotN, isNon, fIdx, fAt, isTy, ρ0, E0D, X0, List.map, List.replicate, List.append, List.cons_append, List.nil_append, fIsi]
    obtain ⟨f, h1, h2⟩ := h
    refine ⟨hc, ?_⟩
    simp [fEqT, h1, h2, R1.wh]
    exact q
theorem xorL_len {u v : List Bool} : (xorL u v).length = min u.length v.length := by simp [xorL]
/-- the first k rows -/
def timesK (u : List Bool) (m : List (List Bool)) (k : Nat) : List Bool := ((u.zip m).take k).foldl (fun f p => if p.1 then xorL f p.2 else f) (List.replicate u.length false)
theorem timesK_succ {u : List Bool} {m : List (List Bool)} {k : Nat} (h1 : k < u.length) (h2 : k < m.length) : timesK u m (k + 1) = if u[k] then xorL (timesK u m k) m[k] else timesK u m k := by
  unfold timesK
  have : k < (u.zip m).length := by simp; omega
  rw [List.take_add_one, List.getElem?_eq_getElem this, List.foldl_append]
  simp
theorem timesK_len {u : List Bool} {m : List (List Bool)} (h : SqM u.length m) : ∀ k, k ≤ u.length → (timesK u m k).length = u.length
  | 0, _ => by simp [timesK]
  | k + 1, hk => by
    have e := h.1
    rw [timesK_succ (by omega) (by omega)]
    have := timesK_len h k (by omega)
    split
    · rw [xorL_len, this, row_len h]; omega
    · exact this
theorem p__law_times (h : S__law_times A ds Q E) : w__law_times A (X0 E) (E0D Q) (ρ0 N__law_times ds) := by
  obtain ⟨u, m, rfl, ⟨h0, h1, h2⟩, q⟩ := h
  have e := h0.1
  simp [w__law_times, wSeq, wIf, wRet, wRetN, wNext, wPass, wDrop, wSet, wSetO, wAsg, wV, wC, wOp, wUn, wCal, wCall, wCons, wNil, wTup, wLst, wTst, wChain, wAnd, wOr, wAndT, wOrT, wNotT, wIfE, gt, st, lstOf, wIdxV, wLenV, wItems, wRng1, wRng2, wZip, wRevR, wRev, wSetLc2, wLc2, wLc2G, wFor, turnE, wSetI, wApp, wTok1, wTok0, wTokS, wRaise1, wRaise2, wCont, wBreak, wCut, wP0, wP1, wLc, wLcG, wSetLc, wSetLcO, roD, roS, wipeD, R1.run, fAdd, fSub, fMul, fDiv, fMod, fAnd, fXor, fShl, fShr, fPow, fLt, fLe, fGt, fGe, fEq, fNe, fLen, fInt, fAbs, fNot, fNeg, fIsN, fNotN, isNon, fIdx, fAt, isTy, ρ0, E0D, X0, List.map, List.replicate, List.append, List.cons_append, List.nil_append, wd, mx]
  refine ⟨by omega, by omega, forRng (I := fun k ρ => ∃ x, ρ = [.d (wd u), .d (mx m), .d (wd (timesK u m k)), x]) (fun k hk ρ K hI hK => ?_) (fun ρ hI => ?_) ⟨.no, by simp [timesK, wd, mx, bit]⟩⟩
  · obtain ⟨x, rfl⟩ := hI
    have hm : k < m.length := by omega
    have hs := timesK_succ (u := u) (m := m) hk hm
    have hl := timesK_len h0 k (by omega)
    simp [wSeq, wIf, wRet, wRetN, wNext, wPass, wDrop, wSet, wSetO, wAsg, wV, wC, wOp, wUn, wCal, wCall, wCons, wNil, wTup, wLst, wTst, wChain, wAnd, wOr, wAndT, wOrT, wNotT, wIfE, gt, st, lstOf, wIdxV, wLenV, wItems, wRng1, wRng2, wZip, wRevR, wRev, wSetLc2, wLc2, wLc2G, wFor, turnE, wSetI, wApp, wTok1, wTok0, wTokS, wRaise1, wRaise2, wCont, wBreak, wCut, wP0, wP1, wLc, wLcG, wSetLc, wSetLcO, roD, roS, wipeD, R1.run, fAdd, fSub, fMul, fDiv, fMod, fAnd, fXor, fShl, fShr, fPow, fLt, fLe, fGt, fGe, fEq, fNe, fLen, fInt, fAbs, fNot, fNeg, fIsN, fNotN, isNon, fIdx, fAt, isTy, ρ0, E0D, X0, List.map, List.replicate, List.append, List.cons_append, List.nil_append, wd, mx, getbit hk, getrow hm]
    cases e1 : u[k] with
    | false =>
      simp [bit]
      exact hK _ ⟨_, by rw [hs, e1]; rfl⟩
    | true =>
      simp [bit]
      refine ⟨timesK u m k, m[k], rfl, ⟨by rw [hl, row_len h0], by omega⟩, hK _ ⟨_, by rw [hs, e1]; rfl⟩⟩
  · obtain ⟨x, rfl⟩ := hI
    have : timesK u m u.length = timesL u m := by
      unfold timesK timesL
      rw [List.take_of_length_le (by simp; omega)]
    simp [wSeq, wIf, wRet, wRetN, wNext, wPass, wDrop, wSet, wSetO, wAsg, wV, wC, wOp, wUn, wCal, wCall, wCons, wNil, wTup, wLst, wTst, wChain, wAnd, wOr, wAndT, wOrT, wNotT, wIfE, gt, st, lstOf, wIdxV, wLenV, wItems, wRng1, wRng2, wZip, wRevR, wRev, wSetLc2, wLc2, wLc2G, wFor, turnE, wSetI, wApp, wTok1, wTok0, wTokS, wRaise1, wRaise2, wCont, wBreak, wCut, wP0, wP1, wLc, wLcG, wSetLc, wSetLcO, roD, roS, wipeD, R1.run, fAdd, fSub, fMul, fDiv, fMod, fAnd, fXor, fShl, fShr, fPow, fLt, fLe, fGt, fGe, fEq, fNe, fLen, fInt, fAbs, fNot, fNeg, fIsN, fNotN, isNon, fIdx, fAt, isTy, ρ0, E0D, X0, List.map, List.replicate, List.append, List.cons_append, List.nil_append]
    rw [this]
    exact q
theorem atI_nat' {α : Type} {l : List α} {k : Nat} (h : k < l.length) : atI l (k : Int) = some l[k] := by
  have : ixN l.length (k : Int) = some k := by
    unfold ixN
    simp [h]
  unfold atI
  rw [this]
  exact List.getElem?_eq_getElem h
theorem ints_of {ys : List D} (h : ∀ y ∈ ys, ∃ i : Int, y = .int i) : ∃ ns : List Int, ys = ns.map .int := by
  induction ys with
  | nil => exact ⟨[], rfl⟩
  | cons y ys ih =>
    obtain ⟨i, rfl⟩ := h y List.mem_cons_self
    obtain ⟨ns, rfl⟩ := ih fun z hz => h z (List.mem_cons_of_mem _ hz)
    exact ⟨i :: ns, rfl⟩
theorem p__law_draws (h : S__law_draws A ds Q E) : w__law_draws A (X0 E) (E0D Q) (ρ0 N__law_draws ds) := by
  obtain ⟨ns, m, rfl, ⟨h0, h1, h2⟩, q⟩ := h
  simp [w__law_draws, wSeq, wIf, wRet, wRetN, wNext, wPass, wDrop, wSet, wSetO, wAsg, wV, wC, wOp, wUn, wCal, wCall, wCons, wNil, wTup, wLst, wTst, wChain, wAnd, wOr, wAndT, wOrT, wNotT, wIfE, gt, st, lstOf, wIdxV, wLenV, wItems, wRng1, wRng2, wZip, wRevR, wRev, wSetLc2, wLc2, wLc2G, wFor, turnE, wSetI, wApp, wTok1, wTok0, wTokS, wRaise1, wRaise2, wCont, wBreak, wCut, wP0, wP1, wLc, wLcG, wSetLc, wSetLcO, roD, roS, wipeD, R1.run, fAdd, fSub, fMul, fDiv, fMod, fAnd, fXor, fShl, fShr, fPow, fLt, fLe, fGt, fGe, fEq, fNe, fLen, fInt, fAbs, fNot, fNeg, fIsN, fNotN, isNon, fIdx, fAt, isTy, ρ0, E0D, X0, List.map, List.replicate, List.append, List.cons_append, List.nil_append]
  refine ⟨by omega, lcR (R := fun y => ∃ i : Int, y = .int i) _ [] (fun x hx P p => ?_) fun ys hl hr => ?_⟩
  · obtain ⟨i, _, rfl⟩ := List.mem_map.mp hx
    simp [wSeq, wIf, wRet, wRetN, wNext, wPass, wDrop, wSet, wSetO, wAsg, wV, wC, wOp, wUn, wCal, wCall, wCons, wNil, wTup, wLst, wTst, wChain, wAnd, wOr, wAndT, wOrT, wNotT, wIfE, gt, st, lstOf, wIdxV, wLenV, wItems, wRng1, wRng2, wZip, wRevR, wRev, wSetLc2, wLc2, wLc2G, wFor, turnE, wSetI, wApp, wTok1, wTok0, wTokS, wRaise1, wRaise2, wCont, wBreak, wCut, wP0, wP1, wLc, wLcG, wSetLc, wSetLcO, roD, roS, wipeD, R1.run, fAdd, fSub, fMul, fDiv, fMod, fAnd, fXor, fShl, fShr, fPow, fLt, fLe, fGt, fGe, fEq, fNe, fLen, fInt, fAbs, fNot, fNeg, fIsN, fNotN, isNon, fIdx, fAt, isTy, ρ0, E0D, X0, List.map, List.replicate, List.append, List.cons_append, List.nil_append]
    exact p _ ⟨_, rfl⟩
  · obtain ⟨ks, rfl⟩ := ints_of hr
    simp at hl
    refine ⟨by omega, forRng (I := fun k ρ => ∃ (ks zs : List Int) (x4 x5 x6 x7 : SD), ks.length = ns.length ∧ zs.length ≤ k ∧ ρ = [.d (.scr ns), .d (.int m), .ol (ks.map .int), .ol (zs.map .int), x4, x5, x6, x7]) (fun k hk ρ K hI hK => ?_) (fun ρ hI => ?_) ⟨ks, [], _, _, _, _, hl, by simp, rfl⟩⟩
    · obtain ⟨ks, zs, x4, x5, x6, x7, hl, hz, rfl⟩ := hI
      have small : ∀ a j : Int, 0 < j → j < 2 ^ 32 → (a.fmod j).natAbs < 2 ^ 64 := fun a j h1 h2 => by
        rw [Int.fmod_eq_emod_of_nonneg _ (by omega)]
        have := Int.emod_nonneg a (b := j) (by omega)
        have := Int.emod_lt_of_pos a (b := j) h1
        omega
      have hK1 : ∀ (ks' : List Int) (z : Int) (x4 x5 x6 x7 : SD), ks'.length = ns.length → K [.d (.scr ns), .d (.int m), .ol (ks'.map .int), .ol (zs.map .int ++ [.int z]), x4, x5, x6, x7] := fun ks' z x4 x5 x6 x7 h => hK _ ⟨ks', zs ++ [z], x4, x5, x6, x7, h, by simp; omega, by simp⟩
      simp [wSeq, wIf, wRet, wRetN, wNext, wPass, wDrop, wSet, wSetO, wAsg, wV, wC, wOp, wUn, wCal, wCall, wCons, wNil, wTup, wLst, wTst, wChain, wAnd, wOr, wAndT, wOrT, wNotT, wIfE, gt, st, lstOf, wIdxV, wLenV, wItems, wRng1, wRng2, wZip, wRevR, wRev, wSetLc2, wLc2, wLc2G, wFor, turnE, wSetI, wApp, wTok1, wTok0, wTokS, wRaise1, wRaise2, wCont, wBreak, wCut, wP0, wP1, wLc, wLcG, wSetLc, wSetLcO, roD, roS, wipeD, R1.run, fAdd, fSub, fMul, fDiv, fMod, fAnd, fXor, fShl, fShr, fPow, fLt, fLe, fGt, fGe, fEq, fNe, fLen, fInt, fAbs, fNot, fNeg, fIsN, fNotN, isNon, fIdx, fAt, isTy, ρ0, E0D, X0, List.map, List.replicate, List.append, List.cons_append, List.nil_append]
      have hkk : MulB (k : Int) 69621 := .inl (.inr (by decide))
      have hk2 : MulB (k : Int) 7919 := .inl (.inr (by decide))
      have d4 : DivB 4096 := ⟨by decide, .inl (by decide)⟩
      have hm1 : ∀ a : Int, MulB (a.fmod 2147483647) (a.fmod 2147483647) := fun a => .inl (.inl (small _ _ (by decide) (by decide)))
      have hm2 : ∀ a : Int, MulB (a.fmod 2147483629) (a.fmod 2147483629) := fun a => .inl (.inl (small _ _ (by decide) (by decide)))
      have hm3 : ∀ a : Int, MulB a 48271 := fun a => .inl (.inr (by decide))
      refine ⟨fun hp => ⟨by intro z; simp [z] at hp, ?_⟩, fun hz0 => ?_⟩
      · obtain ⟨j, hj, ej⟩ : ∃ j : Nat, j < ns.length ∧ (k : Int).fmod ns.length = j := by
          rw [Int.fmod_eq_emod_of_nonneg _ (by omega)]
          have h1 := Int.emod_nonneg (k : Int) (b := ns.length) (by omega)
          have h2 := Int.emod_lt_of_pos (k : Int) (b := ns.length) (by omega)
          exact ⟨((k : Int) % ns.length).toNat, by omega, by omega⟩
        rw [ej]
        have hj2 : j < ks.length := by omega
        have i1 : atI ns (j : Int) = some ns[j] := atI_nat' hj
        have i2 : atI (ks.map D.int) (j : Int) = some (.int ks[j]) := by rw [atI_nat (by simpa using hj2)]; simp
        have i3 : ixN ks.length (j : Int) = some j := by unfold ixN; simp [hj2]
        simp [i1, i2, i3, hkk, hk2, d4, hm1, hm2, hm3]
        refine ⟨fun _ => ⟨fun _ => ⟨by omega, ⟨by decide, .inl (by decide)⟩, ?_⟩, fun _ => ⟨by omega, hK1 _ _ _ _ _ _ hl⟩⟩, fun _ => ⟨by omega, hK1 _ _ _ _ _ _ hl⟩⟩
        rw [← List.map_set]
        exact hK1 _ _ _ _ _ _ (by simpa using hl)
      · simp [hkk, hk2, d4, hm1, hm2, hm3]
        exact ⟨by omega, hK1 _ _ _ _ _ _ hl⟩
    · obtain ⟨ks, zs, x4, x5, x6, x7, hl, hz, rfl⟩ := hI
      simp [wSeq, wIf, wRet, wRetN, wNext, wPass, wDrop, wSet, wSetO, wAsg, wV, wC, wOp, wUn, wCal, wCall, wCons, wNil, wTup, wLst, wTst, wChain, wAnd, wOr, wAndT, wOrT, wNotT, wIfE, gt, st, lstOf, wIdxV, wLenV, wItems, wRng1, wRng2, wZip, wRevR, wRev, wSetLc2, wLc2, wLc2G, wFor, turnE, wSetI, wApp, wTok1, wTok0, wTokS, wRaise1, wRaise2, wCont, wBreak, wCut, wP0, wP1, wLc, wLcG, wSetLc, wSetLcO, roD, roS, wipeD, R1.run, fAdd, fSub, fMul, fDiv, fMod, fAnd, fXor, fShl, fShr, fPow, fLt, fLe, fGt, fGe, fEq, fNe, fLen, fInt, fAbs, fNot, fNeg, fIsN, fNotN, isNon, fIdx, fAt, isTy, ρ0, E0D, X0, List.map, List.replicate, List.append, List.cons_append, List.nil_append]
      exact q _
end
end PL
end L2

namespace L2
namespace PL
open PySem PySem.Spec PyProof.Rows
variable [Tabl]
section
variable {A : Ad} {ds : List D} {Q E : D → Prop}
theorem p_Share_init {a : Addr} {ds : List D} {Q : List Str → List D → Prop} {E : D → Prop} (h : I_Share A ds Q E) : w_Share_init A (X0 E) { nx := fun ρ => ∃ ns l, gt ρ 0 = .oi a A.Share ns l ∧ Q ns l, rt := fun _ => False } (.oi a A.Share [] [] :: (ds.map .d ++ List.replicate (N_Share_init.length - (ds.length + 1)) .no)) := by
  obtain ⟨x, y, rfl, ⟨h0, h1⟩, q⟩ := h
  have hg : (Nat.gcd x.natAbs y.natAbs) ≠ 0 := fun z => h0 (Int.natAbs_eq_zero.mp (Nat.eq_zero_of_gcd_eq_zero_right z))
  have hg2 : (Nat.gcd x.natAbs y.natAbs) < 1073741824 := by
    have := Nat.gcd_le_right x.natAbs (n := y.natAbs) (by omega)
    omega
  have dv : DivB (sgn x y) := by
    unfold sgn
    split
    · exact ⟨by omega, .inl (by omega)⟩
    · exact ⟨by omega, .inl (by omega)⟩
  have fin : ∀ g : Int, g = sgn x y → ∀ v3 : SD, wSetF 0 A.Share "over" (wOp fDiv (wV 1) (wV 4)) { nx := fun ρ1 => wSetF 0 A.Share "under" (wOp fDiv (wV 2) (wV 4)) { nx := fun ρ => ∃ ns l, gt ρ 0 = .oi a A.Share ns l ∧ Q ns l, rt := fun _ => False } ρ1, rt := fun _ => False } [.oi a A.Share [] [], .d (.int x), .d (.int y), v3, .d (.int g)] := by
    rintro _ rfl v3
    refine ⟨dv, rfl, ⟨rfl, by decide⟩, dv, rfl, ⟨by decide, by decide⟩, _, _, rfl, q⟩
  refine And.intro (show 2 ≤ 16777216 by decide) (Call.mk (Exists.intro (D.int x) (And.intro rfl (And.intro rfl (And.intro (fun e => nomatch e) fun _ => Call.mk (Exists.intro (D.int y) (And.intro rfl (And.intro rfl (And.intro (fun e => nomatch e) fun _ => ?_)))))))))
  refine And.intro (fun (e : decide (y = 0) = true) => absurd (of_decide_eq_true e) h0) fun _ => ?_
  refine And.intro (fun (e : decide (y < 0) = true) => ?_) fun (e : decide (y < 0) = false) => ?_
  · refine fin _ ?_ _
    simp [sgn, of_decide_eq_true e]
  · refine fin _ ?_ _
    simp [sgn, of_decide_eq_false e]
theorem p_Share_eq (h : sp2 (eqSh A) ds Q E) : w_Share_eq A (X0 E) (E0D Q) (ρ0 N_Share_eq ds) := by
  unfold sp2 at h
  split at h
  · rename_i x y
    cases x <;> cases y <;> first | exact h.elim | skip
    rename_i C ns l C' ns' l'
    simp only [eqSh] at h
    split at h
    · rename_i hc
      obtain ⟨rfl, rfl, hc⟩ := hc
      split at h
      · rename_i a b c d e1 e2 e3 e4
        simp only [w_Share_eq, wSeq, wIf, wRet, wRetN, wNext, wPass, wDrop, wSet, wSetO, wAsg, wV, wC, wOp, wUn, wCal, wCall, wCons, wNil, wTup, wLst, wTst, wChain, wAnd, wOr, wAndT, wOrT, wNotT, wIfE, gt, st, lstOf, wIdxV, wLenV, wItems, wRng1, wRng2, wZip, wRevR, wRev, wSetLc2, wLc2, wLc2G, wFor, turnE, wSetI, wApp, wTok1, wTok0, wTokS, wRaise1, wRaise2, wCont, wBreak, wCut, wP0, wP1, wLc, wLcG, wSetLc, wSetLcO, roD, roS, wipeD, R1.run, fAdd, fSub, fMul, fDiv, fMod, fAnd, fXor, fShl, fShr, fPow, fLt, fLe, fGt, fGe, fEq, fNe, fLen, fInt, fAbs, fNot, fNeg, fIsN, fNotN, isNon, fIdx, fAt, isTy, ρ0, E0D, X0, List.map, List.replicate, List.append, List.cons_append, List.nil_append, wFld, fIsC, e1, e2, e3, e4]
        refine ⟨hc, fun _ => ⟨trivial, trivial, fun e => ⟨trivial, trivial, ?_⟩, fun e => ?_⟩, fun e => ?_⟩
        · simpa [of_decide_eq_true e, R1.run] using h
        · simpa [of_decide_eq_false e, R1.run] using h
        · simp at e
      · exact h.elim
    · exact h.elim
  · exact h.elim
theorem rows_wd {ys : List D} {n : Nat} (hr : ∀ y ∈ ys, ∃ u : List Bool, u.length = n ∧ y = wd u) : ∃ m : List (List Bool), ys = m.map wd ∧ ∀ r ∈ m, r.length = n := by
  induction ys with
  | nil => exact ⟨[], rfl, fun _ h => nomatch h⟩
  | cons y ys ih =>
    obtain ⟨u, hu, rfl⟩ := hr y List.mem_cons_self
    obtain ⟨m, rfl, hm⟩ := ih fun z hz => hr z (List.mem_cons_of_mem _ hz)
    exact ⟨u :: m, rfl, fun r h => by
      rcases List.mem_cons.mp h with rfl | h
      · exact hu
      · exact hm r h⟩
theorem SqM.set {n : Nat} {m : List (List Bool)} (h : SqM n m) {j : Nat} {r : List Bool} (hr : r.length = n) : SqM n (m.set j r) := ⟨by simp [h.1], fun x hx => by
  rcases List.mem_or_eq_of_mem_set hx with hx | rfl
  · exact h.2 x hx
  · exact hr⟩
theorem p__law_matrix (h : S__law_matrix A ds Q E) : w__law_matrix A (X0 E) (E0D Q) (ρ0 N__law_matrix ds) := by
  obtain ⟨n, rfl, ⟨h1, h2⟩, q⟩ := h
  simp [w__law_matrix, wSeq, wIf, wRet, wRetN, wNext, wPass, wDrop, wSet, wSetO, wAsg, wV, wC, wOp, wUn, wCal, wCall, wCons, wNil, wTup, wLst, wTst, wChain, wAnd, wOr, wAndT, wOrT, wNotT, wIfE, gt, st, lstOf, wIdxV, wLenV, wItems, wRng1, wRng2, wZip, wRevR, wRev, wSetLc2, wLc2, wLc2G, wFor, turnE, wSetI, wApp, wTok1, wTok0, wTokS, wRaise1, wRaise2, wCont, wBreak, wCut, wP0, wP1, wLc, wLcG, wSetLc, wSetLcO, roD, roS, wipeD, R1.run, fAdd, fSub, fMul, fDiv, fMod, fAnd, fXor, fShl, fShr, fPow, fLt, fLe, fGt, fGe, fEq, fNe, fLen, fInt, fAbs, fNot, fNeg, fIsN, fNotN, isNon, fIdx, fAt, isTy, ρ0, E0D, X0, List.map, List.replicate, List.append, List.cons_append, List.nil_append]
  refine ⟨by omega, by rw [rng_len]; omega, lcRngR (R := fun y => ∃ u : List Bool, u.length = n ∧ y = wd u) (fun k hk P p => ⟨n, rfl, by omega, fun u hu => p _ ⟨u, hu, rfl⟩⟩) fun ys hl hr => ?_⟩
  obtain ⟨m, rfl, hm⟩ := rows_wd hr
  have hM : SqM n m := ⟨by simpa using hl, hm⟩
  have e1 := hM.1
  refine ⟨4, rfl, by decide, fun v v0 v1 => ?_⟩
  have hend : ∀ m' : List (List Bool), SqM n m' → Q (.tup (m'.map wd)) := fun m' h => q m' h
  rcases (show v = 0 ∨ v = 1 ∨ v = 2 ∨ v = 3 by omega) with rfl | rfl | rfl | rfl
  · simp [fTuple]
    refine ⟨fun hn => ?_, fun _ => hend m hM⟩
    have a0 : atI (m.map wd) ((0 : Nat) : Int) = some (wd m[0]) := getrow (by omega)
    have a1 : (n : Int).fdiv 2 = ((n / 2 : Nat) : Int) := by rw [Int.fdiv_eq_ediv_of_nonneg _ (by decide)]; omega
    have a2 : atI (m.map wd) ((n / 2 : Nat) : Int) = some (wd m[n / 2]) := getrow (by omega)
    have a3 : (n : Int) - 1 = ((n - 1 : Nat) : Int) := by omega
    have a4 : ixN m.length ((n - 1 : Nat) : Int) = some (n - 1) := by unfold ixN; simp; omega
    have a0 : atI (m.map wd) 0 = some (wd m[0]) := a0
    rw [a1, a3]
    simp only [a0, a2, a4]
    refine ⟨⟨by decide, .inl (by decide)⟩, _, _, rfl, ⟨by rw [row_len hM, row_len hM], by rw [row_len hM]; omega⟩, ?_⟩
    show Q _
    rw [← List.map_set]
    exact hend _ (hM.set (by rw [xorL_len, row_len hM, row_len hM]; omega))
  · simp [fTuple]
    refine ⟨by omega, by rw [rng_len]; omega, lcRngR (R := fun y => ∃ u : List Bool, u.length = n ∧ y = wd u) (fun k hk P p => ?_) fun ys hl hr => ?_⟩
    · simp [wSeq, wIf, wRet, wRetN, wNext, wPass, wDrop, wSet, wSetO, wAsg, wV, wC, wOp, wUn, wCal, wCall, wCons, wNil, wTup, wLst, wTst, wChain, wAnd, wOr, wAndT, wOrT, wNotT, wIfE, gt, st, lstOf, wIdxV, wLenV, wItems, wRng1, wRng2, wZip, wRevR, wRev, wSetLc2, wLc2, wLc2G, wFor, turnE, wSetI, wApp, wTok1, wTok0, wTokS, wRaise1, wRaise2, wCont, wBreak, wCut, wP0, wP1, wLc, wLcG, wSetLc, wSetLcO, roD, roS, wipeD, R1.run, fAdd, fSub, fMul, fDiv, fMod, fAnd, fXor, fShl, fShr, fPow, fLt, fLe, fGt, fGe, fEq, fNe, fLen, fInt, fAbs, fNot, fNeg, fIsN, fNotN, isNon, fIdx, fAt, isTy, ρ0, E0D, X0, List.map, List.replicate, List.append, List.cons_append, List.nil_append]
      refine ⟨by omega, by rw [rng_len]; omega, lcRng (F := fun j => bit (decide (j = k))) (fun j hj P' p' => ?_) ?_⟩
      · simp [wSeq, wIf, wRet, wRetN, wNext, wPass, wDrop, wSet, wSetO, wAsg, wV, wC, wOp, wUn, wCal, wCall, wCons, wNil, wTup, wLst, wTst, wChain, wAnd, wOr, wAndT, wOrT, wNotT, wIfE, gt, st, lstOf, wIdxV, wLenV, wItems, wRng1, wRng2, wZip, wRevR, wRev, wSetLc2, wLc2, wLc2G, wFor, turnE, wSetI, wApp, wTok1, wTok0, wTokS, wRaise1, wRaise2, wCont, wBreak, wCut, wP0, wP1, wLc, wLcG, wSetLc, wSetLcO, roD, roS, wipeD, R1.run, fAdd, fSub, fMul, fDiv, fMod, fAnd, fXor, fShl, fShr, fPow, fLt, fLe, fGt, fGe, fEq, fNe, fLen, fInt, fAbs, fNot, fNeg, fIsN, fNotN, isNon, fIdx, fAt, isTy, ρ0, E0D, X0, List.map, List.replicate, List.append, List.cons_append, List.nil_append]
        by_cases e : j = k
        · simpa [e, bit] using p'
        · have e2 : ¬ (j : Int) = (k : Int) := by omega
          simpa [e, e2, bit] using p'
      · refine p _ ⟨(List.range n).map fun j => decide (j = k), by simp, ?_⟩
        simp [wd, Function.comp_def]
    · obtain ⟨m2, rfl, hm2⟩ := rows_wd hr
      have hM2 : SqM n m2 := ⟨by simpa using hl, hm2⟩
      refine ⟨by omega, forRng (I := fun k ρ => ∃ (m3 : List (List Bool)) (x1 x2 x3 : SD), SqM n m3 ∧ ρ = [.d (.tok 1), .d (.int n), .ol (m3.map wd), .d (.int 1), x1, .no, x2, x3, .no]) (fun k hk ρ K hI hK => ?_) (fun ρ hI => ?_) ⟨m2, _, _, _, hM2, rfl⟩⟩
      · obtain ⟨m3, x1, x2, x3, hM3, rfl⟩ := hI
        simp [wSeq, wIf, wRet, wRetN, wNext, wPass, wDrop, wSet, wSetO, wAsg, wV, wC, wOp, wUn, wCal, wCall, wCons, wNil, wTup, wLst, wTst, wChain, wAnd, wOr, wAndT, wOrT, wNotT, wIfE, gt, st, lstOf, wIdxV, wLenV, wItems, wRng1, wRng2, wZip, wRevR, wRev, wSetLc2, wLc2, wLc2G, wFor, turnE, wSetI, wApp, wTok1, wTok0, wTokS, wRaise1, wRaise2, wCont, wBreak, wCut, wP0, wP1, wLc, wLcG, wSetLc, wSetLcO, roD, roS, wipeD, R1.run, fAdd, fSub, fMul, fDiv, fMod, fAnd, fXor, fShl, fShr, fPow, fLt, fLe, fGt, fGe, fEq, fNe, fLen, fInt, fAbs, fNot, fNeg, fIsN, fNotN, isNon, fIdx, fAt, isTy, ρ0, E0D, X0, List.map, List.replicate, List.append, List.cons_append, List.nil_append]
        refine ⟨n, rfl, by omega, fun v v0 v1 => ⟨n, rfl, by omega, fun v' v0' v1' => ?_⟩⟩
        obtain ⟨a, rfl⟩ := Int.eq_ofNat_of_zero_le v0
        obtain ⟨b, rfl⟩ := Int.eq_ofNat_of_zero_le v0'
        have e3 := hM3.1
        have a1 : atI (m3.map wd) ((a : Nat) : Int) = some (wd m3[a]) := getrow (by omega)
        have a2 : atI (m3.map wd) ((b : Nat) : Int) = some (wd m3[b]) := getrow (by omega)
        have a4 : ixN (m3.map wd).length ((a : Nat) : Int) = some a := by unfold ixN; simp; omega
        simp only [a1, a2, a4]
        refine ⟨fun _ => ⟨_, _, rfl, ⟨by rw [row_len hM3, row_len hM3], by rw [row_len hM3]; omega⟩, ?_⟩, fun _ => hK _ ⟨m3, _, _, _, hM3, rfl⟩⟩
        refine hK _ ⟨m3.set a (xorL m3[a] m3[b]), _, _, _, hM3.set (by rw [xorL_len, row_len hM3, row_len hM3]; omega), by rw [List.map_set]⟩
      · obtain ⟨m3, x1, x2, x3, hM3, rfl⟩ := hI
        simp [wSeq, wIf, wRet, wRetN, wNext, wPass, wDrop, wSet, wSetO, wAsg, wV, wC, wOp, wUn, wCal, wCall, wCons, wNil, wTup, wLst, wTst, wChain, wAnd, wOr, wAndT, wOrT, wNotT, wIfE, gt, st, lstOf, wIdxV, wLenV, wItems, wRng1, wRng2, wZip, wRevR, wRev, wSetLc2, wLc2, wLc2G, wFor, turnE, wSetI, wApp, wTok1, wTok0, wTokS, wRaise1, wRaise2, wCont, wBreak, wCut, wP0, wP1, wLc, wLcG, wSetLc, wSetLcO, roD, roS, wipeD, R1.run, fAdd, fSub, fMul, fDiv, fMod, fAnd, fXor, fShl, fShr, fPow, fLt, fLe, fGt, fGe, fEq, fNe, fLen, fInt, fAbs, fNot, fNeg, fIsN, fNotN, isNon, fIdx, fAt, isTy, ρ0, E0D, X0, List.map, List.replicate, List.append, List.cons_append, List.nil_append, fTuple]
        exact hend m3 hM3
  · simpa [fTuple] using hend m hM
  · simpa [fTuple] using hend m hM
theorem at_nat {l : List D} {v : Int} {Q : D → Prop} (h0 : 0 ≤ v) (h1 : v < l.length) (q : ∀ d ∈ l, Q d) : (fAt (atI l v)).run Q := by
  obtain ⟨k, rfl⟩ := Int.eq_ofNat_of_zero_le h0
  rw [atI_nat (by omega)]
  exact q _ (List.getElem_mem _)
theorem cut_lo {l : List D} {k : Nat} (h : k ≤ l.length) : cutD l none (some (k : Int)) = l.take k := by
  unfold cutD
  rw [HT.sIx_nat, HT.sIx_none]
  simp [Nat.min_eq_left h]
theorem cut_hi {l : List D} {k : Nat} (h : k + 1 ≤ l.length) : cutD l (some ((k : Int) + 1)) none = l.drop (k + 1) := by
  unfold cutD
  have e : ((k : Int) + 1) = ((k + 1 : Nat) : Int) := by omega
  rw [e, HT.sIx_nat, HT.sIx_none, Nat.min_eq_left h]
  rw [List.take_of_length_le (by simp)]
theorem r_ok {d : D} {K : D → Prop} : (R1.ok d).run K = K d := rfl
theorem r_gd {P : Prop} {d : D} {K : D → Prop} : (R1.gd P d).run K = (P ∧ K d) := rfl
theorem r_no {K : D → Prop} : R1.no.run K = False := rfl
theorem take_iff {m : Int} {Q E : D → Prop} : Call (S__law_take A) [.tok 1, .int m] Q E = (0 < m ∧ ∀ v, 0 ≤ v → v < m → Q (.int v)) := propext ⟨fun ⟨⟨_, e, h, q⟩⟩ => by cases e; exact ⟨h, q⟩, fun ⟨h, q⟩ => ⟨⟨m, rfl, h, q⟩⟩⟩
theorem share_iff {a b : Int} {Q : List Str → List D → Prop} {E : D → Prop} : MakeC (I_Share A) [.int a, .int b] Q E = ((b ≠ 0 ∧ b.natAbs < 1073741824) ∧ Q ["over", "under"] [.int (a.fdiv (sgn a b)), .int (b.fdiv (sgn a b))]) := propext ⟨fun ⟨⟨_, _, e, h, q⟩⟩ => by cases e; exact ⟨h, q⟩, fun ⟨h, q⟩ => ⟨⟨a, b, rfl, h, q⟩⟩⟩
/-- one of its bits is no bit -/
theorem bad_wd {u : List Bool} {k : Nat} {d : D} (h : k < u.length) (hd : isBit d = false) : isWo (.tup ((u.map bit).take k ++ d :: (u.map bit).drop (k + 1))) = false := by
  simp [isWo, isWd, hd]
def share11 (A : Ad) : D := .obj A.Share ["over", "under"] [.int 1, .int 1]
theorem share_like {n : Nat} (hS : A.Share ∈ A.cls) (hE : A.eqs A.Share = some (eqSh A)) (a b : Int) : LikeOk A n (.obj A.Share ["over", "under"] [.int a, .int b]) := by
  refine .obj ⟨_, hE, ?_⟩ hS
  simp only [eqSh, hS, and_self, if_true]
  have e1 : fldX "over" (.obj A.Share ["over", "under"] [.int a, .int b]) = some (.int a) := rfl
  have e2 : fldX "under" (.obj A.Share ["over", "under"] [.int a, .int b]) = some (.int b) := rfl
  rw [e1, e2]
  simp
theorem like_bits {n : Nat} (u : List Bool) : ∀ d ∈ u.map bit, LikeOk A n d := fun d h => by
  obtain ⟨b, _, rfl⟩ := List.mem_map.mp h
  exact .int
theorem p__law_wrong_word (hS : A.Share ∈ A.cls) (hE : A.eqs A.Share = some (eqSh A)) (h : S__law_wrong_word A ds Q E) : w__law_wrong_word A (X0 E) (E0D Q) (ρ0 N__law_wrong_word ds) := by
  obtain ⟨u, rfl, ⟨h1, h2⟩, q⟩ := h
  simp [w__law_wrong_word, wSeq, wIf, wRet, wRetN, wNext, wPass, wDrop, wSet, wSetO, wAsg, wV, wC, wOp, wUn, wCal, wCall, wCons, wNil, wTup, wLst, wTst, wChain, wAnd, wOr, wAndT, wOrT, wNotT, wIfE, gt, st, lstOf, wIdxV, wLenV, wItems, wRng1, wRng2, wZip, wRevR, wRev, wSetLc2, wLc2, wLc2G, wFor, turnE, wSetI, wApp, wTok1, wTok0, wTokS, wRaise1, wRaise2, wCont, wBreak, wCut, wP0, wP1, wLc, wLcG, wSetLc, wSetLcO, roD, roS, wipeD, r_ok, r_gd, r_no, take_iff, share_iff, fAdd, fSub, fMul, fDiv, fMod, fAnd, fXor, fShl, fShr, fPow, fLt, fLe, fGt, fGe, fEq, fNe, fLen, fInt, fAbs, fNot, fNeg, fIsN, fNotN, isNon, fIdx, isTy, ρ0, E0D, X0, List.map, List.replicate, List.append, List.cons_append, List.nil_append, wMake, fCut, fList, fTuple, wd]
  refine ⟨by omega, fun v v0 v1 w w0 w1 => at_nat w0 (by simpa using w1) fun d hd => ?_⟩
  have okd : okW A.cls d = true ∧ isBit d = false ∧ LikeOk A 3 d := by
    simp at hd
    rcases hd with rfl | rfl | rfl | rfl | rfl | rfl | rfl <;> refine ⟨rfl, rfl, ?_⟩ <;> first | exact .int | exact .bl | exact .non | exact .str | exact .tup (fun d hd => by simp at hd; subst hd; exact .int) (by simp)
  obtain ⟨k, rfl⟩ := Int.eq_ofNat_of_zero_le v0
  have hk : k < u.length := by omega
  rw [cut_lo (by simp; omega), cut_hi (by simp; omega)]
  refine ⟨by simp; omega, by simp; omega, fun v v0 v1 => at_nat v0 (by simpa using v1) fun w hw => q w ?_⟩
  obtain ⟨d1, d2, d3⟩ := okd
  have small : ∀ (a b : List Bool), LikeOk A 4 (.tup (a.map bit ++ d :: b.map bit)) → True := fun _ _ _ => trivial
  have hlike : ∀ x ∈ (u.map bit).take k ++ d :: (u.map bit).drop (k + 1), okW A.cls x = true ∧ LikeOk A 3 x := fun x hx => by
    rcases List.mem_append.mp hx with hx | hx
    · obtain ⟨b, _, rfl⟩ := List.mem_map.mp (List.mem_of_mem_take hx)
      exact ⟨okW_bit b, .int⟩
    · rcases List.mem_cons.mp hx with rfl | hx
      · exact ⟨d1, d3⟩
      · obtain ⟨b, _, rfl⟩ := List.mem_map.mp (List.mem_of_mem_drop hx)
        exact ⟨okW_bit b, .int⟩
  simp only [List.mem_cons, List.not_mem_nil, or_false] at hw
  rcases hw with rfl | rfl | rfl | rfl | rfl | rfl | rfl | rfl | rfl
  · exact ⟨okWs_all.mpr fun x hx => (hlike x hx).1, bad_wd hk d2, .tup (fun x hx => (hlike x hx).2) (by simp; omega)⟩
  · exact ⟨okWs_bits u, rfl, .lst (like_bits u) (by simp; omega)⟩
  · exact ⟨rfl, rfl, .tup (fun x hx => nomatch hx) (by simp)⟩
  · exact ⟨rfl, rfl, .non⟩
  · exact ⟨rfl, rfl, .int⟩
  · exact ⟨rfl, rfl, .str⟩
  · exact ⟨rfl, rfl, .tup (fun x hx => by simp at hx; subst hx; exact .int) (by simp)⟩
  · exact ⟨rfl, rfl, .tup (fun x hx => by
      simp at hx; subst hx
      exact .tup (fun y hy => by simp at hy; rcases hy with rfl | rfl <;> exact .int) (by simp)) (by simp)⟩
  · exact ⟨by simpa [okW] using hS, rfl, share_like hS hE _ _⟩
theorem bad_mx {l : List D} {r : D} (hr : r ∈ l) (h : isWd r l.length = false) : isMa (.tup l) = false := by
  simp only [isMa, isMx, Bool.and_eq_false_iff]
  refine .inr ?_
  rw [List.all_eq_false]
  exact ⟨r, hr, by simp [h]⟩
theorem p__law_wrong_matrix (h : S__law_wrong_matrix A ds Q E) : w__law_wrong_matrix A (X0 E) (E0D Q) (ρ0 N__law_wrong_matrix ds) := by
  obtain ⟨n, m, rfl, ⟨hM, h1, h2⟩, q⟩ := h
  have e1 := hM.1
  simp [w__law_wrong_matrix, wSeq, wIf, wRet, wRetN, wNext, wPass, wDrop, wSet, wSetO, wAsg, wV, wC, wOp, wUn, wCal, wCall, wCons, wNil, wTup, wLst, wTst, wChain, wAnd, wOr, wAndT, wOrT, wNotT, wIfE, gt, st, lstOf, wIdxV, wLenV, wItems, wRng1, wRng2, wZip, wRevR, wRev, wSetLc2, wLc2, wLc2G, wFor, turnE, wSetI, wApp, wTok1, wTok0, wTokS, wRaise1, wRaise2, wCont, wBreak, wCut, wP0, wP1, wLc, wLcG, wSetLc, wSetLcO, roD, roS, wipeD, r_ok, r_gd, r_no, take_iff, share_iff, fAdd, fSub, fMul, fDiv, fMod, fAnd, fXor, fShl, fShr, fPow, fLt, fLe, fGt, fGe, fEq, fNe, fLen, fInt, fAbs, fNot, fNeg, fIsN, fNotN, isNon, fIdx, isTy, ρ0, E0D, X0, List.map, List.replicate, List.append, List.cons_append, List.nil_append, wMake, fCut, fList, fTuple, mx]
  refine ⟨by omega, fun a a0 a1 => ⟨by omega, fun b b0 b1 t t0 t1 => at_nat t0 (by simpa using t1) fun d hd => ?_⟩⟩
  have okd : okW A.cls d = true ∧ isBit d = false ∧ LikeOk A 2 d := by
    simp at hd
    rcases hd with rfl | rfl | rfl | rfl | rfl <;> refine ⟨rfl, rfl, ?_⟩ <;> first | exact .int | exact .bl | exact .non | exact .str
  obtain ⟨i, rfl⟩ := Int.eq_ofNat_of_zero_le a0
  obtain ⟨j, rfl⟩ := Int.eq_ofNat_of_zero_le b0
  have hi : i < m.length := by omega
  have hj : j < m[i].length := by rw [row_len hM]; omega
  have g : atI (m.map wd) (i : Int) = some (.tup (m[i].map bit)) := getrow hi
  have c1 : cutD (m.map wd) none (some 1) = (m.map wd).take 1 := cut_lo (k := 1) (by simp; omega)
  simp only [g, fAt, r_ok, r_gd, cut_lo (l := m.map wd) (k := i) (by simp; omega), cut_hi (l := m.map wd) (k := i) (by simp; omega), cut_lo (l := m[i].map bit) (k := j) (by simp; omega), cut_hi (l := m[i].map bit) (k := j) (by simp; omega), c1, List.length_take, List.length_drop, List.length_map, List.length_append, List.length_cons, List.length_nil]
  have rl := row_len hM hi
  refine ⟨by omega, by omega, by omega, by omega, by omega, by omega, by omega, by omega, by omega, ?_⟩
  obtain ⟨d1, d2, d3⟩ := okd
  have hrow : ∀ r ∈ m.map wd, okW A.cls r = true ∧ LikeOk A 3 r := fun r hr => by
    obtain ⟨u, hu, rfl⟩ := List.mem_map.mp hr
    exact ⟨okW_wd u, .tup (like_bits u) (by simp; have := hM.2 u hu; omega)⟩
  have put : ∀ x : D, okW A.cls x = true → LikeOk A 3 x → isWd x n = false → NoMx A (.tup ((m.map wd).take i ++ x :: (m.map wd).drop (i + 1))) := fun x o l b => by
    have len : ((m.map wd).take i ++ x :: (m.map wd).drop (i + 1)).length = n := by simp; omega
    have all : ∀ y ∈ (m.map wd).take i ++ x :: (m.map wd).drop (i + 1), okW A.cls y = true ∧ LikeOk A 3 y := fun y hy => by
      rcases List.mem_append.mp hy with hy | hy
      · exact hrow y (List.mem_of_mem_take hy)
      · rcases List.mem_cons.mp hy with rfl | hy
        · exact ⟨o, l⟩
        · exact hrow y (List.mem_of_mem_drop hy)
    refine ⟨⟨okWs_all.mpr fun y hy => (all y hy).1, by simp only [lenD, len]; omega⟩, bad_mx (r := x) (by simp) (by rw [len]; exact b), .tup (fun y hy => (all y hy).2) (by rw [len]; omega)⟩
  refine ⟨by omega, ⟨by omega, by omega⟩, fun v v0 v1 => at_nat (Q := Q) v0 (by simpa using v1) fun w hw => q w ?_⟩
  simp only [List.mem_cons, List.not_mem_nil, or_false] at hw
  rcases hw with rfl | rfl | rfl | rfl | rfl | rfl | rfl | rfl | rfl
  · have all : ∀ y ∈ (m[i].map bit).take j ++ [d] ++ (m[i].map bit).drop (j + 1), okW A.cls y = true ∧ LikeOk A 2 y := fun y hy => by
      rcases List.mem_append.mp hy with hy | hy
      · rcases List.mem_append.mp hy with hy | hy
        · obtain ⟨b, _, rfl⟩ := List.mem_map.mp (List.mem_of_mem_take hy)
          exact ⟨okW_bit b, .int⟩
        · simp at hy; subst hy; exact ⟨d1, d3⟩
      · obtain ⟨b, _, rfl⟩ := List.mem_map.mp (List.mem_of_mem_drop hy)
        exact ⟨okW_bit b, .int⟩
    refine put _ (okWs_all.mpr fun y hy => (all y hy).1) (.tup (fun y hy => (all y hy).2) (by simp; omega)) ?_
    simp [isWd, d2]
  · exact put _ (okWs_bits _) (.lst (like_bits _) (by simp; omega)) rfl
  · exact ⟨⟨okWs_all.mpr fun y hy => (hrow y hy).1, by simp [lenD]; omega⟩, rfl, .lst (fun y hy => (hrow y hy).2) (by simp; omega)⟩
  · have all : ∀ y ∈ m.map wd ++ (m.map wd).take 1, okW A.cls y = true ∧ LikeOk A 3 y := fun y hy => by
      rcases List.mem_append.mp hy with hy | hy
      · exact hrow y hy
      · exact hrow y (List.mem_of_mem_take hy)
    have len : (m.map wd ++ (m.map wd).take 1).length = n + 1 := by simp; omega
    refine ⟨⟨okWs_all.mpr fun y hy => (all y hy).1, by simp only [lenD, len]; omega⟩, bad_mx (r := wd m[i]) (List.mem_append_left _ (List.mem_map.mpr ⟨_, List.getElem_mem hi, rfl⟩)) ?_, .tup (fun y hy => (all y hy).2) (by rw [len]; omega)⟩
    rw [len]
    simp [isWd, wd]
    omega
  · refine put _ (okWs_all.mpr fun y hy => ?_) (.tup (fun y hy => ?_) (by simp; omega)) ?_
    · rcases List.mem_append.mp hy with hy | hy
      · exact okWs_all.mp (okWs_bits _) y hy
      · simp at hy; subst hy; rfl
    · rcases List.mem_append.mp hy with hy | hy
      · exact like_bits _ y hy
      · simp at hy; subst hy; exact .int
    · simp [isWd]
      omega
  · exact ⟨⟨rfl, by simp [lenD]⟩, rfl, .tup (fun x hx => nomatch hx) (by simp)⟩
  · exact ⟨⟨rfl, by simp [lenD]⟩, rfl, .non⟩
  · exact ⟨⟨rfl, by simp [lenD]⟩, rfl, .int⟩
  · have all : ∀ y ∈ List.replicate m.length (D.int 0), y = .int 0 := fun y hy => (List.mem_replicate.mp hy).2
    refine ⟨⟨okWs_all.mpr fun y hy => by rw [all y hy]; rfl, by simp [lenD]; omega⟩, bad_mx (r := .int 0) (List.mem_replicate.mpr ⟨by omega, rfl⟩) rfl, .tup (fun y hy => by rw [all y hy]; exact .int) (by simp; omega)⟩
end
end PL
end L2

/-! what callers use of the promises -/
namespace L2
namespace PL
open PySem PySem.Spec PyProof.Rows
variable [Tabl]
section
variable {A : Ad} {K : PySem.W.Frag} {ds : List D} {Q E : D → Prop}
theorem bit_inj {a b : Bool} (h : bit a = bit b) : a = b := by cases a <;> cases b <;> first | rfl | (simp [bit] at h)
theorem bits_inj : ∀ {u v : List Bool}, u.map bit = v.map bit → u = v
  | [], [], _ => rfl
  | [], _ :: _, h => by cases h
  | _ :: _, [], h => by cases h
  | a :: u, b :: v, h => by
    simp only [List.map_cons, List.cons.injEq] at h
    rw [bit_inj h.1, bits_inj h.2]
theorem wd_inj {u v : List Bool} (h : wd u = wd v) : u = v := by
  simp only [wd, D.tup.injEq] at h
  exact bits_inj h
theorem rows_inj : ∀ {u v : List (List Bool)}, u.map wd = v.map wd → u = v
  | [], [], _ => rfl
  | [], _ :: _, h => by cases h
  | _ :: _, [], h => by cases h
  | a :: u, b :: v, h => by
    simp only [List.map_cons, List.cons.injEq] at h
    rw [wd_inj h.1, rows_inj h.2]
theorem mx_inj {u v : List (List Bool)} (h : mx u = mx v) : u = v := by
  simp only [mx, D.tup.injEq] at h
  exact rows_inj h
theorem c_take {m : Int} (h : 0 < m) (q : ∀ v, 0 ≤ v → v < m → Q (.int v)) : Call (S__law_take A) [.tok 1, .int m] Q E := ⟨m, rfl, h, q⟩
theorem c_like {a b : D} (e : a = b) (h : LikeOk A 6 a) (q : Q (.bl true)) : Call (S__law_like A) [a, b] Q E := ⟨a, by rw [e], h, q⟩
theorem c_word {n : Nat} (h : n ≤ 100000) (q : ∀ u : List Bool, u.length = n → Q (wd u)) : Call (S__law_word A) [.tok 1, .int n] Q E := ⟨n, rfl, h, q⟩
theorem like_wd {n : Nat} {u : List Bool} (h : u.length ≤ 100000) : LikeOk A (n + 1) (wd u) := .tup (like_bits u) (by simpa using h)
theorem like_mx {n : Nat} {m : List (List Bool)} (h : m.length ≤ 100000) (h' : ∀ r ∈ m, r.length ≤ 100000) : LikeOk A (n + 2) (mx m) := .tup (fun d hd => by
  obtain ⟨r, hr, rfl⟩ := List.mem_map.mp hd
  exact like_wd (h' r hr)) (by simpa using h)
theorem LikeOk.mono {n : Nat} {d : D} (h : LikeOk A n d) : LikeOk A (n + 1) d := by
  induction h with
  | non => exact .non
  | bl => exact .bl
  | int => exact .int
  | str => exact .str
  | obj h hc => exact .obj h hc
  | tup h hl ih => exact .tup ih hl
  | lst h hl ih => exact .lst ih hl
theorem like_two {w : D} {x : Str} (h : LikeOk A 4 w) : LikeOk A 6 (.lst [.str x, w]) := .lst (fun d hd => by
  rcases List.mem_cons.mp hd with rfl | hd
  · exact .str
  · rw [List.mem_singleton.mp hd]
    exact h.mono) (by simp)
theorem c_added {u v : List Bool} (h : u.length = v.length) (h1 : 1 ≤ u.length) (h2 : u.length ≤ 12) (q : Q (wd (xorL u v))) : Call (S_added A) [wd u, wd v] Q E := by
  refine ⟨_, _, rfl, ⟨okW_wd u, okW_wd v⟩, ?_⟩
  rw [pairW_wd h h1 h2]
  intro u' v' e1 e2
  rw [← wd_inj e1, ← wd_inj e2]
  exact q
theorem c_product_of {u v : List Bool} (h : u.length = v.length) (h1 : 1 ≤ u.length) (h2 : u.length ≤ 12) (q : Q (bit (dotL u v))) : Call (S_product_of A) [wd u, wd v] Q E := by
  refine ⟨_, _, rfl, ⟨okW_wd u, okW_wd v⟩, ?_⟩
  rw [pairW_wd h h1 h2]
  intro u' v' e1 e2
  rw [← wd_inj e1, ← wd_inj e2]
  exact q
theorem c__law_added {u v : List Bool} (h : u.length = v.length) (h2 : u.length ≤ 1000) (q : Q (wd (xorL u v))) : Call (S__law_added A) [wd u, wd v] Q E := ⟨_, _, rfl, ⟨h, h2⟩, q⟩
theorem c__law_product {u v : List Bool} (h : u.length = v.length) (h2 : u.length ≤ 1000) (q : Q (bit (dotL u v))) : Call (S__law_product A) [wd u, wd v] Q E := ⟨_, _, rfl, ⟨h, h2⟩, q⟩
theorem c_wrong_word {u : List Bool} (h1 : 1 ≤ u.length) (h2 : u.length ≤ 12) (q : ∀ w, NoWd A w → Q w) : Call (S__law_wrong_word A) [.tok 1, wd u] Q E := ⟨u, rfl, ⟨h1, h2⟩, q⟩
theorem pW1 {x y : D} (h : isWo x = false) : pairW x y = some x := by unfold pairW; rw [if_pos h]
theorem pW2 {x y : D} (h : isWo x = true) (h' : isWo y = false) : pairW x y = some y := by unfold pairW; rw [if_neg (by rw [h]; decide), if_pos h']
theorem pW3 {x y : D} (h : isWo x = true) (h' : isWo y = true) (hl : lenD y ≠ lenD x) : pairW x y = some y := by unfold pairW; rw [if_neg (by rw [h]; decide), if_neg (by rw [h']; decide), if_pos hl]
theorem pM1 {x y : D} (h : isMa x = false) : pairM x y = some x := by unfold pairM; rw [if_pos h]
theorem pM2 {x y : D} (h : isMa x = true) (h' : isMa y = false) : pairM x y = some y := by unfold pairM; rw [if_neg (by rw [h]; decide), if_pos h']
theorem pM3 {x y : D} (h : isMa x = true) (h' : isMa y = true) (hl : lenD y ≠ lenD x) : pairM x y = some y := by unfold pairM; rw [if_neg (by rw [h]; decide), if_neg (by rw [h']; decide), if_pos hl]
theorem pick_b {x y : D} {b : Bool} {Q : D → Prop} (h1 : b = true → Q y) (h0 : b = false → Q x) : (fIdx (.lst [x, y]) (.int (if b then 1 else 0))).run Q := by
  cases b
  · exact h0 rfl
  · exact h1 rfl
/-- 1 + a draw below the one number or the other -/
theorem first_n {i : Nat} {a b m : Int} {Ed : DX} {ρ : List SD} {Q : D → List SD → Prop} (hρ : gt ρ i = .d (.tok 1)) (ha : 0 < a) (hb : 0 < b) (hm : 0 < m) (q : ∀ n : Nat, 1 ≤ n → ((n : Int) ≤ a ∨ (n : Int) ≤ b) → Q (.int n) ρ) :
    (wOp fAdd (wC (.int 1)) (wCall (S__law_take A) (wCons (wV i) (wCons (wOp fIdx (wLst (wCons (wC (.int a)) (wCons (wC (.int b)) wNil))) (wCal fInt (wCons (wOp fEq (wCall (S__law_take A) (wCons (wV i) (wCons (wC (.int m)) wNil)) Ed) (wC (.int 0))) wNil))) wNil)) Ed)) ρ Q := by
  have hv : ∀ (Q' : D → List SD → Prop), Q' (.tok 1) ρ → wV i ρ Q' := fun Q' h => by unfold wV; rw [hρ]; exact h
  refine hv _ (And.intro (show 2 ≤ 16777216 by decide) (hv _ (c_take hm fun v v0 v1 => ?_)))
  have fin : ∀ M : Int, 0 < M → (M ≤ a ∨ M ≤ b) → ∀ w : Int, 0 ≤ w → w < M → Q (.int (1 + w)) ρ := fun M m0 m1 w w0 w1 => by
    obtain ⟨k, rfl⟩ := Int.eq_ofNat_of_zero_le w0
    have := q (k + 1) (by omega) (by omega)
    have e : (1 : Int) + (k : Int) = ((k + 1 : Nat) : Int) := by omega
    rw [e]
    exact this
  refine pick_b (b := decide (v = 0)) (fun e => ?_) (fun e => ?_)
  · exact c_take hb fun w w0 w1 => fin b hb (.inr (Int.le_refl _)) w w0 w1
  · exact c_take ha fun w w0 w1 => fin a ha (.inl (Int.le_refl _)) w w0 w1
theorem first_m {i : Nat} {m : Int} {Ed : DX} {ρ : List SD} {Q : D → List SD → Prop} (hρ : gt ρ i = .d (.tok 1)) (hm : 0 < m) (q : ∀ n : Nat, 1 ≤ n → (n : Int) ≤ m → Q (.int n) ρ) :
    (wOp fAdd (wC (.int 1)) (wCall (S__law_take A) (wCons (wV i) (wCons (wC (.int m)) wNil)) Ed)) ρ Q := by
  have hv : ∀ (Q' : D → List SD → Prop), Q' (.tok 1) ρ → wV i ρ Q' := fun Q' h => by unfold wV; rw [hρ]; exact h
  refine hv _ (c_take hm fun w w0 w1 => ?_)
  obtain ⟨k, rfl⟩ := Int.eq_ofNat_of_zero_le w0
  have := q (k + 1) (by omega) (by omega)
  have e : (1 : Int) + (k : Int) = ((k + 1 : Nat) : Int) := by omega
  show Q (.int (1 + (k : Int))) ρ
  rw [e]
  exact this
theorem c_is_word {v : D} {n : Int} (o : okW A.cls v = true) (q : Q (.bl (isWd v n))) : Call (S_is_word A) [v, .int n] Q E := ⟨v, n, rfl, o, q⟩
theorem x_ss {i : Nat} {we : DW} {w' : DS} {E : DE} {ρ : List SD} (h : we ρ fun d ρ1 => w' E (st ρ1 i (.d d))) : wSeq (wSet i we) w' E ρ := h
theorem seq_cut {a b : DS} {E : DE} {ρ : List SD} (P : List SD → Prop) (ha : ∀ N : List SD → Prop, (∀ ρ', P ρ' → N ρ') → a { E with nx := N } ρ) (hb : ∀ ρ', P ρ' → b E ρ') : wSeq a b E ρ := ha _ hb
end
end PL
end L2

namespace L2
namespace PL
open PySem PySem.Spec PyProof.Rows
variable [Tabl]
def b2i (b : Bool) : Int := if b then 1 else 0
def numL (u : List Bool) : Int := u.foldl (fun a b => 2 * a + b2i b) 0
def wordsL : Nat → List (List Bool)
  | 0 => [[]]
  | n + 1 => (wordsL n).flatMap fun w => [w ++ [false], w ++ [true]]
/-- n binary digits of k -/
def bitsL (n k : Nat) : List Bool := (List.range n).map fun i => decide (k / 2 ^ (n - 1 - i) % 2 = 1)
def S_bits_number (A : Ad) : Spec := fun ds Q E => ∃ u, ds = [wd u] ∧ u.length ≤ 1000 ∧ Q (.int (numL u))
theorem mS_bits_number (A : Ad) : MonoSp (S_bits_number A) := fun ds Q Q' E E' h h' ⟨u, e, o, q⟩ => ⟨u, e, o, h _ q⟩
def S_check_length (A : Ad) : Spec := fun ds Q E => ∃ v, ds = [v] ∧ okW A.cls v = true ∧ (betw v 1 12 = false → E (ev A.InvalidNumber v)) ∧ (betw v 1 12 = true → Q .non)
theorem mS_check_length (A : Ad) : MonoSp (S_check_length A) := fun ds Q Q' E E' h h' ⟨v, e, o, q1, q2⟩ => ⟨v, e, o, fun z => h' _ (q1 z), fun z => h _ (q2 z)⟩
def S_all_words (A : Ad) : Spec := fun ds Q E => ∃ v, ds = [v] ∧ okW A.cls v = true ∧ (betw v 1 12 = false → E (ev A.InvalidNumber v)) ∧ (betw v 1 12 = true → ∀ n : Nat, v = .int n → Q (mx (wordsL n)))
theorem mS_all_words (A : Ad) : MonoSp (S_all_words A) := fun ds Q Q' E E' h h' ⟨v, e, o, q1, q2⟩ => ⟨v, e, o, fun z => h' _ (q1 z), fun z n hn => h _ (q2 z n hn)⟩
def S_number_of (A : Ad) : Spec := fun ds Q E => ∃ v, ds = [v] ∧ okW A.cls v = true ∧ (isWo v = false → E (ev A.InvalidWord v)) ∧ (isWo v = true → ∀ u, v = wd u → Q (.int (numL u)))
theorem mS_number_of (A : Ad) : MonoSp (S_number_of A) := fun ds Q Q' E E' h h' ⟨v, e, o, q1, q2⟩ => ⟨v, e, o, fun z => h' _ (q1 z), fun z n hn => h _ (q2 z n hn)⟩
def S_word_of (A : Ad) : Spec := fun ds Q E => ∃ v x, ds = [v, x] ∧ (okW A.cls v = true ∧ okW A.cls x = true) ∧ (betw v 1 12 = false → E (ev A.InvalidNumber v)) ∧
  (betw v 1 12 = true → ∀ n : Nat, v = .int n → (betw x 0 (2 ^ n - 1) = false → E (ev A.InvalidNumber x)) ∧ (betw x 0 (2 ^ n - 1) = true → ∀ k : Nat, x = .int k → Q (wd (bitsL n k))))
theorem mS_word_of (A : Ad) : MonoSp (S_word_of A) := fun ds Q Q' E E' h h' ⟨v, x, e, o, q1, q2⟩ => ⟨v, x, e, o, fun z => h' _ (q1 z), fun z n hn => ⟨fun y => h' _ ((q2 z n hn).1 y), fun y k hk => h _ ((q2 z n hn).2 y k hk)⟩⟩
def S__law_bits_of (A : Ad) : Spec := fun ds Q E => ∃ n k : Nat, ds = [.int n, .int k] ∧ n ≤ 100 ∧ Q (wd (bitsL n k))
theorem mS__law_bits_of (A : Ad) : MonoSp (S__law_bits_of A) := fun ds Q Q' E E' h h' ⟨n, k, e, o, q⟩ => ⟨n, k, e, o, h _ q⟩
def S__law_number (A : Ad) : Spec := fun ds Q E => ∃ u, ds = [wd u] ∧ u.length ≤ 1000 ∧ Q (.int (numL u))
theorem mS__law_number (A : Ad) : MonoSp (S__law_number A) := fun ds Q Q' E E' h h' ⟨u, e, o, q⟩ => ⟨u, e, o, h _ q⟩
def S__law_words (A : Ad) : Spec := fun ds Q E => ∃ n : Nat, ds = [.int n] ∧ n ≤ 16 ∧ Q (.lst (((List.range (2 ^ n)).map (bitsL n)).map wd))
theorem mS__law_words (A : Ad) : MonoSp (S__law_words A) := fun ds Q Q' E E' h h' ⟨n, e, o, q⟩ => ⟨n, e, o, h _ q⟩
end PL
end L2

namespace L2
namespace PL
open PySem PySem.Spec PyProof.Rows
abbrev N_bits_number : List Str := ["bits", "number", "bit"]
abbrev N_check_length : List Str := ["n"]
abbrev N_all_words : List Str := ["n", "words", "_", "word", "bit"]
abbrev N_number_of : List Str := ["word"]
abbrev N_word_of : List Str := ["n", "number", "place"]
abbrev N__law_bits_of : List Str := ["n", "number", "found", "k"]
abbrev N__law_number : List Str := ["word", "found", "bit"]
abbrev N__law_words : List Str := ["n", "k"]
variable [Tabl]
-- bits_number calls [] facts []
def w_bits_number (A : Ad) (Ed : DX) : DS :=
    (wSeq (wSet 1 (wC (.int 0)))
    (wSeq (wFor (wItems (wV 0)) (gNm 2)
    (wSet 1 (wOp fAdd (wOp fMul (wC (.int 2)) (wV 1)) (wV 2))))
    (wRet (wV 1))))

-- check_length calls ['InvalidNumber', 'is_between'] facts ['c_LONGEST_WORD']
def w_check_length (A : Ad) (Ed : DX) : DS :=
    (wIf (wNotT (wTst (wCall (S_is_between A) (wCons (wV 0) (wCons (wC (.int 1)) (wCons (wC (.int 12)) wNil))) Ed))) (wRaise1 A.InvalidNumber "value" (wV 0) Ed) wNext)

-- all_words calls ['check_length'] facts ['b_range', 'b_tuple']
def w_all_words (A : Ad) (Ed : DX) : DS :=
    (wSeq (wDrop (wCall (S_check_length A) (wCons (wV 0) wNil) Ed))
    (wSeq (wSet 1 (wLst (wCons (wTup wNil) wNil)))
    (wSeq (wFor (wRng1 (wCons (wV 0) wNil)) (gNm 2)
    (wSetLc2 1 (wItems (wV 1)) (gNm 3) wYes (wItems (wTup (wCons (wC (.int 0)) (wCons (wC (.int 1)) wNil)))) (gNm 4) wYes (wOp fAdd (wV 3) (wTup (wCons (wV 4) wNil))) [3, 4] [4]))
    (wRet (wCal fTuple (wCons (wV 1) wNil))))))

-- number_of calls ['InvalidWord', 'bits_number', 'is_any_word'] facts []
def w_number_of (A : Ad) (Ed : DX) : DS :=
    (wSeq (wIf (wNotT (wTst (wCall (S_is_any_word A) (wCons (wV 0) wNil) Ed))) (wRaise1 A.InvalidWord "value" (wV 0) Ed) wNext)
    (wRet (wCall (S_bits_number A) (wCons (wV 0) wNil) Ed)))

-- word_of calls ['InvalidNumber', 'check_length', 'is_between'] facts ['b_range', 'b_reversed', 'b_tuple']
def w_word_of (A : Ad) (Ed : DX) : DS :=
    (wSeq (wDrop (wCall (S_check_length A) (wCons (wV 0) wNil) Ed))
    (wSeq (wIf (wNotT (wTst (wCall (S_is_between A) (wCons (wV 1) (wCons (wC (.int 0)) (wCons (wOp fSub (wOp fShl (wC (.int 1)) (wV 0)) (wC (.int 1))) wNil))) Ed))) (wRaise1 A.InvalidNumber "value" (wV 1) Ed) wNext)
    (wRet (wCal fTuple (wCons (wLc (wRevR (wV 0)) (gNm 2) wYes (wOp fAnd (wOp fShr (wV 1) (wV 2)) (wC (.int 1))) [2]) wNil)))))

-- _law_bits_of calls [] facts ['b_int', 'b_range', 'b_tuple']
def w__law_bits_of (A : Ad) (Ed : DX) : DS :=
    (wSeq (wSetO 2 wNil)
    (wSeq (wFor (wRng1 (wCons (wV 0) wNil)) (gNm 3)
    (wSeq (wApp 2 (wOp fMod (wCal fInt (wCons (wV 1) wNil)) (wC (.int 2))))
    (wSet 1 (wOp fDiv (wV 1) (wC (.int 2))))))
    (wRet (wCal fTuple (wCons (wRev (wV 2)) wNil)))))

-- _law_number calls [] facts []
def w__law_number (A : Ad) (Ed : DX) : DS :=
    (wSeq (wSet 1 (wC (.int 0)))
    (wSeq (wFor (wItems (wV 0)) (gNm 2)
    (wSet 1 (wOp fAdd (wOp fMul (wC (.int 2)) (wV 1)) (wV 2))))
    (wRet (wV 1))))

-- _law_words calls ['_law_bits_of'] facts ['b_range']
def w__law_words (A : Ad) (Ed : DX) : DS :=
    (wRet (wLc (wRng1 (wCons (wOp fShl (wC (.int 1)) (wV 0)) wNil)) (gNm 1) wYes (wCall (S__law_bits_of A) (wCons (wV 0) (wCons (wV 1) wNil)) NoX) [1]))


end PL
end L2

namespace L2
namespace PL
open PySem PySem.Spec PyProof.Rows
variable [Tabl]
section
variable {A : Ad} {ds : List D} {Q E : D → Prop}
theorem p_check_length (h : S_check_length A ds Q E) : w_check_length A (X0 E) (E0D Q) (ρ0 N_check_length ds) := by
  obtain ⟨v, rfl, o, q1, q2⟩ := h
  simp [w_check_length, wSeq, wIf, wRet, wRetN, wNext, wPass, wDrop, wSet, wSetO, wAsg, wV, wC, wOp, wUn, wCal, wCall, wCons, wNil, wTup, wLst, wTst, wChain, wAnd, wOr, wAndT, wOrT, wNotT, wIfE, gt, st, lstOf, wIdxV, wLenV, wItems, wRng1, wRng2, wZip, wRevR, wRev, wSetLc2, wLc2, wLc2G, wFor, turnE, wSetI, wApp, wTok1, wTok0, wTokS, wRaise1, wRaise2, wCont, wBreak, wCut, wP0, wP1, wLc, wLcG, wSetLc, wSetLcO, roD, roS, wipeD, R1.run, fAdd, fSub, fMul, fDiv, fMod, fAnd, fXor, fShl, fShr, fPow, fLt, fLe, fGt, fGe, fEq, fNe, fLen, fInt, fAbs, fNot, fNeg, fIsN, fNotN, isNon, fIdx, fAt, isTy, ρ0, E0D, X0, List.map, List.replicate, List.append, List.cons_append, List.nil_append]
  exact ⟨v, 1, 12, rfl, o, fun e => q1 e, fun e => q2 e⟩
/-- for b in a word -/
theorem forWd {wb : DS} {E : DE} {i : Nat} {I : List Bool → List SD → Prop} (step : ∀ b u ρ (K : List SD → Prop), I (b :: u) ρ → (∀ ρ2, I u ρ2 → K ρ2) → wb (turnE E K) (st ρ i (.d (bit b)))) (fin : ∀ ρ, I [] ρ → E.nx ρ) : ∀ (u : List Bool) (ρ : List SD), I u ρ → forW (gNm i) wb (u.map bit) E ρ
  | [], ρ, h => fin ρ h
  | b :: u, ρ, h => step b u ρ _ h fun ρ2 h2 => forWd step fin u ρ2 h2
theorem p_bits_number (h : S_bits_number A ds Q E) : w_bits_number A (X0 E) (E0D Q) (ρ0 N_bits_number ds) := by
  obtain ⟨u, rfl, o, q⟩ := h
  simp [w_bits_number, wSeq, wIf, wRet, wRetN, wNext, wPass, wDrop, wSet, wSetO, wAsg, wV, wC, wOp, wUn, wCal, wCall, wCons, wNil, wTup, wLst, wTst, wChain, wAnd, wOr, wAndT, wOrT, wNotT, wIfE, gt, st, lstOf, wIdxV, wLenV, wItems, wRng1, wRng2, wZip, wRevR, wRev, wSetLc2, wLc2, wLc2G, wFor, turnE, wSetI, wApp, wTok1, wTok0, wTokS, wRaise1, wRaise2, wCont, wBreak, wCut, wP0, wP1, wLc, wLcG, wSetLc, wSetLcO, roD, roS, wipeD, R1.run, fAdd, fSub, fMul, fDiv, fMod, fAnd, fXor, fShl, fShr, fPow, fLt, fLe, fGt, fGe, fEq, fNe, fLen, fInt, fAbs, fNot, fNeg, fIsN, fNotN, isNon, fIdx, fAt, isTy, ρ0, E0D, X0, List.map, List.replicate, List.append, List.cons_append, List.nil_append, wd]
  refine forWd (I := fun r ρ => ∃ (a : Int) (x : SD), r.foldl (fun a b => 2 * a + b2i b) a = numL u ∧ ρ = [.d (wd u), .d (.int a), x]) (fun b r ρ K hI hK => ?_) (fun ρ hI => ?_) u _ ⟨0, .no, rfl, by simp [wd]⟩
  · obtain ⟨a, x, e, rfl⟩ := hI
    simp [wSeq, wIf, wRet, wRetN, wNext, wPass, wDrop, wSet, wSetO, wAsg, wV, wC, wOp, wUn, wCal, wCall, wCons, wNil, wTup, wLst, wTst, wChain, wAnd, wOr, wAndT, wOrT, wNotT, wIfE, gt, st, lstOf, wIdxV, wLenV, wItems, wRng1, wRng2, wZip, wRevR, wRev, wSetLc2, wLc2, wLc2G, wFor, turnE, wSetI, wApp, wTok1, wTok0, wTokS, wRaise1, wRaise2, wCont, wBreak, wCut, wP0, wP1, wLc, wLcG, wSetLc, wSetLcO, roD, roS, wipeD, R1.run, fAdd, fSub, fMul, fDiv, fMod, fAnd, fXor, fShl, fShr, fPow, fLt, fLe, fGt, fGe, fEq, fNe, fLen, fInt, fAbs, fNot, fNeg, fIsN, fNotN, isNon, fIdx, fAt, isTy, ρ0, E0D, X0, List.map, List.replicate, List.append, List.cons_append, List.nil_append, bit]
    exact ⟨.inl (.inl (by decide)), hK _ ⟨_, _, e, rfl⟩⟩
  · obtain ⟨a, x, e, rfl⟩ := hI
    simp [wSeq, wIf, wRet, wRetN, wNext, wPass, wDrop, wSet, wSetO, wAsg, wV, wC, wOp, wUn, wCal, wCall, wCons, wNil, wTup, wLst, wTst, wChain, wAnd, wOr, wAndT, wOrT, wNotT, wIfE, gt, st, lstOf, wIdxV, wLenV, wItems, wRng1, wRng2, wZip, wRevR, wRev, wSetLc2, wLc2, wLc2G, wFor, turnE, wSetI, wApp, wTok1, wTok0, wTokS, wRaise1, wRaise2, wCont, wBreak, wCut, wP0, wP1, wLc, wLcG, wSetLc, wSetLcO, roD, roS, wipeD, R1.run, fAdd, fSub, fMul, fDiv, fMod, fAnd, fXor, fShl, fShr, fPow, fLt, fLe, fGt, fGe, fEq, fNe, fLen, fInt, fAbs, fNot, fNeg, fIsN, fNotN, isNon, fIdx, fAt, isTy, ρ0, E0D, X0, List.map, List.replicate, List.append, List.cons_append, List.nil_append]
    simp at e
    rw [e]
    exact q
theorem p__law_number (h : S__law_number A ds Q E) : w__law_number A (X0 E) (E0D Q) (ρ0 N__law_number ds) := by
  obtain ⟨u, rfl, o, q⟩ := h
  simp [w__law_number, wSeq, wIf, wRet, wRetN, wNext, wPass, wDrop, wSet, wSetO, wAsg, wV, wC, wOp, wUn, wCal, wCall, wCons, wNil, wTup, wLst, wTst, wChain, wAnd, wOr, wAndT, wOrT, wNotT, wIfE, gt, st, lstOf, wIdxV, wLenV, wItems, wRng1, wRng2, wZip, wRevR, wRev, wSetLc2, wLc2, wLc2G, wFor, turnE, wSetI, wApp, wTok1, wTok0, wTokS, wRaise1, wRaise2, wCont, wBreak, wCut, wP0, wP1, wLc, wLcG, wSetLc, wSetLcO, roD, roS, wipeD, R1.run, fAdd, fSub, fMul, fDiv, fMod, fAnd, fXor, fShl, fShr, fPow, fLt, fLe, fGt, fGe, fEq, fNe, fLen, fInt, fAbs, fNot, fNeg, fIsN, fNotN, isNon, fIdx, fAt, isTy, ρ0, E0D, X0, List.map, List.replicate, List.append, List.cons_append, List.nil_append, wd]
  refine forWd (I := fun r ρ => ∃ (a : Int) (x : SD), r.foldl (fun a b => 2 * a + b2i b) a = numL u ∧ ρ = [.d (wd u), .d (.int a), x]) (fun b r ρ K hI hK => ?_) (fun ρ hI => ?_) u _ ⟨0, .no, rfl, by simp [wd]⟩
  · obtain ⟨a, x, e, rfl⟩ := hI
    simp [wSeq, wIf, wRet, wRetN, wNext, wPass, wDrop, wSet, wSetO, wAsg, wV, wC, wOp, wUn, wCal, wCall, wCons, wNil, wTup, wLst, wTst, wChain, wAnd, wOr, wAndT, wOrT, wNotT, wIfE, gt, st, lstOf, wIdxV, wLenV, wItems, wRng1, wRng2, wZip, wRevR, wRev, wSetLc2, wLc2, wLc2G, wFor, turnE, wSetI, wApp, wTok1, wTok0, wTokS, wRaise1, wRaise2, wCont, wBreak, wCut, wP0, wP1, wLc, wLcG, wSetLc, wSetLcO, roD, roS, wipeD, R1.run, fAdd, fSub, fMul, fDiv, fMod, fAnd, fXor, fShl, fShr, fPow, fLt, fLe, fGt, fGe, fEq, fNe, fLen, fInt, fAbs, fNot, fNeg, fIsN, fNotN, isNon, fIdx, fAt, isTy, ρ0, E0D, X0, List.map, List.replicate, List.append, List.cons_append, List.nil_append, bit]
    exact ⟨.inl (.inl (by decide)), hK _ ⟨_, _, e, rfl⟩⟩
  · obtain ⟨a, x, e, rfl⟩ := hI
    simp [wSeq, wIf, wRet, wRetN, wNext, wPass, wDrop, wSet, wSetO, wAsg, wV, wC, wOp, wUn, wCal, wCall, wCons, wNil, wTup, wLst, wTst, wChain, wAnd, wOr, wAndT, wOrT, wNotT, wIfE, gt, st, lstOf, wIdxV, wLenV, wItems, wRng1, wRng2, wZip, wRevR, wRev, wSetLc2, wLc2, wLc2G, wFor, turnE, wSetI, wApp, wTok1, wTok0, wTokS, wRaise1, wRaise2, wCont, wBreak, wCut, wP0, wP1, wLc, wLcG, wSetLc, wSetLcO, roD, roS, wipeD, R1.run, fAdd, fSub, fMul, fDiv, fMod, fAnd, fXor, fShl, fShr, fPow, fLt, fLe, fGt, fGe, fEq, fNe, fLen, fInt, fAbs, fNot, fNeg, fIsN, fNotN, isNon, fIdx, fAt, isTy, ρ0, E0D, X0, List.map, List.replicate, List.append, List.cons_append, List.nil_append]
    simp at e
    rw [e]
    exact q
theorem p_number_of (h : S_number_of A ds Q E) : w_number_of A (X0 E) (E0D Q) (ρ0 N_number_of ds) := by
  obtain ⟨v, rfl, o, q1, q2⟩ := h
  simp [w_number_of, wSeq, wIf, wRet, wRetN, wNext, wPass, wDrop, wSet, wSetO, wAsg, wV, wC, wOp, wUn, wCal, wCall, wCons, wNil, wTup, wLst, wTst, wChain, wAnd, wOr, wAndT, wOrT, wNotT, wIfE, gt, st, lstOf, wIdxV, wLenV, wItems, wRng1, wRng2, wZip, wRevR, wRev, wSetLc2, wLc2, wLc2G, wFor, turnE, wSetI, wApp, wTok1, wTok0, wTokS, wRaise1, wRaise2, wCont, wBreak, wCut, wP0, wP1, wLc, wLcG, wSetLc, wSetLcO, roD, roS, wipeD, R1.run, fAdd, fSub, fMul, fDiv, fMod, fAnd, fXor, fShl, fShr, fPow, fLt, fLe, fGt, fGe, fEq, fNe, fLen, fInt, fAbs, fNot, fNeg, fIsN, fNotN, isNon, fIdx, fAt, isTy, ρ0, E0D, X0, List.map, List.replicate, List.append, List.cons_append, List.nil_append]
  refine ⟨v, rfl, o, fun e => q1 e, fun e => ?_⟩
  obtain ⟨u, rfl, h1, h2⟩ := wo_wd e
  exact ⟨u, rfl, by omega, q2 e u rfl⟩
theorem betw_int {v : D} {lo hi : Int} (h : betw v lo hi = true) : ∃ i, v = .int i ∧ lo ≤ i ∧ i ≤ hi := by
  cases v <;> simp [betw] at h
  exact ⟨_, rfl, h⟩
theorem wordsL_len : ∀ n, (wordsL n).length = 2 ^ n
  | 0 => rfl
  | n + 1 => by
    have : ∀ l : List (List Bool), (l.flatMap fun w => [w ++ [false], w ++ [true]]).length = 2 * l.length := by
      intro l
      induction l with
      | nil => rfl
      | cons a l ih => rw [List.flatMap_cons, List.length_append, ih]; simp; omega
    show ((wordsL n).flatMap _).length = _
    rw [this, wordsL_len n, Nat.pow_succ]
    omega
theorem wordsL_mem : ∀ n, ∀ w ∈ wordsL n, w.length = n
  | 0, w, h => by simp [wordsL] at h; subst h; rfl
  | n + 1, w, h => by
    simp only [wordsL, List.mem_flatMap] at h
    obtain ⟨x, hx, hw⟩ := h
    have := wordsL_mem n x hx
    simp at hw
    rcases hw with rfl | rfl <;> simp [this]
theorem aw_loop {a b c : D} {Q : List D → Prop} : ∀ (xs : List (List Bool)) (acc : List D), (∀ w ∈ xs, w.length ≤ 100) → acc.length + 2 * xs.length ≤ 1000000 → Q (acc ++ (xs.flatMap fun w => [w ++ [false], w ++ [true]]).map wd) →
    lcW2 (gNm 3) wYes (wItems (wTup (wCons (wC (.int 0)) (wCons (wC (.int 1)) wNil)))) (gNm 4) wYes (wOp fAdd (wV 3) (wTup (wCons (wV 4) wNil))) [4] [.d a, .d b, .d c, .no, .no] (xs.map wd) acc Q
  | [], acc, _, _, q => by
    show Q acc
    simpa using q
  | w :: xs, acc, h, hl, q => by
    have hw := h w List.mem_cons_self
    have ih := aw_loop (a := a) (b := b) (c := c) (Q := Q) xs (acc ++ [wd (w ++ [false])] ++ [wd (w ++ [true])]) (fun x hx => h x (List.mem_cons_of_mem _ hx)) (by simp at hl ⊢; omega) (by simpa using q)
    have e0 : wd (w ++ [false]) = .tup (w.map bit ++ [.int 0]) := by simp [wd, bit]
    have e1 : wd (w ++ [true]) = .tup (w.map bit ++ [.int 1]) := by simp [wd, bit]
    rw [e0, e1] at ih
    refine ⟨fun _ => ⟨(by decide : 2 ≤ 16777216), ⟨rfl, by simp at hl ⊢; omega⟩, ?_⟩, fun e => nomatch e⟩
    refine ⟨fun _ => ⟨(by decide : 1 ≤ 16777216), (by simp; omega), ?_⟩, fun e => nomatch e⟩
    exact ⟨fun _ => ⟨(by decide : 1 ≤ 16777216), (by simp; omega), ih⟩, fun e => nomatch e⟩
theorem p_all_words (h : S_all_words A ds Q E) : w_all_words A (X0 E) (E0D Q) (ρ0 N_all_words ds) := by
  obtain ⟨v, rfl, o, q1, q2⟩ := h
  simp [w_all_words, wSeq, wIf, wRet, wRetN, wNext, wPass, wDrop, wSet, wSetO, wAsg, wV, wC, wOp, wUn, wCal, wCall, wCons, wNil, wTup, wLst, wTst, wChain, wAnd, wOr, wAndT, wOrT, wNotT, wIfE, gt, st, lstOf, wIdxV, wLenV, wItems, wRng1, wRng2, wZip, wRevR, wRev, wSetLc2, wLc2, wLc2G, wFor, turnE, wSetI, wApp, wTok1, wTok0, wTokS, wRaise1, wRaise2, wCont, wBreak, wCut, wP0, wP1, wLc, wLcG, wSetLc, wSetLcO, roD, roS, wipeD, R1.run, fAdd, fSub, fMul, fDiv, fMod, fAnd, fXor, fShl, fShr, fPow, fLt, fLe, fGt, fGe, fEq, fNe, fLen, fInt, fAbs, fNot, fNeg, fIsN, fNotN, isNon, fIdx, fAt, isTy, ρ0, E0D, X0, List.map, List.replicate, List.append, List.cons_append, List.nil_append]
  refine ⟨v, rfl, o, fun e => q1 e, fun e => ?_⟩
  obtain ⟨i, rfl, h1, h2⟩ := betw_int e
  obtain ⟨n, rfl⟩ := Int.eq_ofNat_of_zero_le (show 0 ≤ i by omega)
  have q := q2 e n rfl
  have hn : n ≤ 12 := by omega
  refine ⟨by omega, ?_⟩
  rw [Int.toNat_natCast]
  refine forRng (I := fun k ρ => ∃ x, ρ = [.d (.int n), .d (.lst ((wordsL k).map wd)), x, .no, .no]) (fun k hk ρ K hI hK => ?_) (fun ρ hI => ?_) ⟨.no, rfl⟩
  · obtain ⟨x, rfl⟩ := hI
    refine aw_loop (wordsL k) [] (fun w hw => by rw [wordsL_mem k w hw]; omega) ?_ (hK _ ⟨_, rfl⟩)
    rw [wordsL_len]
    have : 2 ^ k ≤ 2 ^ 12 := Nat.pow_le_pow_right (by decide) (by omega)
    simp
    omega
  · obtain ⟨x, rfl⟩ := hI
    simp [wSeq, wIf, wRet, wRetN, wNext, wPass, wDrop, wSet, wSetO, wAsg, wV, wC, wOp, wUn, wCal, wCall, wCons, wNil, wTup, wLst, wTst, wChain, wAnd, wOr, wAndT, wOrT, wNotT, wIfE, gt, st, lstOf, wIdxV, wLenV, wItems, wRng1, wRng2, wZip, wRevR, wRev, wSetLc2, wLc2, wLc2G, wFor, turnE, wSetI, wApp, wTok1, wTok0, wTokS, wRaise1, wRaise2, wCont, wBreak, wCut, wP0, wP1, wLc, wLcG, wSetLc, wSetLcO, roD, roS, wipeD, R1.run, fAdd, fSub, fMul, fDiv, fMod, fAnd, fXor, fShl, fShr, fPow, fLt, fLe, fGt, fGe, fEq, fNe, fLen, fInt, fAbs, fNot, fNeg, fIsN, fNotN, isNon, fIdx, fAt, isTy, ρ0, E0D, X0, List.map, List.replicate, List.append, List.cons_append, List.nil_append, fTuple]
    exact q
theorem shr_bit (k p : Nat) : Builtin.bitAnd ((k : Int) / 2 ^ p) 1 = if decide (k / 2 ^ p % 2 = 1) then 1 else 0 := by
  rw [bitAnd_m1]
  have : (k : Int) / 2 ^ p % 2 = ((k / 2 ^ p % 2 : Nat) : Int) := by simp
  rw [this]
  have : k / 2 ^ p % 2 = 0 ∨ k / 2 ^ p % 2 = 1 := by omega
  rcases this with h | h <;> simp [h]
theorem p_word_of (h : S_word_of A ds Q E) : w_word_of A (X0 E) (E0D Q) (ρ0 N_word_of ds) := by
  obtain ⟨v, x, rfl, o, q1, q2⟩ := h
  simp [w_word_of, wSeq, wIf, wRet, wRetN, wNext, wPass, wDrop, wSet, wSetO, wAsg, wV, wC, wOp, wUn, wCal, wCall, wCons, wNil, wTup, wLst, wTst, wChain, wAnd, wOr, wAndT, wOrT, wNotT, wIfE, gt, st, lstOf, wIdxV, wLenV, wItems, wRng1, wRng2, wZip, wRevR, wRev, wSetLc2, wLc2, wLc2G, wFor, turnE, wSetI, wApp, wTok1, wTok0, wTokS, wRaise1, wRaise2, wCont, wBreak, wCut, wP0, wP1, wLc, wLcG, wSetLc, wSetLcO, roD, roS, wipeD, R1.run, fAdd, fSub, fMul, fDiv, fMod, fAnd, fXor, fShl, fShr, fPow, fLt, fLe, fGt, fGe, fEq, fNe, fLen, fInt, fAbs, fNot, fNeg, fIsN, fNotN, isNon, fIdx, fAt, isTy, ρ0, E0D, X0, List.map, List.replicate, List.append, List.cons_append, List.nil_append]
  refine ⟨v, rfl, o.1, fun e => q1 e, fun e => ?_⟩
  obtain ⟨i, rfl, h1, h2⟩ := betw_int e
  obtain ⟨n, rfl⟩ := Int.eq_ofNat_of_zero_le (show 0 ≤ i by omega)
  obtain ⟨q3, q4⟩ := q2 e n rfl
  refine ⟨⟨by omega, by omega, by decide⟩, x, 0, 2 ^ n - 1, by simp, o.2, fun e => q3 e, fun e => ?_⟩
  obtain ⟨j, rfl, h3, h4⟩ := betw_int e
  obtain ⟨k, rfl⟩ := Int.eq_ofNat_of_zero_le h3
  have q := q4 e k rfl
  refine ⟨⟨by omega, by omega⟩, by simp [rngR]; omega, ?_⟩
  rw [Int.toNat_natCast]
  refine lcN (f := fun d => match d with | .int p => bit (decide (k / 2 ^ p.toNat % 2 = 1)) | _ => .non) _ [] (fun d hd P p => ?_) ?_
  · unfold rngR at hd
    obtain ⟨i, hi, rfl⟩ := List.mem_map.mp hd
    have hi := List.mem_range.mp hi
    simp [wSeq, wIf, wRet, wRetN, wNext, wPass, wDrop, wSet, wSetO, wAsg, wV, wC, wOp, wUn, wCal, wCall, wCons, wNil, wTup, wLst, wTst, wChain, wAnd, wOr, wAndT, wOrT, wNotT, wIfE, gt, st, lstOf, wIdxV, wLenV, wItems, wRng1, wRng2, wZip, wRevR, wRev, wSetLc2, wLc2, wLc2G, wFor, turnE, wSetI, wApp, wTok1, wTok0, wTokS, wRaise1, wRaise2, wCont, wBreak, wCut, wP0, wP1, wLc, wLcG, wSetLc, wSetLcO, roD, roS, wipeD, R1.run, fAdd, fSub, fMul, fDiv, fMod, fAnd, fXor, fShl, fShr, fPow, fLt, fLe, fGt, fGe, fEq, fNe, fLen, fInt, fAbs, fNot, fNeg, fIsN, fNotN, isNon, fIdx, fAt, isTy, ρ0, E0D, X0, List.map, List.replicate, List.append, List.cons_append, List.nil_append]
    refine ⟨by omega, ?_⟩
    rw [shr_bit]
    have e : ((n : Int) - 1 - (i : Int)).toNat = n - 1 - i := by omega
    have p : P (bit (decide (k / 2 ^ ((n : Int) - 1 - (i : Int)).toNat % 2 = 1))) := p
    rw [e] at p
    exact p
  · show Q _
    have : ((rngR n).map fun d => match d with | D.int p => bit (decide (k / 2 ^ p.toNat % 2 = 1)) | _ => .non) = (bitsL n k).map bit := by
      unfold rngR bitsL
      rw [List.map_map, List.map_map]
      apply List.map_congr_left
      intro i hi
      have hi := List.mem_range.mp hi
      have e : ((n : Int) - 1 - (i : Int)).toNat = n - 1 - i := by omega
      simp [e]
    rw [List.nil_append, this]
    exact q
theorem rev_range {α : Type} (f : Nat → α) (n : Nat) : ((List.range n).map f).reverse = (List.range n).map fun i => f (n - 1 - i) := by
  apply List.ext_getElem
  · simp
  · intro i h1 h2
    simp
theorem p__law_bits_of (h : S__law_bits_of A ds Q E) : w__law_bits_of A (X0 E) (E0D Q) (ρ0 N__law_bits_of ds) := by
  obtain ⟨n, k, rfl, o, q⟩ := h
  simp [w__law_bits_of, wSeq, wIf, wRet, wRetN, wNext, wPass, wDrop, wSet, wSetO, wAsg, wV, wC, wOp, wUn, wCal, wCall, wCons, wNil, wTup, wLst, wTst, wChain, wAnd, wOr, wAndT, wOrT, wNotT, wIfE, gt, st, lstOf, wIdxV, wLenV, wItems, wRng1, wRng2, wZip, wRevR, wRev, wSetLc2, wLc2, wLc2G, wFor, turnE, wSetI, wApp, wTok1, wTok0, wTokS, wRaise1, wRaise2, wCont, wBreak, wCut, wP0, wP1, wLc, wLcG, wSetLc, wSetLcO, roD, roS, wipeD, R1.run, fAdd, fSub, fMul, fDiv, fMod, fAnd, fXor, fShl, fShr, fPow, fLt, fLe, fGt, fGe, fEq, fNe, fLen, fInt, fAbs, fNot, fNeg, fIsN, fNotN, isNon, fIdx, fAt, isTy, ρ0, E0D, X0, List.map, List.replicate, List.append, List.cons_append, List.nil_append]
  refine ⟨by omega, forRng (I := fun j ρ => ∃ x, ρ = [.d (.int n), .d (.int ((k / 2 ^ j : Nat) : Int)), .ol ((List.range j).map fun i => bit (decide (k / 2 ^ i % 2 = 1))), x]) (fun j hj ρ K hI hK => ?_) (fun ρ hI => ?_) ⟨.no, by simp⟩⟩
  · obtain ⟨x, rfl⟩ := hI
    have e1 : ((k / 2 ^ j : Nat) : Int).fmod 2 = if decide (k / 2 ^ j % 2 = 1) then 1 else 0 := by
      rw [Int.fmod_eq_emod_of_nonneg _ (by decide)]
      have : ((k / 2 ^ j : Nat) : Int) % 2 = ((k / 2 ^ j % 2 : Nat) : Int) := by omega
      rw [this]
      have : k / 2 ^ j % 2 = 0 ∨ k / 2 ^ j % 2 = 1 := by omega
      rcases this with h | h <;> simp [h]
    have e2 : ((k / 2 ^ j : Nat) : Int).fdiv 2 = ((k / 2 ^ (j + 1) : Nat) : Int) := by
      rw [Int.fdiv_eq_ediv_of_nonneg _ (by decide), Nat.pow_succ, ← Nat.div_div_eq_div_mul]
      omega
    simp only [wSeq, wIf, wRet, wRetN, wNext, wPass, wDrop, wSet, wSetO, wAsg, wV, wC, wOp, wUn, wCal, wCall, wCons, wNil, wTup, wLst, wTst, wChain, wAnd, wOr, wAndT, wOrT, wNotT, wIfE, gt, st, lstOf, wIdxV, wLenV, wItems, wRng1, wRng2, wZip, wRevR, wRev, wSetLc2, wLc2, wLc2G, wFor, turnE, wSetI, wApp, wTok1, wTok0, wTokS, wRaise1, wRaise2, wCont, wBreak, wCut, wP0, wP1, wLc, wLcG, wSetLc, wSetLcO, roD, roS, wipeD, R1.run, fAdd, fSub, fMul, fDiv, fMod, fAnd, fXor, fShl, fShr, fPow, fLt, fLe, fGt, fGe, fEq, fNe, fLen, fInt, fAbs, fNot, fNeg, fIsN, fNotN, isNon, fIdx, fAt, isTy, ρ0, E0D, X0, List.map, List.replicate, List.append, List.cons_append, List.nil_append]
    refine ⟨by decide, by simp; omega, ⟨by decide, .inl (by decide)⟩, ?_⟩
    rw [e1, e2]
    exact hK _ ⟨_, by rw [List.range_succ, List.map_append]; rfl⟩
  · obtain ⟨x, rfl⟩ := hI
    simp [wSeq, wIf, wRet, wRetN, wNext, wPass, wDrop, wSet, wSetO, wAsg, wV, wC, wOp, wUn, wCal, wCall, wCons, wNil, wTup, wLst, wTst, wChain, wAnd, wOr, wAndT, wOrT, wNotT, wIfE, gt, st, lstOf, wIdxV, wLenV, wItems, wRng1, wRng2, wZip, wRevR, wRev, wSetLc2, wLc2, wLc2G, wFor, turnE, wSetI, wApp, wTok1, wTok0, wTokS, wRaise1, wRaise2, wCont, wBreak, wCut, wP0, wP1, wLc, wLcG, wSetLc, wSetLcO, roD, roS, wipeD, R1.run, fAdd, fSub, fMul, fDiv, fMod, fAnd, fXor, fShl, fShr, fPow, fLt, fLe, fGt, fGe, fEq, fNe, fLen, fInt, fAbs, fNot, fNeg, fIsN, fNotN, isNon, fIdx, fAt, isTy, ρ0, E0D, X0, List.map, List.replicate, List.append, List.cons_append, List.nil_append, fTuple]
    have := rev_range (fun i => bit (decide (k / 2 ^ i % 2 = 1))) n
    rw [this]
    simpa [wd, bitsL, Function.comp_def] using q
theorem p__law_words (h : S__law_words A ds Q E) : w__law_words A (X0 E) (E0D Q) (ρ0 N__law_words ds) := by
  obtain ⟨n, rfl, o, q⟩ := h
  have hp : 2 ^ n ≤ 2 ^ 16 := Nat.pow_le_pow_right (by decide) o
  have e : (2 : Int) ^ n = ((2 ^ n : Nat) : Int) := by simp
  simp [w__law_words, wSeq, wIf, wRet, wRetN, wNext, wPass, wDrop, wSet, wSetO, wAsg, wV, wC, wOp, wUn, wCal, wCall, wCons, wNil, wTup, wLst, wTst, wChain, wAnd, wOr, wAndT, wOrT, wNotT, wIfE, gt, st, lstOf, wIdxV, wLenV, wItems, wRng1, wRng2, wZip, wRevR, wRev, wSetLc2, wLc2, wLc2G, wFor, turnE, wSetI, wApp, wTok1, wTok0, wTokS, wRaise1, wRaise2, wCont, wBreak, wCut, wP0, wP1, wLc, wLcG, wSetLc, wSetLcO, roD, roS, wipeD, R1.run, fAdd, fSub, fMul, fDiv, fMod, fAnd, fXor, fShl, fShr, fPow, fLt, fLe, fGt, fGe, fEq, fNe, fLen, fInt, fAbs, fNot, fNeg, fIsN, fNotN, isNon, fIdx, fAt, isTy, ρ0, E0D, X0, List.map, List.replicate, List.append, List.cons_append, List.nil_append]
  have hp2 : (2 : Int) ^ n ≤ 65536 := by rw [e]; exact Int.ofNat_le.mpr hp
  have hp3 : 0 ≤ (2 : Int) ^ n := by rw [e]; exact Int.natCast_nonneg _
  refine ⟨by omega, ⟨by omega, by omega⟩, ?_⟩
  rw [e, Int.toNat_natCast]
  refine ⟨by rw [rng_len]; omega, lcRng (F := fun k => wd (bitsL n k)) (fun k hk P p => ⟨n, k, rfl, by omega, p⟩) ?_⟩
  simpa [List.map_map, Function.comp_def] using q
/-! ### the mathematics of words -/
theorem bitsL_len (n k : Nat) : (bitsL n k).length = n := by simp [bitsL]
theorem bitsL_succ (n k : Nat) : bitsL (n + 1) k = bitsL n (k / 2) ++ [decide (k % 2 = 1)] := by
  apply List.ext_getElem
  · simp [bitsL]
  · intro i h1 h2
    have h1 : i < n + 1 := by simpa [bitsL] using h1
    by_cases hi : i < n
    · rw [List.getElem_append_left (by simpa [bitsL] using hi)]
      simp only [bitsL, List.getElem_map, List.getElem_range]
      have e : n + 1 - 1 - i = (n - 1 - i) + 1 := by omega
      rw [e, Nat.pow_succ, Nat.mul_comm, ← Nat.div_div_eq_div_mul]
    · have : i = n := by omega
      subst this
      rw [List.getElem_append_right (by simp [bitsL])]
      simp [bitsL]
theorem foldl_num (u : List Bool) (b : Bool) : numL (u ++ [b]) = 2 * numL u + b2i b := by
  unfold numL
  rw [List.foldl_append]
  rfl
theorem num_bits : ∀ (n k : Nat), k < 2 ^ n → numL (bitsL n k) = k
  | 0, k, h => by
    have : k = 0 := by simpa using h
    subst this
    rfl
  | n + 1, k, h => by
    rw [bitsL_succ, foldl_num, num_bits n (k / 2) (by rw [Nat.pow_succ] at h; omega)]
    have : k % 2 = 0 ∨ k % 2 = 1 := by omega
    rcases this with e | e <;> simp [e, b2i] <;> omega
theorem num_nn (u : List Bool) : ∃ k : Nat, numL u = k ∧ k < 2 ^ u.length ∧ bitsL u.length k = u := by
  have key : ∀ (m : Nat) (u : List Bool), u.length = m → ∃ k : Nat, numL u = k ∧ k < 2 ^ u.length ∧ bitsL u.length k = u := by
    intro m
    induction m with
    | zero =>
      intro u h
      have : u = [] := List.eq_nil_of_length_eq_zero h
      subst this
      exact ⟨0, rfl, by decide, rfl⟩
    | succ m ih =>
      intro u h
      have ne : u ≠ [] := by intro z; subst z; simp at h
      obtain ⟨v, b, rfl⟩ : ∃ v b, u = v ++ [b] := ⟨u.dropLast, u.getLast ne, (List.dropLast_concat_getLast ne).symm⟩
      obtain ⟨k, h1, h2, h3⟩ := ih v (by simpa using h)
      refine ⟨2 * k + (if b then 1 else 0), ?_, ?_, ?_⟩
      · rw [foldl_num, h1]
        cases b <;> simp [b2i]
      · rw [List.length_append, List.length_singleton, Nat.pow_succ]
        cases b <;> simp <;> omega
      · rw [List.length_append, List.length_singleton, bitsL_succ]
        have e : (2 * k + (if b then 1 else 0)) / 2 = k := by cases b <;> simp <;> omega
        rw [e, h3]
        cases b <;> simp <;> omega
  exact key u.length u rfl
theorem flat_bits (n : Nat) : ∀ m, (((List.range m).map (bitsL n)).flatMap fun w => [w ++ [false], w ++ [true]]) = (List.range (2 * m)).map (bitsL (n + 1))
  | 0 => rfl
  | m + 1 => by
    rw [List.range_succ, List.map_append, List.flatMap_append, flat_bits n m]
    have e : 2 * (m + 1) = 2 * m + 1 + 1 := by omega
    rw [e, List.range_succ, List.range_succ, List.map_append, List.map_append]
    simp only [List.map_cons, List.map_nil, List.flatMap_cons, List.flatMap_nil, List.append_nil]
    rw [bitsL_succ n (2 * m), bitsL_succ n (2 * m + 1)]
    have a1 : 2 * m / 2 = m := by omega
    have a2 : (2 * m + 1) / 2 = m := by omega
    have a3 : (2 * m) % 2 = 0 := by omega
    have a4 : (2 * m + 1) % 2 = 1 := by omega
    rw [a1, a2, a3, a4]
    simp
theorem words_bits : ∀ n, wordsL n = (List.range (2 ^ n)).map (bitsL n)
  | 0 => rfl
  | n + 1 => by
    show (wordsL n).flatMap _ = _
    rw [words_bits n, flat_bits, Nat.pow_succ, Nat.mul_comm]
end
end PL
end L2

/-! systems of equations: what the defs promise -/
namespace L2
namespace PL
open PySem PySem.Spec PyProof.Rows
variable [Tabl]
structure Eqn where
  ps : List (Nat × Nat)
  ss : List Nat
  r : Bool
def nD (i : Nat) : D := .int (i : Int)
def prD (p : Nat × Nat) : D := .tup [.int (p.1 : Int), .int (p.2 : Int)]
def eqD (e : Eqn) : D := .tup [.tup (e.ps.map prD), .tup (e.ss.map nD), bit e.r]
def ltP (p q : Nat × Nat) : Prop := p.1 < q.1 ∨ (p.1 = q.1 ∧ p.2 < q.2)
def EqnOk (n : Nat) (e : Eqn) : Prop := ((∀ p ∈ e.ps, p.1 < p.2 ∧ p.2 < n) ∧ e.ps.Pairwise ltP) ∧ (∀ i ∈ e.ss, i < n) ∧ e.ss.Pairwise (· < ·)
def SysOk (n : Nat) (es : List Eqn) : Prop := (1 ≤ n ∧ n ≤ 12) ∧ (∀ e ∈ es, EqnOk n e) ∧ es.length ≤ 1000
def sys (A : Ad) (n : Nat) (es : List Eqn) : D := .obj A.System ["n", "equations"] [.int (n : Int), .tup (es.map eqD)]
def bat (u : List Bool) (i : Nat) : Bool := u.getD i false
/-- the left side at a word -/
def leftE (e : Eqn) (u : List Bool) : Bool := par (e.ps.map fun p => bat u p.1 && bat u p.2) != par (e.ss.map (bat u))
def fitE (e : Eqn) (u : List Bool) : Bool := leftE e u == e.r
def firstW (es : List Eqn) (u : List Bool) : Option Nat := es.findIdx? fun e => !fitE e u
def solsS (n : Nat) (es : List Eqn) : List (List Bool) := (wordsL n).filter fun u => es.all fun e => fitE e u
def optD : Option Nat → D
  | none => .non
  | some k => .int (k : Int)
/-! as data -/
def seqL : D → Option (List D)
  | .tup l => some l
  | .lst l => some l
  | _ => none
def ltDt (a b : D) : Bool := match toPy a, toPy b with
  | some x, some y => PySem.W.dataLt x y
  | _, _ => false
def ascD (l : List D) : Bool := (List.zipWith ltDt l (l.drop 1)).all id
def isUnkD (v : D) (n : Int) : Bool := match v with
  | .tup l => (l.all fun d => betw d 0 (n - 1)) && ascD l
  | _ => false
def isPrsD (v : D) (n : Int) : Bool := match v with
  | .tup l => (l.all fun d => isUnkD d n && decide (lenD d = 2)) && ascD l
  | _ => false
def isEqD (v : D) (n : Int) : Bool := match v with
  | .tup [a, b, c] => isPrsD a n && (isUnkD b n && betw c 0 1)
  | _ => false
mutual
/-- no long tuple or list in it -/
def smD : D → Bool
  | .tup l => decide (l.length ≤ 1000) && smDs l
  | .lst l => decide (l.length ≤ 1000) && smDs l
  | _ => true
def smDs : List D → Bool
  | [] => true
  | d :: l => smD d && smDs l
end
def badEq (x : D) (n : Int) : Option Nat := match seqL x with
  | none => some 0
  | some l => l.findIdx? fun d => !isEqD d n
/-- the bits of a word -/
def unW : D → List Bool
  | .tup l => l.map fun d => match d with
    | .int i => decide (i = 1)
    | _ => false
  | _ => []
def isSol (n : Nat) (es : List Eqn) (v : D) : Bool := isWd v n && es.all fun e => fitE e (unW v)
def ev2 (C : Addr) (part place : D) : D := .obj C ["place", "part"] [place, part]
/-! promises -/
def IntsL (l : List D) : Prop := ∀ d ∈ l, ∃ i : Int, d = .int i
def TupsL (l : List D) : Prop := ∀ d ∈ l, ∃ ns : List Int, d = .tup (ns.map .int) ∧ ns.length ≤ 1000
def S_is_ascending (A : Ad) : Spec := fun ds Q E => ∃ l, ds = [.tup l] ∧ (l.length ≤ 1000 ∧ (IntsL l ∨ TupsL l)) ∧ Q (.bl (ascD l))
theorem mS_is_ascending (A : Ad) : MonoSp (S_is_ascending A) := fun ds Q Q' E E' h h' ⟨l, e, o, q⟩ => ⟨l, e, o, h _ q⟩
def S_are_unknowns (A : Ad) : Spec := fun ds Q E => ∃ v n, ds = [v, .int n] ∧ (okW A.cls v = true ∧ smD v = true) ∧ Q (.bl (isUnkD v n))
theorem mS_are_unknowns (A : Ad) : MonoSp (S_are_unknowns A) := fun ds Q Q' E E' h h' ⟨v, n, e, o, q⟩ => ⟨v, n, e, o, h _ q⟩
def S_are_pairs (A : Ad) : Spec := fun ds Q E => ∃ v n, ds = [v, .int n] ∧ (okW A.cls v = true ∧ smD v = true) ∧ Q (.bl (isPrsD v n))
theorem mS_are_pairs (A : Ad) : MonoSp (S_are_pairs A) := fun ds Q Q' E E' h h' ⟨v, n, e, o, q⟩ => ⟨v, n, e, o, h _ q⟩
def S_is_equation (A : Ad) : Spec := fun ds Q E => ∃ v n, ds = [v, .int n] ∧ (okW A.cls v = true ∧ smD v = true) ∧ Q (.bl (isEqD v n))
theorem mS_is_equation (A : Ad) : MonoSp (S_is_equation A) := fun ds Q Q' E E' h h' ⟨v, n, e, o, q⟩ => ⟨v, n, e, o, h _ q⟩
def S_check_equations (A : Ad) : Spec := fun ds Q E => ∃ n x, ds = [.int n, x] ∧ (okW A.cls x = true ∧ smD x = true) ∧ (∀ k, badEq x n = some k → E (ev2 A.InvalidSystem (.str "equations") (.int (k : Int)))) ∧ (badEq x n = none → Q .non)
theorem mS_check_equations (A : Ad) : MonoSp (S_check_equations A) := fun ds Q Q' E E' h h' ⟨n, x, e, o, q1, q2⟩ => ⟨n, x, e, o, fun k z => h' _ (q1 k z), fun z => h _ (q2 z)⟩
def S_is_fitting (A : Ad) : Spec := fun ds Q E => ∃ u e, ds = [wd u, eqD e] ∧ (u.length ≤ 12 ∧ EqnOk u.length e) ∧ Q (.bl (fitE e u))
theorem mS_is_fitting (A : Ad) : MonoSp (S_is_fitting A) := fun ds Q Q' E E' h h' ⟨u, e, z, o, q⟩ => ⟨u, e, z, o, h _ q⟩
def I_System (A : Ad) : SpI := fun ds Q E => ∃ v x, ds = [v, x] ∧ (okW A.cls v = true ∧ okW A.cls x = true ∧ smD x = true) ∧ (betw v 1 12 = false → E (ev2 A.InvalidSystem (.str "size") (.int 0))) ∧
  (betw v 1 12 = true → ∀ n : Nat, v = .int (n : Int) → (∀ k, badEq x n = some k → E (ev2 A.InvalidSystem (.str "equations") (.int (k : Int)))) ∧
    (badEq x n = none → ∀ es : List Eqn, seqL x = some (es.map eqD) → (∀ e ∈ es, EqnOk n e) → Q ["n", "equations"] [.int (n : Int), .tup (es.map eqD)]))
theorem mI_System (A : Ad) : MonoI (I_System A) := fun ds Q Q' E E' h h' ⟨v, x, e, o, q1, q2⟩ => ⟨v, x, e, o, fun z => h' _ (q1 z), fun z n hn => ⟨fun k y => h' _ ((q2 z n hn).1 k y), fun y es e1 e2 => h _ _ ((q2 z n hn).2 y es e1 e2)⟩⟩
def S_System_first_wrong (A : Ad) : Spec := fun ds Q E => ∃ n es v, ds = [sys A n es, v] ∧ (SysOk n es ∧ okW A.cls v = true) ∧ (isWd v n = false → E (ev A.InvalidWord v)) ∧ (isWd v n = true → ∀ u, v = wd u → Q (optD (firstW es u)))
theorem mS_System_first_wrong (A : Ad) : MonoSp (S_System_first_wrong A) := fun ds Q Q' E E' h h' ⟨n, es, v, e, o, q1, q2⟩ => ⟨n, es, v, e, o, fun z => h' _ (q1 z), fun z u hu => h _ (q2 z u hu)⟩
def S_System_contains (A : Ad) : Spec := fun ds Q E => ∃ n es v, ds = [sys A n es, v] ∧ (SysOk n es ∧ okW A.cls v = true) ∧ Q (.bl (isSol n es v))
theorem mS_System_contains (A : Ad) : MonoSp (S_System_contains A) := fun ds Q Q' E E' h h' ⟨n, es, v, e, o, q⟩ => ⟨n, es, v, e, o, h _ q⟩
def S_System_solutions (A : Ad) : Spec := fun ds Q E => ∃ n es, ds = [sys A n es] ∧ SysOk n es ∧ Q (mx (solsS n es))
theorem mS_System_solutions (A : Ad) : MonoSp (S_System_solutions A) := fun ds Q Q' E E' h h' ⟨n, es, e, o, q⟩ => ⟨n, es, e, o, h _ q⟩
/-! the first that is not the case -/
def firstF (wb : Nat → (Bool → Prop) → Prop) : Nat → Nat → (D → Prop) → Prop
  | _, 0, Q => Q .non
  | k, m + 1, Q => wb k fun b => (b = true → firstF wb (k + 1) m Q) ∧ (b = false → Q (.int (k : Int)))
end PL
end L2

namespace L2
namespace PL
open PySem PySem.Spec PyProof.Rows
variable [Tabl]
/-! the tape's draws -/
def S__law_draw (A : Ad) : Spec := S__law_drawT
theorem mS__law_draw (A : Ad) : MonoSp (S__law_draw A) := mS__law_drawT
def S__law_mixed (A : Ad) : Spec := fun ds Q E => ∃ a b : Int, ds = [.int a, .int b] ∧ ∀ v : Int, 0 ≤ v → Q (.int v)
theorem mS__law_mixed (A : Ad) : MonoSp (S__law_mixed A) := fun ds Q Q' E E' h h' ⟨a, b, e, q⟩ => ⟨a, b, e, fun v z => h _ (q v z)⟩
def S__law_pick (A : Ad) : Spec := fun ds Q E => ∃ x l, ds = [.tok 3, x] ∧ ((x = .lst l ∨ x = .tup l) ∧ 0 < l.length ∧ l.length ≤ 1000000) ∧ ∀ d ∈ l, Q d
theorem mS__law_pick (A : Ad) : MonoSp (S__law_pick A) := fun ds Q Q' E E' h h' ⟨x, l, e, o, q⟩ => ⟨x, l, e, o, fun d z => h _ (q d z)⟩
def S__law_wordV (A : Ad) : Spec := fun ds Q E => ∃ n : Nat, ds = [.tok 3, .int (n : Int)] ∧ n ≤ 4096 ∧ ∀ u : List Bool, u.length = n → Q (wd u)
theorem mS__law_wordV (A : Ad) : MonoSp (S__law_wordV A) := fun ds Q Q' E E' h h' ⟨n, e, o, q⟩ => ⟨n, e, o, fun u z => h _ (q u z)⟩
def S__law_wordsV (A : Ad) : Spec := fun ds Q E => ∃ n : Nat, ds = [.int (n : Int)] ∧ n ≤ 12 ∧ Q (.lst ((wordsL n).map wd))
theorem mS__law_wordsV (A : Ad) : MonoSp (S__law_wordsV A) := fun ds Q Q' E E' h h' ⟨n, e, o, q⟩ => ⟨n, e, o, h _ q⟩
def S__law_left (A : Ad) : Spec := fun ds Q E => ∃ u e x r, ds = [wd u, .tup [x, .tup (e.ss.map nD), r]] ∧ ((x = .tup (e.ps.map prD) ∨ x = .lst (e.ps.map prD)) ∧ u.length ≤ 12 ∧ EqnOk u.length e) ∧ Q (bit (leftE e u))
theorem mS__law_left (A : Ad) : MonoSp (S__law_left A) := fun ds Q Q' E E' h h' ⟨u, e, x, r, z, o, q⟩ => ⟨u, e, x, r, z, o, h _ q⟩
def S__law_fits (A : Ad) : Spec := fun ds Q E => ∃ u e, ds = [wd u, eqD e] ∧ (u.length ≤ 12 ∧ EqnOk u.length e) ∧ Q (.bl (fitE e u))
theorem mS__law_fits (A : Ad) : MonoSp (S__law_fits A) := fun ds Q Q' E E' h h' ⟨u, e, z, o, q⟩ => ⟨u, e, z, o, h _ q⟩
def S__law_equation (A : Ad) : Spec := fun ds Q E => ∃ (n : Nat) (u : List Bool), ds = [.tok 3, .int (n : Int), wd u] ∧ (u.length = n ∧ n ≤ 12) ∧ ∀ e, EqnOk n e → Q (eqD e)
theorem mS__law_equation (A : Ad) : MonoSp (S__law_equation A) := fun ds Q Q' E E' h h' ⟨n, u, e, o, q⟩ => ⟨n, u, e, o, fun x z => h _ (q x z)⟩
def S__law_equations (A : Ad) : Spec := fun ds Q E => ∃ (n m : Nat) (u : List Bool), ds = [.tok 3, .int (n : Int), .int (m : Int), wd u] ∧ (u.length = n ∧ n ≤ 12 ∧ m ≤ 100) ∧ ∀ es : List Eqn, es.length = m → (∀ e ∈ es, EqnOk n e) → Q (.tup (es.map eqD))
theorem mS__law_equations (A : Ad) : MonoSp (S__law_equations A) := fun ds Q Q' E E' h h' ⟨n, m, u, e, o, q⟩ => ⟨n, m, u, e, o, fun x z y => h _ (q x z y)⟩
def S__law_solves (A : Ad) : Spec := fun ds Q E => ∃ (u : List Bool) (es : List Eqn), ds = [wd u, .tup (es.map eqD)] ∧ (u.length ≤ 12 ∧ (∀ e ∈ es, EqnOk u.length e) ∧ es.length ≤ 100) ∧ Q (.bl (es.all fun e => fitE e u))
theorem mS__law_solves (A : Ad) : MonoSp (S__law_solves A) := fun ds Q Q' E E' h h' ⟨u, es, e, o, q⟩ => ⟨u, es, e, o, h _ q⟩
def S__law_solutions (A : Ad) : Spec := fun ds Q E => ∃ (n : Nat) (es : List Eqn), ds = [.int (n : Int), .tup (es.map eqD)] ∧ ((1 ≤ n ∧ n ≤ 12) ∧ (∀ e ∈ es, EqnOk n e) ∧ es.length ≤ 100) ∧ Q (mx (solsS n es))
theorem mS__law_solutions (A : Ad) : MonoSp (S__law_solutions A) := fun ds Q Q' E E' h h' ⟨n, es, e, o, q⟩ => ⟨n, es, e, o, h _ q⟩
end PL
end L2

namespace L2
namespace PL
open PySem PySem.Spec PyProof.Rows
abbrev N__law_mixed : List Str := ["number", "turn", "first", "second"]
abbrev N__law_draw : List Str := ["tape", "many", "digit", "cell"]
abbrev N__law_pick : List Str := ["tape", "row"]
abbrev N__law_wordV : List Str := ["tape", "n", "bits", "k", "number", "at"]
abbrev N__law_wordsV : List Str := ["n", "number", "at"]
abbrev N__law_left : List Str := ["word", "equation", "total", "i", "j"]
abbrev N__law_fits : List Str := ["word", "equation"]
abbrev N__law_equation : List Str := ["tape", "n", "word", "pairs", "i", "singles", "right", "j"]
abbrev N__law_equations : List Str := ["tape", "n", "many", "word", "k"]
abbrev N__law_solves : List Str := ["word", "equations", "one"]
abbrev N__law_solutions : List Str := ["n", "equations", "word"]
variable [Tabl]
-- _law_mixed calls [] facts ['b_int']
def w__law_mixed (A : Ad) (Ed : DX) : DS :=
    (wSeq (wSet 2 (wOp fMod (wCal fInt (wCons (wOp fAdd (wOp fAdd (wOp fMul (wV 0) (wC (.int 48271))) (wOp fMul (wV 1) (wC (.int 69621)))) (wC (.int 11))) wNil)) (wC (.int 2147483647))))
    (wSeq (wSet 3 (wOp fMod (wCal fInt (wCons (wOp fAdd (wOp fAdd (wOp fMul (wV 2) (wC (.int 16807))) (wOp fDiv (wV 2) (wC (.int 127773)))) (wOp fMul (wV 1) (wC (.int 271)))) wNil)) (wC (.int 1000003))))
    (wRet (wOp fMod (wCal fInt (wCons (wOp fAdd (wOp fMul (wV 3) (wV 3)) (wOp fDiv (wV 2) (wC (.int 1009)))) wNil)) (wC (.int 999983))))))

-- _law_draw calls ['_law_mixed'] facts ['b_int', 'b_len']
def w__law_draw (A : Ad) (Ed : DX) : DS2 :=
    (wSeq2 (wLift (wTpS 0 5 (wOp fAdd (wTpI 0 5) (wC (.int 1)))))
    (wSeq2 (wIf2 (wAndT (wTst (wOp fEq (wTpI 0 3) (wC (.int 0)))) (wTst (wOp fLt (wTpI 0 1) (wCal fLen (wCons (wTpI 0 0) wNil))))) (wSeq2 (wLift (wSet 3 (wOp fIdx (wTpI 0 0) (wTpI 0 1))))
    (wSeq2 (wLift (wTpS 0 1 (wOp fAdd (wTpI 0 1) (wC (.int 1)))))
    (wSeq2 (wLift (wTpS 0 4 (wCall (S__law_mixed A) (wCons (wOp fAdd (wTpI 0 4) (wV 3)) (wCons (wTpI 0 1) wNil)) Ed)))
    (wSeq2 (wLift (wTpS 0 3 (wC (.int 4))))
    (wIf2 (wTst (wOp fGe (wV 3) (wOp fPow (wC (.int 10)) (wC (.int 18))))) (wSeq2 (wLift (wTpS 0 2 (wV 3)))
    (wLift (wTpS 0 3 (wC (.int 60))))) wNext2))))) wNext2)
    (wSeq2 (wIf2 (wTst (wOp fGt (wTpI 0 3) (wC (.int 0)))) (wLift (wTpS 0 3 (wOp fSub (wTpI 0 3) (wC (.int 1))))) wNext2)
    (wSeq2 (wIf2 (wTst (wOp fEq (wTpI 0 2) (wC (.int 0)))) (wRet2 (wOp fMod (wCal fInt (wCons (wCall (S__law_mixed A) (wCons (wTpI 0 4) (wCons (wTpI 0 5) wNil)) Ed) wNil)) (wV 1))) wNext2)
    (wSeq2 (wLift (wSet 2 (wOp fMod (wCal fInt (wCons (wTpI 0 2) wNil)) (wC (.int 1009)))))
    (wSeq2 (wLift (wTpS 0 2 (wOp fDiv (wTpI 0 2) (wC (.int 1009)))))
    (wSeq2 (wIf2 (wOrT (wTst (wOp fEq (wTpI 0 2) (wC (.int 0)))) (wTst (wOp fEq (wTpI 0 3) (wC (.int 0))))) (wSeq2 (wLift (wTpS 0 2 (wC (.int 0))))
    (wLift (wTpS 0 3 (wC (.int 0))))) wNext2)
    (wRet2 (wOp fMod (wCal fInt (wCons (wV 2) wNil)) (wV 1))))))))))

-- _law_pick calls ['_law_draw'] facts ['b_len']
def w__law_pick (A : Ad) (Ed : DX) : DS :=
    (wRet (wOp fIdx (wV 1) (wCall (S__law_draw A) (wCons (wV 0) (wCons (wCal fLen (wCons (wV 1) wNil)) wNil)) Ed)))

-- _law_word calls ['_law_draw'] facts ['b_int', 'b_range', 'b_tuple']
def w__law_wordV (A : Ad) (Ed : DX) : DS :=
    (wSeq (wSet 2 (wLst wNil))
    (wSeq (wFor (wRng1 (wCons (wOp fDiv (wOp fAdd (wV 1) (wC (.int 7))) (wC (.int 8))) wNil)) (gNm 3)
    (wSeq (wSet 4 (wCall (S__law_draw A) (wCons (wV 0) (wCons (wC (.int 256)) wNil)) Ed))
    (wSet 2 (wOp fAdd (wV 2) (wLc (wRng1 (wCons (wC (.int 8)) wNil)) (gNm 5) wYes (wOp fMod (wCal fInt (wCons (wOp fShr (wV 4) (wV 5)) wNil)) (wC (.int 2))) [5])))))
    (wRet (wCal fTuple (wCons (wCut (wV 2) wP0 (wP1 (wV 1))) wNil)))))

-- _law_words calls [] facts ['b_int', 'b_range', 'b_tuple']
def w__law_wordsV (A : Ad) (Ed : DX) : DS :=
    (wRet (wLc (wRng1 (wCons (wOp fShl (wC (.int 1)) (wV 0)) wNil)) (gNm 1) wYes (wCal fTuple (wCons (wLc (wRng1 (wCons (wV 0) wNil)) (gNm 2) wYes (wOp fMod (wCal fInt (wCons (wOp fShr (wV 1) (wOp fSub (wOp fSub (wV 0) (wC (.int 1))) (wV 2))) wNil)) (wC (.int 2))) [2]) wNil)) [1]))

-- _law_left calls [] facts ['b_int', 'b_sum']
def w__law_left (A : Ad) (Ed : DX) : DS :=
    (wSeq (wSet 2 (wOp fAdd (wCal fSum (wCons (wLc (wItems (wOp fIdx (wV 1) (wC (.int 0)))) (gTp 2 (gCn (gNm 3) (gCn (gNm 4) gNl))) wYes (wOp fMul (wOp fIdx (wV 0) (wV 3)) (wOp fIdx (wV 0) (wV 4))) [3, 4]) wNil)) (wCal fSum (wCons (wLc (wItems (wOp fIdx (wV 1) (wC (.int 1)))) (gNm 3) wYes (wOp fIdx (wV 0) (wV 3)) [3]) wNil))))
    (wRet (wOp fMod (wCal fInt (wCons (wV 2) wNil)) (wC (.int 2)))))

-- _law_fits calls ['_law_left'] facts []
def w__law_fits (A : Ad) (Ed : DX) : DS :=
    (wRet (wOp fEq (wCall (S__law_left A) (wCons (wV 0) (wCons (wV 1) wNil)) Ed) (wOp fIdx (wV 1) (wC (.int 2)))))

-- _law_equation calls ['_law_draw', '_law_left'] facts ['b_range', 'b_tuple']
def w__law_equation (A : Ad) (Ed : DX) : DS :=
    (wSeq (wSetO 3 wNil)
    (wSeq (wFor (wRng1 (wCons (wV 1) wNil)) (gNm 4)
    (wFor (wRng2 (wCons (wOp fAdd (wV 4) (wC (.int 1))) (wCons (wV 1) wNil))) (gNm 7)
    (wIf (wTst (wOp fLt (wCall (S__law_draw A) (wCons (wV 0) (wCons (wOp fAdd (wV 1) (wC (.int 1))) wNil)) Ed) (wC (.int 2)))) (wApp 3 (wTup (wCons (wV 4) (wCons (wV 7) wNil)))) wNext)))
    (wSeq (wSet 5 (wCal fTuple (wCons (wLc (wRng1 (wCons (wV 1) wNil)) (gNm 4) (wTst (wOp fEq (wCall (S__law_draw A) (wCons (wV 0) (wCons (wC (.int 3)) wNil)) NoX) (wC (.int 0)))) (wV 4) [4]) wNil)))
    (wSeq (wSet 6 (wCall (S__law_left A) (wCons (wV 2) (wCons (wTup (wCons (wV 3) (wCons (wV 5) (wCons (wC (.int 0)) wNil)))) wNil)) Ed))
    (wSeq (wIf (wTst (wOp fEq (wCall (S__law_draw A) (wCons (wV 0) (wCons (wC (.int 5)) wNil)) Ed) (wC (.int 0)))) (wSet 6 (wCall (S__law_draw A) (wCons (wV 0) (wCons (wC (.int 2)) wNil)) Ed)) wNext)
    (wRet (wTup (wCons (wCal fTuple (wCons (wV 3) wNil)) (wCons (wV 5) (wCons (wV 6) wNil))))))))))

-- _law_equations calls ['_law_equation'] facts ['b_range', 'b_tuple']
def w__law_equations (A : Ad) (Ed : DX) : DS :=
    (wRet (wCal fTuple (wCons (wLc (wRng1 (wCons (wV 2) wNil)) (gNm 4) wYes (wCall (S__law_equation A) (wCons (wV 0) (wCons (wV 1) (wCons (wV 3) wNil))) NoX) [4]) wNil)))

-- _law_solves calls ['_law_fits'] facts []
def w__law_solves (A : Ad) (Ed : DX) : DS :=
    (wRet (wOp fEq (wLc (wItems (wV 1)) (gNm 2) (wNotT (wTst (wCall (S__law_fits A) (wCons (wV 0) (wCons (wV 2) wNil)) NoX))) (wV 2) [2]) (wLst wNil)))

-- _law_solutions calls ['_law_solves', '_law_words'] facts ['b_tuple']
def w__law_solutions (A : Ad) (Ed : DX) : DS :=
    (wRet (wCal fTuple (wCons (wLc (wItems (wCall (S__law_wordsV A) (wCons (wV 0) wNil) Ed)) (gNm 2) (wTst (wCall (S__law_solves A) (wCons (wV 2) (wCons (wV 1) wNil)) NoX)) (wV 2) [2]) wNil)))


end PL
end L2

namespace L2
namespace PL
open PySem PySem.Spec PyProof.Rows
abbrev N_first_none : List Str := ["values", "is_one_at", "place"]
abbrev N_is_ascending : List Str := ["values", "before", "value"]
abbrev N_are_unknowns : List Str := ["value", "n", "number"]
abbrev N_are_pairs : List Str := ["value", "n", "pair"]
abbrev N_is_equation : List Str := ["value", "n", "pairs", "singles", "right"]
abbrev N_check_equations : List Str := ["n", "equations", "place"]
abbrev N_is_fitting : List Str := ["word", "equation", "total", "pairs", "singles", "right", "i", "j"]
abbrev N_System_init : List Str := ["self", "n", "equations"]
abbrev N_System_contains : List Str := ["self", "x"]
abbrev N_System_first_wrong : List Str := ["self", "word", "number", "equation"]
abbrev N_System_solutions : List Str := ["self", "word"]
variable [Tabl]
-- first_none calls [] facts ['b_isinstance', 'b_len', 'b_list', 'b_range', 'b_tuple']
def w_first_none (A : Ad) (wL : DW) (Ed : DX) : DS :=
    (wSeq (wIf (wNotT (wTst (wUn (fIsi2 A.cls .list .tuple) (wV 0)))) (wRet (wC (.int 0))) wNext)
    (wSeq (wFor (wRng1 (wCons (wCal fLen (wCons (wV 0) wNil)) wNil)) (gNm 2)
    (wIf (wNotT (wTst wL)) (wRet (wV 2)) wNext))
    (wRet (wC .non))))

-- is_ascending calls [] facts ['b_all', 'b_zip']
def w_is_ascending (A : Ad) (Ed : DX) : DS :=
    (wRet (wCal fAll (wCons (wLc (wZip (wCons (wV 0) (wCons (wCut (wV 0) (wP1 (wC (.int 1))) wP0) wNil))) (gTp 2 (gCn (gNm 1) (gCn (gNm 2) gNl))) wYes (wOp fLtD (wV 1) (wV 2)) [1, 2]) wNil)))

-- are_unknowns calls ['is_ascending', 'is_between'] facts ['b_all', 'b_isinstance', 'b_tuple']
def w_are_unknowns (A : Ad) (Ed : DX) : DS :=
    (wSeq (wIf (wOrT (wNotT (wTst (wUn (fIsi A.cls .tuple) (wV 0)))) (wNotT (wTst (wCal fAll (wCons (wLc (wItems (wV 0)) (gNm 2) wYes (wCall (S_is_between A) (wCons (wV 2) (wCons (wC (.int 0)) (wCons (wOp fSub (wV 1) (wC (.int 1))) wNil))) NoX) [2]) wNil))))) (wRet (wC (.bl false))) wNext)
    (wRet (wCall (S_is_ascending A) (wCons (wV 0) wNil) Ed)))

-- are_pairs calls ['are_unknowns', 'is_ascending'] facts ['b_all', 'b_isinstance', 'b_len', 'b_tuple']
def w_are_pairs (A : Ad) (Ed : DX) : DS :=
    (wSeq (wIf (wOrT (wNotT (wTst (wUn (fIsi A.cls .tuple) (wV 0)))) (wNotT (wTst (wCal fAll (wCons (wLc (wItems (wV 0)) (gNm 2) wYes (wAnd (wCall (S_are_unknowns A) (wCons (wV 2) (wCons (wV 1) wNil)) NoX) (wOp fEq (wCal fLen (wCons (wV 2) wNil)) (wC (.int 2)))) [2]) wNil))))) (wRet (wC (.bl false))) wNext)
    (wRet (wCall (S_is_ascending A) (wCons (wV 0) wNil) Ed)))

-- is_equation calls ['are_pairs', 'are_unknowns', 'is_between'] facts ['b_isinstance', 'b_len', 'b_tuple']
def w_is_equation (A : Ad) (Ed : DX) : DS :=
    (wSeq (wIf (wOrT (wNotT (wTst (wUn (fIsi A.cls .tuple) (wV 0)))) (wTst (wOp fNe (wCal fLen (wCons (wV 0) wNil)) (wC (.int 3))))) (wRet (wC (.bl false))) wNext)
    (wSeq (wAsg (wV 0) (gTp 3 (gCn (gNm 2) (gCn (gNm 3) (gCn (gNm 4) gNl)))))
    (wRet (wAnd (wCall (S_are_pairs A) (wCons (wV 2) (wCons (wV 1) wNil)) Ed) (wAnd (wCall (S_are_unknowns A) (wCons (wV 3) (wCons (wV 1) wNil)) Ed) (wCall (S_is_between A) (wCons (wV 4) (wCons (wC (.int 0)) (wCons (wC (.int 1)) wNil))) Ed))))))

-- check_equations calls ['InvalidSystem', 'first_none', 'is_equation'] facts []
def w_check_equations (A : Ad) (Ed : DX) : DS :=
    (wSeq (wSet 2 (wLamC (wV 1) [0, 1] 0 3 (wCall (S_is_equation A) (wCons (wOp fIdx (wV 2) (wV 0)) (wCons (wV 1) wNil)) NoX) (fun wL => w_first_none A wL NoX)))
    (wIf (wTst (wUn fNotN (wV 2))) (wRaise2 A.InvalidSystem "part" "place" (wC (.str "equations")) (wV 2) Ed) wNext))

-- is_fitting calls [] facts ['b_sum']
def w_is_fitting (A : Ad) (Ed : DX) : DS :=
    (wSeq (wAsg (wV 1) (gTp 3 (gCn (gNm 3) (gCn (gNm 4) (gCn (gNm 5) gNl)))))
    (wSeq (wSet 2 (wOp fAdd (wCal fSum (wCons (wLc (wItems (wV 3)) (gTp 2 (gCn (gNm 6) (gCn (gNm 7) gNl))) wYes (wOp fAnd (wOp fIdx (wV 0) (wV 6)) (wOp fIdx (wV 0) (wV 7))) [6, 7]) wNil)) (wCal fSum (wCons (wLc (wItems (wV 4)) (gNm 6) wYes (wOp fIdx (wV 0) (wV 6)) [6]) wNil))))
    (wRet (wOp fEq (wOp fAnd (wV 2) (wC (.int 1))) (wV 5)))))

-- System_init calls ['InvalidSystem', 'check_equations', 'is_between'] facts ['b_tuple', 'c_LONGEST_WORD', 'fl_System_equations', 'fl_System_n']
def w_System_init (A : Ad) (Ed : DX) : DS :=
    (wSeq (wIf (wNotT (wTst (wCall (S_is_between A) (wCons (wV 1) (wCons (wC (.int 1)) (wCons (wC (.int 12)) wNil))) Ed))) (wRaise2 A.InvalidSystem "part" "place" (wC (.str "size")) (wC (.int 0)) Ed) wNext)
    (wSeq (wDrop (wCall (S_check_equations A) (wCons (wV 1) (wCons (wV 2) wNil)) Ed))
    (wSeq (wSetF 0 A.System "n" (wV 1))
    (wSetF 0 A.System "equations" (wCal fTuple (wCons (wV 2) wNil))))))

-- System_contains calls ['System.first_wrong', 'is_word'] facts ['cl_System', 'fl_System_n']
def w_System_contains (A : Ad) (Ed : DX) : DS :=
    (wRet (wAnd (wCall (S_is_word A) (wCons (wV 1) (wCons (wFld A.System "n" (wV 0)) wNil)) Ed) (wUn fIsN (wMeth (S_System_first_wrong A) A.System "first_wrong" (wV 0) (wCons (wV 1) wNil) Ed))))

-- System_first_wrong calls ['InvalidWord', 'is_fitting', 'is_word'] facts ['b_enumerate', 'fl_System_equations', 'fl_System_n']
def w_System_first_wrong (A : Ad) (Ed : DX) : DS :=
    (wSeq (wIf (wNotT (wTst (wCall (S_is_word A) (wCons (wV 1) (wCons (wFld A.System "n" (wV 0)) wNil)) Ed))) (wRaise1 A.InvalidWord "value" (wV 1) Ed) wNext)
    (wSeq (wFor (wEnum (wCons (wFld A.System "equations" (wV 0)) wNil)) (gTp 2 (gCn (gNm 2) (gCn (gNm 3) gNl)))
    (wIf (wNotT (wTst (wCall (S_is_fitting A) (wCons (wV 1) (wCons (wV 3) wNil)) Ed))) (wRet (wV 2)) wNext))
    (wRet (wC .non))))

-- System_solutions calls ['System.first_wrong', 'all_words'] facts ['b_tuple', 'cl_System', 'fl_System_n']
def w_System_solutions (A : Ad) (Ed : DX) : DS :=
    (wRet (wCal fTuple (wCons (wLc (wItems (wCall (S_all_words A) (wCons (wFld A.System "n" (wV 0)) wNil) Ed)) (gNm 1) (wTst (wUn fIsN (wMeth (S_System_first_wrong A) A.System "first_wrong" (wV 0) (wCons (wV 1) wNil) NoX))) (wV 1) [1]) wNil)))


end PL
end L2

/-! tables: what the defs promise -/
namespace L2
namespace PL
open PySem PySem.Spec PyProof.Rows
variable [Tabl]
def seqOf : D → Option (List D)
  | .tup l => some l
  | .lst l => some l
  | _ => none
def isTb (x : D) (n : Nat) : Bool := match seqOf x with
  | some l => decide (l.length = 2 ^ n) && l.all isBit
  | none => false
def tbl (A : Ad) (n : Nat) (bs : List Bool) : D := .obj A.Table ["n", "bits"] [.int n, wd bs]
def S_check_table_size (A : Ad) : Spec := fun ds Q E => ∃ v, ds = [v] ∧ okW A.cls v = true ∧ (betw v 1 10 = false → E (ev A.InvalidNumber v)) ∧ (betw v 1 10 = true → Q .non)
theorem mS_check_table_size (A : Ad) : MonoSp (S_check_table_size A) := fun ds Q Q' E E' h h' ⟨v, e, o, q1, q2⟩ => ⟨v, e, o, fun z => h' _ (q1 z), fun z => h _ (q2 z)⟩
def I_Table (A : Ad) : SpI := fun ds Q E => ∃ v x, ds = [v, x] ∧ (okW A.cls v = true ∧ okW A.cls x = true ∧ lenD x ≤ 100000) ∧ (betw v 1 10 = false → E (ev A.InvalidNumber v)) ∧
  (betw v 1 10 = true → ∀ n : Nat, v = .int n → (isTb x n = false → E (ev A.InvalidTable x)) ∧ (isTb x n = true → ∀ bs, seqOf x = some (bs.map bit) → Q ["n", "bits"] [.int n, wd bs]))
theorem mI_Table (A : Ad) : MonoI (I_Table A) := fun ds Q Q' E E' h h' ⟨v, x, e, o, q1, q2⟩ => ⟨v, x, e, o, fun z => h' _ (q1 z), fun z n hn => ⟨fun y => h' _ ((q2 z n hn).1 y), fun y bs hb => h _ _ ((q2 z n hn).2 y bs hb)⟩⟩
def S__law_bits (A : Ad) : Spec := fun ds Q E => ∃ n : Nat, ds = [.tok 1, .int n] ∧ (1 ≤ n ∧ n ≤ 10) ∧ ∀ bs : List Bool, bs.length = 2 ^ n → Q (wd bs)
theorem mS__law_bits (A : Ad) : MonoSp (S__law_bits A) := fun ds Q Q' E E' h h' ⟨n, e, o, q⟩ => ⟨n, e, o, fun bs hb => h _ (q bs hb)⟩
end PL
end L2

namespace L2
namespace PL
open PySem PySem.Spec PyProof.Rows
abbrev N_check_table_size : List Str := ["n"]
abbrev N_Table_init : List Str := ["self", "n", "bits"]
abbrev N__law_bits : List Str := ["hand", "n", "kind", "word", "found", "step", "one", "at", "k"]
variable [Tabl]
-- check_table_size calls ['InvalidNumber', 'is_between'] facts ['c_LARGEST_TABLE']
def w_check_table_size (A : Ad) (Ed : DX) : DS :=
    (wIf (wNotT (wTst (wCall (S_is_between A) (wCons (wV 0) (wCons (wC (.int 1)) (wCons (wC (.int 10)) wNil))) Ed))) (wRaise1 A.InvalidNumber "value" (wV 0) Ed) wNext)

-- Table_init calls ['InvalidTable', 'are_bits', 'check_table_size'] facts ['b_isinstance', 'b_len', 'b_list', 'b_tuple', 'fl_Table_bits', 'fl_Table_n']
def w_Table_init (A : Ad) (Ed : DX) : DS :=
    (wSeq (wDrop (wCall (S_check_table_size A) (wCons (wV 1) wNil) Ed))
    (wSeq (wIf (wOrT (wNotT (wTst (wUn (fIsi2 A.cls .list .tuple) (wV 2)))) (wOrT (wTst (wOp fNe (wCal fLen (wCons (wV 2) wNil)) (wOp fShl (wC (.int 1)) (wV 1)))) (wNotT (wTst (wCall (S_are_bits A) (wCons (wV 2) wNil) Ed))))) (wRaise1 A.InvalidTable "value" (wV 2) Ed) wNext)
    (wSeq (wSetF 0 A.Table "n" (wV 1))
    (wSetF 0 A.Table "bits" (wCal fTuple (wCons (wV 2) wNil))))))

-- _law_bits calls ['_law_product', '_law_take', '_law_word', '_law_words'] facts ['b_min', 'b_range', 'b_tuple']
def w__law_bits (A : Ad) (Ed : DX) : DS :=
    (wSeq (wSet 2 (wCall (S__law_take A) (wCons (wV 0) (wCons (wC (.int 4)) wNil)) Ed))
    (wSeq (wIf (wTst (wOp fEq (wV 2) (wC (.int 0)))) (wRet (wCal fTuple (wCons (wLc (wRng1 (wCons (wOp fShl (wC (.int 1)) (wV 1)) wNil)) (gNm 8) wYes (wCall (S__law_take A) (wCons (wV 0) (wCons (wC (.int 2)) wNil)) NoX) [8]) wNil))) wNext)
    (wSeq (wSet 3 (wCall (S__law_word A) (wCons (wV 0) (wCons (wV 1) wNil)) Ed))
    (wSeq (wSetLcO 4 (wItems (wCall (S__law_words A) (wCons (wV 1) wNil) Ed)) (gNm 6) wYes (wCall (S__law_product A) (wCons (wV 3) (wCons (wV 6) wNil)) NoX) [6])
    (wSeq (wIf (wTst (wOp fGt (wV 2) (wC (.int 1)))) (wFor (wRng1 (wCons (wOp fAdd (wC (.int 1)) (wCall (S__law_take A) (wCons (wV 0) (wCons (wOp fIdx (wLst (wCons (wC (.int 2)) (wCons (wC (.int 2)) (wCons (wC (.int 2)) (wCons (wC (.int 3)) (wCons (wC (.int 5)) (wCons (wC (.int 9)) wNil))))))) (wCal fMin2 (wCons (wC (.int 5)) (wCons (wV 1) wNil)))) wNil)) Ed)) wNil)) (gNm 5)
    (wSeq (wSet 7 (wCall (S__law_take A) (wCons (wV 0) (wCons (wOp fShl (wC (.int 1)) (wV 1)) wNil)) Ed))
    (wSetI 4 (wOp fSub (wC (.int 1)) (wIdxV 4 (wV 7))) (wV 7)))) wNext)
    (wRet (wCal fTuple (wCons (wV 4) wNil))))))))


end PL
end L2

namespace L2
namespace PL
open PySem PySem.Spec PyProof.Rows
variable [Tabl]
section
variable {A : Ad} {K : PySem.W.Frag} {ds : List D} {Q E : D → Prop}
theorem p_check_table_size (h : S_check_table_size A ds Q E) : w_check_table_size A (X0 E) (E0D Q) (ρ0 N_check_table_size ds) := by
  obtain ⟨v, rfl, o, q1, q2⟩ := h
  simp [w_check_table_size, wSeq, wIf, wRet, wRetN, wNext, wPass, wDrop, wSet, wSetO, wAsg, wV, wC, wOp, wUn, wCal, wCall, wCons, wNil, wTup, wLst, wTst, wChain, wAnd, wOr, wAndT, wOrT, wNotT, wIfE, gt, st, lstOf, wIdxV, wLenV, wItems, wRng1, wRng2, wZip, wRevR, wRev, wSetLc2, wLc2, wLc2G, wFor, turnE, wSetI, wApp, wTok1, wTok0, wTokS, wRaise1, wRaise2, wCont, wBreak, wCut, wP0, wP1, wLc, wLcG, wSetLc, wSetLcO, roD, roS, wipeD, R1.run, fAdd, fSub, fMul, fDiv, fMod, fAnd, fXor, fShl, fShr, fPow, fLt, fLe, fGt, fGe, fEq, fNe, fLen, fInt, fAbs, fNot, fNeg, fIsN, fNotN, isNon, fIdx, fAt, isTy, ρ0, E0D, X0, List.map, List.replicate, List.append, List.cons_append, List.nil_append]
  exact ⟨v, 1, 10, rfl, o, fun e => q1 e, fun e => q2 e⟩
theorem p_Table_init {a : Addr} {ds : List D} {Q : List Str → List D → Prop} {E : D → Prop} (h : I_Table A ds Q E) : w_Table_init A (X0 E) { nx := fun ρ => ∃ ns l, gt ρ 0 = .oi a A.Table ns l ∧ Q ns l, rt := fun _ => False } (.oi a A.Table [] [] :: (ds.map .d ++ List.replicate (N_Table_init.length - (ds.length + 1)) .no)) := by
  obtain ⟨v, x, rfl, ⟨ov, ox, lx⟩, q1, q2⟩ := h
  refine ⟨v, rfl, ov, fun e => q1 e, fun e => ?_⟩
  obtain ⟨i, rfl, h1, h2⟩ := betw_int e
  obtain ⟨n, rfl⟩ := Int.eq_ofNat_of_zero_le (show 0 ≤ i by omega)
  obtain ⟨bad, good⟩ := q2 e n rfl
  have hp : (1 * 2 ^ Int.toNat (n : Int) : Int) = ((2 ^ n : Nat) : Int) := by rw [Int.toNat_natCast, Int.one_mul]; exact (Int.natCast_pow 2 n).symm
  have seq : ∀ l, seqOf x = some l → okWs A.cls l = true → l.length ≤ 100000 → (x = .tup l ∨ x = .lst l) → ∀ (N : List SD → Prop), (∀ bs : List Bool, l = bs.map bit → bs.length = 2 ^ n → N [.oi a A.Table [] [], .d (.int n), .d x]) →
      wOrT (wTst (wOp fNe (wC (.int l.length)) (wOp fShl (wC (.int 1)) (wV 1)))) (wNotT (wTst (wCall (S_are_bits A) (wCons (wV 2) wNil) (X0 E)))) [.oi a A.Table [] [], .d (.int n), .d x] fun k ρ1 => (k = true → E (ev A.InvalidTable x)) ∧ (k = false → N ρ1) := fun l hl ol ll hx N hN => by
    refine And.intro (show _ ∧ _ ∧ _ from ⟨by omega, by omega, by decide⟩) ?_
    refine And.intro (fun e => And.intro (fun _ => bad ?_) (fun (e : true = false) => Bool.noConfusion e)) (fun e => ?_)
    · have e : (!decide ((l.length : Int) = 1 * 2 ^ Int.toNat (n : Int))) = true := e
      rw [hp] at e
      simp only [Bool.not_eq_true', decide_eq_false_iff_not] at e
      have : ¬ l.length = 2 ^ n := fun z => e (by rw [z])
      simp [isTb, hl, this]
    · have e : (!decide ((l.length : Int) = 1 * 2 ^ Int.toNat (n : Int))) = false := e
      rw [hp] at e
      simp only [Bool.not_eq_false', decide_eq_true_eq] at e
      have e : l.length = 2 ^ n := by omega
      refine ⟨x, l, rfl, hx, ll, ol, ?_⟩
      refine And.intro (fun e2 => bad ?_) (fun e2 => ?_)
      · have e2 : (!(l.all isBit)) = true := e2
        simp only [Bool.not_eq_true'] at e2
        simp [isTb, hl, e, e2]
      · have e2 : (!(l.all isBit)) = false := e2
        simp only [Bool.not_eq_false'] at e2
        obtain ⟨bs, rfl⟩ := bits_of e2
        exact hN bs rfl (by simpa using e)
  have fin : ∀ bs : List Bool, seqOf x = some (bs.map bit) → bs.length = 2 ^ n → (fTuple [x] = .ok (wd bs)) → wSeq (wSetF 0 A.Table "n" (wV 1)) (wSetF 0 A.Table "bits" (wCal fTuple (wCons (wV 2) wNil))) { nx := fun ρ => ∃ ns l, gt ρ 0 = .oi a A.Table ns l ∧ Q ns l, rt := fun _ => False } [.oi a A.Table [] [], .d (.int n), .d x] := fun bs hx hl ht => by
    have g := good (by simp [isTb, hx, hl, bit_isBit]) bs hx
    refine ⟨rfl, ⟨rfl, by decide⟩, ?_⟩
    show (fTuple [x]).run _
    rw [ht]
    exact ⟨rfl, ⟨by decide, by decide⟩, _, _, rfl, g⟩
  have no : seqOf x = none → E (ev A.InvalidTable x) := fun h => bad (by simp [isTb, h])
  cases x with
  | tup l =>
    refine And.intro (fun (e : false = true) => Bool.noConfusion e) fun _ => ?_
    exact seq l rfl ox (by simpa [lenD] using lx) (.inl rfl) _ fun bs hb hl => by subst hb; exact fin bs rfl hl rfl
  | lst l =>
    refine And.intro (fun (e : false = true) => Bool.noConfusion e) fun _ => ?_
    exact seq l rfl ox (by simpa [lenD] using lx) (.inr rfl) _ fun bs hb hl => by subst hb; exact fin bs rfl hl rfl
  | obj C ns l => exact And.intro (by simpa [okW] using ox) (And.intro (fun _ => And.intro (fun _ => no rfl) (fun (e : true = false) => Bool.noConfusion e)) (fun (e : true = false) => Bool.noConfusion e))
  | tok k => cases ox
  | fn k => cases ox
  | scr k => cases ox
  | _ => exact And.intro (fun _ => And.intro (fun _ => no rfl) (fun (e : true = false) => Bool.noConfusion e)) (fun (e : true = false) => Bool.noConfusion e)
theorem lcM {α : Type} {te : DW} {i : Nat} {ρb : List SD} {g f : α → D} {Q : List D → Prop} : ∀ (xs : List α) (acc : List D), (∀ x ∈ xs, ∀ P : D → Prop, P (f x) → te (st ρb i (.d (g x))) fun y _ => P y) → Q (acc ++ xs.map f) → lcW (gNm i) wYes te ρb (xs.map g) acc Q
  | [], acc, _, q => by
    show Q acc
    simpa using q
  | x :: xs, acc, h, q => ⟨fun _ => h x List.mem_cons_self (fun y => lcW (gNm i) wYes te ρb (xs.map g) (acc ++ [y]) Q) (lcM xs _ (fun y hy => h y (List.mem_cons_of_mem _ hy)) (by simpa using q)), fun e => nomatch e⟩
theorem bits_ex : ∀ {ys : List D}, (∀ y ∈ ys, ∃ b, y = bit b) → ∃ u : List Bool, ys = u.map bit
  | [], _ => ⟨[], rfl⟩
  | y :: ys, h => by
    obtain ⟨b, rfl⟩ := h y List.mem_cons_self
    obtain ⟨u, rfl⟩ := bits_ex fun z hz => h z (List.mem_cons_of_mem _ hz)
    exact ⟨b :: u, rfl⟩
theorem c_take2 (q : ∀ b, Q (bit b)) : Call (S__law_take A) [.tok 1, .int 2] Q E := c_take (by decide) fun v v0 v1 => by
  rcases (show v = 0 ∨ v = 1 by omega) with rfl | rfl
  · exact q false
  · exact q true
theorem pw_nat (n : Nat) : (1 * 2 ^ Int.toNat (n : Int) : Int) = ((2 ^ n : Nat) : Int) := by rw [Int.toNat_natCast, Int.one_mul]; exact (Int.natCast_pow 2 n).symm
theorem pw_10 {n : Nat} (h : n ≤ 10) : 1 ≤ 2 ^ n ∧ 2 ^ n ≤ 1024 := ⟨Nat.pow_pos (by decide), Nat.pow_le_pow_right (n := 2) (by decide) h⟩
theorem c__law_words {n : Nat} (h : n ≤ 16) (q : Q (.lst (((List.range (2 ^ n)).map (bitsL n)).map wd))) : Call (S__law_words A) [.int n] Q E := ⟨n, rfl, h, q⟩
theorem c__law_bits {n : Nat} (h : 1 ≤ n) (h2 : n ≤ 10) (q : ∀ bs : List Bool, bs.length = 2 ^ n → Q (wd bs)) : Call (S__law_bits A) [.tok 1, .int n] Q E := ⟨n, rfl, ⟨h, h2⟩, q⟩
theorem forMx {wb : DS} {E : DE} {i : Nat} {f : List Bool → D} {I : List (List Bool) → List SD → Prop} (step : ∀ b u ρ (K : List SD → Prop), I (b :: u) ρ → (∀ ρ2, I u ρ2 → K ρ2) → wb (turnE E K) (st ρ i (.d (f b)))) (fin : ∀ ρ, I [] ρ → E.nx ρ) : ∀ (u : List (List Bool)) (ρ : List SD), I u ρ → forW (gNm i) wb (u.map f) E ρ
  | [], ρ, h => fin ρ h
  | b :: u, ρ, h => step b u ρ _ h fun ρ2 h2 => forMx step fin u ρ2 h2
theorem c_table {n : Nat} {bs : List Bool} (h1 : 1 ≤ n) (h2 : n ≤ 10) (hb : bs.length = 2 ^ n) {Q : List Str → List D → Prop} (q : Q ["n", "bits"] [.int n, wd bs]) : MakeC (I_Table A) [.int n, wd bs] Q E := by
  have e1 : betw (.int n) 1 10 = true := by simp [betw]; omega
  obtain ⟨p1, p2⟩ := pw_10 h2
  have e2 : isTb (wd bs) n = true := by simp [isTb, wd, seqOf, hb, bit_isBit]
  refine ⟨_, _, rfl, ⟨rfl, okW_wd bs, by simp [lenD, wd]; omega⟩, fun e => absurd (e1.symm.trans e) (by decide), fun _ m hm => ?_⟩
  have hm : n = m := by have := D.int.inj hm; omega
  subst hm
  refine ⟨fun e => absurd (e2.symm.trans e) (by decide), fun _ bs' hb' => ?_⟩
  have : bs = bs' := bits_inj (Option.some.inj hb')
  subst this
  exact q
theorem rep_wd (b : Bool) (n : Nat) : D.tup (List.replicate (Int.toNat (n : Int)) [bit b]).flatten = wd (List.replicate n b) := by
  have : ∀ k : Nat, (List.replicate k [bit b]).flatten = List.replicate k (bit b) := fun k => by
    induction k with
    | zero => rfl
    | succ k ih => rw [List.replicate_succ, List.flatten_cons, ih]; rfl
  rw [Int.toNat_natCast, this]
  simp [wd]
local macro_rules | `(tactic| walk_at "go") => `(tactic| first
  | refine And.intro (show _ ≤ 16777216 from Nat.le_of_ble_eq_true rfl) ?_
  | refine And.intro (fun (e : false = true) => Bool.noConfusion e) (fun _ => ?_)
  | refine And.intro (fun _ => ?_) (fun (e : true = false) => Bool.noConfusion e)
  | refine And.intro rfl ?_
  | refine And.intro (show _ ∧ _ from ⟨by decide, by decide⟩) ?_
  | refine And.intro (show _ ∧ _ ∧ _ from ⟨by decide, by decide, by decide⟩) ?_
  | refine And.intro (show _ ≤ _ by (simp only [wd, mx, List.length_map, List.length_append, List.length_cons, List.length_nil]; omega)) ?_)
theorem p__law_bits (h : S__law_bits A ds Q E) : w__law_bits A (X0 E) (E0D Q) (ρ0 N__law_bits ds) := by
  obtain ⟨n, rfl, ⟨n1, n2⟩, q⟩ := h
  obtain ⟨p1, p2⟩ := pw_10 n2
  have en := pw_nat n
  refine c_take (by decide) fun v v0 v1 => ?_
  refine And.intro (fun e => ?_) (fun e => ?_)
  · refine And.intro (show _ ∧ _ ∧ _ from ⟨by omega, by omega, by decide⟩) ?_
    refine And.intro (show _ ∧ _ from ⟨by omega, by omega⟩) (And.intro (by rw [rng_len]; omega) (lcRngR (R := fun y => ∃ b, y = bit b) (fun k hk P p => c_take2 fun b => p _ ⟨b, rfl⟩) fun ys hl hr => ?_))
    obtain ⟨bs, rfl⟩ := bits_ex hr
    exact q bs (by rw [List.length_map, en, Int.toNat_natCast] at hl; exact hl)
  · refine c_word (by omega) fun u hu => ?_
    refine c__law_words (by omega) ?_
    refine And.intro (show _ ≤ _ by simp; omega) (lcR (R := fun y => ∃ b, y = bit b) _ [] (fun x hx P p => ?_) fun ys hl hr => ?_)
    · obtain ⟨w, hw, rfl⟩ := List.mem_map.mp hx
      obtain ⟨k, _, rfl⟩ := List.mem_map.mp hw
      exact c__law_product (by rw [bitsL_len, hu]) (by omega) (p _ ⟨_, rfl⟩)
    obtain ⟨bs, rfl⟩ := bits_ex hr
    have lb : bs.length = 2 ^ n := by simpa using hl
    dsimp only [wNext, ρ0, st, List.map_cons, List.map_nil, List.length_cons, List.length_nil, List.replicate, List.cons_append, List.nil_append, Nat.zero_add, Nat.reduceAdd, Nat.reduceSub, N__law_bits]
    refine And.intro (fun _ => ?_) (fun _ => ?_)
    · repeat walk_at "go"
      refine at_nat (l := [.int 2, .int 2, .int 2, .int 3, .int 5, .int 9]) (show (0 : Int) ≤ if (n : Int) < 5 then (n : Int) else 5 by split <;> omega) (show (if (n : Int) < 5 then (n : Int) else 5) < 6 by split <;> omega) fun d hd => ?_
      have hm : ∃ m : Int, d = .int m ∧ 0 < m ∧ m ≤ 9 := by
        simp only [List.mem_cons, List.not_mem_nil, or_false] at hd
        rcases hd with rfl | rfl | rfl | rfl | rfl | rfl <;> exact ⟨_, rfl, by decide, by decide⟩
      obtain ⟨m, rfl, m0, m9⟩ := hm
      refine c_take m0 fun w w0 w1 => ?_
      refine And.intro (show _ ∧ _ from ⟨by omega, by omega⟩) ?_
      refine forRng (I := fun _ ρ => ∃ (bs : List Bool) (x y : SD), bs.length = 2 ^ n ∧ ρ = [.d (.tok 1), .d (.int n), .d (.int v), .d (wd u), .ol (bs.map bit), x, .no, y, .no]) (fun k hk ρ N hI hN => ?_) (fun ρ hI => ?_) ⟨bs, _, _, lb, rfl⟩
      · obtain ⟨bs, x, y, lb, rfl⟩ := hI
        refine And.intro (show _ ∧ _ ∧ _ from ⟨by omega, by omega, by decide⟩) ?_
        refine c_take (by omega) fun at_ a0 a1 => ?_
        obtain ⟨a, rfl⟩ := Int.eq_ofNat_of_zero_le a0
        have ha : a < bs.length := by omega
        have g1 : atI (bs.map bit) (a : Int) = some (bit bs[a]) := getbit ha
        have g2 : ixN bs.length (a : Int) = some a := by unfold ixN; simp; omega
        have g3 : ∃ i : Int, bit bs[a] = .int i ∧ D.int (1 - i) = bit (!bs[a]) := by
          cases bs[a] <;> exact ⟨_, rfl, rfl⟩
        obtain ⟨i, e1, e2⟩ := g3
        simp [wSeq, wIf, wRet, wRetN, wNext, wPass, wDrop, wSet, wSetO, wAsg, wV, wC, wOp, wUn, wCal, wCall, wCons, wNil, wTup, wLst, wTst, wChain, wAnd, wOr, wAndT, wOrT, wNotT, wIfE, gt, st, lstOf, wIdxV, wLenV, wItems, wRng1, wRng2, wZip, wRevR, wRev, wSetLc2, wLc2, wLc2G, wFor, turnE, wSetI, wApp, wTok1, wTok0, wTokS, wRaise1, wRaise2, wCont, wBreak, wCut, wP0, wP1, wLc, wLcG, wSetLc, wSetLcO, roD, roS, wipeD, R1.run, fAdd, fSub, fMul, fDiv, fMod, fAnd, fXor, fShl, fShr, fPow, fLt, fLe, fGt, fGe, fEq, fNe, fLen, fInt, fAbs, fNot, fNeg, fIsN, fNotN, isNon, fIdx, fAt, isTy, ρ0, E0D, X0, List.map, List.replicate, List.append, List.cons_append, List.nil_append]
        simp only [g1, g2, e1, e2]
        exact hN _ ⟨bs.set a (!bs[a]), _, _, by simp [lb], by rw [List.map_set]⟩
      · obtain ⟨bs, x, y, lb, rfl⟩ := hI
        exact q bs lb
    · exact q bs lb
end
end PL
end L2

namespace L2
namespace PL
open PySem PySem.Spec PyProof.Rows
variable [Tabl]
/-- the sums with signs, by halves -/
def wht : Nat → List Int → List Int
  | 0, xs => xs
  | k + 1, xs => List.zipWith (· + ·) (wht k (xs.take (2 ^ k))) (wht k (xs.drop (2 ^ k))) ++ List.zipWith (· - ·) (wht k (xs.take (2 ^ k))) (wht k (xs.drop (2 ^ k)))
def S_sums (A : Ad) (n : Nat) : Spec := fun ds Q E => ∃ (k : Nat) (xs : List Int), ds = [.lst (xs.map .int)] ∧ (k ≤ n ∧ k ≤ 12 ∧ xs.length = 2 ^ k) ∧ Q (.lst ((wht k xs).map .int))
theorem mS_sums (A : Ad) (n : Nat) : MonoSp (S_sums A n) := fun ds Q Q' E E' h h' ⟨k, xs, e, o, q⟩ => ⟨k, xs, e, o, h _ q⟩
abbrev S_sums_with_signs (A : Ad) : Spec := S_sums A 12
theorem mS_sums_with_signs (A : Ad) : MonoSp (S_sums_with_signs A) := mS_sums A 12
def sg1 (b : Bool) : Int := if b then -1 else 1
/-- the signed sums of a table's bits -/
def sgS (n : Nat) (bs : List Bool) : List Int := wht n (bs.map sg1)
/-- a table in size -/
def TbOk (n : Nat) (bs : List Bool) : Prop := 1 ≤ n ∧ n ≤ 10 ∧ bs.length = 2 ^ n
def S_Table_len (A : Ad) : Spec := fun ds Q E => ∃ n bs, ds = [tbl A n bs] ∧ Q (.int (bs.length : Nat))
theorem mS_Table_len (A : Ad) : MonoSp (S_Table_len A) := fun ds Q Q' E E' h h' ⟨n, bs, e, q⟩ => ⟨n, bs, e, h _ q⟩
def S_signed_sums (A : Ad) : Spec := fun ds Q E => ∃ n bs, ds = [tbl A n bs] ∧ TbOk n bs ∧ Q (.tup ((sgS n bs).map .int))
theorem mS_signed_sums (A : Ad) : MonoSp (S_signed_sums A) := fun ds Q Q' E E' h h' ⟨n, bs, e, o, q⟩ => ⟨n, bs, e, o, h _ q⟩
def S_least_distance (A : Ad) : Spec := fun ds Q E => ∃ n bs, ds = [tbl A n bs] ∧ TbOk n bs ∧ Q (.int (((2 ^ n : Nat) - maxL (sgS n bs)).fdiv 2))
theorem mS_least_distance (A : Ad) : MonoSp (S_least_distance A) := fun ds Q Q' E E' h h' ⟨n, bs, e, o, q⟩ => ⟨n, bs, e, o, h _ q⟩
/-- the words whose number passes -/
def pickW (ws : List (List Bool)) (ns : List Int) (c : Int → Bool) : List (List Bool) := ((ws.zip ns).filter fun p => c p.2).map (·.1)
def S_nearest_sums (A : Ad) : Spec := fun ds Q E => ∃ n bs, ds = [tbl A n bs] ∧ TbOk n bs ∧ Q (mx (pickW (wordsL n) (sgS n bs) fun v => v == maxL (sgS n bs)))
theorem mS_nearest_sums (A : Ad) : MonoSp (S_nearest_sums A) := fun ds Q Q' E E' h h' ⟨n, bs, e, o, q⟩ => ⟨n, bs, e, o, h _ q⟩
end PL
end L2

namespace L2
namespace PL
open PySem PySem.Spec PyProof.Rows
abbrev N_Table_len : List Str := ["self"]
abbrev N_least_distance : List Str := ["table"]
abbrev N_nearest_sums : List Str := ["table", "numbers", "most", "word", "number"]
abbrev N_signed_sums : List Str := ["table", "bit"]
abbrev N_sums_with_signs : List Str := ["numbers", "half", "pairs", "first", "second"]
variable [Tabl]
-- Table_len calls [] facts ['b_len', 'fl_Table_bits']
def w_Table_len (A : Ad) (Ed : DX) : DS :=
    (wRet (wCal fLen (wCons (wFld A.Table "bits" (wV 0)) wNil)))

-- least_distance calls ['Table.__len__', 'signed_sums'] facts ['b_len', 'b_max']
def w_least_distance (A : Ad) (Ed : DX) : DS :=
    (wRet (wOp fDiv (wOp fSub (wLenO (S_Table_len A) A.Table (wCons (wV 0) wNil)) (wCal fMax1 (wCons (wCall (S_signed_sums A) (wCons (wV 0) wNil) Ed) wNil))) (wC (.int 2))))

-- nearest_sums calls ['all_words', 'signed_sums'] facts ['b_max', 'b_tuple', 'b_zip', 'fl_Table_n']
def w_nearest_sums (A : Ad) (Ed : DX) : DS :=
    (wSeq (wSet 1 (wCall (S_signed_sums A) (wCons (wV 0) wNil) Ed))
    (wSeq (wSet 2 (wCal fMax1 (wCons (wV 1) wNil)))
    (wRet (wCal fTuple (wCons (wLc (wZip (wCons (wCall (S_all_words A) (wCons (wFld A.Table "n" (wV 0)) wNil) Ed) (wCons (wV 1) wNil))) (gTp 2 (gCn (gNm 3) (gCn (gNm 4) gNl))) (wTst (wOp fEq (wV 4) (wV 2))) (wV 3) [3, 4]) wNil)))))

-- signed_sums calls ['sums_with_signs'] facts ['b_tuple', 'fl_Table_bits']
def w_signed_sums (A : Ad) (Ed : DX) : DS :=
    (wRet (wCal fTuple (wCons (wCall (S_sums_with_signs A) (wCons (wLc (wItems (wFld A.Table "bits" (wV 0))) (gNm 1) wYes (wOp fSub (wC (.int 1)) (wOp fMul (wC (.int 2)) (wV 1))) [1]) wNil) Ed) wNil)))

-- sums_with_signs calls ['sums_with_signs'] facts ['b_len', 'b_list', 'b_zip']
def w_sums_with_signs (A : Ad) (Sr : Spec) (Ed : DX) : DS :=
    (wSeq (wIf (wTst (wOp fEq (wCal fLen (wCons (wV 0) wNil)) (wC (.int 1)))) (wRet (wV 0)) wNext)
    (wSeq (wSet 1 (wOp fDiv (wCal fLen (wCons (wV 0) wNil)) (wC (.int 2))))
    (wSeq (wSet 2 (wCal fZipL (wCons (wCall Sr (wCons (wCut (wV 0) wP0 (wP1 (wV 1))) wNil) Ed) (wCons (wCall Sr (wCons (wCut (wV 0) (wP1 (wV 1)) wP0) wNil) Ed) wNil))))
    (wRet (wOp fAdd (wLc (wItems (wV 2)) (gTp 2 (gCn (gNm 3) (gCn (gNm 4) gNl))) wYes (wOp fAdd (wV 3) (wV 4)) [3, 4]) (wLc (wItems (wV 2)) (gTp 2 (gCn (gNm 3) (gCn (gNm 4) gNl))) wYes (wOp fSub (wV 3) (wV 4)) [3, 4]))))))


end PL
end L2

namespace L2
namespace PL
open PySem PySem.Spec PyProof.Rows
variable [Tabl]
section
variable {A : Ad} {K : PySem.W.Frag} {ds : List D} {Q E : D → Prop}
local macro_rules | `(tactic| walk_at "go") => `(tactic| first
  | refine And.intro (show _ ≤ 16777216 from Nat.le_of_ble_eq_true rfl) ?_
  | refine And.intro (fun (e : false = true) => Bool.noConfusion e) (fun _ => ?_)
  | refine And.intro (fun _ => ?_) (fun (e : true = false) => Bool.noConfusion e)
  | refine And.intro rfl ?_
  | refine And.intro (show _ ∧ _ from ⟨by decide, by decide⟩) ?_
  | refine And.intro (show _ ∧ _ ∧ _ from ⟨by decide, by decide, by decide⟩) ?_
  | refine And.intro (show _ ≤ _ by (simp only [wd, mx, List.length_map, List.length_append, List.length_cons, List.length_nil]; omega)) ?_)
theorem p_Table_len (h : S_Table_len A ds Q E) : w_Table_len A (X0 E) (E0D Q) (ρ0 N_Table_len ds) := by
  obtain ⟨n, bs, rfl, q⟩ := h
  refine ⟨rfl, ?_⟩
  show Q (.int ((bs.map bit).length : Nat))
  rw [List.length_map]
  exact q
theorem cut_hi' {l : List D} {k : Nat} (h : k ≤ l.length) : cutD l (some (k : Int)) none = l.drop k := by
  unfold cutD
  rw [HT.sIx_nat, HT.sIx_none, Nat.min_eq_left h]
  rw [List.take_of_length_le (by simp)]
theorem wht_len : ∀ (k : Nat) (xs : List Int), xs.length = 2 ^ k → (wht k xs).length = 2 ^ k
  | 0, xs, h => h
  | k + 1, xs, h => by
    have h1 := wht_len k (xs.take (2 ^ k)) (by rw [List.length_take, h, Nat.pow_succ]; omega)
    have h2 := wht_len k (xs.drop (2 ^ k)) (by rw [List.length_drop, h, Nat.pow_succ]; omega)
    simp only [wht, List.length_append, List.length_zipWith, h1, h2, Nat.pow_succ]
    omega
theorem c_sums {n k : Nat} {l : List D} {xs : List Int} (e : l = xs.map .int) (hk : k ≤ n) (hk2 : k ≤ 12) (hl : xs.length = 2 ^ k) (q : Q (.lst ((wht k xs).map .int))) : Call (S_sums A n) [.lst l] Q E := ⟨k, xs, by rw [e], ⟨hk, hk2, hl⟩, q⟩
theorem zw_int (f : Int → Int → Int) (g : D → D → D) (hg : ∀ a b, g (.int a) (.int b) = .int (f a b)) : ∀ xs ys : List Int, List.zipWith g (xs.map .int) (ys.map .int) = (List.zipWith f xs ys).map .int
  | [], _ => rfl
  | _ :: _, [] => rfl
  | x :: xs, y :: ys => by simp only [List.map_cons, List.zipWith_cons_cons, hg, zw_int f g hg xs ys]
def gAdd : D → D → D
  | .int a, .int b => .int (a + b)
  | _, _ => .non
def gSub : D → D → D
  | .int a, .int b => .int (a - b)
  | _, _ => .non
theorem two_12 {k : Nat} (h : k ≤ 12) : 1 ≤ 2 ^ k ∧ 2 ^ k ≤ 4096 := ⟨Nat.pow_pos (by decide), Nat.pow_le_pow_right (n := 2) (by decide) h⟩
theorem p_sums_with_signs {n : Nat} (h : S_sums A (n + 1) ds Q E) : w_sums_with_signs A (S_sums A n) (X0 E) (E0D Q) (ρ0 N_sums_with_signs ds) := by
  obtain ⟨k, xs, rfl, ⟨hk, hk2, hl⟩, q⟩ := h
  obtain ⟨p1, p2⟩ := two_12 hk2
  refine And.intro (fun e => ?_) (fun e => ?_)
  · have e := of_decide_eq_true e
    have e : xs.length = 1 := by rw [List.length_map] at e; omega
    cases k with
    | zero => exact q
    | succ k => exact absurd (hl.symm.trans e) (by have := Nat.pow_pos (n := k) (show 0 < 2 by decide); rw [Nat.pow_succ]; omega)
  · have e := of_decide_eq_false e
    cases k with
    | zero => exact absurd (by rw [List.length_map, hl]; rfl) e
    | succ k =>
      have hp : 2 ^ (k + 1) = 2 * 2 ^ k := by rw [Nat.pow_succ]; omega
      have hd : ((xs.map D.int).length : Int).fdiv 2 = ((2 ^ k : Nat) : Int) := by
        rw [List.length_map, hl, hp, Int.fdiv_eq_ediv_of_nonneg _ (by decide)]
        omega
      refine And.intro (show _ ∧ _ from ⟨by decide, by decide⟩) ?_
      have ht : (xs.take (2 ^ k)).length = 2 ^ k := by rw [List.length_take, hl, hp]; omega
      have hd2 : (xs.drop (2 ^ k)).length = 2 ^ k := by rw [List.length_drop, hl, hp]; omega
      have l1 := wht_len k _ ht
      have l2 := wht_len k _ hd2
      refine c_sums (k := k) (xs := xs.take (2 ^ k)) ?_ (by omega) (by omega) ht ?_
      · refine (congrArg (fun z => cutD (xs.map D.int) none (some z)) hd).trans ?_
        rw [cut_lo (by rw [List.length_map, hl]; omega), List.map_take]
      refine c_sums (k := k) (xs := xs.drop (2 ^ k)) ?_ (by omega) (by omega) hd2 ?_
      · refine (congrArg (fun z => cutD (xs.map D.int) (some z) none) hd).trans ?_
        rw [cut_hi' (by rw [List.length_map, hl]; omega), List.map_drop]
      have lz : ∀ a b : List Int, a.length = 2 ^ k → b.length = 2 ^ k → (zipD (a.map D.int) (b.map D.int)).length ≤ 1000000 := fun a b ha hb => by
        simp [zipD, ha, hb]; omega
      refine And.intro (lz _ _ l1 l2) (lcZ (f := gAdd) _ _ [] (fun p hp P hP => ?_) ?_)
      · obtain ⟨a, b⟩ := p
        have := List.of_mem_zip hp
        obtain ⟨a, _, rfl⟩ := List.mem_map.mp this.1
        obtain ⟨b, _, rfl⟩ := List.mem_map.mp this.2
        exact hP
      refine And.intro (lz _ _ l1 l2) (lcZ (f := gSub) _ _ [] (fun p hp P hP => ?_) ?_)
      · obtain ⟨a, b⟩ := p
        have := List.of_mem_zip hp
        obtain ⟨a, _, rfl⟩ := List.mem_map.mp this.1
        obtain ⟨b, _, rfl⟩ := List.mem_map.mp this.2
        exact hP
      rw [List.nil_append, List.nil_append, zw_int (· + ·) gAdd (fun _ _ => rfl), zw_int (· - ·) gSub (fun _ _ => rfl)]
      refine And.intro ?_ ?_
      · simp [l1, l2]; omega
      · have : ∀ a b : List Int, (a ++ b).map D.int = a.map .int ++ b.map .int := fun a b => List.map_append
        rw [← this]
        exact q
theorem p_sums_with_signs0 (h : S_sums A 0 ds Q E) : w_sums_with_signs A S_none (X0 E) (E0D Q) (ρ0 N_sums_with_signs ds) := by
  obtain ⟨k, xs, rfl, ⟨hk, hk2, hl⟩, q⟩ := h
  have : k = 0 := by omega
  subst this
  refine And.intro (fun e => q) (fun e => ?_)
  have e := of_decide_eq_false e
  exact absurd (by rw [List.length_map, hl]; rfl) e
theorem c_sums_with_signs {k : Nat} {xs : List Int} (hk : k ≤ 12) (hl : xs.length = 2 ^ k) (q : Q (.lst ((wht k xs).map .int))) : Call (S_sums_with_signs A) [.lst (xs.map .int)] Q E := c_sums rfl hk hk hl q
theorem c_signed_sums {n : Nat} {bs : List Bool} (h : TbOk n bs) (q : Q (.tup ((sgS n bs).map .int))) : Call (S_signed_sums A) [tbl A n bs] Q E := ⟨n, bs, rfl, h, q⟩
theorem sgS_len {n : Nat} {bs : List Bool} (h : TbOk n bs) : (sgS n bs).length = 2 ^ n := wht_len n _ (by rw [List.length_map]; exact h.2.2)
theorem p_signed_sums (h : S_signed_sums A ds Q E) : w_signed_sums A (X0 E) (E0D Q) (ρ0 N_signed_sums ds) := by
  obtain ⟨n, bs, rfl, ⟨n1, n2, hb⟩, q⟩ := h
  obtain ⟨p1, p2⟩ := pw_10 n2
  refine ⟨rfl, ?_⟩
  refine And.intro (show (bs.map bit).length ≤ 1000000 by rw [List.length_map]; omega) (lcM (f := fun b => .int (sg1 b)) bs [] (fun b hb P p => ?_) ?_)
  · cases b <;> exact And.intro (Or.inl (Or.inl (by decide))) p
  have e : ([] : List D) ++ bs.map (fun b => D.int (sg1 b)) = (bs.map sg1).map D.int := by simp
  rw [e]
  exact c_sums_with_signs (by omega) (by rw [List.length_map]; exact hb) q
theorem ints_cons {l : List Int} (h : l ≠ []) : ∃ n ns, l = n :: ns ∧ intsD (l.map .int) = some (n :: ns) := by
  cases l with
  | nil => exact absurd rfl h
  | cons n ns => exact ⟨n, ns, rfl, ints_map _⟩
theorem max_run {l : List Int} {Q : D → Prop} (h : l ≠ []) (q : Q (.int (maxL l))) : (fMax1 [.tup (l.map .int)]).run Q := by
  obtain ⟨n, ns, rfl, e⟩ := ints_cons h
  show R1.run (match intsD ((n :: ns).map D.int) with
    | some (n :: ns) => .ok (.int (maxL (n :: ns)))
    | _ => .no) Q
  rw [e]
  exact q
theorem max_runL {l : List Int} {Q : D → Prop} (h : l ≠ []) (q : Q (.int (maxL l))) : (fMax1 [.lst (l.map .int)]).run Q := by
  obtain ⟨n, ns, rfl, e⟩ := ints_cons h
  show R1.run (match intsD ((n :: ns).map D.int) with
    | some (n :: ns) => .ok (.int (maxL (n :: ns)))
    | _ => .no) Q
  rw [e]
  exact q
theorem min_runL {l : List Int} {Q : D → Prop} (h : l ≠ []) (q : Q (.int (minL l))) : (fMin1 [.lst (l.map .int)]).run Q := by
  obtain ⟨n, ns, rfl, e⟩ := ints_cons h
  show R1.run (match intsD ((n :: ns).map D.int) with
    | some (n :: ns) => .ok (.int (minL (n :: ns)))
    | _ => .no) Q
  rw [e]
  exact q
theorem sgS_ne {n : Nat} {bs : List Bool} (h : TbOk n bs) : sgS n bs ≠ [] := fun z => by
  have := sgS_len h
  rw [z] at this
  have p := Nat.pow_pos (n := n) (show 0 < 2 by decide)
  simp at this
  omega
theorem p_least_distance (h : S_least_distance A ds Q E) : w_least_distance A (X0 E) (E0D Q) (ρ0 N_least_distance ds) := by
  obtain ⟨n, bs, rfl, t, q⟩ := h
  obtain ⟨p1, p2⟩ := pw_10 t.2.1
  refine And.intro ⟨_, _, rfl⟩ ⟨⟨n, bs, rfl, _, rfl, ⟨by omega, by have := t.2.2; omega⟩, ?_⟩⟩
  refine c_signed_sums t (max_run (sgS_ne t) ?_)
  refine And.intro (show _ ∧ _ from ⟨by decide, by decide⟩) ?_
  have e := t.2.2
  rw [e]
  exact q
/-- for a, b in zip(..) if .. -/
theorem lcZF {α β : Type} {tt : DT} {te : DW} {i j : Nat} {ρb : List SD} {f : α → D} {g : β → D} {c : α → β → Bool} {r : α → β → D} {Q : List D → Prop} : ∀ (xs : List α) (ys : List β) (acc : List D),
    (∀ p ∈ xs.zip ys, ∀ P : Prop, ∀ P2 : D → Prop, (c p.1 p.2 = true → P2 (r p.1 p.2)) → (c p.1 p.2 = false → P) → tt (st (st ρb i (.d (f p.1))) j (.d (g p.2))) fun b ρ2 => (b = true → te ρ2 fun y _ => P2 y) ∧ (b = false → P)) →
    Q (acc ++ ((xs.zip ys).filter fun p => c p.1 p.2).map fun p => r p.1 p.2) → lcW (gTp 2 (gCn (gNm i) (gCn (gNm j) gNl))) tt te ρb (zipD (xs.map f) (ys.map g)) acc Q
  | [], _, acc, _, q => by
    show Q acc
    simpa using q
  | _ :: _, [], acc, _, q => by
    show Q acc
    simpa using q
  | x :: xs, y :: ys, acc, h, q => by
    have h1 := h (x, y) (by simp) (lcW (gTp 2 (gCn (gNm i) (gCn (gNm j) gNl))) tt te ρb (zipD (xs.map f) (ys.map g)) acc Q) (fun z => lcW (gTp 2 (gCn (gNm i) (gCn (gNm j) gNl))) tt te ρb (zipD (xs.map f) (ys.map g)) (acc ++ [z]) Q)
      (fun e => lcZF xs ys _ (fun p hp => h p (by simp [hp])) (by simp [List.filter_cons, show c x y = true from e] at q; simpa using q))
      (fun e => lcZF xs ys _ (fun p hp => h p (by simp [hp])) (by simp [List.filter_cons, show c x y = false from e] at q; simpa using q))
    exact ⟨rfl, rfl, h1⟩
theorem c_all_words {n : Nat} (h1 : 1 ≤ n) (h2 : n ≤ 12) (q : Q (mx (wordsL n))) : Call (S_all_words A) [.int n] Q E := by
  have hb : betw (.int (n : Int)) 1 12 = true := by simp [betw, isInt]; omega
  exact ⟨_, rfl, rfl, fun e => absurd (hb.symm.trans e) (by decide), fun _ m e => by
    have : m = n := by injection e with e; omega
    rw [this]; exact q⟩
theorem p_nearest_sums (h : S_nearest_sums A ds Q E) : w_nearest_sums A (X0 E) (E0D Q) (ρ0 N_nearest_sums ds) := by
  obtain ⟨n, bs, rfl, t, q⟩ := h
  obtain ⟨p1, p2⟩ := pw_10 t.2.1
  refine c_signed_sums t ?_
  refine max_run (sgS_ne t) ?_
  refine ⟨rfl, ?_⟩
  refine c_all_words t.1 (by have := t.2.1; omega) ?_
  refine And.intro (show (zipD _ _).length ≤ 1000000 by simp [zipD, wordsL_len]; omega) (lcZF (c := fun _ v => v == maxL (sgS n bs)) (r := fun w _ => wd w) (f := wd) (g := D.int) _ _ [] (fun p hp P P2 h1 h0 => ?_) ?_)
  · refine And.intro (fun e => h1 ?_) (fun e => h0 ?_)
    · have e := of_decide_eq_true e
      exact beq_iff_eq.mpr e
    · have e := of_decide_eq_false e
      exact beq_eq_false_iff_ne.mpr e
  · rw [List.nil_append]
    have e : ((wordsL n).zip (sgS n bs) |>.filter fun p => p.2 == maxL (sgS n bs)).map (fun p => wd p.1) = (pickW (wordsL n) (sgS n bs) fun v => v == maxL (sgS n bs)).map wd := by
      unfold pickW
      rw [List.map_map]
      rfl
    show Q (.tup _)
    rw [e]
    exact q
end
end PL
end L2

namespace L2
namespace PL
open PySem PySem.Spec PyProof.Rows
variable [Tabl]
/-! the words by halves; what the sums with signs are -/
theorem words_half : ∀ n, wordsL (n + 1) = (wordsL n).map (false :: ·) ++ (wordsL n).map (true :: ·)
  | 0 => rfl
  | n + 1 => by
    have ih := words_half n
    have h : wordsL (n + 2) = (wordsL (n + 1)).flatMap fun w => [w ++ [false], w ++ [true]] := rfl
    have e : wordsL (n + 1) = (wordsL n).flatMap fun w => [w ++ [false], w ++ [true]] := rfl
    rw [h]
    conv => lhs; rw [ih, List.flatMap_append, List.flatMap_map, List.flatMap_map]
    rw [e, List.map_flatMap, List.map_flatMap]
    rfl
theorem dot_ff (b : Bool) (w x : List Bool) : dotL (false :: w) (b :: x) = dotL w x := by simp [dotL]
theorem dot_tf (w x : List Bool) : dotL (true :: w) (false :: x) = dotL w x := by simp [dotL]
theorem dot_tt (w x : List Bool) : dotL (true :: w) (true :: x) = !dotL w x := by simp [dotL]
def sTerm (w x : List Bool) (v : Int) : Int := if dotL w x then -v else v
/-- the signed sum of s at w -/
def ssum (n : Nat) (s : List Int) (w : List Bool) : Int := (List.zipWith (sTerm w) (wordsL n) s).sum
theorem sum_neg (l : List Int) : (l.map fun v => -v).sum = -l.sum := by
  induction l with
  | nil => rfl
  | cons a l ih => simp only [List.map_cons, List.sum_cons, ih]; omega
theorem ssum_half {n : Nat} {s : List Int} (hs : s.length = 2 ^ (n + 1)) (w : List Bool) :
    ssum (n + 1) s (false :: w) = ssum n (s.take (2 ^ n)) w + ssum n (s.drop (2 ^ n)) w ∧ ssum (n + 1) s (true :: w) = ssum n (s.take (2 ^ n)) w - ssum n (s.drop (2 ^ n)) w := by
  have hl : ((wordsL n).map (false :: ·)).length = (s.take (2 ^ n)).length := by rw [List.length_map, wordsL_len, List.length_take, hs, Nat.pow_succ]; omega
  have e : ∀ u, ssum (n + 1) s u = (List.zipWith (fun x v => sTerm u (false :: x) v) (wordsL n) (s.take (2 ^ n))).sum + (List.zipWith (fun x v => sTerm u (true :: x) v) (wordsL n) (s.drop (2 ^ n))).sum := fun u => by
    unfold ssum
    rw [words_half]
    have hs2 : List.zipWith (sTerm u) ((wordsL n).map (false :: ·) ++ (wordsL n).map (true :: ·)) s = List.zipWith (sTerm u) ((wordsL n).map (false :: ·) ++ (wordsL n).map (true :: ·)) (s.take (2 ^ n) ++ s.drop (2 ^ n)) := by rw [List.take_append_drop]
    rw [hs2, List.zipWith_append hl, List.sum_append, List.zipWith_map_left, List.zipWith_map_left]
  have t1 : ∀ b, (fun x v => sTerm (false :: w) (b :: x) v) = sTerm w := fun b => by
    funext x v
    simp only [sTerm, dot_ff]
  have t2 : (fun x v => sTerm (true :: w) (false :: x) v) = sTerm w := by
    funext x v
    simp only [sTerm, dot_tf]
  constructor
  · rw [e, t1, t1]
    rfl
  · rw [e, t2]
    have n1 : List.zipWith (fun x v => sTerm (true :: w) (true :: x) v) (wordsL n) (s.drop (2 ^ n)) = (List.zipWith (sTerm w) (wordsL n) (s.drop (2 ^ n))).map fun v => -v := by
      rw [List.map_zipWith]
      congr 1
      funext x v
      simp only [sTerm, dot_tt]
      cases dotL w x <;> simp
    rw [n1, sum_neg]
    unfold ssum
    omega
theorem wht_sums : ∀ (n : Nat) (s : List Int), s.length = 2 ^ n → wht n s = (wordsL n).map (ssum n s)
  | 0, s, h => by
    cases s with
    | nil => simp at h
    | cons a s =>
      cases s with
      | nil => simp [wht, wordsL, ssum, sTerm, dotL]
      | cons b s => simp at h
  | n + 1, s, h => by
    have h1 : (s.take (2 ^ n)).length = 2 ^ n := by rw [List.length_take, h, Nat.pow_succ]; omega
    have h2 : (s.drop (2 ^ n)).length = 2 ^ n := by rw [List.length_drop, h, Nat.pow_succ]; omega
    simp only [wht]
    rw [wht_sums n _ h1, wht_sums n _ h2, words_half, List.map_append, List.map_map, List.map_map, List.zipWith_map, List.zipWith_map, List.zipWith_self, List.zipWith_self]
    congr 1
    · apply List.map_congr_left
      intro w _
      exact (ssum_half h w).1.symm
    · apply List.map_congr_left
      intro w _
      exact (ssum_half h w).2.symm
/-- how many bits differ from the sum table of w -/
def farN (n : Nat) (bs : List Bool) (w : List Bool) : Int := (List.zipWith (fun x b => if b != dotL w x then (1 : Int) else 0) (wordsL n) bs).sum
theorem far_term (w : List Bool) : ∀ (xs : List (List Bool)) (bs : List Bool), xs.length = bs.length → (List.zipWith (sTerm w) xs (bs.map sg1)).sum = xs.length - 2 * (List.zipWith (fun x b => if b != dotL w x then (1 : Int) else 0) xs bs).sum
  | [], [], _ => rfl
  | [], _ :: _, h => by simp at h
  | _ :: _, [], h => by simp at h
  | x :: xs, b :: bs, h => by
    have ih := far_term w xs bs (by simpa using h)
    simp only [List.map_cons, List.zipWith_cons_cons, List.sum_cons, ih, List.length_cons]
    cases b <;> cases e : dotL w x <;> simp [sTerm, sg1, e] <;> omega
theorem sgS_far {n : Nat} {bs : List Bool} (hb : bs.length = 2 ^ n) : sgS n bs = (wordsL n).map fun w => ((2 ^ n : Nat) : Int) - 2 * farN n bs w := by
  unfold sgS
  rw [wht_sums n _ (by rw [List.length_map]; exact hb)]
  apply List.map_congr_left
  intro w _
  unfold ssum farN
  rw [far_term w _ _ (by rw [wordsL_len, hb]), wordsL_len]
theorem zw_range {α β γ : Type} (f : α → β → γ) (d : β) : ∀ (xs : List α) (d2 : α) (ys : List β), xs.length = ys.length → List.zipWith f xs ys = (List.range xs.length).map fun k => f (xs.getD k d2) (ys.getD k d) := fun xs d2 ys h => by
  apply List.ext_getElem
  · simp [h]
  · intro k h1 h2
    have k1 : k < xs.length := by simp at h1; omega
    have k2 : k < ys.length := by simp at h1; omega
    simp [k1, k2]
theorem filter_range {α β : Type} (l : List α) (d : α) (c : α → Bool) (f : α → β) : ((List.range l.length).filter fun k => c (l.getD k d)).map (fun k => f (l.getD k d)) = (l.filter c).map f := by
  have e : l = (List.range l.length).map fun k => l.getD k d := by
    apply List.ext_getElem
    · simp
    · intro k h1 h2
      simp [h1]
  have e2 : (l.filter c).map f = (((List.range l.length).map fun k => l.getD k d).filter c).map f := by rw [← e]
  rw [e2, List.filter_map, List.map_map]
  rfl
theorem max_far {N : Int} {fs : List Int} (h : fs ≠ []) : maxL (fs.map fun f => N - 2 * f) = N - 2 * minL fs := by
  refine (max_of (ns := fs.map fun f => N - 2 * f) (List.mem_map.mpr ⟨_, minL_mem h, rfl⟩) fun y hy => ?_).symm
  obtain ⟨f, hf, rfl⟩ := List.mem_map.mp hy
  have := minL_le hf
  show N - 2 * f ≤ N - 2 * minL fs
  omega
theorem pick_map {c : Int → Bool} (g : List Bool → Int) : ∀ ws : List (List Bool), pickW ws (ws.map g) c = ws.filter fun w => c (g w)
  | [] => rfl
  | w :: ws => by
    have ih := pick_map (c := c) g ws
    unfold pickW at ih ⊢
    simp only [List.map_cons, List.zip_cons_cons, List.filter_cons]
    cases e : c (g w)
    · simpa using ih
    · simp [ih]
/-- the least distance and what is nearest, said by distances -/
theorem least_far {n : Nat} {bs : List Bool} (t : TbOk n bs) : ((2 ^ n : Nat) - maxL (sgS n bs)).fdiv 2 = minL ((wordsL n).map (farN n bs)) := by
  have hne : (wordsL n).map (farN n bs) ≠ [] := fun z => by
    have := congrArg List.length z
    rw [List.length_map, wordsL_len] at this
    have p := Nat.pow_pos (n := n) (show 0 < 2 by decide)
    simp at this
  have e : sgS n bs = ((wordsL n).map (farN n bs)).map fun f => ((2 ^ n : Nat) : Int) - 2 * f := by rw [sgS_far t.2.2, List.map_map]; rfl
  rw [e, max_far hne, Int.fdiv_eq_ediv_of_nonneg _ (by decide)]
  omega
theorem near_far {n : Nat} {bs : List Bool} (t : TbOk n bs) : (pickW (wordsL n) (sgS n bs) fun v => v == maxL (sgS n bs)) = (wordsL n).filter fun w => farN n bs w == minL ((wordsL n).map (farN n bs)) := by
  have hne : (wordsL n).map (farN n bs) ≠ [] := fun z => by
    have := congrArg List.length z
    rw [List.length_map, wordsL_len] at this
    have p := Nat.pow_pos (n := n) (show 0 < 2 by decide)
    simp at this
  have e : sgS n bs = ((wordsL n).map (farN n bs)).map fun f => ((2 ^ n : Nat) : Int) - 2 * f := by rw [sgS_far t.2.2, List.map_map]; rfl
  have e3 : maxL (sgS n bs) = ((2 ^ n : Nat) : Int) - 2 * minL ((wordsL n).map (farN n bs)) := by rw [e, max_far hne]
  rw [e3, sgS_far t.2.2, pick_map]
  apply List.filter_congr
  intro w _
  rw [Bool.eq_iff_iff, beq_iff_eq, beq_iff_eq]
  omega
section
variable {A : Ad} {K : PySem.W.Frag} {ds : List D} {Q E : D → Prop}
theorem c_law_wordsL {n : Nat} (h : n ≤ 16) (q : Q (.lst ((wordsL n).map wd))) : Call (S__law_words A) [.int n] Q E := c__law_words h (by rw [← words_bits]; exact q)
theorem x_idxT {l : List D} {k : Nat} {d : D} {Q : D → Prop} (e : l[k]? = some d) (q : Q d) : (fIdx (.tup l) (.int (k : Int))).run Q := by
  obtain ⟨h, rfl⟩ := List.getElem?_eq_some_iff.mp e
  show (fAt (atI l (k : Int))).run Q
  rw [atI_nat' h]
  exact q
theorem x_idxL {l : List D} {k : Nat} {d : D} {Q : D → Prop} (e : l[k]? = some d) (q : Q d) : (fIdx (.lst l) (.int (k : Int))).run Q := by
  obtain ⟨h, rfl⟩ := List.getElem?_eq_some_iff.mp e
  show (fAt (atI l (k : Int))).run Q
  rw [atI_nat' h]
  exact q
theorem sum_run {ns : List Int} {Q : D → Prop} (q : Q (.int ns.sum)) : (fSum [.lst (ns.map .int)]).run Q := by
  show R1.run (match intsD (ns.map D.int) with
    | some ns => .ok (.int ns.sum)
    | none => .no) Q
  rw [ints_map]
  exact q
theorem rng_nat (n : Nat) : rng 0 n = (List.range n).map fun k : Nat => D.int (k : Int) := by
  unfold rng
  simp
/-- for a in .. if .. -/
theorem lcF {α : Type} {tt : DT} {te : DW} {i : Nat} {ρb : List SD} {g : α → D} {c : α → Bool} {r : α → D} {Q : List D → Prop} : ∀ (xs : List α) (acc : List D),
    (∀ x ∈ xs, ∀ P : Prop, ∀ P2 : D → Prop, (c x = true → P2 (r x)) → (c x = false → P) → tt (st ρb i (.d (g x))) fun b ρ2 => (b = true → te ρ2 fun y _ => P2 y) ∧ (b = false → P)) →
    Q (acc ++ (xs.filter c).map r) → lcW (gNm i) tt te ρb (xs.map g) acc Q
  | [], acc, _, q => by
    show Q acc
    simpa using q
  | x :: xs, acc, h, q =>
    h x List.mem_cons_self (lcW (gNm i) tt te ρb (xs.map g) acc Q) (fun z => lcW (gNm i) tt te ρb (xs.map g) (acc ++ [z]) Q)
      (fun e => lcF xs _ (fun p hp => h p (List.mem_cons_of_mem _ hp)) (by simp [List.filter_cons, e] at q; simpa using q))
      (fun e => lcF xs _ (fun p hp => h p (List.mem_cons_of_mem _ hp)) (by simp [List.filter_cons, e] at q; simpa using q))
theorem lcRngF {tt : DT} {te : DW} {i : Nat} {ρb : List SD} {n : Nat} {c : Nat → Bool} {r : Nat → D} {Q : List D → Prop}
    (h : ∀ k, k < n → ∀ P : Prop, ∀ P2 : D → Prop, (c k = true → P2 (r k)) → (c k = false → P) → tt (st ρb i (.d (.int (k : Int)))) fun b ρ2 => (b = true → te ρ2 fun y _ => P2 y) ∧ (b = false → P))
    (q : Q (((List.range n).filter c).map r)) : lcW (gNm i) tt te ρb (rng 0 n) [] Q := by
  rw [rng_nat]
  exact lcF (g := fun k : Nat => D.int (k : Int)) (c := c) (r := r) (List.range n) [] (fun x hx => h x (List.mem_range.mp hx)) (by simpa using q)
theorem ne_int (a b : Bool) {P : D → Prop} (p : P (.int (if a != b then 1 else 0))) : (fNe (bit a) (bit b)).run fun d => (fInt [d]).run P := by
  cases a <;> cases b <;> exact p
theorem c_least_distance {n : Nat} {bs : List Bool} (t : TbOk n bs) (q : Q (.int (minL ((wordsL n).map (farN n bs))))) : Call (S_least_distance A) [tbl A n bs] Q E := ⟨n, bs, rfl, t, by rw [least_far t]; exact q⟩
theorem c_nearest_sums {n : Nat} {bs : List Bool} (t : TbOk n bs) (q : Q (mx ((wordsL n).filter fun w => farN n bs w == minL ((wordsL n).map (farN n bs))))) : Call (S_nearest_sums A) [tbl A n bs] Q E := ⟨n, bs, rfl, t, by rw [near_far t]; exact q⟩
end
end PL
end L2

namespace L2
namespace PL
open PySem PySem.Spec PyProof.Rows
variable [Tabl]
theorem x_iL {l : List D} {i : Int} (k : Nat) {d : D} {Q : D → Prop} (hi : i = (k : Int)) (e : l[k]? = some d) (q : Q d) : (fIdx (.lst l) (.int i)).run Q := by
  subst hi
  exact x_idxL e q
theorem x_iT {l : List D} {i : Int} (k : Nat) {d : D} {Q : D → Prop} (hi : i = (k : Int)) (e : l[k]? = some d) (q : Q d) : (fIdx (.tup l) (.int i)).run Q := by
  subst hi
  exact x_idxT e q
/-- a test of a value that is known -/
theorem t_yes {b : Bool} {P Q : Prop} (h : b = true) (q : P) : (b = true → P) ∧ (b = false → Q) := ⟨fun _ => q, fun z => by rw [h] at z; cases z⟩
theorem t_no {b : Bool} {P Q : Prop} (h : b = false) (q : Q) : (b = true → P) ∧ (b = false → Q) := ⟨fun z => (by rw [h] at z; cases z), fun _ => q⟩
theorem forLs {α : Type} {wb : DS} {E : DE} {i : Nat} {f : α → D} {I : List α → List SD → Prop} : ∀ (u : List α) (ρ : List SD), (∀ b u ρ (K : List SD → Prop), I (b :: u) ρ → (∀ ρ2, I u ρ2 → K ρ2) → wb (turnE E K) (st ρ i (.d (f b)))) → (∀ ρ, I [] ρ → E.nx ρ) → I u ρ → forW (gNm i) wb (u.map f) E ρ
  | [], ρ, _, fin, h => fin ρ h
  | b :: u, ρ, step, fin, h => step b u ρ _ h fun ρ2 h2 => forLs u ρ2 step fin h2
theorem forP {i : Nat} {wb : DS} {E : DE} {P : D → Prop} {R : List SD → Prop} (step : ∀ x, P x → ∀ ρ (N : List SD → Prop), R ρ → (∀ ρ2, R ρ2 → N ρ2) → wb (turnE E N) (st ρ i (.d x))) (fin : ∀ ρ, R ρ → E.nx ρ) : ∀ items ρ, (∀ x ∈ items, P x) → R ρ → forW (gNm i) wb items E ρ
  | [], ρ, _, h => fin ρ h
  | x :: xs, ρ, hp, h => step x (hp x List.mem_cons_self) ρ _ h fun ρ2 h2 => forP step fin xs ρ2 (fun y hy => hp y (List.mem_cons_of_mem _ hy)) h2
theorem isi2_okW {cls : List Addr} {T U : TyN} {v : D} {Q : D → Prop} (o : okW cls v = true) (q : Q (.bl (isTy T v || isTy U v))) : (fIsi2 cls T U v).run Q := by
  cases v with
  | obj C ns l => exact ⟨by simpa [okW] using o, by cases T <;> cases U <;> exact q⟩
  | tok k => cases o
  | fn k => cases o
  | scr ns => cases o
  | _ => exact q
theorem in_ints {p : Int} {ms : List Int} : inD (.int p) (ms.map .int) = decide (p ∈ ms) := by
  unfold inD
  induction ms with
  | nil => rfl
  | cons m ms ih =>
    rw [List.map_cons, List.any_cons, ih]
    show (decide (m = p) || _) = _
    by_cases h : m = p
    · simp [h]
    · have : p ≠ m := fun z => h z.symm
      simp [h, this]
theorem flat_ints (ms : List Int) : (ms.map D.int).all flatD = true := by
  induction ms with
  | nil => rfl
  | cons m ms ih => simpa using ⟨rfl, by simpa using ih⟩
theorem notin_run {p : Int} {ms : List Int} {Q : D → Prop} (q : Q (.bl (!decide (p ∈ ms)))) : (fInN true (.int p) (.lst (ms.map .int))).run Q :=
  ⟨⟨rfl, flat_ints ms⟩, by rw [← in_ints] at q; exact q⟩
theorem notin_runT {p : Int} {ms : List Int} {Q : D → Prop} (q : Q (.bl (!decide (p ∈ ms)))) : (fInN true (.int p) (.tup (ms.map .int))).run Q :=
  ⟨⟨rfl, flat_ints ms⟩, by rw [← in_ints] at q; exact q⟩
theorem half_run {a : Int} {Q : D → Prop} (q : Q (.int (a / 2))) : (fDiv (.int a) (.int 2)).run Q :=
  ⟨⟨by decide, .inl (by decide)⟩, by
    have : a.fdiv 2 = a / 2 := Int.fdiv_eq_ediv_of_nonneg _ (by decide)
    rw [← this] at q
    exact q⟩
end PL
end L2

namespace L2
namespace PL
open PySem PySem.Spec PyProof.Rows
variable [Tabl]
/-! systems of equations: the defs keep what they promise -/
section
variable {A : Ad} {ds : List D} {Q E : D → Prop}
theorem c_betwn {v : D} {lo hi : Int} (o : okW A.cls v = true) (q : Q (.bl (betw v lo hi))) : Call (S_is_between A) [v, .int lo, .int hi] Q E := ⟨v, lo, hi, rfl, o, q⟩
/-! the first that is not the case -/
theorem firstF_mo {wb : Nat → (Bool → Prop) → Prop} (mb : ∀ k P P', (∀ b, P b → P' b) → wb k P → wb k P') {Q Q' : D → Prop} (h : ∀ d, Q d → Q' d) : ∀ (m k : Nat), firstF wb k m Q → firstF wb k m Q'
  | 0, _, q => h _ q
  | m + 1, k, q => mb k _ _ (fun b q => ⟨fun e => firstF_mo mb h m (k + 1) (q.1 e), fun e => h _ (q.2 e)⟩) q
theorem rng_succ (k m : Nat) : rng (k : Int) (m + 1) = .int (k : Int) :: rng ((k + 1 : Nat) : Int) m := by
  unfold rng
  rw [List.range_succ_eq_map, List.map_cons, List.map_map]
  refine congr (congrArg List.cons ?_) ?_
  · show D.int ((k : Int) + ((0 : Nat) : Int)) = _
    simp
  · apply List.map_congr_left
    intro i _
    show D.int ((k : Int) + ((i + 1 : Nat) : Int)) = D.int (((k + 1 : Nat) : Int) + (i : Int))
    congr 1
    omega
/-- the lambda's reading at a place -/
abbrev lamAt (cp : List SD) (m : Nat) (wb : DW) : Nat → (Bool → Prop) → Prop := fun k P => wb (.d (.int (k : Int)) :: (cp ++ List.replicate m .no)) fun r _ => ∃ b, r = .bl b ∧ P b
theorem p_first_none {f : Addr} {cp : List SD} {m : Nat} {wb : DW} {d : D} (mb : Mono wb) (o : okW A.cls d = true) (hl : lenD d ≤ 1000) (h0 : seqL d = none → Q (.int 0)) (h : ∀ l, seqL d = some l → firstF (lamAt cp m wb) 0 l.length Q) :
    w_first_none A (wLamV f cp m wb) NoX (E0D Q) [.d d, .ad f, .no] := by
  have key : ∀ (j k : Nat) (x : SD), firstF (lamAt cp m wb) k j Q → forW (gNm 2) (wIf (wNotT (wTst (wLamV f cp m wb))) (wRet (wV 2)) wNext) (rng (k : Int) j) { E0D Q with nx := fun ρ1 => wRet (wC .non) (E0D Q) ρ1 } [.d d, .ad f, x] := by
    intro j
    induction j with
    | zero => intro k x q; exact q
    | succ j ih =>
      intro k x q
      rw [rng_succ]
      refine ⟨rfl, mb _ _ _ (fun r _ q => ?_) q⟩
      obtain ⟨b, rfl, q1, q2⟩ := q
      refine ⟨fun e => ?_, fun e => ?_⟩
      · exact q2 (by simpa using e)
      · exact ih (k + 1) _ (q1 (by simpa using e))
  have main : ∀ l, seqL d = some l → (isTy .list d || isTy .tuple d) = true → (∀ P : D → Prop, P (.int l.length) → (fLen [d]).run P) → l.length ≤ 1000 → w_first_none A (wLamV f cp m wb) NoX (E0D Q) [.d d, .ad f, .no] := fun l hs ht hn hl => by
    refine isi2_okW o ?_
    rw [ht]
    refine And.intro (fun (z : false = true) => Bool.noConfusion z) (fun _ => ?_)
    refine hn _ ⟨⟨by omega, by omega⟩, ?_⟩
    rw [Int.toNat_natCast]
    exact key l.length 0 .no (h l hs)
  have other : seqL d = none → (isTy .list d || isTy .tuple d) = false → w_first_none A (wLamV f cp m wb) NoX (E0D Q) [.d d, .ad f, .no] := fun e1 e2 => by
    refine isi2_okW o ?_
    rw [e2]
    exact And.intro (fun _ => h0 e1) (fun (z : true = false) => Bool.noConfusion z)
  cases d with
  | lst l => exact main l rfl rfl (fun P p => p) hl
  | tup l => exact main l rfl rfl (fun P p => p) hl
  | scr _ => cases o
  | tok _ => cases o
  | fn _ => cases o
  | _ => exact other rfl rfl
/-! order -/
theorem toPys_ints : ∀ ns : List Int, toPys (ns.map .int) = some (ns.map .int)
  | [] => rfl
  | n :: ns => by simp [toPys, toPy, toPys_ints ns]
theorem toPy_tints (ns : List Int) : toPy (.tup (ns.map .int)) = some (.tuple (ns.map .int)) := by simp [toPy, toPys_ints]
theorem ltDt_int (a b : Int) : ltDt (.int a) (.int b) = decide (a < b) := PySem.W.dataLt_int a b
theorem ltDt_tup (as bs : List Int) : ltDt (.tup (as.map .int)) (.tup (bs.map .int)) = PySem.W.listLt as bs := by
  unfold ltDt
  rw [toPy_tints, toPy_tints]
  simp only
  rw [PySem.W.dataLt_tuple]
  exact PySem.W.lexAll_map as bs
theorem ltI_run {a b : Int} {Q : D → Prop} (q : Q (.bl (ltDt (.int a) (.int b)))) : (fLtD (.int a) (.int b)).run Q :=
  ⟨⟨by simp only [PySem.W.alike], (fun z => nomatch z), by simp [PyData.depth]⟩, q⟩
theorem ltT_run {as bs : List Int} {Q : D → Prop} (q : Q (.bl (ltDt (.tup (as.map .int)) (.tup (bs.map .int))))) : (fLtD (.tup (as.map .int)) (.tup (bs.map .int))).run Q := by
  unfold fLtD
  unfold ltDt at q
  rw [toPy_tints, toPy_tints] at q ⊢
  refine ⟨⟨?_, (fun z => nomatch z), ?_⟩, q⟩
  · rw [PySem.W.alike]
    exact PySem.W.alikeAll_map as bs
  · have dp : ∀ ns : List Int, PyData.depthAll (ns.map PyData.int) = 0 := fun ns => by
      induction ns with
      | nil => rfl
      | cons n ns ih => simp [PyData.depthAll, PyData.depth, ih]
    simp [PyData.depth, dp]
theorem p_is_ascending (h : S_is_ascending A ds Q E) : w_is_ascending A (X0 E) (E0D Q) (ρ0 N_is_ascending ds) := by
  obtain ⟨l, rfl, ⟨hl, hk⟩, q⟩ := h
  have ec : cutD l (some 1) none = l.drop 1 := by
    cases l with
    | nil => rfl
    | cons a l =>
      have e1 : HT.sIx (a :: l).length 0 (some 1) = 1 := by
        simp [HT.sIx]
      have e2 : HT.sIx (a :: l).length (a :: l).length none = (a :: l).length := rfl
      unfold cutD
      rw [e1, e2]
      apply List.take_of_length_le
      simp
  have run : ∀ a b : D, (a, b) ∈ l.zip (l.drop 1) → ∀ P : D → Prop, P (.bl (ltDt a b)) → (fLtD a b).run P := fun a b hm P p => by
    have m1 := (List.of_mem_zip hm).1
    have m2 := List.mem_of_mem_drop (List.of_mem_zip hm).2
    rcases hk with hk | hk
    · obtain ⟨i, rfl⟩ := hk a m1
      obtain ⟨j, rfl⟩ := hk b m2
      exact ltI_run p
    · obtain ⟨i, rfl, _⟩ := hk a m1
      obtain ⟨j, rfl, _⟩ := hk b m2
      exact ltT_run p
  have go : (zipD l (cutD l (some 1) none)).length ≤ 1000000 ∧ lcW (gTp 2 (gCn (gNm 1) (gCn (gNm 2) gNl))) wYes (wOp fLtD (wV 1) (wV 2)) [.d (.tup l), .no, .no] (zipD l (cutD l (some 1) none)) [] (fun ys => (fAll [.lst ys]).run Q) := by
    rw [ec]
    refine ⟨by simp [zipD]; omega, ?_⟩
    refine lcZ (f := fun a b => .bl (ltDt a b)) l (l.drop 1) [] (fun p hp P hP => run p.1 p.2 hp P hP) ?_
    have e : ([] : List D) ++ List.zipWith (fun a b => D.bl (ltDt a b)) l (l.drop 1) = (List.zipWith ltDt l (l.drop 1)).map fun b => D.bl (id b) := by
      rw [List.nil_append, List.map_zipWith]
      rfl
    rw [e]
    exact all_run q
  exact go
theorem smDs_all : ∀ {l : List D}, smDs l = true ↔ ∀ d ∈ l, smD d = true
  | [] => by simp [smDs]
  | d :: l => by simp [smDs, smDs_all (l := l)]
theorem sm_tup {l : List D} (h : smD (.tup l) = true) : l.length ≤ 1000 ∧ ∀ d ∈ l, smD d = true := by
  unfold smD at h
  simp only [Bool.and_eq_true, decide_eq_true_eq] at h
  exact ⟨h.1, smDs_all.mp h.2⟩
theorem sm_lst {l : List D} (h : smD (.lst l) = true) : l.length ≤ 1000 ∧ ∀ d ∈ l, smD d = true := by
  unfold smD at h
  simp only [Bool.and_eq_true, decide_eq_true_eq] at h
  exact ⟨h.1, smDs_all.mp h.2⟩
theorem betw_some {v : D} {lo hi : Int} (h : betw v lo hi = true) : ∃ i, v = .int i ∧ lo ≤ i ∧ i ≤ hi := betw_int h
theorem unk_ints {l : List D} {n : Int} (h : (l.all fun d => betw d 0 (n - 1)) = true) : IntsL l := fun d hd => by
  obtain ⟨i, rfl, _⟩ := betw_int (List.all_eq_true.mp h d hd)
  exact ⟨i, rfl⟩
theorem intsL_map {l : List D} (h : IntsL l) : ∃ ns : List Int, l = ns.map .int := by
  induction l with
  | nil => exact ⟨[], rfl⟩
  | cons d l ih =>
    obtain ⟨i, rfl⟩ := h d List.mem_cons_self
    obtain ⟨ns, rfl⟩ := ih fun d hd => h d (List.mem_cons_of_mem _ hd)
    exact ⟨i :: ns, rfl⟩
theorem p_are_unknowns (h : S_are_unknowns A ds Q E) : w_are_unknowns A (X0 E) (E0D Q) (ρ0 N_are_unknowns ds) := by
  obtain ⟨v, n, rfl, ⟨o, sm⟩, q⟩ := h
  refine isi_run o ?_
  cases v with
  | tup l =>
    obtain ⟨hl, _⟩ := sm_tup sm
    have ol := okWs_all.mp (show okWs A.cls l = true by simpa [okW] using o)
    refine And.intro (fun (z : false = true) => Bool.noConfusion z) (fun _ => ?_)
    refine ⟨by omega, lcN (f := fun x => .bl (betw x 0 (n - 1))) l [] (fun x hx P p => ⟨x, 0, n - 1, rfl, ol x hx, p⟩) (all_run ?_)⟩
    refine And.intro (fun z => ?_) (fun z => ?_)
    · have z : (l.all fun d => betw d 0 (n - 1)) = false := by simpa using z
      have e : isUnkD (.tup l) n = false := by
        show ((l.all fun d => betw d 0 (n - 1)) && ascD l) = false
        rw [z]; rfl
      rw [e] at q; exact q
    · have z : (l.all fun d => betw d 0 (n - 1)) = true := by simpa using z
      have e : isUnkD (.tup l) n = ascD l := by
        show ((l.all fun d => betw d 0 (n - 1)) && ascD l) = ascD l
        rw [z]; rfl
      rw [e] at q
      exact ⟨l, rfl, ⟨hl, .inl (unk_ints z)⟩, q⟩
  | _ => exact And.intro (fun _ => And.intro (fun _ => q) (fun (z : true = false) => Bool.noConfusion z)) (fun (z : true = false) => Bool.noConfusion z)
theorem unk_tup {v : D} {n : Int} (h : isUnkD v n = true) : ∃ ns : List Int, v = .tup (ns.map .int) ∧ (∀ i ∈ ns, 0 ≤ i ∧ i < n) ∧ ascD (ns.map .int) = true := by
  cases v with
  | tup l =>
    unfold isUnkD at h
    simp only [Bool.and_eq_true] at h
    obtain ⟨ns, rfl⟩ := intsL_map (unk_ints h.1)
    refine ⟨ns, rfl, fun i hi => ?_, h.2⟩
    have := List.all_eq_true.mp h.1 (.int i) (List.mem_map.mpr ⟨i, hi, rfl⟩)
    simp [betw] at this
    omega
  | _ => cases h
theorem eq_int {i j : Int} {Q : D → Prop} (q : Q (.bl (decide (i = j)))) : (fEq (.int i) (.int j)).run Q := q
theorem p_are_pairs (h : S_are_pairs A ds Q E) : w_are_pairs A (X0 E) (E0D Q) (ρ0 N_are_pairs ds) := by
  obtain ⟨v, n, rfl, ⟨o, sm⟩, q⟩ := h
  refine isi_run o ?_
  cases v with
  | tup l =>
    obtain ⟨hl, sl⟩ := sm_tup sm
    have ol := okWs_all.mp (show okWs A.cls l = true by simpa [okW] using o)
    refine And.intro (fun (z : false = true) => Bool.noConfusion z) (fun _ => ?_)
    refine ⟨by omega, lcN (f := fun x => .bl (isUnkD x n && decide (lenD x = 2))) l [] (fun x hx P p => ⟨x, n, rfl, ⟨ol x hx, sl x hx⟩, fun e => ?_, fun e => ?_⟩) (all_run ?_)⟩
    · obtain ⟨ns, rfl, h1, _⟩ := unk_tup e
      rw [e] at p
      show P _
      have e2 : decide (((ns.map D.int).length : Int) = 2) = decide (lenD (.tup (ns.map .int)) = 2) := by
        unfold lenD
        by_cases hh : (ns.map D.int).length = 2
        · simp [hh]
        · rw [decide_eq_false hh, decide_eq_false (by omega)]
      rw [e2]
      exact p
    · rw [e] at p; exact p
    refine And.intro (fun z => ?_) (fun z => ?_)
    · have z : (l.all fun d => isUnkD d n && decide (lenD d = 2)) = false := by simpa using z
      have e : isPrsD (.tup l) n = false := by
        show ((l.all fun d => isUnkD d n && decide (lenD d = 2)) && ascD l) = false
        rw [z]; rfl
      rw [e] at q; exact q
    · have z : (l.all fun d => isUnkD d n && decide (lenD d = 2)) = true := by simpa using z
      have e : isPrsD (.tup l) n = ascD l := by
        show ((l.all fun d => isUnkD d n && decide (lenD d = 2)) && ascD l) = ascD l
        rw [z]; rfl
      rw [e] at q
      refine ⟨l, rfl, ⟨hl, .inr fun d hd => ?_⟩, q⟩
      have zz := List.all_eq_true.mp z d hd
      simp only [Bool.and_eq_true, decide_eq_true_eq] at zz
      obtain ⟨ns, rfl, _⟩ := unk_tup zz.1
      refine ⟨ns, rfl, ?_⟩
      have := zz.2
      simp [lenD] at this
      omega
  | _ => exact And.intro (fun _ => And.intro (fun _ => q) (fun (z : true = false) => Bool.noConfusion z)) (fun (z : true = false) => Bool.noConfusion z)
theorem p_is_equation (h : S_is_equation A ds Q E) : w_is_equation A (X0 E) (E0D Q) (ρ0 N_is_equation ds) := by
  obtain ⟨v, n, rfl, ⟨o, sm⟩, q⟩ := h
  refine isi_run o ?_
  cases v with
  | tup l =>
    obtain ⟨hl, sl⟩ := sm_tup sm
    have ol := okWs_all.mp (show okWs A.cls l = true by simpa [okW] using o)
    refine And.intro (fun (z : false = true) => Bool.noConfusion z) (fun _ => ?_)
    by_cases h3 : l.length = 3
    · obtain ⟨a, b, c, rfl⟩ : ∃ a b c, l = [a, b, c] := by
        match l, h3 with
        | [a, b, c], _ => exact ⟨a, b, c, rfl⟩
      refine And.intro (fun (z : false = true) => Bool.noConfusion z) (fun _ => ?_)
      refine ⟨rfl, rfl, a, n, rfl, ⟨ol a (by simp), sl a (by simp)⟩, fun e1 => ?_, fun e1 => ?_⟩
      · refine ⟨b, n, rfl, ⟨ol b (by simp), sl b (by simp)⟩, fun e2 => ?_, fun e2 => ?_⟩
        · refine ⟨c, 0, 1, rfl, ol c (by simp), ?_⟩
          have e : isEqD (.tup [a, b, c]) n = betw c 0 1 := by
            show (isPrsD a n && (isUnkD b n && betw c 0 1)) = betw c 0 1
            rw [e1, e2]; rfl
          rw [e] at q; exact q
        · have e : isEqD (.tup [a, b, c]) n = false := by
            show (isPrsD a n && (isUnkD b n && betw c 0 1)) = false
            rw [e1, e2]; rfl
          rw [e] at q; exact q
      · have e : isEqD (.tup [a, b, c]) n = false := by
          show (isPrsD a n && (isUnkD b n && betw c 0 1)) = false
          rw [e1]; rfl
        rw [e] at q; exact q
    · have e : isEqD (.tup l) n = false := by
        unfold isEqD
        split
        · rename_i z
          cases z
          exact absurd rfl h3
        · rfl
      rw [e] at q
      have e3 : (!decide ((l.length : Int) = 3)) = true := by
        simp
        omega
      have go : ∀ P2 P3 : Prop, P2 → (!decide ((l.length : Int) = 3)) = true → P2 := fun _ _ p _ => p
      refine And.intro (fun _ => q) (fun z => ?_)
      have z : (!decide ((l.length : Int) = 3)) = false := z
      rw [e3] at z
      cases z
  | _ => exact And.intro (fun _ => And.intro (fun _ => q) (fun (z : true = false) => Bool.noConfusion z)) (fun (z : true = false) => Bool.noConfusion z)
theorem find_at {f : D → Bool} {d : D} {suf : List D} : ∀ {pre : List D}, (∀ x ∈ pre, f x = true) → f d = false → (pre ++ d :: suf).findIdx? (fun d => !f d) = some pre.length
  | [], _, hd => by simp [List.findIdx?_cons, hd]
  | x :: pre, hp, hd => by
    rw [List.cons_append, List.findIdx?_cons, hp x List.mem_cons_self, find_at (pre := pre) (fun y hy => hp y (List.mem_cons_of_mem _ hy)) hd]
    rfl
theorem firstF_run {wb : Nat → (Bool → Prop) → Prop} {f : D → Bool} {l : List D} {Q : D → Prop} (hw : ∀ (k : Nat) (d : D), l[k]? = some d → ∀ P : Bool → Prop, P (f d) → wb k P) (q1 : ∀ k, l.findIdx? (fun d => !f d) = some k → Q (.int (k : Int)))
    (q2 : l.findIdx? (fun d => !f d) = none → Q .non) : firstF wb 0 l.length Q := by
  have key : ∀ (suf pre : List D), (∀ d ∈ pre, f d = true) → l = pre ++ suf → firstF wb pre.length suf.length Q := by
    intro suf
    induction suf with
    | nil =>
      intro pre hp e
      refine q2 ?_
      rw [e, List.append_nil]
      exact List.findIdx?_eq_none_iff.mpr fun x hx => by rw [hp x hx]; rfl
    | cons d suf ih =>
      intro pre hp e
      refine hw pre.length d (by rw [e]; simp) _ ⟨fun z => ?_, fun z => ?_⟩
      · have := ih (pre ++ [d]) (fun x hx => by
          rcases List.mem_append.mp hx with h | h
          · exact hp x h
          · rw [List.mem_singleton.mp h]; exact z) (by rw [e]; simp)
        rw [List.length_append] at this
        exact this
      · exact q1 _ (by rw [e]; exact find_at hp z)
  exact key l [] (fun _ h => nomatch h) rfl
theorem seqL_len {x : D} {l : List D} (h : seqL x = some l) : lenD x = l.length := by
  cases x <;> simp only [seqL, Option.some.injEq] at h <;> first | (cases h; done) | (subst h; rfl)
theorem seqL_ok {x : D} {l : List D} (h : seqL x = some l) (o : okW A.cls x = true) (sm : smD x = true) : l.length ≤ 1000 ∧ ∀ d ∈ l, okW A.cls d = true ∧ smD d = true := by
  cases x <;> simp only [seqL, Option.some.injEq] at h <;> first | (cases h; done) | subst h
  · have s := sm_tup sm
    exact ⟨s.1, fun d hd => ⟨okWs_all.mp (by simpa [okW] using o) d hd, s.2 d hd⟩⟩
  · have s := sm_lst sm
    exact ⟨s.1, fun d hd => ⟨okWs_all.mp (by simpa [okW] using o) d hd, s.2 d hd⟩⟩
theorem lenD_sm {x : D} (sm : smD x = true) : lenD x ≤ 1000 := by
  cases x with
  | tup l => exact (sm_tup sm).1
  | lst l => exact (sm_lst sm).1
  | _ => simp [lenD]
theorem idx_seq {x : D} {l : List D} {k : Nat} {d : D} {Q : D → Prop} (h : seqL x = some l) (e : l[k]? = some d) (q : Q d) : (fIdx x (.int (k : Int))).run Q := by
  cases x <;> simp only [seqL, Option.some.injEq] at h <;> first | (cases h; done) | subst h
  · exact x_iT k rfl e q
  · exact x_iL k rfl e q
theorem p_check_equations (h : S_check_equations A ds Q E) : w_check_equations A (X0 E) (E0D Q) (ρ0 N_check_equations ds) := by
  obtain ⟨n, x, rfl, ⟨o, sm⟩, q1, q2⟩ := h
  have bad : ∀ k : Nat, badEq x n = some k → (wIf (wTst (wUn fNotN (wV 2))) (wRaise2 A.InvalidSystem "part" "place" (wC (.str "equations")) (wV 2) (X0 E)) wNext) (E0D Q) [.d (.int n), .d x, .d (.int (k : Int))] := fun k hk =>
    And.intro (fun _ => q1 k hk) (fun (z : true = false) => Bool.noConfusion z)
  have good : badEq x n = none → (wIf (wTst (wUn fNotN (wV 2))) (wRaise2 A.InvalidSystem "part" "place" (wC (.str "equations")) (wV 2) (X0 E)) wNext) (E0D Q) [.d (.int n), .d x, .d .non] := fun hk =>
    And.intro (fun (z : false = true) => Bool.noConfusion z) (fun _ => q2 hk)
  refine fun f => p_first_none (Q := fun d => (wIf (wTst (wUn fNotN (wV 2))) (wRaise2 A.InvalidSystem "part" "place" (wC (.str "equations")) (wV 2) (X0 E)) wNext) (E0D Q) [.d (.int n), .d x, .d d]) (mo_Call (mS_is_equation A) (mo_Cons (mo_Op mo_V mo_V) (mo_Cons mo_V mo_Nil))) o (lenD_sm sm) (fun e => bad 0 (by unfold badEq; rw [e])) (fun l hs => ?_)
  obtain ⟨hl, hall⟩ := seqL_ok hs o sm
  have eb : badEq x n = l.findIdx? fun d => !isEqD d n := by unfold badEq; rw [hs]
  refine firstF_run (f := fun d => isEqD d n) (fun k d hd P p => ?_) (fun k hk => bad k (eb.trans hk)) (fun hk => good (eb.trans hk))
  have hm := List.mem_of_getElem? hd
  exact idx_seq hs hd ⟨d, n, rfl, hall d hm, _, rfl, p⟩
/-! equations as data -/
theorem ascD_cons (a b : D) (l : List D) : ascD (a :: b :: l) = (ltDt a b && ascD (b :: l)) := rfl
theorem asc_pair {α : Type} {f : α → D} {R : α → α → Prop} (hf : ∀ a b, ltDt (f a) (f b) = true ↔ R a b) (ht : ∀ a b c, R a b → R b c → R a c) : ∀ l : List α, ascD (l.map f) = true ↔ l.Pairwise R
  | [] => by simp [ascD]
  | [a] => by simp [ascD]
  | a :: b :: l => by
    rw [List.map_cons, List.map_cons, ascD_cons, Bool.and_eq_true, hf, ← List.map_cons, asc_pair hf ht (b :: l), List.pairwise_cons (a := a)]
    refine ⟨fun ⟨h1, h2⟩ => ⟨fun c hc => ?_, h2⟩, fun ⟨h1, h2⟩ => ⟨h1 b List.mem_cons_self, h2⟩⟩
    rcases List.mem_cons.mp hc with rfl | hc
    · exact h1
    · exact ht _ _ _ h1 ((List.pairwise_cons.mp h2).1 c hc)
theorem nD_lt (a b : Nat) : ltDt (nD a) (nD b) = true ↔ a < b := by
  show ltDt (.int (a : Int)) (.int (b : Int)) = true ↔ _
  rw [ltDt_int]
  simp
theorem listLt2 (a b c d : Int) : PySem.W.listLt [a, b] [c, d] = true ↔ a < c ∨ (a = c ∧ b < d) := by
  simp only [PySem.W.listLt]
  by_cases h : a = c
  · rw [if_pos h]
    by_cases h2 : b = d
    · rw [if_pos h2]; simp [h2, h]
    · rw [if_neg h2]
      show decide (b < d) = true ↔ _
      simp [h]
  · rw [if_neg h]
    show decide (a < c) = true ↔ _
    simp [h]
theorem prD_lt (p q : Nat × Nat) : ltDt (prD p) (prD q) = true ↔ ltP p q := by
  have e := ltDt_tup [(p.1 : Int), (p.2 : Int)] [(q.1 : Int), (q.2 : Int)]
  have e' : ltDt (prD p) (prD q) = PySem.W.listLt [(p.1 : Int), (p.2 : Int)] [(q.1 : Int), (q.2 : Int)] := e
  rw [e', listLt2]
  unfold ltP
  omega
theorem ltP_trans (a b c : Nat × Nat) (h : ltP a b) (h' : ltP b c) : ltP a c := by
  unfold ltP at *
  omega
theorem nats_of : ∀ {ns : List Int}, (∀ i ∈ ns, 0 ≤ i) → ∃ ss : List Nat, ns = ss.map fun (i : Nat) => (i : Int)
  | [], _ => ⟨[], rfl⟩
  | i :: ns, h => by
    obtain ⟨k, rfl⟩ := Int.eq_ofNat_of_zero_le (h i List.mem_cons_self)
    obtain ⟨ss, rfl⟩ := nats_of fun j hj => h j (List.mem_cons_of_mem _ hj)
    exact ⟨k :: ss, rfl⟩
theorem unk_nats {v : D} {n : Nat} (h : isUnkD v n = true) : ∃ ss : List Nat, v = .tup (ss.map nD) ∧ (∀ i ∈ ss, i < n) ∧ ss.Pairwise (· < ·) := by
  obtain ⟨ns, rfl, h1, h2⟩ := unk_tup h
  obtain ⟨ss, rfl⟩ := nats_of fun i hi => (h1 i hi).1
  have e : (ss.map fun (i : Nat) => (i : Int)).map D.int = ss.map nD := by rw [List.map_map]; rfl
  rw [e] at h2 ⊢
  refine ⟨ss, rfl, fun i hi => ?_, (asc_pair nD_lt (fun _ _ _ => Nat.lt_trans) ss).mp h2⟩
  have := (h1 (i : Int) (List.mem_map.mpr ⟨i, hi, rfl⟩)).2
  omega
theorem unk_mk {ss : List Nat} {n : Nat} (h1 : ∀ i ∈ ss, i < n) (h2 : ss.Pairwise (· < ·)) : isUnkD (.tup (ss.map nD)) n = true := by
  show (((ss.map nD).all fun d => betw d 0 ((n : Int) - 1)) && ascD (ss.map nD)) = true
  rw [Bool.and_eq_true]
  refine ⟨List.all_eq_true.mpr fun d hd => ?_, (asc_pair nD_lt (fun _ _ _ => Nat.lt_trans) ss).mpr h2⟩
  obtain ⟨i, hi, rfl⟩ := List.mem_map.mp hd
  have := h1 i hi
  simp [betw, nD]
  omega
theorem prs_of {l : List D} {n : Nat} (h : (l.all fun d => isUnkD d n && decide (lenD d = 2)) = true) : ∃ ps : List (Nat × Nat), l = ps.map prD ∧ ∀ p ∈ ps, p.1 < p.2 ∧ p.2 < n := by
  induction l with
  | nil => exact ⟨[], rfl, fun _ h => nomatch h⟩
  | cons d l ih =>
    simp only [List.all_cons, Bool.and_eq_true] at h
    obtain ⟨ps, rfl, hp⟩ := ih h.2
    obtain ⟨ss, rfl, h1, h2⟩ := unk_nats h.1.1
    have h3 := of_decide_eq_true h.1.2
    simp only [lenD, List.length_map] at h3
    match ss, h3 with
    | [a, b], _ =>
      refine ⟨(a, b) :: ps, rfl, fun p hm => ?_⟩
      rcases List.mem_cons.mp hm with rfl | hm
      · have := (List.pairwise_cons.mp h2).1 b (by simp)
        exact ⟨this, h1 b (by simp)⟩
      · exact hp p hm
theorem eq_of {d : D} {n : Nat} (h : isEqD d n = true) : ∃ e, d = eqD e ∧ EqnOk n e := by
  unfold isEqD at h
  split at h
  · rename_i a b c
    simp only [Bool.and_eq_true] at h
    obtain ⟨h1, h2, h3⟩ := h
    obtain ⟨ss, rfl, s1, s2⟩ := unk_nats h2
    obtain ⟨r, rfl⟩ := isBit_bit h3
    cases a with
    | tup l =>
      have h1 : ((l.all fun d => isUnkD d n && decide (lenD d = 2)) && ascD l) = true := h1
      rw [Bool.and_eq_true] at h1
      obtain ⟨ps, rfl, hp⟩ := prs_of h1.1
      exact ⟨⟨ps, ss, r⟩, rfl, ⟨hp, (asc_pair prD_lt ltP_trans ps).mp h1.2⟩, s1, s2⟩
    | _ => cases h1
  · cases h
theorem eq_mk {e : Eqn} {n : Nat} (h : EqnOk n e) : isEqD (eqD e) n = true := by
  obtain ⟨⟨h1, h2⟩, h3, h4⟩ := h
  show (isPrsD (.tup (e.ps.map prD)) n && (isUnkD (.tup (e.ss.map nD)) n && betw (bit e.r) 0 1)) = true
  have hb : betw (bit e.r) 0 1 = true := bit_isBit e.r
  rw [unk_mk h3 h4, hb]
  show (((e.ps.map prD).all fun d => isUnkD d n && decide (lenD d = 2)) && ascD (e.ps.map prD) && true) = true
  rw [Bool.and_true, Bool.and_eq_true]
  refine ⟨List.all_eq_true.mpr fun d hd => ?_, (asc_pair prD_lt ltP_trans e.ps).mpr h2⟩
  obtain ⟨p, hp, rfl⟩ := List.mem_map.mp hd
  have hh := h1 p hp
  have := unk_mk (ss := [p.1, p.2]) (n := n) (fun i hi => by simp at hi; omega) (by simp; omega)
  rw [Bool.and_eq_true]
  exact ⟨this, rfl⟩
theorem bad_none {x : D} {n : Nat} (h : badEq x n = none) : ∃ es : List Eqn, seqL x = some (es.map eqD) ∧ ∀ e ∈ es, EqnOk n e := by
  unfold badEq at h
  split at h
  · cases h
  · rename_i l hl
    rw [List.findIdx?_eq_none_iff] at h
    have key : ∀ l : List D, (∀ x ∈ l, (!isEqD x n) = false) → ∃ es : List Eqn, l = es.map eqD ∧ ∀ e ∈ es, EqnOk n e := by
      intro l
      induction l with
      | nil => intro _; exact ⟨[], rfl, fun _ h => nomatch h⟩
      | cons d l ih =>
        intro h
        obtain ⟨es, rfl, he⟩ := ih fun x hx => h x (List.mem_cons_of_mem _ hx)
        obtain ⟨e, rfl, ho⟩ := eq_of (by simpa using h d List.mem_cons_self)
        refine ⟨e :: es, rfl, fun y hy => ?_⟩
        rcases List.mem_cons.mp hy with rfl | hy
        · exact ho
        · exact he y hy
    obtain ⟨es, rfl, he⟩ := key l h
    exact ⟨es, hl, he⟩
theorem bad_ok {x : D} {n : Nat} {es : List Eqn} (h : seqL x = some (es.map eqD)) (he : ∀ e ∈ es, EqnOk n e) : badEq x n = none := by
  unfold badEq
  rw [h]
  simp only [List.findIdx?_eq_none_iff]
  intro d hd
  obtain ⟨e, hm, rfl⟩ := List.mem_map.mp hd
  rw [eq_mk (he e hm)]
  rfl
theorem p_System_init {a : Addr} {ds : List D} {Q : List Str → List D → Prop} {E : D → Prop} (h : I_System A ds Q E) : w_System_init A (X0 E) { nx := fun ρ => ∃ ns l, gt ρ 0 = .oi a A.System ns l ∧ Q ns l, rt := fun _ => False } (.oi a A.System [] [] :: (ds.map .d ++ List.replicate (N_System_init.length - (ds.length + 1)) .no)) := by
  obtain ⟨v, x, rfl, ⟨ov, ox, sx⟩, q1, q2⟩ := h
  refine ⟨v, 1, 12, rfl, ov, fun z => q1 (by simpa using z), fun z => ?_⟩
  have z : betw v 1 12 = true := by simpa using z
  obtain ⟨i, rfl, h1, h2⟩ := betw_int z
  obtain ⟨n, rfl⟩ := Int.eq_ofNat_of_zero_le (show 0 ≤ i by omega)
  obtain ⟨q3, q4⟩ := q2 z n rfl
  refine ⟨n, x, rfl, ⟨ox, sx⟩, fun k hk => q3 k hk, fun hk => ?_⟩
  obtain ⟨es, hs, he⟩ := bad_none hk
  have g := q4 hk es hs he
  have hl := (seqL_ok hs ox sx).1
  have ht : fTuple [x] = .ok (.tup (es.map eqD)) := by
    cases x <;> simp only [seqL, Option.some.injEq] at hs <;> first | (cases hs; done) | (subst hs; rfl)
  refine ⟨rfl, ⟨rfl, by decide⟩, ?_⟩
  show (fTuple [x]).run _
  rw [ht]
  exact ⟨rfl, ⟨by decide, by decide⟩, _, _, rfl, g⟩
/-! does it fit -/
theorem bat_get {u : List Bool} {i : Nat} (h : i < u.length) : (u.map bit)[i]? = some (bit (bat u i)) := by
  rw [List.getElem?_map, List.getElem?_eq_getElem h]
  unfold bat
  rw [List.getD_eq_getElem?_getD, List.getElem?_eq_getElem h]
  rfl
theorem lcPr {te : DW} {i j : Nat} {ρb : List SD} {f : Nat × Nat → D} {Q : List D → Prop} : ∀ (xs : List (Nat × Nat)) (acc : List D), (∀ p ∈ xs, ∀ P : D → Prop, P (f p) → te (st (st ρb i (.d (.int (p.1 : Int)))) j (.d (.int (p.2 : Int)))) fun y _ => P y) → Q (acc ++ xs.map f) →
    lcW (gTp 2 (gCn (gNm i) (gCn (gNm j) gNl))) wYes te ρb (xs.map prD) acc Q
  | [], acc, _, q => by
    show Q acc
    simpa using q
  | p :: xs, acc, h, q => by
    have h1 := h p List.mem_cons_self (fun z => lcW (gTp 2 (gCn (gNm i) (gCn (gNm j) gNl))) wYes te ρb (xs.map prD) (acc ++ [z]) Q) (lcPr xs _ (fun p hp => h p (List.mem_cons_of_mem _ hp)) (by simpa using q))
    exact ⟨rfl, rfl, fun _ => h1, fun e => nomatch e⟩
theorem and_bits {a b : Bool} {P : D → Prop} (p : P (bit (a && b))) : (fAnd (bit a) (bit b)).run P := by
  show P (.int (Builtin.bitAnd (if a then 1 else 0) (if b then 1 else 0)))
  rw [band]
  exact p
theorem fit_sum {k1 k2 : Nat} {x y r : Bool} (h1 : ((k1 : Int) % 2 = if x then 1 else 0)) (h2 : ((k2 : Int) % 2 = if y then 1 else 0)) : decide (((k1 : Int) + (k2 : Int)) % 2 = if r then 1 else 0) = ((x != y) == r) := by
  cases x <;> cases y <;> cases r <;> simp at h1 h2 ⊢ <;> omega
theorem inc_len {m : Nat} : ∀ (l : List Nat) (lo : Nat), l.Pairwise (· < ·) → (∀ i ∈ l, lo ≤ i ∧ i < m) → l.length ≤ m - lo
  | [], _, _, _ => Nat.zero_le _
  | a :: l, lo, hp, h => by
    have h1 := h a List.mem_cons_self
    have := inc_len l (a + 1) (List.pairwise_cons.mp hp).2 fun i hi => ⟨(List.pairwise_cons.mp hp).1 i hi, (h i (List.mem_cons_of_mem _ hi)).2⟩
    rw [List.length_cons]
    omega
theorem eqn_len {n : Nat} {e : Eqn} (hn : n ≤ 12) (h : EqnOk n e) : e.ps.length ≤ 144 ∧ e.ss.length ≤ 12 := by
  obtain ⟨⟨h1, h2⟩, h3, h4⟩ := h
  refine ⟨?_, ?_⟩
  · have := inc_len (m := 144) (e.ps.map fun p => p.1 * 12 + p.2) 0 ?_ ?_
    · rw [List.length_map] at this
      omega
    · rw [List.pairwise_map]
      refine h2.imp_of_mem fun {p q} hp hq lt => ?_
      have a := h1 p hp
      have b := h1 q hq
      rcases lt with lt | ⟨e, lt⟩ <;> omega
    · intro i hi
      obtain ⟨p, hp, rfl⟩ := List.mem_map.mp hi
      have a := h1 p hp
      omega
  · have := inc_len (m := n) e.ss 0 h4 fun i hi => ⟨Nat.zero_le _, h3 i hi⟩
    omega
theorem p_is_fitting (h : S_is_fitting A ds Q E) : w_is_fitting A (X0 E) (E0D Q) (ρ0 N_is_fitting ds) := by
  obtain ⟨u, e, rfl, ⟨hu, he⟩, q⟩ := h
  obtain ⟨l1, l2⟩ := eqn_len hu he
  obtain ⟨⟨h1, h2⟩, h3, h4⟩ := he
  obtain ⟨k1, s1, m1⟩ := sum_bits (e.ps.map fun p => bat u p.1 && bat u p.2)
  obtain ⟨k2, s2, m2⟩ := sum_bits (e.ss.map (bat u))
  refine ⟨rfl, rfl, ?_⟩
  refine ⟨by simp; omega, lcPr (f := fun p => bit (bat u p.1 && bat u p.2)) e.ps [] (fun p hp P hP => ?_) ?_⟩
  · have hh := h1 p hp
    exact x_iT p.1 rfl (bat_get (by omega)) (x_iT p.2 rfl (bat_get (by omega)) (and_bits hP))
  have e1 : ([] : List D) ++ e.ps.map (fun p => bit (bat u p.1 && bat u p.2)) = (e.ps.map fun p => bat u p.1 && bat u p.2).map bit := by
    rw [List.nil_append, List.map_map]; rfl
  rw [e1]
  show (fSum [.lst _]).run _
  rw [s1]
  refine ⟨by simp; omega, lcM (g := nD) (f := fun i => bit (bat u i)) e.ss [] (fun i hi P hP => ?_) ?_⟩
  · exact x_iT i rfl (bat_get (h3 i hi)) hP
  have e2 : ([] : List D) ++ e.ss.map (fun i => bit (bat u i)) = (e.ss.map (bat u)).map bit := by
    rw [List.nil_append, List.map_map]; rfl
  rw [e2]
  show (fSum [.lst _]).run _
  rw [s2]
  show Q (.bl (decide (Builtin.bitAnd ((k1 : Int) + (k2 : Int)) 1 = if e.r then 1 else 0)))
  rw [bitAnd_m1, fit_sum m1 m2]
  exact q
theorem wd_un (u : List Bool) : unW (wd u) = u := by
  show (u.map bit).map _ = u
  rw [List.map_map]
  have : ∀ b : Bool, (match bit b with | D.int i => decide (i = 1) | _ => false) = b := fun b => by cases b <;> rfl
  induction u with
  | nil => rfl
  | cons b u ih =>
    rw [List.map_cons, ih]
    congr 1
    exact this b
theorem isWd_wd {v : D} {n : Nat} (h : isWd v n = true) : ∃ u, v = wd u ∧ u.length = n := by
  cases v with
  | tup l =>
    unfold isWd at h
    simp only [Bool.and_eq_true, decide_eq_true_eq] at h
    obtain ⟨u, rfl⟩ := bits_of h.2
    refine ⟨u, rfl, ?_⟩
    have := h.1.2.2
    rw [List.length_map] at this
    omega
  | _ => cases h
theorem p_System_first_wrong (h : S_System_first_wrong A ds Q E) : w_System_first_wrong A (X0 E) (E0D Q) (ρ0 N_System_first_wrong ds) := by
  obtain ⟨n, es, v, rfl, ⟨⟨⟨n1, n2⟩, he, hl⟩, ov⟩, q1, q2⟩ := h
  refine ⟨rfl, ⟨v, (n : Int), rfl, ov, fun z => q1 (by simpa using z), fun z => ?_⟩⟩
  have z : isWd v n = true := by simpa using z
  obtain ⟨u, rfl, hu⟩ := isWd_wd z
  have q := q2 z u rfl
  refine ⟨rfl, ?_⟩
  have key : ∀ (suf : List Eqn) (k : Nat) (x y : SD), (∀ e ∈ suf, e ∈ es) → Q (optD ((firstW suf u).map (· + k))) →
      forW (gTp 2 (gCn (gNm 2) (gCn (gNm 3) gNl))) (wIf (wNotT (wTst (wCall (S_is_fitting A) (wCons (wV 1) (wCons (wV 3) wNil)) (X0 E)))) (wRet (wV 2)) wNext) ((suf.map eqD).zipIdx k |>.map fun p => D.tup [.int (p.2 : Int), p.1]) { E0D Q with nx := fun ρ1 => wRet (wC .non) (E0D Q) ρ1 } [.d (sys A n es), .d (wd u), x, y] := by
    intro suf
    induction suf with
    | nil => intro k x y _ q; exact q
    | cons e suf ih =>
      intro k x y hs q
      refine ⟨rfl, rfl, u, e, rfl, ⟨by omega, by rw [hu]; exact he e (hs e List.mem_cons_self)⟩, fun z => ?_, fun z => ?_⟩
      · have z : fitE e u = false := by simpa using z
        have e1 : firstW (e :: suf) u = some 0 := by unfold firstW; rw [List.findIdx?_cons, z]; rfl
        rw [e1] at q
        show Q (.int (k : Int))
        simpa [optD] using q
      · have z : fitE e u = true := by simpa using z
        refine ih (k + 1) _ _ (fun y hy => hs y (List.mem_cons_of_mem _ hy)) ?_
        have e1 : firstW (e :: suf) u = (firstW suf u).map (· + 1) := by unfold firstW; rw [List.findIdx?_cons, z]; rfl
        rw [e1, Option.map_map] at q
        have e2 : ((· + k) ∘ (· + 1) : Nat → Nat) = (· + (k + 1)) := by funext i; simp; omega
        rw [e2] at q
        exact q
  have go := key es 0 .no .no (fun _ h => h) (by simpa using q)
  have en : enumD (es.map eqD) = ((es.map eqD).zipIdx 0).map fun p => D.tup [.int (p.2 : Int), p.1] := by
    unfold enumD
    rw [List.mapIdx_eq_zipIdx_map]
  rw [← en] at go
  exact go
theorem c_is_sol_eq {n : Nat} {es : List Eqn} {u : List Bool} (h : isWd (wd u) n = true) : isSol n es (wd u) = es.all fun e => fitE e u := by
  unfold isSol
  rw [h, wd_un]; rfl
theorem firstW_none {es : List Eqn} {u : List Bool} : (firstW es u = none) ↔ (es.all fun e => fitE e u) = true := by
  unfold firstW
  rw [List.findIdx?_eq_none_iff, List.all_eq_true]
  simp
theorem isN_opt {o : Option Nat} {Q : D → Prop} (q : Q (.bl (decide (o = none)))) : (fIsN (optD o)).run Q := by
  cases o with
  | none => exact q
  | some k => exact q
theorem p_System_contains (h : S_System_contains A ds Q E) : w_System_contains A (X0 E) (E0D Q) (ρ0 N_System_contains ds) := by
  obtain ⟨n, es, v, rfl, ⟨so, ov⟩, q⟩ := h
  refine ⟨rfl, ⟨v, (n : Int), rfl, ov, fun z => ?_, fun z => ?_⟩⟩
  · obtain ⟨u, rfl, hu⟩ := isWd_wd z
    rw [c_is_sol_eq z] at q
    refine ⟨⟨_, _, rfl, by decide⟩, ⟨n, es, wd u, rfl, ⟨so, ov⟩, fun z2 => absurd (z.symm.trans z2) (by decide), fun _ u' hu' => ?_⟩⟩
    rw [← wd_inj hu']
    refine isN_opt ?_
    have : decide (firstW es u = none) = es.all fun e => fitE e u := by
      by_cases hh : firstW es u = none
      · rw [decide_eq_true hh, firstW_none.mp hh]
      · rw [decide_eq_false hh]
        cases e : (es.all fun e => fitE e u) with
        | false => rfl
        | true => exact absurd (firstW_none.mpr e) hh
    rw [this]
    exact q
  · have : isSol n es v = false := by unfold isSol; rw [z]; rfl
    rw [this] at q
    exact q
/-- with a condition -/
theorem lcIf {α : Type} {tt : DT} {te : DW} {i : Nat} {ρb : List SD} {g f : α → D} {p : α → Bool} {Q : List D → Prop} : ∀ (xs : List α) (acc : List D), (∀ x ∈ xs, ∀ P : Bool → Prop, P (p x) → tt (st ρb i (.d (g x))) fun b ρ2 => ρ2 = st ρb i (.d (g x)) ∧ P b) → (∀ x ∈ xs, p x = true → ∀ P : D → Prop, P (f x) → te (st ρb i (.d (g x))) fun y _ => P y) → (mt : Mono tt) →
    Q (acc ++ (xs.filter p).map f) → lcW (gNm i) tt te ρb (xs.map g) acc Q
  | [], acc, _, _, _, q => by
    show Q acc
    simpa using q
  | x :: xs, acc, h, h2, mt, q => by
    refine mt _ _ _ (fun b ρ2 z => ?_) (h x List.mem_cons_self (fun b => b = p x) rfl)
    obtain ⟨rfl, rfl⟩ := z
    refine ⟨fun e => ?_, fun e => ?_⟩
    · refine h2 x List.mem_cons_self e _ (lcIf xs _ (fun y hy => h y (List.mem_cons_of_mem _ hy)) (fun y hy => h2 y (List.mem_cons_of_mem _ hy)) mt ?_)
      rw [List.filter_cons_of_pos e] at q
      simpa using q
    · refine lcIf xs _ (fun y hy => h y (List.mem_cons_of_mem _ hy)) (fun y hy => h2 y (List.mem_cons_of_mem _ hy)) mt ?_
      rw [List.filter_cons_of_neg (by rw [e]; decide)] at q
      exact q
theorem p_System_solutions (h : S_System_solutions A ds Q E) : w_System_solutions A (X0 E) (E0D Q) (ρ0 N_System_solutions ds) := by
  obtain ⟨n, es, rfl, so, q⟩ := h
  obtain ⟨n1, n2⟩ := so.1
  refine ⟨rfl, ⟨.int (n : Int), rfl, rfl, fun z => ?_, fun _ m hm => ?_⟩⟩
  · exact absurd z (by simp [betw]; omega)
  have hm : n = m := by have := D.int.inj hm; omega
  subst hm
  have hp : 2 ^ n ≤ 2 ^ 12 := Nat.pow_le_pow_right (by decide) n2
  refine ⟨by rw [List.length_map, wordsL_len]; omega, lcIf (p := fun u => es.all fun e => fitE e u) (f := wd) (wordsL n) [] (fun u hu P p => ?_) (fun u hu _ P p => p) (mo_Tst (mo_Un (mo_Meth (mS_System_first_wrong A) mo_V (mo_Cons mo_V mo_Nil)))) ?_⟩
  · have ul := wordsL_mem n u hu
    refine ⟨⟨_, _, rfl, by decide⟩, ⟨n, es, wd u, rfl, ⟨so, okW_wd u⟩, fun z => absurd (wd_wd (by omega) (by omega) ul) (by rw [z]; decide), fun _ u' hu' => ?_⟩⟩
    rw [← wd_inj hu']
    refine isN_opt ⟨rfl, ?_⟩
    have : decide (firstW es u = none) = es.all fun e => fitE e u := by
      by_cases hh : firstW es u = none
      · rw [decide_eq_true hh, firstW_none.mp hh]
      · rw [decide_eq_false hh]
        cases e : (es.all fun e => fitE e u) with
        | false => rfl
        | true => exact absurd (firstW_none.mpr e) hh
    rw [this]
    exact p
  · exact q
end
end PL
end L2

namespace L2
namespace PL
open PySem PySem.Spec PyProof.Rows
variable [Tabl]
/-! the tape's draw -/
section
variable {A : Ad}
theorem seq_cutT {a b : DS2} {E : DE2} {ρ : List SD} (P : List SD → Prop) (ha : ∀ N : List SD → Prop, (∀ ρ', P ρ' → N ρ') → a { E with nx := N } ρ) (hb : ∀ ρ', P ρ' → b E ρ') : wSeq2 a b E ρ := ha _ hb
theorem fmod_ltT {a b : Int} (h : 0 < b) : 0 ≤ a.fmod b ∧ a.fmod b < b := by
  rw [Int.fmod_eq_emod_of_nonneg _ (by omega)]
  exact ⟨Int.emod_nonneg _ (by omega), Int.emod_lt_of_pos _ h⟩
/-- behind the value -/
def tpK (j : Nat) (E : DE) (d : D) (ρ1 : List SD) : Prop := match gt ρ1 0 with
  | .od a ks l => ks = TK ∧ l.length = 6 ∧ E.nx (st ρ1 0 (.od a ks (l.set j d)))
  | _ => False
section
variable {t : Addr} {ns : List Int} {n : Nat} {a b d u z : Int} {ρ : List SD} {Q : D → List SD → Prop} {E : DE}
theorem ti_0 : wTpI 0 0 (.od t TK (stT ns n a b d u) :: ρ) Q = Q (.lst (ns.map .int)) (.od t TK (stT ns n a b d u) :: ρ) := propext ⟨fun h => h.2.2, fun h => ⟨rfl, rfl, h⟩⟩
theorem ti_1 : wTpI 0 1 (.od t TK (stT ns n a b d u) :: ρ) Q = Q (.int (n : Int)) (.od t TK (stT ns n a b d u) :: ρ) := propext ⟨fun h => h.2.2, fun h => ⟨rfl, rfl, h⟩⟩
theorem ti_2 : wTpI 0 2 (.od t TK (stT ns n a b d u) :: ρ) Q = Q (.int a) (.od t TK (stT ns n a b d u) :: ρ) := propext ⟨fun h => h.2.2, fun h => ⟨rfl, rfl, h⟩⟩
theorem ti_3 : wTpI 0 3 (.od t TK (stT ns n a b d u) :: ρ) Q = Q (.int b) (.od t TK (stT ns n a b d u) :: ρ) := propext ⟨fun h => h.2.2, fun h => ⟨rfl, rfl, h⟩⟩
theorem ti_4 : wTpI 0 4 (.od t TK (stT ns n a b d u) :: ρ) Q = Q (.int d) (.od t TK (stT ns n a b d u) :: ρ) := propext ⟨fun h => h.2.2, fun h => ⟨rfl, rfl, h⟩⟩
theorem ti_5 : wTpI 0 5 (.od t TK (stT ns n a b d u) :: ρ) Q = Q (.int u) (.od t TK (stT ns n a b d u) :: ρ) := propext ⟨fun h => h.2.2, fun h => ⟨rfl, rfl, h⟩⟩
theorem ts_w {j : Nat} {we : DW} {ρ : List SD} : wTpS 0 j we E ρ = we ρ (fun d ρ1 => tpK j E d ρ1) := rfl
theorem tk_1 : tpK 1 E (.int ((n : Int) + 1)) (.od t TK (stT ns n a b d u) :: ρ) = E.nx (.od t TK (stT ns (n + 1) a b d u) :: ρ) := propext ⟨fun h => h.2.2, fun h => ⟨rfl, rfl, h⟩⟩
theorem tk_2 : tpK 2 E (.int z) (.od t TK (stT ns n a b d u) :: ρ) = E.nx (.od t TK (stT ns n z b d u) :: ρ) := propext ⟨fun h => h.2.2, fun h => ⟨rfl, rfl, h⟩⟩
theorem tk_3 : tpK 3 E (.int z) (.od t TK (stT ns n a b d u) :: ρ) = E.nx (.od t TK (stT ns n a z d u) :: ρ) := propext ⟨fun h => h.2.2, fun h => ⟨rfl, rfl, h⟩⟩
theorem tk_4 : tpK 4 E (.int z) (.od t TK (stT ns n a b d u) :: ρ) = E.nx (.od t TK (stT ns n a b z u) :: ρ) := propext ⟨fun h => h.2.2, fun h => ⟨rfl, rfl, h⟩⟩
theorem tk_5 : tpK 5 E (.int z) (.od t TK (stT ns n a b d u) :: ρ) = E.nx (.od t TK (stT ns n a b d z) :: ρ) := propext ⟨fun h => h.2.2, fun h => ⟨rfl, rfl, h⟩⟩
end
theorem p__law_drawT {t : Addr} {ns : List Int} {n : Nat} {a b d u m : Int} (hm : 0 < m) : w__law_draw A NoX { nx := fun _ => False, rt := fun x ρ => (∃ v : Int, x = .int v ∧ 0 ≤ v ∧ v < m) ∧ ∃ ns n a b d u, gt ρ 0 = .od t TK (stT ns n a b d u) } (.od t TK (stT ns n a b d u) :: .d (.int m) :: List.replicate (N__law_draw.length - 2) .no) := by
  unfold w__law_draw
  refine seq_cutT (fun ρ => ρ = [.od t TK (stT ns n a b d (u + 1)), .d (.int m), .no, .no]) (fun N hN => ?_) ?_
  · show wTpS 0 5 _ _ _
    rw [ts_w]
    simp only [wOp, ti_5, wC, r_ok, fAdd, tk_5]
    exact hN _ rfl
  rintro _ rfl
  refine seq_cutT (fun ρ => ∃ ns n a b d u x, ρ = [.od t TK (stT ns n a b d u), .d (.int m), .no, x]) (fun N hN => ?_) ?_
  · simp only [wIf2, wNext2, wAndT, wTst, wOp, ti_3, ti_1, ti_0, wC, r_ok, fEq, fLt, wCal, wCons, wNil, fLen]
    refine ⟨fun _ => ⟨fun z => ?_, fun _ => hN _ ⟨ns, n, a, b, d, _, _, rfl⟩⟩, fun _ => ⟨fun z => Bool.noConfusion z, fun _ => hN _ ⟨ns, n, a, b, d, _, _, rfl⟩⟩⟩
    have z : n < (ns.map D.int).length := by simpa using z
    simp only [wSeq2, wLift, wSet, wOp, ti_0, ti_1]
    refine x_idxL (k := n) (List.getElem?_eq_getElem z) ?_
    rw [List.getElem_map]
    simp only [gt, st, lstOf, ts_w, wOp, ti_0, ti_1, ti_2, ti_3, ti_4, ti_5, wC, r_ok, fAdd, tk_1, wCall, wCons, wNil, wV]
    refine ⟨_, _, rfl, fun v _ => ?_⟩
    simp only [gt, st, lstOf, ts_w, wOp, ti_0, ti_1, ti_2, ti_3, ti_4, ti_5, wC, r_ok, fAdd, tk_1, tk_2, tk_3, tk_4, tk_5, wCall, wCons, wNil, wV, wIf2, wTst, fGe, fPow, r_gd, wNext2, wSeq2, wLift]
    refine ⟨⟨by decide, by decide, by decide⟩, fun _ => hN _ ⟨ns, n + 1, _, _, _, _, _, rfl⟩, fun _ => hN _ ⟨ns, n + 1, _, _, _, _, _, rfl⟩⟩
  rintro _ ⟨ns, n, a, b, d, u, x, rfl⟩
  refine seq_cutT (fun ρ => ∃ ns n a b d u x, ρ = [.od t TK (stT ns n a b d u), .d (.int m), .no, x]) (fun N hN => ?_) ?_
  · simp only [wIf2, wNext2, wTst, wOp, ti_3, wC, r_ok, fGt, fSub, wLift, ts_w, tk_3]
    exact ⟨fun _ => hN _ ⟨ns, n, a, _, d, _, _, rfl⟩, fun _ => hN _ ⟨ns, n, a, b, d, _, _, rfl⟩⟩
  rintro _ ⟨ns, n, a, b, d, u, x, rfl⟩
  have fin : ∀ (y : Int) (ns' : List Int) (n' : Nat) (a' b' d' u' : Int), (∃ v, D.int (y.fmod m) = D.int v ∧ 0 ≤ v ∧ v < m) ∧ ∃ ns_1 n_1 a_1 b_1 d_1 u_1, SD.od t TK (stT ns' n' a' b' d' u') = SD.od t TK (stT ns_1 n_1 a_1 b_1 d_1 u_1) := fun y ns' n' a' b' d' u' =>
    ⟨⟨_, rfl, (fmod_ltT hm).1, (fmod_ltT hm).2⟩, ns', n', a', b', d', u', rfl⟩
  have hm0 : m ≠ 0 := by omega
  simp only [wIf2, wNext2, wSeq2, wRet2, wTst, wOp, ti_2, ti_4, ti_5, wC, r_ok, fEq, wCall, wCons, wNil, wCal]
  refine ⟨fun _ => ⟨_, _, rfl, fun v _ => ?_⟩, fun _ => ?_⟩
  · exact ⟨hm0, fin _ _ _ _ _ _ _⟩
  simp only [wLift, wSet, wOp, wCal, wCons, wNil, ti_2, ti_3, wC, r_ok, fInt, fMod, r_gd, st, gt, lstOf, ts_w, fDiv, tk_2, tk_3, wOrT, wTst, fEq, wV]
  have f2 := fun y ns' n' a' b' d' u' => And.intro hm0 (fin y ns' n' a' b' d' u')
  exact ⟨by decide, ⟨by decide, .inl (by decide)⟩, fun _ => ⟨fun _ => f2 _ _ _ _ _ _ _, fun _ => f2 _ _ _ _ _ _ _⟩, fun _ => ⟨fun _ => f2 _ _ _ _ _ _ _, fun _ => f2 _ _ _ _ _ _ _⟩⟩
end
section
variable {A : Ad} {ds : List D} {Q E : D → Prop}
theorem p__law_mixed (h : S__law_mixed A ds Q E) : w__law_mixed A (X0 E) (E0D Q) (ρ0 N__law_mixed ds) := by
  obtain ⟨a, b, rfl, q⟩ := h
  unfold w__law_mixed
  refine seq_cut (a := wSet 2 _) (fun ρ => ∃ f : Int, (0 ≤ f ∧ f < 2147483647) ∧ ρ = [.d (.int a), .d (.int b), .d (.int f), .no]) (fun N hN => ?_) ?_
  · exact And.intro (show MulB _ _ from .inl (.inr (by decide))) (And.intro (show MulB _ _ from .inl (.inr (by decide))) (And.intro (show (2147483647 : Int) ≠ 0 by decide) (hN _ ⟨_, fmod_ltT (by decide), rfl⟩)))
  rintro _ ⟨f, _, rfl⟩
  refine seq_cut (a := wSet 3 _) (fun ρ => ∃ s : Int, (0 ≤ s ∧ s < 1000003) ∧ ρ = [.d (.int a), .d (.int b), .d (.int f), .d (.int s)]) (fun N hN => ?_) ?_
  · exact And.intro (show MulB _ _ from .inl (.inr (by decide))) (And.intro (show DivB _ from ⟨by decide, .inl (by decide)⟩) (And.intro (show MulB _ _ from .inl (.inr (by decide))) (And.intro (show (1000003 : Int) ≠ 0 by decide) (hN _ ⟨_, fmod_ltT (by decide), rfl⟩))))
  rintro _ ⟨s, ⟨s0, s1⟩, rfl⟩
  exact And.intro (show MulB _ _ from .inl (.inr (by omega))) (And.intro (show DivB _ from ⟨by decide, .inl (by decide)⟩) (And.intro (show (999983 : Int) ≠ 0 by decide) (q _ (fmod_ltT (by decide)).1)))
theorem c_draw {m : Int} (h0 : 0 < m) (q : ∀ v, 0 ≤ v → v < m → Q (.int v)) : Call (S__law_draw A) [.tok 3, .int m] Q E := ⟨m, rfl, h0, q⟩
theorem c_drawN {m : Int} (h0 : 0 < m) (q : ∀ v : Nat, (v : Int) < m → Q (.int v)) : Call (S__law_draw A) [.tok 3, .int m] Q E := c_draw h0 fun v v0 v1 => by
  obtain ⟨k, rfl⟩ := Int.eq_ofNat_of_zero_le v0
  exact q k v1
theorem p__law_pick (h : S__law_pick A ds Q E) : w__law_pick A (X0 E) (E0D Q) (ρ0 N__law_pick ds) := by
  obtain ⟨x, l, rfl, ⟨hx, h0, _⟩, q⟩ := h
  have key : ∀ v : Nat, (v : Int) < (l.length : Int) → ∃ d, l[v]? = some d ∧ d ∈ l := fun v hv => by
    have hv : v < l.length := by omega
    exact ⟨_, List.getElem?_eq_getElem hv, List.getElem_mem hv⟩
  rcases hx with rfl | rfl
  · refine c_drawN (m := (l.length : Int)) (by omega) fun v hv => ?_
    obtain ⟨d, e, hd⟩ := key v hv
    exact x_idxL e (q d hd)
  · refine c_drawN (m := (l.length : Int)) (by omega) fun v hv => ?_
    obtain ⟨d, e, hd⟩ := key v hv
    exact x_idxT e (q d hd)
theorem fmod2T (k : Int) : k.fmod 2 = if decide (k % 2 = 1) then 1 else 0 := by
  rw [Int.fmod_eq_emod_of_nonneg _ (by decide)]
  rcases (by omega : k % 2 = 0 ∨ k % 2 = 1) with h | h <;> simp [h]
theorem int_bit {v : Int} (h0 : 0 ≤ v) (h1 : v < 2) : D.int v = bit (decide (v = 1)) := by
  rcases (by omega : v = 0 ∨ v = 1) with rfl | rfl <;> rfl
theorem p__law_wordV (h : S__law_wordV A ds Q E) : w__law_wordV A (X0 E) (E0D Q) (ρ0 N__law_wordV ds) := by
  obtain ⟨n, rfl, hn, q⟩ := h
  refine seq_cut (a := wSet 2 _) (fun ρ => ρ = [.d (.tok 3), .d (.int n), .d (.lst []), .no, .no, .no]) (fun N hN => And.intro (show (0 : Nat) ≤ 16777216 by decide) (hN _ rfl)) ?_
  rintro _ rfl
  have e8 : ((n : Int) + 7).fdiv 8 = (((n + 7) / 8 : Nat) : Int) := by
    rw [Int.fdiv_eq_ediv_of_nonneg _ (by decide)]
    omega
  refine seq_cut (a := wFor _ _ _) (fun ρ => ∃ (us : List Bool) (x y : SD), n ≤ us.length ∧ ρ = [.d (.tok 3), .d (.int n), .d (.lst (us.map bit)), x, y, .no]) (fun N hN => ?_) ?_
  · refine And.intro (show DivB 8 from ⟨by decide, .inl (by decide)⟩) ?_
    show _ ∧ _
    rw [e8]
    refine And.intro (show _ ∧ _ from ⟨by omega, by omega⟩) ?_
    rw [Int.toNat_natCast]
    refine forRng (n := (n + 7) / 8) (I := fun k ρ => ∃ (us : List Bool) (x y : SD), us.length = 8 * k ∧ ρ = [.d (.tok 3), .d (.int n), .d (.lst (us.map bit)), x, y, .no]) (fun k hk ρ N hI hN => ?_) (fun ρ hI => ?_) ⟨[], .no, .no, rfl, rfl⟩
    · obtain ⟨us, x, y, hu, rfl⟩ := hI
      refine c_drawN (m := 256) (by decide) fun v hv => ?_
      refine And.intro (show _ ∧ _ from ⟨by decide, by decide⟩) (And.intro (show _ ≤ _ by rw [rng_len]; decide) ?_)
      refine lcRngR (n := 8) (R := fun y => isBit y = true) (fun k hk P hP => ?_) fun ys hl hy => ?_
      · refine And.intro (show _ from ?_) (And.intro (show (2 : Int) ≠ 0 by decide) (hP _ ?_))
        · omega
        · rw [fmod2T]; exact bit_isBit _
      · obtain ⟨w, rfl⟩ := bits_of (List.all_eq_true.mpr hy)
        have hl : w.length = 8 := by simpa using hl
        refine And.intro (show _ ≤ _ by simp; omega) (hN _ ⟨us ++ w, .d (.int (k : Int)), .d (.int (v : Int)), ?_, ?_⟩)
        · rw [List.length_append]
          omega
        · rw [List.map_append]; rfl
    · obtain ⟨us, x, y, hu, rfl⟩ := hI
      exact hN _ ⟨us, x, y, by omega, rfl⟩
  rintro _ ⟨us, x, y, hu, rfl⟩
  have ec : cutD (us.map bit) none (some (n : Int)) = (us.take n).map bit := by
    have e1 : HT.sIx (us.map bit).length 0 none = 0 := rfl
    have e2 : HT.sIx (us.map bit).length (us.map bit).length (some (n : Int)) = n := by
      simp only [HT.sIx, List.length_map]
      rw [if_neg (by omega)]
      omega
    unfold cutD
    rw [e1, e2]
    simp
  have go : (fTuple [.lst (cutD (us.map bit) none (some (n : Int)))]).run Q := by
    rw [ec]
    exact q _ (by simp; omega)
  exact go
theorem lc_words {n : Nat} {Q : D → Prop} (hn : n ≤ 12) (q : Q (.lst ((wordsL n).map wd))) : Q (.lst ((List.range (2 ^ n)).map fun k => wd (bitsL n k))) := by
  rw [words_bits, List.map_map] at q
  exact q
theorem p__law_wordsV (h : S__law_wordsV A ds Q E) : w__law_wordsV A (X0 E) (E0D Q) (ρ0 N__law_wordsV ds) := by
  obtain ⟨n, rfl, hn, q⟩ := h
  have hp : 2 ^ n ≤ 2 ^ 12 := Nat.pow_le_pow_right (by decide) hn
  have e : (2 : Int) ^ n = ((2 ^ n : Nat) : Int) := by simp
  refine And.intro (show _ from ⟨by omega, by omega, by decide⟩) ?_
  have es : (1 : Int) * 2 ^ (n : Int).toNat = ((2 ^ n : Nat) : Int) := by simp
  have es2 : (1 * 2 ^ (n : Int).toNat : Int).toNat = 2 ^ n := by rw [es, Int.toNat_natCast]
  have b1 : (2 : Int) ^ (n : Int).toNat = ((2 ^ n : Nat) : Int) := by simp
  refine And.intro (show _ ∧ _ from ⟨by omega, by omega⟩) ?_
  rw [es2]
  refine And.intro (show _ ≤ _ by rw [rng_len]; omega) (lcRng (F := fun k => wd (bitsL n k)) (fun k hk P hP => ?_) (lc_words hn q))
  refine And.intro (show _ ∧ _ from ⟨by omega, by omega⟩) ?_
  rw [Int.toNat_natCast]
  refine And.intro (show _ ≤ _ by rw [rng_len]; omega) (lcRng (F := fun i => bit (decide (k / 2 ^ (n - 1 - i) % 2 = 1))) (fun i hi P hP => ?_) ?_)
  · refine And.intro (show _ from ?_) (And.intro (show (2 : Int) ≠ 0 by decide) ?_)
    · omega
    · have e : ((n : Int) - 1 - (i : Int)).toNat = n - 1 - i := by omega
      rw [e, fmod2T]
      have e2 : (k : Int) / 2 ^ (n - 1 - i) % 2 = ((k / 2 ^ (n - 1 - i) % 2 : Nat) : Int) := by simp
      rw [e2]
      have e3 : decide (((k / 2 ^ (n - 1 - i) % 2 : Nat) : Int) = 1) = decide (k / 2 ^ (n - 1 - i) % 2 = 1) := by
        congr 1
        exact propext (by omega)
      rw [e3]
      exact hP
  · have e : wd (bitsL n k) = .tup ((List.range n).map fun i => bit (decide (k / 2 ^ (n - 1 - i) % 2 = 1))) := by
      unfold wd bitsL
      rw [List.map_map]
      rfl
    rw [e] at hP
    exact hP
/-! equations -/
theorem mul_bits {a b : Bool} {P : D → Prop} (p : P (bit (a && b))) : (fMul (bit a) (bit b)).run P := by
  have e : (if a then 1 else 0 : Int) * (if b then 1 else 0) = if (a && b) then 1 else 0 := by cases a <;> cases b <;> rfl
  refine And.intro (show MulB _ _ from .inl (.inl (by cases a <;> decide))) ?_
  show P (.int ((if a then 1 else 0) * (if b then 1 else 0)))
  rw [e]
  exact p
theorem left_sum {k1 k2 : Nat} {x y : Bool} (h1 : ((k1 : Int) % 2 = if x then 1 else 0)) (h2 : ((k2 : Int) % 2 = if y then 1 else 0)) : ((k1 : Int) + (k2 : Int)).fmod 2 = if (x != y) then 1 else 0 := by
  rw [Int.fmod_eq_emod_of_nonneg _ (by decide)]
  cases x <;> cases y <;> simp at h1 h2 ⊢ <;> omega
theorem p__law_left (h : S__law_left A ds Q E) : w__law_left A (X0 E) (E0D Q) (ρ0 N__law_left ds) := by
  obtain ⟨u, e, x, r, rfl, ⟨hx, hu, he⟩, q⟩ := h
  obtain ⟨l1, l2⟩ := eqn_len hu he
  obtain ⟨⟨h1, h2⟩, h3, h4⟩ := he
  obtain ⟨k1, s1, m1⟩ := sum_bits (e.ps.map fun p => bat u p.1 && bat u p.2)
  obtain ⟨k2, s2, m2⟩ := sum_bits (e.ss.map (bat u))
  have e1 : ([] : List D) ++ e.ps.map (fun p => bit (bat u p.1 && bat u p.2)) = (e.ps.map fun p => bat u p.1 && bat u p.2).map bit := by
    rw [List.nil_append, List.map_map]; rfl
  have e2 : ([] : List D) ++ e.ss.map (fun i => bit (bat u i)) = (e.ss.map (bat u)).map bit := by
    rw [List.nil_append, List.map_map]; rfl
  have fin : (fSum [.lst ((e.ss.map (bat u)).map bit)]).run fun d => (fAdd (.int (k1 : Int)) d).run fun d => (wRet (wOp fMod (wCal fInt (wCons (wV 2) wNil)) (wC (.int 2)))) (E0D Q) [.d (wd u), .d (.tup [x, .tup (e.ss.map nD), r]), .d d, .no, .no] := by
    rw [s2]
    refine And.intro (show (2 : Int) ≠ 0 by decide) ?_
    show Q (.int (((k1 : Int) + (k2 : Int)).fmod 2))
    rw [left_sum m1 m2]
    exact q
  have two : (wCal fSum (wCons (wLc (wItems (wOp fIdx (wV 1) (wC (.int 1)))) (gNm 3) wYes (wOp fIdx (wV 0) (wV 3)) [3]) wNil)) [.d (wd u), .d (.tup [x, .tup (e.ss.map nD), r]), .no, .no, .no] fun d ρ1 => (fAdd (.int (k1 : Int)) d).run fun d => (wRet (wOp fMod (wCal fInt (wCons (wV 2) wNil)) (wC (.int 2)))) (E0D Q) (st ρ1 2 (.d d)) := by
    refine ⟨by simp; omega, lcM (g := nD) (f := fun i => bit (bat u i)) e.ss [] (fun i hi P hP => ?_) ?_⟩
    · exact x_iT i rfl (bat_get (h3 i hi)) hP
    rw [e2]
    exact fin
  have one : lcW (gTp 2 (gCn (gNm 3) (gCn (gNm 4) gNl))) wYes (wOp fMul (wOp fIdx (wV 0) (wV 3)) (wOp fIdx (wV 0) (wV 4))) [.d (wd u), .d (.tup [x, .tup (e.ss.map nD), r]), .no, .no, .no] (e.ps.map prD) [] fun ys => (fSum [.lst ys]).run fun d => (wCal fSum (wCons (wLc (wItems (wOp fIdx (wV 1) (wC (.int 1)))) (gNm 3) wYes (wOp fIdx (wV 0) (wV 3)) [3]) wNil)) [.d (wd u), .d (.tup [x, .tup (e.ss.map nD), r]), .no, .no, .no] fun d1 ρ1 => (fAdd d d1).run fun d => (wRet (wOp fMod (wCal fInt (wCons (wV 2) wNil)) (wC (.int 2)))) (E0D Q) (st ρ1 2 (.d d)) := by
    refine lcPr (f := fun p => bit (bat u p.1 && bat u p.2)) e.ps [] (fun p hp P hP => ?_) ?_
    · have hh := h1 p hp
      exact x_iT p.1 rfl (bat_get (by omega)) (x_iT p.2 rfl (bat_get (by omega)) (mul_bits hP))
    rw [e1]
    show (fSum [.lst _]).run _
    rw [s1]
    exact two
  rcases hx with rfl | rfl
  · exact And.intro (show _ ≤ _ by simp; omega) one
  · exact And.intro (show _ ≤ _ by simp; omega) one
theorem c_left {u : List Bool} {e : Eqn} {x r : D} (hx : x = .tup (e.ps.map prD) ∨ x = .lst (e.ps.map prD)) (hu : u.length ≤ 12) (he : EqnOk u.length e) (q : Q (bit (leftE e u))) : Call (S__law_left A) [wd u, .tup [x, .tup (e.ss.map nD), r]] Q E := ⟨u, e, x, r, rfl, ⟨hx, hu, he⟩, q⟩
theorem p__law_fits (h : S__law_fits A ds Q E) : w__law_fits A (X0 E) (E0D Q) (ρ0 N__law_fits ds) := by
  obtain ⟨u, e, rfl, ⟨hu, he⟩, q⟩ := h
  refine c_left (.inl rfl) hu he ?_
  have e1 : decide ((if leftE e u then 1 else 0 : Int) = if e.r then 1 else 0) = fitE e u := by
    unfold fitE
    cases leftE e u <;> cases e.r <;> rfl
  show Q (.bl (decide ((if leftE e u then 1 else 0 : Int) = if e.r then 1 else 0)))
  rw [e1]
  exact q
end
end PL
end L2

namespace L2
namespace PL
open PySem PySem.Spec PyProof.Rows
variable [Tabl]
/-! the tape's systems -/
section
variable {A : Ad} {ds : List D} {Q E : D → Prop}
theorem forRngA {wb : DS} {E : DE} {i : Nat} {I : Nat → List SD → Prop} : ∀ (m lo : Nat) (ρ : List SD), (∀ k, lo ≤ k → k < lo + m → ∀ ρ (K : List SD → Prop), I k ρ → (∀ ρ2, I (k + 1) ρ2 → K ρ2) → wb (turnE E K) (st ρ i (.d (.int (k : Int))))) →
    (∀ ρ, I (lo + m) ρ → E.nx ρ) → I lo ρ → forW (gNm i) wb (rng (lo : Int) m) E ρ
  | 0, lo, ρ, _, fin, h => fin ρ h
  | m + 1, lo, ρ, step, fin, h => by
    rw [rng_succ]
    exact step lo (Nat.le_refl _) (by omega) ρ _ h fun ρ2 h2 => forRngA m (lo + 1) ρ2 (fun k h1 h2 => step k (by omega) (by omega)) (fun ρ h => fin ρ (by rw [show lo + (m + 1) = lo + 1 + m by omega]; exact h)) h2
/-- with any condition -/
theorem lcAny {tt : DT} {te : DW} {i : Nat} {ρb : List SD} {Q : List D → Prop} : ∀ (xs acc : List D), (∀ x ∈ xs, ∀ P : Bool → Prop, (∀ b, P b) → tt (st ρb i (.d x)) fun b ρ2 => ρ2 = st ρb i (.d x) ∧ P b) → (∀ x ∈ xs, ∀ P : D → Prop, P x → te (st ρb i (.d x)) fun y _ => P y) → (mt : Mono tt) →
    (∀ ys, ys.Sublist xs → Q (acc ++ ys)) → lcW (gNm i) tt te ρb xs acc Q
  | [], acc, _, _, _, q => by
    have := q [] (List.Sublist.refl _)
    rw [List.append_nil] at this
    exact this
  | x :: xs, acc, h, h2, mt, q => by
    refine mt _ _ _ (fun b ρ2 z => ?_) (h x List.mem_cons_self (fun _ => True) fun _ => trivial)
    obtain ⟨rfl, _⟩ := z
    refine ⟨fun _ => ?_, fun _ => ?_⟩
    · refine h2 x List.mem_cons_self _ (lcAny xs _ (fun y hy => h y (List.mem_cons_of_mem _ hy)) (fun y hy => h2 y (List.mem_cons_of_mem _ hy)) mt fun ys hs => ?_)
      have := q (x :: ys) (hs.cons₂ x)
      simpa using this
    · exact lcAny xs _ (fun y hy => h y (List.mem_cons_of_mem _ hy)) (fun y hy => h2 y (List.mem_cons_of_mem _ hy)) mt fun ys hs => q ys (hs.cons x)
theorem sub_rng {n : Nat} {ys : List D} (h : ys.Sublist (rng 0 n)) : ∃ ss : List Nat, ys = ss.map nD ∧ (∀ i ∈ ss, i < n) ∧ ss.Pairwise (· < ·) := by
  have e : rng 0 n = (List.range n).map nD := by rw [rng_nat]; rfl
  rw [e, List.sublist_map_iff] at h
  obtain ⟨ss, hs, rfl⟩ := h
  exact ⟨ss, rfl, fun i hi => List.mem_range.mp (hs.subset hi), List.Pairwise.sublist hs List.pairwise_lt_range⟩
/-- the pairs so far -/
def PsUp (n : Nat) (ps : List (Nat × Nat)) (k j : Nat) : Prop := (∀ p ∈ ps, p.1 < p.2 ∧ p.2 < n) ∧ ps.Pairwise ltP ∧ ∀ p ∈ ps, p.1 < k ∨ (p.1 = k ∧ p.2 < j)
theorem p__law_equation (h : S__law_equation A ds Q E) : w__law_equation A (X0 E) (E0D Q) (ρ0 N__law_equation ds) := by
  obtain ⟨n, u, rfl, ⟨hu, hn⟩, q⟩ := h
  refine seq_cut (a := wSetO 3 wNil) (fun ρ => ρ = [.d (.tok 3), .d (.int n), .d (wd u), .ol [], .no, .no, .no, .no]) (fun N hN => And.intro (show (0 : Nat) ≤ 16777216 by decide) (hN _ rfl)) ?_
  rintro _ rfl
  refine seq_cut (a := wFor _ _ _) (fun ρ => ∃ (ps : List (Nat × Nat)) (x y : SD), ((∀ p ∈ ps, p.1 < p.2 ∧ p.2 < n) ∧ ps.Pairwise ltP) ∧ ρ = [.d (.tok 3), .d (.int n), .d (wd u), .ol (ps.map prD), x, .no, .no, y]) (fun N hN => ?_) ?_
  · refine And.intro (show _ ∧ _ from ⟨by omega, by omega⟩) ?_
    rw [Int.toNat_natCast]
    refine forRng (n := n) (I := fun k ρ => ∃ (ps : List (Nat × Nat)) (x y : SD), PsUp n ps k 0 ∧ ρ = [.d (.tok 3), .d (.int n), .d (wd u), .ol (ps.map prD), x, .no, .no, y]) (fun k hk ρ N hI hN => ?_) (fun ρ hI => ?_) ⟨[], .no, .no, ⟨(fun _ h => nomatch h), .nil, (fun _ h => nomatch h)⟩, rfl⟩
    · obtain ⟨ps, x, y, hp, rfl⟩ := hI
      refine And.intro (show _ ∧ _ ∧ _ from ⟨by omega, by omega, by omega, by omega⟩) ?_
      have e : ((n : Int) - ((k : Int) + 1)).toNat = n - (k + 1) := by omega
      rw [e]
      refine forRngA (I := fun j ρ => ∃ (ps : List (Nat × Nat)) (y : SD), PsUp n ps k j ∧ ρ = [.d (.tok 3), .d (.int n), .d (wd u), .ol (ps.map prD), .d (.int (k : Int)), .no, .no, y]) (n - (k + 1)) (k + 1) _ (fun j h1 h2 ρ N hI hN => ?_) (fun ρ hI => ?_) ⟨ps, y, ⟨hp.1, hp.2.1, fun p hm => ?_⟩, rfl⟩
      · obtain ⟨ps, y, ⟨p1, p2, p3⟩, rfl⟩ := hI
        refine c_drawN (m := (n : Int) + 1) (by omega) fun v hv => ⟨fun _ => ?_, fun _ => ?_⟩
        · have l1 := (eqn_len (e := ⟨ps, [], false⟩) hn ⟨⟨p1, p2⟩, (fun _ h => nomatch h), .nil⟩).1
          refine And.intro (show (2 : Nat) ≤ 16777216 by decide) (And.intro (show _ < _ by rw [List.length_map]; exact Nat.lt_of_le_of_lt l1 (by decide)) (hN _ ⟨ps ++ [(k, j)], .d (.int (j : Int)), ⟨fun p hm => ?_, ?_, fun p hm => ?_⟩, ?_⟩))
          · rcases List.mem_append.mp hm with h | h
            · exact p1 p h
            · rw [List.mem_singleton.mp h]; exact ⟨by show k < j; omega, by show j < n; omega⟩
          · rw [List.pairwise_append]
            refine ⟨p2, List.pairwise_singleton _ _, fun a ha b hb => ?_⟩
            rw [List.mem_singleton.mp hb]
            exact p3 a ha
          · rcases List.mem_append.mp hm with h | h
            · have := p3 p h
              omega
            · rw [List.mem_singleton.mp h]; exact .inr ⟨rfl, Nat.lt_succ_self j⟩
          · rw [List.map_append]; rfl
        · exact hN _ ⟨ps, .d (.int (j : Int)), ⟨p1, p2, fun p hm => by have := p3 p hm; omega⟩, rfl⟩
      · obtain ⟨ps, y, ⟨p1, p2, p3⟩, rfl⟩ := hI
        refine hN _ ⟨ps, _, _, ⟨p1, p2, fun p hm => ?_⟩, rfl⟩
        have := p3 p hm
        omega
      · have := hp.2.2 p hm
        omega
    · obtain ⟨ps, x, y, hp, rfl⟩ := hI
      exact hN _ ⟨ps, x, y, ⟨hp.1, hp.2.1⟩, rfl⟩
  rintro _ ⟨ps, x, y, hp, rfl⟩
  have l1 := (eqn_len (e := ⟨ps, [], false⟩) hn ⟨hp, (fun _ h => nomatch h), .nil⟩).1
  refine seq_cut (a := wSet 5 _) (fun ρ => ∃ (ss : List Nat), ((∀ i ∈ ss, i < n) ∧ ss.Pairwise (· < ·)) ∧ ρ = [.d (.tok 3), .d (.int n), .d (wd u), .ol (ps.map prD), x, .d (.tup (ss.map nD)), .no, y]) (fun N hN => ?_) ?_
  · refine And.intro (show _ ∧ _ from ⟨by omega, by omega⟩) ?_
    rw [Int.toNat_natCast]
    refine And.intro (show _ ≤ _ by rw [rng_len]; omega) (lcAny _ [] (fun d hd P hP => ?_) (fun d hd P hP => hP) (mo_Tst (mo_Op (mo_Call (mS__law_draw A) (mo_Cons mo_V (mo_Cons mo_C mo_Nil))) mo_C)) fun ys hs => ?_)
    · exact c_drawN (m := 3) (by decide) fun v hv => ⟨rfl, hP _⟩
    · obtain ⟨ss, rfl, h1, h2⟩ := sub_rng hs
      exact hN _ ⟨ss, ⟨h1, h2⟩, rfl⟩
  rintro _ ⟨ss, hs, rfl⟩
  refine seq_cut (a := wSet 6 _) (fun ρ => ∃ (r : Bool), ρ = [.d (.tok 3), .d (.int n), .d (wd u), .d (.lst (ps.map prD)), x, .d (.tup (ss.map nD)), .d (bit r), y]) (fun N hN => ?_) ?_
  · exact And.intro (show (3 : Nat) ≤ 16777216 by decide) (c_left (u := u) (e := ⟨ps, ss, false⟩) (.inr rfl) (by omega) (by rw [hu]; exact ⟨hp, hs⟩) (hN _ ⟨leftE ⟨ps, ss, false⟩ u, rfl⟩))
  rintro _ ⟨r, rfl⟩
  refine seq_cut (a := wIf _ _ _) (fun ρ => ∃ (r : Bool), ρ = [.d (.tok 3), .d (.int n), .d (wd u), .d (.lst (ps.map prD)), x, .d (.tup (ss.map nD)), .d (bit r), y]) (fun N hN => ?_) ?_
  · refine c_drawN (m := 5) (by decide) fun v hv => ⟨fun _ => ?_, fun _ => hN _ ⟨r, rfl⟩⟩
    exact c_draw (m := 2) (by decide) fun v v0 v1 => hN _ ⟨decide (v = 1), by rw [int_bit v0 v1]; rfl⟩
  rintro _ ⟨r, rfl⟩
  exact And.intro (show (3 : Nat) ≤ 16777216 by decide) (q ⟨ps, ss, r⟩ ⟨hp, hs⟩)
theorem eqns_of {n : Nat} : ∀ {ys : List D}, (∀ y ∈ ys, ∃ e, EqnOk n e ∧ y = eqD e) → ∃ es : List Eqn, ys = es.map eqD ∧ ∀ e ∈ es, EqnOk n e
  | [], _ => ⟨[], rfl, fun _ h => nomatch h⟩
  | y :: ys, h => by
    obtain ⟨e, he, rfl⟩ := h y List.mem_cons_self
    obtain ⟨es, rfl, hs⟩ := eqns_of (ys := ys) fun z hz => h z (List.mem_cons_of_mem _ hz)
    refine ⟨e :: es, rfl, fun z hz => ?_⟩
    rcases List.mem_cons.mp hz with rfl | hz
    · exact he
    · exact hs z hz
theorem p__law_equations (h : S__law_equations A ds Q E) : w__law_equations A (X0 E) (E0D Q) (ρ0 N__law_equations ds) := by
  obtain ⟨n, m, u, rfl, ⟨hu, hn, hm⟩, q⟩ := h
  refine And.intro (show _ ∧ _ from ⟨by omega, by omega⟩) ?_
  rw [Int.toNat_natCast]
  refine And.intro (show _ ≤ _ by rw [rng_len]; omega) (lcRngR (R := fun y => ∃ e, EqnOk n e ∧ y = eqD e) (fun k hk P hP => ?_) fun ys hl hy => ?_)
  · exact ⟨n, u, rfl, ⟨hu, hn⟩, fun e he => hP _ ⟨e, he, rfl⟩⟩
  · obtain ⟨es, rfl, he⟩ := eqns_of hy
    exact q es (by simpa using hl) he
theorem c_fits {u : List Bool} {e : Eqn} (hu : u.length ≤ 12) (he : EqnOk u.length e) (q : Q (.bl (fitE e u))) : Call (S__law_fits A) [wd u, eqD e] Q E := ⟨u, e, rfl, ⟨hu, he⟩, q⟩
theorem gD_nat {i : Nat} (h : i ≤ 1000000) : gD (nD i) = true := by
  show decide ((i : Int).natAbs < 2 ^ 1000) = true
  rw [decide_eq_true_eq]
  have : (i : Int).natAbs ≤ 1000000 := by omega
  exact Nat.lt_of_le_of_lt this (by decide)
theorem gD_bit (b : Bool) : gD (bit b) = true := by cases b <;> decide
theorem nbD_bit (b : Bool) : nbD (bit b) = true := rfl
theorem gD_eq {n : Nat} {e : Eqn} (hn : n ≤ 12) (he : EqnOk n e) : gD (eqD e) = true ∧ nbD (eqD e) = true ∧ dpD (eqD e) ≤ 3 := by
  obtain ⟨⟨h1, h2⟩, h3, h4⟩ := he
  refine ⟨?_, ?_, ?_⟩
  · show (gDs (e.ps.map prD) && (gDs (e.ss.map nD) && (gD (bit e.r) && true))) = true
    rw [gD_bit]
    have a : gDs (e.ps.map prD) = true := gDs_all.mpr fun d hd => by
      obtain ⟨p, hp, rfl⟩ := List.mem_map.mp hd
      have := h1 p hp
      show (gD (nD p.1) && (gD (nD p.2) && true)) = true
      rw [gD_nat (by omega), gD_nat (by omega)]; rfl
    have b : gDs (e.ss.map nD) = true := gDs_all.mpr fun d hd => by
      obtain ⟨i, hi, rfl⟩ := List.mem_map.mp hd
      exact gD_nat (by have := h3 i hi; omega)
    rw [a, b]; rfl
  · show (nbDs (e.ps.map prD) && (nbDs (e.ss.map nD) && (nbD (bit e.r) && true))) = true
    have a : nbDs (e.ps.map prD) = true := nbDs_all.mpr fun d hd => by
      obtain ⟨p, hp, rfl⟩ := List.mem_map.mp hd
      rfl
    have b : nbDs (e.ss.map nD) = true := nbDs_all.mpr fun d hd => by
      obtain ⟨i, hi, rfl⟩ := List.mem_map.mp hd
      rfl
    rw [a, b]; rfl
  · show max (dpDs (e.ps.map prD) + 1) (max (dpDs (e.ss.map nD) + 1) (max (dpD (bit e.r)) 0)) + 1 ≤ 3
    have a : dpDs (e.ps.map prD) ≤ 1 := dpDs_le fun d hd => by
      obtain ⟨p, hp, rfl⟩ := List.mem_map.mp hd
      exact Nat.le_refl 1
    have b : dpDs (e.ss.map nD) ≤ 0 := dpDs_le fun d hd => by
      obtain ⟨i, hi, rfl⟩ := List.mem_map.mp hd
      exact Nat.le_refl 0
    have c : dpD (bit e.r) = 0 := rfl
    omega
theorem p__law_solves (h : S__law_solves A ds Q E) : w__law_solves A (X0 E) (E0D Q) (ρ0 N__law_solves ds) := by
  obtain ⟨u, es, rfl, ⟨hu, he, hl⟩, q⟩ := h
  refine And.intro (show _ ≤ _ by rw [List.length_map]; omega) (lcIf (g := eqD) (f := eqD) (p := fun e => !fitE e u) es [] (fun e hm P p => ?_) (fun e hm _ P p => p) (mo_NotT (mo_Tst (mo_Call (mS__law_fits A) (mo_Cons mo_V (mo_Cons mo_V mo_Nil))))) ?_)
  · exact c_fits hu (he e hm) ⟨rfl, p⟩
  · have cm : ∀ l : List Eqn, (∀ e ∈ l, e ∈ es) → CmD (.lst (l.map eqD)) := fun l hs => by
      have g := fun e hm => gD_eq hu (he e (hs e hm))
      refine ⟨gDs_all.mpr fun d hd => ?_, nbDs_all.mpr fun d hd => ?_, ?_⟩
      · obtain ⟨e, hm, rfl⟩ := List.mem_map.mp hd
        exact (g e hm).1
      · obtain ⟨e, hm, rfl⟩ := List.mem_map.mp hd
        exact (g e hm).2.1
      · have : dpDs (l.map eqD) ≤ 3 := dpDs_le fun d hd => by
          obtain ⟨e, hm, rfl⟩ := List.mem_map.mp hd
          exact (g e hm).2.2
        show dpDs (l.map eqD) + 1 ≤ 60
        omega
    refine And.intro (show (0 : Nat) ≤ 16777216 by decide) ?_
    rw [List.nil_append]
    refine eq_runD (cm _ fun e hm => (List.mem_filter.mp hm).1) (cm [] fun _ h => nomatch h) (.inr ⟨_, rfl⟩) fun k hk => ?_
    have e1 : k = es.all fun e => fitE e u := by
      rw [Bool.eq_iff_iff, hk]
      simp
    rw [e1]
    exact q
theorem c_solves {u : List Bool} {es : List Eqn} (hu : u.length ≤ 12) (he : ∀ e ∈ es, EqnOk u.length e) (hl : es.length ≤ 100) (q : Q (.bl (es.all fun e => fitE e u))) : Call (S__law_solves A) [wd u, .tup (es.map eqD)] Q E := ⟨u, es, rfl, ⟨hu, he, hl⟩, q⟩
theorem p__law_solutions (h : S__law_solutions A ds Q E) : w__law_solutions A (X0 E) (E0D Q) (ρ0 N__law_solutions ds) := by
  obtain ⟨n, es, rfl, ⟨⟨n1, n2⟩, he, hl⟩, q⟩ := h
  have hp : 2 ^ n ≤ 2 ^ 12 := Nat.pow_le_pow_right (by decide) n2
  refine ⟨n, rfl, n2, ?_⟩
  refine And.intro (show _ ≤ _ by rw [List.length_map, wordsL_len]; omega) (lcIf (g := wd) (f := wd) (p := fun u => es.all fun e => fitE e u) (wordsL n) [] (fun u hm P p => ?_) (fun u hm _ P p => p) (mo_Tst (mo_Call (mS__law_solves A) (mo_Cons mo_V (mo_Cons mo_V mo_Nil)))) ?_)
  · have ul := wordsL_mem n u hm
    exact c_solves (by omega) (by rw [ul]; exact he) hl ⟨rfl, p⟩
  · exact q
end
end PL
end L2

namespace L2
namespace PL
open PySem PySem.Spec PyProof.Rows
variable [Tabl]
/-! systems in the laws -/
section
variable {A : Ad} {ds : List D} {Q E : D → Prop}
theorem forAll {wb : DS} {E : DE} {i : Nat} {I : List SD → Prop} : ∀ (xs : List D) (ρ : List SD), (∀ x ∈ xs, ∀ ρ (K : List SD → Prop), I ρ → (∀ ρ2, I ρ2 → K ρ2) → wb (turnE E K) (st ρ i (.d x))) → (∀ ρ, I ρ → E.nx ρ) → I ρ → forW (gNm i) wb xs E ρ
  | [], ρ, _, fin, h => fin ρ h
  | x :: xs, ρ, step, fin, h => step x List.mem_cons_self ρ _ h fun ρ2 h2 => forAll xs ρ2 (fun y hy => step y (List.mem_cons_of_mem _ hy)) fin h2
theorem mem_words : ∀ (n : Nat) (u : List Bool), u.length = n → u ∈ wordsL n
  | 0, [], _ => by simp [wordsL]
  | n + 1, b :: u, h => by
    have ih := mem_words n u (by simpa using h)
    rw [words_half]
    cases b
    · exact List.mem_append_left _ (List.mem_map.mpr ⟨u, ih, rfl⟩)
    · exact List.mem_append_right _ (List.mem_map.mpr ⟨u, ih, rfl⟩)
theorem mem_sols {n : Nat} {es : List Eqn} {u : List Bool} (h : u.length = n) : u ∈ solsS n es ↔ (es.all fun e => fitE e u) = true := by
  unfold solsS
  rw [List.mem_filter]
  exact ⟨fun z => z.2, fun z => ⟨mem_words n u h, z⟩⟩
theorem sols_len {n : Nat} {es : List Eqn} {u : List Bool} (h : u ∈ solsS n es) : u.length = n := wordsL_mem n u (List.mem_filter.mp h).1
theorem okW_nat {cls : List Addr} (i : Nat) : okW cls (nD i) = true := rfl
theorem okW_ms {α : Type} {cls : List Addr} {f : α → D} {l : List α} (h : ∀ a ∈ l, okW cls (f a) = true) : okWs cls (l.map f) = true := okWs_all.mpr fun d hd => by
  obtain ⟨a, ha, rfl⟩ := List.mem_map.mp hd
  exact h a ha
theorem okW_eq {cls : List Addr} (e : Eqn) : okW cls (eqD e) = true := by
  refine okWs_all.mpr fun d hd => ?_
  rcases List.mem_cons.mp hd with rfl | hd
  · exact okW_ms (f := prD) fun p _ => rfl
  rcases List.mem_cons.mp hd with rfl | hd
  · exact okW_ms (f := nD) fun p _ => rfl
  rcases List.mem_cons.mp hd with rfl | hd
  · exact okW_bit _
  · exact nomatch hd
theorem okW_eqs {cls : List Addr} (es : List Eqn) : okW cls (.tup (es.map eqD)) = true := okW_ms fun e _ => okW_eq e
theorem sm_eq {n : Nat} {e : Eqn} (hn : n ≤ 12) (he : EqnOk n e) : smD (eqD e) = true := by
  obtain ⟨l1, l2⟩ := eqn_len hn he
  have a : smDs (e.ps.map prD) = true := smDs_all.mpr fun d hd => by
    obtain ⟨p, _, rfl⟩ := List.mem_map.mp hd
    rfl
  have b : smDs (e.ss.map nD) = true := smDs_all.mpr fun d hd => by
    obtain ⟨p, _, rfl⟩ := List.mem_map.mp hd
    rfl
  have c : smD (bit e.r) = true := by cases e.r <;> rfl
  show (decide (3 ≤ 1000) && ((decide ((e.ps.map prD).length ≤ 1000) && smDs (e.ps.map prD)) && ((decide ((e.ss.map nD).length ≤ 1000) && smDs (e.ss.map nD)) && (smD (bit e.r) && true)))) = true
  rw [a, b, c, List.length_map, List.length_map]
  simp
  omega
theorem sm_eqs {n : Nat} {es : List Eqn} (hn : n ≤ 12) (he : ∀ e ∈ es, EqnOk n e) (hl : es.length ≤ 1000) : smD (.tup (es.map eqD)) = true := by
  have a : smDs (es.map eqD) = true := smDs_all.mpr fun d hd => by
    obtain ⟨e, hm, rfl⟩ := List.mem_map.mp hd
    exact sm_eq hn (he e hm)
  show (decide ((es.map eqD).length ≤ 1000) && smDs (es.map eqD)) = true
  rw [a, List.length_map]
  simp [hl]
/-- System(n, equations) -/
theorem c_System {n : Nat} {es : List Eqn} {Q : List Str → List D → Prop} {E : D → Prop} (h : SysOk n es) (q : Q ["n", "equations"] [.int (n : Int), .tup (es.map eqD)]) : MakeC (I_System A) [.int (n : Int), .tup (es.map eqD)] Q E := by
  obtain ⟨⟨n1, n2⟩, he, hl⟩ := h
  have hb : betw (.int (n : Int)) 1 12 = true := by simp [betw]; omega
  refine ⟨_, _, rfl, ⟨rfl, okW_eqs es, sm_eqs n2 he hl⟩, fun z => absurd (hb.symm.trans z) (by decide), fun _ m hm => ?_⟩
  have hm : n = m := by have := D.int.inj hm; omega
  subst hm
  refine ⟨fun k hk => absurd (hk.symm.trans (bad_ok rfl he)) (by simp), fun _ es' hs he' => ?_⟩
  have e : es.map eqD = es'.map eqD := Option.some.inj hs
  rw [← e]
  exact q
theorem c_sols {n : Nat} {es : List Eqn} (h : SysOk n es) (q : Q (mx (solsS n es))) : Call (S_System_solutions A) [sys A n es] Q E := ⟨n, es, rfl, h, q⟩
theorem c_first_wrong {n : Nat} {es : List Eqn} {u : List Bool} (h : SysOk n es) (hu : u.length = n) (q : Q (optD (firstW es u))) : Call (S_System_first_wrong A) [sys A n es, wd u] Q E :=
  ⟨n, es, wd u, rfl, ⟨h, okW_wd u⟩, fun z => absurd ((wd_wd (by have := h.1.1; omega) (by have := h.1.2; omega) hu).symm.trans z) (by decide), fun _ u' e => by rw [← wd_inj e]; exact q⟩
theorem c_contains {n : Nat} {es : List Eqn} {u : List Bool} (h : SysOk n es) (hu : u.length = n) (q : Q (.bl (es.all fun e => fitE e u))) : Call (S_System_contains A) [sys A n es, wd u] Q E :=
  ⟨n, es, wd u, rfl, ⟨h, okW_wd u⟩, by rw [c_is_sol_eq (wd_wd (by have := h.1.1; omega) (by have := h.1.2; omega) hu)]; exact q⟩
theorem c_solutions {n : Nat} {es : List Eqn} (h : SysOk n es) (hl : es.length ≤ 100) (q : Q (mx (solsS n es))) : Call (S__law_solutions A) [.int (n : Int), .tup (es.map eqD)] Q E := ⟨n, es, rfl, ⟨h.1, h.2.1, hl⟩, q⟩
theorem c_wordT {n : Nat} (hn : n ≤ 4096) (q : ∀ u : List Bool, u.length = n → Q (wd u)) : Call (S__law_wordV A) [.tok 3, .int (n : Int)] Q E := ⟨n, rfl, hn, q⟩
theorem c_equations {n m : Nat} {u : List Bool} (hu : u.length = n) (hn : n ≤ 12) (hm : m ≤ 100) (q : ∀ es : List Eqn, es.length = m → (∀ e ∈ es, EqnOk n e) → Q (.tup (es.map eqD))) : Call (S__law_equations A) [.tok 3, .int (n : Int), .int (m : Int), wd u] Q E := ⟨n, m, u, rfl, ⟨hu, hn, hm⟩, q⟩
/-- one of the numbers lo .. -/
theorem c_pickN {l : List Nat} (h0 : 0 < l.length) (h1 : l.length ≤ 1000) (q : ∀ k ∈ l, Q (.int (k : Int))) : Call (S__law_pick A) [.tok 3, .lst (l.map nD)] Q E := ⟨_, l.map nD, rfl, ⟨.inl rfl, by rw [List.length_map]; exact h0, by rw [List.length_map]; omega⟩, fun d hd => by
  obtain ⟨k, hk, rfl⟩ := List.mem_map.mp hd
  exact q k hk⟩
/-! words as data -/
theorem gD_wd (u : List Bool) : gD (wd u) = true := gDs_all.mpr fun d hd => by
  obtain ⟨b, _, rfl⟩ := List.mem_map.mp hd
  exact gD_bit b
theorem nbD_wd (u : List Bool) : nbD (wd u) = true := nbDs_all.mpr fun d hd => by
  obtain ⟨b, _, rfl⟩ := List.mem_map.mp hd
  rfl
theorem dpD_wd (u : List Bool) : dpD (wd u) ≤ 1 := by
  have : dpDs (u.map bit) ≤ 0 := dpDs_le fun d hd => by
    obtain ⟨b, _, rfl⟩ := List.mem_map.mp hd
    exact Nat.le_refl 0
  show dpDs (u.map bit) + 1 ≤ 1
  omega
theorem bkD_wd (u : List Bool) : bkD (wd u) ≤ u.length := by
  have := bkDs_le (c := 0) (l := u.map bit) fun d hd => by
    obtain ⟨b, _, rfl⟩ := List.mem_map.mp hd
    exact Nat.le_refl 0
  rw [List.length_map] at this
  show bkDs (u.map bit) ≤ u.length
  omega
theorem cm_wd (u : List Bool) : CmD (wd u) := ⟨gD_wd u, nbD_wd u, by have := dpD_wd u; omega⟩
theorem gDs_wds (m : List (List Bool)) : gDs (m.map wd) = true ∧ nbDs (m.map wd) = true := ⟨gDs_all.mpr fun d hd => by
  obtain ⟨u, _, rfl⟩ := List.mem_map.mp hd
  exact gD_wd u, nbDs_all.mpr fun d hd => by
  obtain ⟨u, _, rfl⟩ := List.mem_map.mp hd
  exact nbD_wd u⟩
theorem dpDs_wds (m : List (List Bool)) : dpDs (m.map wd) ≤ 1 := dpDs_le fun d hd => by
  obtain ⟨u, _, rfl⟩ := List.mem_map.mp hd
  exact dpD_wd u
theorem cm_mx (m : List (List Bool)) : CmD (mx m) := ⟨(gDs_wds m).1, (gDs_wds m).2, by
  have := dpDs_wds m
  show dpDs (m.map wd) + 1 ≤ 60
  omega⟩
theorem sh_mx {n : Nat} {m : List (List Bool)} (h : ∀ u ∈ m, u.length ≤ n) (hl : m.length * (n + 1) ≤ 16000) : ShD (mx m) := ⟨(gDs_wds m).1, by
  have := bkDs_le (c := n) (l := m.map wd) fun d hd => by
    obtain ⟨u, hu, rfl⟩ := List.mem_map.mp hd
    exact Nat.le_trans (bkD_wd u) (h u hu)
  rw [List.length_map] at this
  show bkDs (m.map wd) ≤ 16000
  omega, by
  have := dpDs_wds m
  show dpDs (m.map wd) + 1 ≤ 60
  omega⟩
/-- a word in words -/
theorem in_mx {neg : Bool} {u : List Bool} {m : List (List Bool)} {k : Bool} (h : k = true ↔ u ∈ m) (q : Q (.bl (neg ^^ k))) : (fInND neg (wd u) (mx m)).run Q := by
  refine in_runD (cm_wd u) (.inl rfl) (gDs_wds m) fun j hj => ?_
  have e : j = k := by
    rw [Bool.eq_iff_iff, hj, h]
    constructor
    · intro z
      obtain ⟨x, hx, e⟩ := List.mem_map.mp z
      rw [← wd_inj e]; exact hx
    · intro z; exact List.mem_map.mpr ⟨u, z, rfl⟩
  rw [e]
  exact q
theorem isN_first {es : List Eqn} {u : List Bool} (q : Q (.bl (es.all fun e => fitE e u))) : (fIsN (optD (firstW es u))).run Q := by
  refine isN_opt ?_
  have : decide (firstW es u = none) = es.all fun e => fitE e u := by
    by_cases hh : firstW es u = none
    · rw [decide_eq_true hh, firstW_none.mp hh]
    · rw [decide_eq_false hh]
      cases e : (es.all fun e => fitE e u) with
      | false => rfl
      | true => exact absurd (firstW_none.mpr e) hh
  rw [this]
  exact q
theorem ne_same0 {k : Bool} (q : Q (.bl false)) : (fNe (.bl k) (.bl k)).run Q := by
  cases k <;> exact q
theorem ne_same {k : Bool} (q : Q (.bl false)) : (fNe (.bl k) (.bl (false ^^ k))).run Q := by
  cases k <;> exact q
end
end PL
end L2

namespace L2
namespace PL
open PySem PySem.Spec PyProof.Rows
abbrev N_law : List Str := ["script", "tape", "at", "n", "equations", "system", "due", "word"]
variable [Tabl]
-- law calls ['System', 'System.__contains__', 'System.first_wrong', 'System.solutions', '_law_draw', '_law_equations', '_law_pick', '_law_solutions', '_law_word'] facts ['b_list', 'b_range', 'b_repr', 'cl_System']
def w_law (A : Ad) (Ed : DX) : DS :=
    (wSeq (wFor (wRng1 (wCons (wC (.int 2)) wNil)) (gNm 2)
    (wSeq (wSet 3 (wCall (S__law_pick A) (wCons (wV 1) (wCons (wLst (wCons (wC (.int 1)) (wCons (wC (.int 2)) (wCons (wC (.int 3)) (wCons (wC (.int 4)) (wCons (wC (.int 5)) (wCons (wC (.int 6)) (wCons (wC (.int 7)) wNil)))))))) wNil)) Ed))
    (wSeq (wSet 4 (wCall (S__law_equations A) (wCons (wV 1) (wCons (wV 3) (wCons (wCall (S__law_draw A) (wCons (wV 1) (wCons (wOp fAdd (wV 3) (wC (.int 2))) wNil)) Ed) (wCons (wCall (S__law_wordV A) (wCons (wV 1) (wCons (wV 3) wNil)) Ed) wNil)))) Ed))
    (wSeq (wSet 5 (wMake A.System (I_System A) (wCons (wV 3) (wCons (wV 4) wNil)) Ed))
    (wSeq (wSet 6 (wCall (S__law_solutions A) (wCons (wV 3) (wCons (wV 4) wNil)) Ed))
    (wSeq (wIf (wOrT (wTst (wOp fNe (wCal fRepr (wCons (wMeth (S_System_solutions A) A.System "solutions" (wV 5) wNil Ed) wNil)) (wCal fRepr (wCons (wV 6) wNil)))) (wTst (wOp fNe (wCal fRepr (wCons (wMeth (S_System_solutions A) A.System "solutions" (wV 5) wNil Ed) wNil)) (wCal fRepr (wCons (wV 6) wNil))))) (wRet (wC (.bl false))) wNext)
    (wFor (wItems (wOp fAdd (wLst (wCons (wCall (S__law_wordV A) (wCons (wV 1) (wCons (wV 3) wNil)) Ed) wNil)) (wCal fList (wCons (wCut (wV 6) wP0 (wP1 (wC (.int 2)))) wNil)))) (gNm 7)
    (wIf (wOrT (wTst (wOp fNe (wInO false (S_System_contains A) A.System (wV 7) (wV 5)) (wOp (fInND false) (wV 7) (wV 6)))) (wTst (wOp fNe (wUn fIsN (wMeth (S_System_first_wrong A) A.System "first_wrong" (wV 5) (wCons (wV 7) wNil) Ed)) (wOp (fInND false) (wV 7) (wV 6))))) (wRet (wC (.bl false))) wNext))))))))
    (wRet (wC (.bl true))))


end PL
end L2

namespace L2
namespace PL
open PySem PySem.Spec PyProof.Rows
variable [Tabl]
section
variable {A : Ad} {ds : List D} {Q E : D → Prop}
theorem p_law {N : List SD → Prop} (q : Q (.bl true)) : w_law A NoX { nx := N, rt := Q, bk := fun _ => False, ct := fun _ => False } (st (List.replicate N_law.length .no) 1 (.d (.tok 3))) := by
  refine seq_cut (a := wFor _ _ _) (fun ρ => True) (fun N hN => ?_) fun ρ _ => q
  refine And.intro (show _ ∧ _ from ⟨by decide, by decide⟩) ?_
  refine forRng (n := 2) (I := fun k ρ => ∃ x2 x3 x4 x5 x6 x7, ρ = [.no, .d (.tok 3), x2, x3, x4, x5, x6, x7]) (fun k hk ρ N hI hN => ?_) (fun ρ hI => hN _ trivial) ⟨.no, .no, .no, .no, .no, .no, rfl⟩
  obtain ⟨x2, x3, x4, x5, x6, x7, rfl⟩ := hI
  refine seq_cut (a := wSet 3 _) (fun ρ => ∃ n : Nat, (1 ≤ n ∧ n ≤ 7) ∧ ρ = [.no, .d (.tok 3), .d (.int (k : Int)), .d (.int (n : Int)), x4, x5, x6, x7]) (fun N hN => ?_) ?_
  · refine And.intro (show (7 : Nat) ≤ 16777216 by decide) (c_pickN (l := [1, 2, 3, 4, 5, 6, 7]) (by decide) (by decide) fun n hn => hN _ ⟨n, ?_, rfl⟩)
    simp at hn
    omega
  rintro _ ⟨n, hn, rfl⟩
  refine seq_cut (a := wSet 4 _) (fun ρ => ∃ es : List Eqn, (SysOk n es ∧ es.length ≤ 100) ∧ ρ = [.no, .d (.tok 3), .d (.int (k : Int)), .d (.int (n : Int)), .d (.tup (es.map eqD)), x5, x6, x7]) (fun N hN => ?_) ?_
  · refine c_drawN (m := (n : Int) + 2) (by omega) fun m hm => ?_
    refine c_wordT (by omega) fun u hu => ?_
    exact c_equations hu (by omega) (by omega) fun es hl he => hN _ ⟨es, ⟨⟨⟨by omega, by omega⟩, he, by omega⟩, by omega⟩, rfl⟩
  rintro _ ⟨es, ⟨so, hl⟩, rfl⟩
  refine seq_cut (a := wSet 5 _) (fun ρ => ρ = [.no, .d (.tok 3), .d (.int (k : Int)), .d (.int (n : Int)), .d (.tup (es.map eqD)), .d (sys A n es), x6, x7]) (fun N hN => c_System so (hN _ rfl)) ?_
  rintro _ rfl
  refine seq_cut (a := wSet 6 _) (fun ρ => ρ = [.no, .d (.tok 3), .d (.int (k : Int)), .d (.int (n : Int)), .d (.tup (es.map eqD)), .d (sys A n es), .d (mx (solsS n es)), x7]) (fun N hN => c_solutions so hl (hN _ rfl)) ?_
  rintro _ rfl
  have hp : 2 ^ n ≤ 2 ^ 7 := Nat.pow_le_pow_right (by decide) hn.2
  have hle : (solsS n es).length ≤ 128 := Nat.le_trans (List.length_filter_le _ _) (by rw [wordsL_len]; exact hp)
  have sh : ShD (mx (solsS n es)) := sh_mx (n := 7) (fun u hu => by rw [sols_len hu]; exact hn.2) (by omega)
  refine seq_cut (a := wIf _ _ _) (fun ρ => ρ = [.no, .d (.tok 3), .d (.int (k : Int)), .d (.int (n : Int)), .d (.tup (es.map eqD)), .d (sys A n es), .d (mx (solsS n es)), x7]) (fun N hN => ?_) ?_
  · refine And.intro ⟨_, _, rfl, by decide⟩ (c_sols so (repr_run sh (repr_run sh (str_ne ?_))))
    refine And.intro (fun z => Bool.noConfusion z) (fun _ => ?_)
    refine And.intro ⟨_, _, rfl, by decide⟩ (c_sols so (repr_run sh (repr_run sh (str_ne ?_))))
    exact And.intro (fun z => Bool.noConfusion z) (fun _ => hN _ rfl)
  rintro _ rfl
  refine c_wordT (by omega) fun u hu => ?_
  refine And.intro (show (1 : Nat) ≤ 16777216 by decide) ?_
  have ht : ∃ l : List (List Bool), (∀ w ∈ l, w.length = n) ∧ cutD ((solsS n es).map wd) none (some 2) = l.map wd ∧ l.length ≤ 128 := by
    have e1 : HT.sIx ((solsS n es).map wd).length 0 none = 0 := rfl
    unfold cutD
    rw [e1]
    refine ⟨((solsS n es).drop 0).take _, fun w hw => sols_len (List.mem_of_mem_drop (List.mem_of_mem_take hw)), by rw [List.map_take, List.map_drop], ?_⟩
    rw [List.length_take, List.length_drop]
    omega
  obtain ⟨l, hw, ec, hl2⟩ := ht
  refine And.intro (show 1 + (cutD ((solsS n es).map wd) none (some 2)).length ≤ 16777216 by rw [ec, List.length_map]; omega) ?_
  rw [ec]
  have e1 : [wd u] ++ l.map wd = (u :: l).map wd := rfl
  rw [e1]
  refine forAll (I := fun ρ => ∃ x, ρ = [.no, .d (.tok 3), .d (.int (k : Int)), .d (.int (n : Int)), .d (.tup (es.map eqD)), .d (sys A n es), .d (mx (solsS n es)), x]) _ _ (fun d hd ρ K hI hK => ?_) (fun ρ hI => ?_) ⟨_, rfl⟩
  · obtain ⟨x, rfl⟩ := hI
    obtain ⟨w, hm, rfl⟩ := List.mem_map.mp hd
    have wl : w.length = n := by
      rcases List.mem_cons.mp hm with rfl | hm
      · exact hu
      · exact hw w hm
    have iff : ((es.all fun e => fitE e w) = true) ↔ w ∈ solsS n es := (mem_sols wl).symm
    refine And.intro ⟨_, _, rfl⟩ (c_contains so wl ⟨_, rfl, in_mx iff (ne_same0 ?_)⟩)
    refine And.intro (fun z => Bool.noConfusion z) (fun _ => ?_)
    refine And.intro ⟨_, _, rfl, by decide⟩ (c_first_wrong so wl (isN_first (in_mx iff (ne_same ?_))))
    exact And.intro (fun z => Bool.noConfusion z) (fun _ => hK _ ⟨_, rfl⟩)
  · obtain ⟨x, rfl⟩ := hI
    exact hN _ ⟨_, _, _, _, _, _, rfl⟩
end
end PL
end L2

namespace L2
namespace PL
open PySem PySem.Spec PyProof.Rows
variable [Tabl]
/-! defs that make a lambda -/
/-- the def fd's code object and the table of what is made in it -/
structure LamT (mg : Str → Option Value) (base : Heap) (fd : FuncData) (cc P : Addr) (q : Str) : Prop where
  code : fd.code = .ref cc
  tb : LamX.TabB base mg cc P
  hm : (P, q) ∈ Tabl.T
  hu : ∀ p ∈ Tabl.T, p.1 = P → p.2 = q
/-- law(script), tables empty at the start -/
def spLawT (K : PySem.W.Frag) : Sp := fun vs H Q _ => ∃ (a : Addr) (ns : List Int), vs = [.ref a] ∧ ns.length ≤ 63 ∧ Tab0 H ∧ SqL K H a (ns.map V.int) ∧ ∀ H', Q (.bl true) H'
/-- __init__(self, f, g) of an exception with two fields -/
abbrev spIni2 (C : Addr) (f g : Str) : Sp := fun vs H Q _ => ∃ (a : Addr) (v u : V), vs = [.ref a, v, u] ∧ H a = some (exo a C none) ∧ ∀ d, H d = none → d ≠ a → Q .non (upd (upd H d (exd d [(g, u), (f, v)])) a (exo a C (some d)))
section
variable {P : Program} {w : World} {K : PySem.W.Frag} {mg : Str → Option Value} {base : Heap}
theorem okGc {x qual : Str} {st : Stmt} {f : Addr} {fd : FuncData} {N ps : List Str} {sp : Sp} {k : Nat} (Fn : Fun K x qual st f fd) (S : FnScope N ps (defScope st)) (len : ∀ vs H Q E, sp vs H Q E → vs.length = ps.length)
    (body : ∀ cdv : Value, fd.code = cdv → ∀ (A : Around) (outer : List Env) (s : Shared) (H : Hp) (vs : List V) (Q : VK) (E : XK), Room k (A.deeper (envOfC qual (defScope st) s.heap.objs.size f cdv)) → sp vs H Q E →
      ∃ t, PSs (cxOf (L2.CX P w) P w K mg base N qual (defScope st) f cdv A outer s H E) (defBody st) t ∧ t { nx := fun _ H' => Q .non H', rt := Q } (start N vs) H) :
    FnOk P w K mg base (L2.CX P w) (k + 1) f fd ps sp := by
  refine ⟨len, fun A outer s H args us vs Q E r e b v q => ?_⟩
  have ex := Fn.ex
  obtain ⟨_, _, _, _, _, _, cdv, _, _, rfl, lk, hcd⟩ := ex
  exact LamX.run_ofS (N := N) lk hcd S r.toRoom e b v (len _ _ _ _ q) fun _ => body cdv rfl A outer s H vs Q E (r.deeper _) q
/-- as fn_pl, the code object known -/
theorem fn_plC {x qual : Str} {stm : Stmt} {f : Addr} {fd : FuncData} {N ps : List Str} {k : Nat} {S : Spec} (Fn : Fun K x qual stm f fd) (Sc : FnScope N ps (defScope stm)) (len : ∀ ds Q E, S ds Q E → ds.length = ps.length)
    (hbody : ∀ (X : Cx) (c : C) (W : WX) (ds : List D) (Qd Ed : D → Prop), (∃ cdv A outer s H E, X = cxOf (L2.CX P w) P w K mg base N qual (defScope stm) f cdv A outer s H E ∧ (W = fun cls d _ H => E cls d H) ∧ fd.code = cdv) → Room k X.A → Takes X W → PassesOwn (model X.prog X.w) X.A X.env X.xe → LinkW K c W (fun x _ => Ed x) → S ds Qd Ed →
      ∃ wb, PDB c X (defBody stm) wb ∧ wb { nx := fun _ => Qd .non, rt := Qd } (ds.map .d ++ List.replicate (N.length - ds.length) .no)) :
    FnOk P w K mg base (L2.CX P w) (k + 1) f fd ps (spG K S) := by
  refine okGc Fn Sc (fun vs H Q E h => ?_) (fun cdv hcdv A outer s H vs Q E hr h => ?_)
  · obtain ⟨g, F, ds, _, _, r, q⟩ := h
    rw [r.length]
    exact len _ _ _ q
  · obtain ⟨g, F, ds, sF, hk, r, q⟩ := h
    obtain ⟨wb, pb, qb⟩ := hbody (cxOf (L2.CX P w) P w K mg base N qual (defScope stm) f cdv A outer s H E) ⟨g, F, H⟩ (fun cls d _ H => E cls d H) ds (fun d => ∀ v F' H', Step g F H F' H' → Rep K g F' v d → Q v H') (XOf K g F H E)
      ⟨cdv, A, outer, s, H, E, rfl, rfl, hcdv⟩ hr (takes_of rfl rfl rfl rfl) (passes_of rfl) (link_def (c := ⟨g, F, H⟩) fun _ h => h) q
    refine ⟨_, pb.pe, F, _, start_rel (c := ⟨g, F, H⟩) (Step.refl sF hk) r ?_, pb.mo { nx := fun _ => ∀ v F' H', Step g F H F' H' → Rep K g F' v .non → Q v H', rt := fun d => ∀ v F' H', Step g F H F' H' → Rep K g F' v d → Q v H' } _ _ ⟨fun ρ q σ' F' H' rl _ => ?_, fun d q v F' H' st e => q v F' H' st e, fun _ q => q.elim, fun _ q => q.elim⟩ qb⟩
    · have e1 := len _ _ _ q
      have e2 := congrArg List.length Sc.pre
      rw [List.length_take] at e2
      have e3 := r.length
      omega
    · exact q _ F' H' rl.step .non
end
end PL
end L2


namespace L2
namespace PL
open PySem PySem.Spec PyProof.Rows
def top (i : Nat) : Stmt := PySem.Challenge.pw_fourread_k21_solutions.main.body.getD i (.Pass ⟨0, 0, 0, 0⟩)
def clsB : Stmt → List Stmt
  | .ClassDef _ _ _ b _ _ _ _ _ _ _ => b
  | _ => []
def meth (i j : Nat) : Stmt := (clsB (top i)).getD j (.Pass ⟨0, 0, 0, 0⟩)
abbrev si_InvalidNumber : Stmt := meth 10 0
abbrev si_InvalidSystem : Stmt := meth 12 0
abbrev si_InvalidWord : Stmt := meth 11 0
abbrev s_is_integer : Stmt := top 3
theorem sc_is_integer : FnScope N_is_integer ["value"] (defScope s_is_integer) := ⟨rfl, rfl, rfl, by decide +kernel, rfl, by decide +kernel, by decide +kernel⟩
abbrev s_is_between : Stmt := top 4
theorem sc_is_between : FnScope N_is_between ["value", "low", "high"] (defScope s_is_between) := ⟨rfl, rfl, rfl, by decide +kernel, rfl, by decide +kernel, by decide +kernel⟩
abbrev s_first_none : Stmt := top 5
theorem sc_first_none : FnScope N_first_none ["values", "is_one_at"] (defScope s_first_none) := ⟨rfl, rfl, rfl, by decide +kernel, rfl, by decide +kernel, by decide +kernel⟩
abbrev s_are_bits : Stmt := top 6
theorem sc_are_bits : FnScope N_are_bits ["values"] (defScope s_are_bits) := ⟨rfl, rfl, rfl, by decide +kernel, rfl, by decide +kernel, by decide +kernel⟩
abbrev s_is_row_of_bits : Stmt := top 7
theorem sc_is_row_of_bits : FnScope N_is_row_of_bits ["value", "many"] (defScope s_is_row_of_bits) := ⟨rfl, rfl, rfl, by decide +kernel, rfl, by decide +kernel, by decide +kernel⟩
abbrev s_is_word : Stmt := top 14
theorem sc_is_word : FnScope N_is_word ["value", "n"] (defScope s_is_word) := ⟨rfl, rfl, rfl, by decide +kernel, rfl, by decide +kernel, by decide +kernel⟩
abbrev s_check_length : Stmt := top 15
theorem sc_check_length : FnScope N_check_length ["n"] (defScope s_check_length) := ⟨rfl, rfl, rfl, by decide +kernel, rfl, by decide +kernel, by decide +kernel⟩
abbrev s_all_words : Stmt := top 16
theorem sc_all_words : FnScope N_all_words ["n"] (defScope s_all_words) := ⟨rfl, rfl, rfl, by decide +kernel, rfl, by decide +kernel, by decide +kernel⟩
abbrev s_is_ascending : Stmt := top 18
theorem sc_is_ascending : FnScope N_is_ascending ["values"] (defScope s_is_ascending) := ⟨rfl, rfl, rfl, by decide +kernel, rfl, by decide +kernel, by decide +kernel⟩
abbrev s_are_unknowns : Stmt := top 19
theorem sc_are_unknowns : FnScope N_are_unknowns ["value", "n"] (defScope s_are_unknowns) := ⟨rfl, rfl, rfl, by decide +kernel, rfl, by decide +kernel, by decide +kernel⟩
abbrev s_are_pairs : Stmt := top 20
theorem sc_are_pairs : FnScope N_are_pairs ["value", "n"] (defScope s_are_pairs) := ⟨rfl, rfl, rfl, by decide +kernel, rfl, by decide +kernel, by decide +kernel⟩
abbrev s_is_equation : Stmt := top 21
theorem sc_is_equation : FnScope N_is_equation ["value", "n"] (defScope s_is_equation) := ⟨rfl, rfl, rfl, by decide +kernel, rfl, by decide +kernel, by decide +kernel⟩
abbrev s_check_equations : Stmt := top 22
theorem sc_check_equations : FnScope N_check_equations ["n", "equations"] (defScope s_check_equations) := ⟨rfl, rfl, rfl, by decide +kernel, rfl, by decide +kernel, by decide +kernel⟩
abbrev s_is_fitting : Stmt := top 23
theorem sc_is_fitting : FnScope N_is_fitting ["word", "equation"] (defScope s_is_fitting) := ⟨rfl, rfl, rfl, by decide +kernel, rfl, by decide +kernel, by decide +kernel⟩
abbrev s_System_init : Stmt := meth 24 0
theorem sc_System_init : FnScope N_System_init ["self", "n", "equations"] (defScope s_System_init) := ⟨rfl, rfl, rfl, by decide +kernel, rfl, by decide +kernel, by decide +kernel⟩
abbrev s_System_first_wrong : Stmt := meth 24 4
theorem sc_System_first_wrong : FnScope N_System_first_wrong ["self", "word"] (defScope s_System_first_wrong) := ⟨rfl, rfl, rfl, by decide +kernel, rfl, by decide +kernel, by decide +kernel⟩
abbrev s_System_contains : Stmt := meth 24 2
theorem sc_System_contains : FnScope N_System_contains ["self", "x"] (defScope s_System_contains) := ⟨rfl, rfl, rfl, by decide +kernel, rfl, by decide +kernel, by decide +kernel⟩
abbrev s_System_solutions : Stmt := meth 24 5
theorem sc_System_solutions : FnScope N_System_solutions ["self"] (defScope s_System_solutions) := ⟨rfl, rfl, rfl, by decide +kernel, rfl, by decide +kernel, by decide +kernel⟩
abbrev s__law_mixed : Stmt := top 26
theorem sc__law_mixed : FnScope N__law_mixed ["number", "turn"] (defScope s__law_mixed) := ⟨rfl, rfl, rfl, by decide +kernel, rfl, by decide +kernel, by decide +kernel⟩
abbrev s__law_tape : Stmt := top 27
abbrev N__law_tape : List Str := ["script"]
theorem sc__law_tape : FnScope N__law_tape ["script"] (defScope s__law_tape) := ⟨rfl, rfl, rfl, by decide +kernel, rfl, by decide +kernel, by decide +kernel⟩
abbrev s__law_draw : Stmt := top 28
theorem sc__law_draw : FnScope N__law_draw ["tape", "many"] (defScope s__law_draw) := ⟨rfl, rfl, rfl, by decide +kernel, rfl, by decide +kernel, by decide +kernel⟩
abbrev s__law_pick : Stmt := top 29
theorem sc__law_pick : FnScope N__law_pick ["tape", "row"] (defScope s__law_pick) := ⟨rfl, rfl, rfl, by decide +kernel, rfl, by decide +kernel, by decide +kernel⟩
abbrev s__law_word : Stmt := top 30
theorem sc__law_word : FnScope N__law_wordV ["tape", "n"] (defScope s__law_word) := ⟨rfl, rfl, rfl, by decide +kernel, rfl, by decide +kernel, by decide +kernel⟩
abbrev s__law_words : Stmt := top 31
theorem sc__law_words : FnScope N__law_wordsV ["n"] (defScope s__law_words) := ⟨rfl, rfl, rfl, by decide +kernel, rfl, by decide +kernel, by decide +kernel⟩
abbrev s__law_left : Stmt := top 32
theorem sc__law_left : FnScope N__law_left ["word", "equation"] (defScope s__law_left) := ⟨rfl, rfl, rfl, by decide +kernel, rfl, by decide +kernel, by decide +kernel⟩
abbrev s__law_fits : Stmt := top 33
theorem sc__law_fits : FnScope N__law_fits ["word", "equation"] (defScope s__law_fits) := ⟨rfl, rfl, rfl, by decide +kernel, rfl, by decide +kernel, by decide +kernel⟩
abbrev s__law_equation : Stmt := top 34
theorem sc__law_equation : FnScope N__law_equation ["tape", "n", "word"] (defScope s__law_equation) := ⟨rfl, rfl, rfl, by decide +kernel, rfl, by decide +kernel, by decide +kernel⟩
abbrev s__law_equations : Stmt := top 35
theorem sc__law_equations : FnScope N__law_equations ["tape", "n", "many", "word"] (defScope s__law_equations) := ⟨rfl, rfl, rfl, by decide +kernel, rfl, by decide +kernel, by decide +kernel⟩
abbrev s__law_solves : Stmt := top 36
theorem sc__law_solves : FnScope N__law_solves ["word", "equations"] (defScope s__law_solves) := ⟨rfl, rfl, rfl, by decide +kernel, rfl, by decide +kernel, by decide +kernel⟩
abbrev s__law_solutions : Stmt := top 37
theorem sc__law_solutions : FnScope N__law_solutions ["n", "equations"] (defScope s__law_solutions) := ⟨rfl, rfl, rfl, by decide +kernel, rfl, by decide +kernel, by decide +kernel⟩
abbrev s_law : Stmt := top 38
theorem sc_law : FnScope N_law ["script"] (defScope s_law) := ⟨rfl, rfl, rfl, by decide +kernel, rfl, by decide +kernel, by decide +kernel⟩
variable [Tabl]
structure Bs (K : PySem.W.Frag) (mg : Str → Option Value) (A : Ad) : Prop where
  cls : ∀ C ∈ A.cls, ObjT K C
  b_all : mg "all" = none
  b_bool : mg "bool" = none
  b_enumerate : mg "enumerate" = none
  b_int : mg "int" = none
  b_isinstance : mg "isinstance" = none
  b_len : mg "len" = none
  b_list : mg "list" = none
  b_range : mg "range" = none
  b_repr : mg "repr" = none
  b_sum : mg "sum" = none
  b_tuple : mg "tuple" = none
  b_zip : mg "zip" = none
  c_LONGEST_WORD : ∃ t, mg "LONGEST_WORD" = some (.int 12 t)
  cl_System : Cls K A.System
  fl_System_equations : FldT K A.System "equations"
  fl_System_n : FldT K A.System "n"
  g_System : mg "System" = some (.ref A.System)
section
variable {P : Program} {w : World} {K : PySem.W.Frag} {mg : Str → Option Value} {base : Heap} {A : Ad}
theorem ok_is_integer {f : Addr} {fd : FuncData} (B : Bs K mg A) (d : DefT K mg "is_integer" s_is_integer f fd ["value"])
      :
    FnOk P w K mg base (L2.CX P w) 2 f fd ["value"] (spG K (S_is_integer A)) := by
  refine fn_pl d.F sc_is_integer (fun ds Q E h => ?_) (fun X c W ds Qd Ed hX hr tk hp lk q => ?_)
  · first | (obtain ⟨_, rfl, _⟩ := h; rfl) | (obtain ⟨_, _, rfl, _⟩ := h; rfl) | (obtain ⟨_, _, _, rfl, _⟩ := h; rfl) | (obtain ⟨rfl, _⟩ := h; rfl) | (obtain ⟨_, _, _, _, _, rfl, _⟩ := h; rfl) | (obtain ⟨_, _, _, _, rfl, _⟩ := h; rfl) | (obtain ⟨_, _, _, _, _, _, _, rfl, _⟩ := h; rfl)
  · obtain ⟨cdv, AA, outer, s, H, E, rfl, rfl⟩ := hX
    exact ⟨w_is_integer A (X0 Ed), (pdb_one (pds_ret (pd_andV (pd_isi .int B.cls rfl B.b_isinstance rfl B.b_int (by decide +kernel) (pd_var 0 (pv 0))) (pd_one (pd_notV (pd_isi .bool B.cls rfl B.b_isinstance rfl B.b_bool (by decide +kernel) (pd_var 0 (pv 0)))))))), p_is_integer  q⟩
theorem ok_is_between {f : Addr} {fd : FuncData} (B : Bs K mg A) (d : DefT K mg "is_between" s_is_between f fd ["value", "low", "high"])
    {f_is_integer : Addr} {fd_is_integer : FuncData} (d_is_integer : DefT K mg "is_integer" s_is_integer f_is_integer fd_is_integer ["value"]) (G_is_integer : FnOk P w K mg base (L2.CX P w) 2 f_is_integer fd_is_integer ["value"] (spG K (S_is_integer A)))  :
    FnOk P w K mg base (L2.CX P w) 3 f fd ["value", "low", "high"] (spG K (S_is_between A)) := by
  refine fn_pl d.F sc_is_between (fun ds Q E h => ?_) (fun X c W ds Qd Ed hX hr tk hp lk q => ?_)
  · first | (obtain ⟨_, rfl, _⟩ := h; rfl) | (obtain ⟨_, _, rfl, _⟩ := h; rfl) | (obtain ⟨_, _, _, rfl, _⟩ := h; rfl) | (obtain ⟨rfl, _⟩ := h; rfl) | (obtain ⟨_, _, _, _, _, rfl, _⟩ := h; rfl) | (obtain ⟨_, _, _, _, rfl, _⟩ := h; rfl) | (obtain ⟨_, _, _, _, _, _, _, rfl, _⟩ := h; rfl)
  · obtain ⟨cdv, AA, outer, s, H, E, rfl, rfl⟩ := hX
    exact ⟨w_is_between A (X0 Ed), (pdb_one (pds_ret (pd_andV (pd_call G_is_integer (mS_is_integer A) lk tk (hr.mono (by decide)) rfl d_is_integer.g d_is_integer.k d_is_integer.b (pda_cons (pd_var 0 (pv 0)) pda_nil)) (pd_one (pd_lele (pd_var 1 (pv 1)) (pd_var 0 (pv 0)) (pd_var 2 (pv 2))))))), p_is_between  q⟩
theorem body_first_none (B : Bs K mg A) {k : Nat} {g : Addr} {Z : Cx} {c : C} {wL : DW} (hX : ∃ cdv AA outer s H E, Z = cxOf (L2.CX P w) P w K mg base N_first_none "first_none" (defScope s_first_none) g cdv AA outer s H E) (hr : Room (k + 1) Z.A)
    (HL : ∀ p1 p2 p3, PD c Z (.Call (.Name "is_one_at" p1) [.Name "place" p2] [] p3) wL) : PDB c Z (defBody s_first_none) (w_first_none A wL NoX) := by
  obtain ⟨cdv, AA, outer, s, H, E, rfl⟩ := hX
  exact (pdb_cons (pds_if (pdt_not (pdt_val (pd_isi2 .list .tuple B.cls rfl B.b_isinstance rfl B.b_list (by decide +kernel) rfl B.b_tuple (by decide +kernel) (pd_var 0 (pv 0))))) (pdb_one (pds_ret pd_int)) pdb_nil)
    (pdb_cons (pds_for (passes_of rfl) rfl (pdi_range1 rfl B.b_range (pda_cons (pd_len rfl B.b_len (pda_cons (pd_var 0 (pv 0)) pda_nil)) pda_nil)) (pdg_name (i := 2) sc_first_none.nd rfl (by first | exact Or.inl rfl | exact Or.inr rfl))
    (pdb_one (pds_if (pdt_not (pdt_val (HL _ _ _))) (pdb_one (pds_ret (pd_var 2 (pv 2)))) pdb_nil)))
    (pdb_one (pds_ret pd_non))))
theorem ok_are_bits {f : Addr} {fd : FuncData} (B : Bs K mg A) (d : DefT K mg "are_bits" s_are_bits f fd ["values"])
    {f_is_between : Addr} {fd_is_between : FuncData} (d_is_between : DefT K mg "is_between" s_is_between f_is_between fd_is_between ["value", "low", "high"]) (G_is_between : FnOk P w K mg base (L2.CX P w) 3 f_is_between fd_is_between ["value", "low", "high"] (spG K (S_is_between A)))  :
    FnOk P w K mg base (L2.CX P w) 4 f fd ["values"] (spG K (S_are_bits A)) := by
  refine fn_pl d.F sc_are_bits (fun ds Q E h => ?_) (fun X c W ds Qd Ed hX hr tk hp lk q => ?_)
  · first | (obtain ⟨_, rfl, _⟩ := h; rfl) | (obtain ⟨_, _, rfl, _⟩ := h; rfl) | (obtain ⟨_, _, _, rfl, _⟩ := h; rfl) | (obtain ⟨rfl, _⟩ := h; rfl) | (obtain ⟨_, _, _, _, _, rfl, _⟩ := h; rfl) | (obtain ⟨_, _, _, _, rfl, _⟩ := h; rfl) | (obtain ⟨_, _, _, _, _, _, _, rfl, _⟩ := h; rfl)
  · obtain ⟨cdv, AA, outer, s, H, E, rfl, rfl⟩ := hX
    exact ⟨w_are_bits A (X0 Ed), (pdb_one (pds_ret (pd_B_all rfl rfl B.b_all (pda_cons (pd_lc (own := [("value", 1)]) rfl sc_are_bits.nd (pdi_seq (pd_var 0 (pv 0))) (blkOk_by (N := N_are_bits) (sc := defScope s_are_bits) (by decide +kernel)) (fun c _ _ _ _ _ _ => (pdg_name (i := 1) sc_are_bits.nd rfl (by first | exact Or.inl rfl | exact Or.inr rfl))) (fun c _ _ _ _ _ _ => pdts_nil) (fun c _ _ _ _ _ _ => (pd_call G_is_between (mS_is_between A) link0 takesN (hr.mono (by decide)) rfl d_is_between.g d_is_between.k d_is_between.b (pda_cons (pd_var 1 (pv 1)) (pda_cons pd_int (pda_cons pd_int pda_nil)))))) pda_nil)))), p_are_bits  q⟩
theorem ok_is_row_of_bits {f : Addr} {fd : FuncData} (B : Bs K mg A) (d : DefT K mg "is_row_of_bits" s_is_row_of_bits f fd ["value", "many"])
    {f_are_bits : Addr} {fd_are_bits : FuncData} (d_are_bits : DefT K mg "are_bits" s_are_bits f_are_bits fd_are_bits ["values"]) (G_are_bits : FnOk P w K mg base (L2.CX P w) 4 f_are_bits fd_are_bits ["values"] (spG K (S_are_bits A)))  :
    FnOk P w K mg base (L2.CX P w) 5 f fd ["value", "many"] (spG K (S_is_row_of_bits A)) := by
  refine fn_pl d.F sc_is_row_of_bits (fun ds Q E h => ?_) (fun X c W ds Qd Ed hX hr tk hp lk q => ?_)
  · first | (obtain ⟨_, rfl, _⟩ := h; rfl) | (obtain ⟨_, _, rfl, _⟩ := h; rfl) | (obtain ⟨_, _, _, rfl, _⟩ := h; rfl) | (obtain ⟨rfl, _⟩ := h; rfl) | (obtain ⟨_, _, _, _, _, rfl, _⟩ := h; rfl) | (obtain ⟨_, _, _, _, rfl, _⟩ := h; rfl) | (obtain ⟨_, _, _, _, _, _, _, rfl, _⟩ := h; rfl)
  · obtain ⟨cdv, AA, outer, s, H, E, rfl, rfl⟩ := hX
    exact ⟨w_is_row_of_bits A (X0 Ed), (pdb_one (pds_ret (pd_andV (pd_isi .tuple B.cls rfl B.b_isinstance rfl B.b_tuple (by decide +kernel) (pd_var 0 (pv 0))) (pd_andV (pd_eq hr (pd_len rfl B.b_len (pda_cons (pd_var 0 (pv 0)) pda_nil)) (pd_var 1 (pv 1))) (pd_one (pd_call G_are_bits (mS_are_bits A) lk tk (hr.mono (by decide)) rfl d_are_bits.g d_are_bits.k d_are_bits.b (pda_cons (pd_var 0 (pv 0)) pda_nil))))))), p_is_row_of_bits  q⟩
theorem ok_is_word {f : Addr} {fd : FuncData} (B : Bs K mg A) (d : DefT K mg "is_word" s_is_word f fd ["value", "n"])
    {f_is_row_of_bits : Addr} {fd_is_row_of_bits : FuncData} (d_is_row_of_bits : DefT K mg "is_row_of_bits" s_is_row_of_bits f_is_row_of_bits fd_is_row_of_bits ["value", "many"]) (G_is_row_of_bits : FnOk P w K mg base (L2.CX P w) 5 f_is_row_of_bits fd_is_row_of_bits ["value", "many"] (spG K (S_is_row_of_bits A)))  :
    FnOk P w K mg base (L2.CX P w) 6 f fd ["value", "n"] (spG K (S_is_word A)) := by
  refine fn_pl d.F sc_is_word (fun ds Q E h => ?_) (fun X c W ds Qd Ed hX hr tk hp lk q => ?_)
  · first | (obtain ⟨_, rfl, _⟩ := h; rfl) | (obtain ⟨_, _, rfl, _⟩ := h; rfl) | (obtain ⟨_, _, _, rfl, _⟩ := h; rfl) | (obtain ⟨rfl, _⟩ := h; rfl) | (obtain ⟨_, _, _, _, _, rfl, _⟩ := h; rfl) | (obtain ⟨_, _, _, _, rfl, _⟩ := h; rfl) | (obtain ⟨_, _, _, _, _, _, _, rfl, _⟩ := h; rfl)
  · obtain ⟨cdv, AA, outer, s, H, E, rfl, rfl⟩ := hX
    exact ⟨w_is_word A (X0 Ed), (pdb_one (pds_ret (pd_andV (pd_lele pd_int (pd_var 1 (pv 1)) (B.c_LONGEST_WORD.elim fun _ h => pd_glob (v := .int 12) rfl h ⟨_, rfl⟩ (fun _ => .int _))) (pd_one (pd_call G_is_row_of_bits (mS_is_row_of_bits A) lk tk (hr.mono (by decide)) rfl d_is_row_of_bits.g d_is_row_of_bits.k d_is_row_of_bits.b (pda_cons (pd_var 0 (pv 0)) (pda_cons (pd_var 1 (pv 1)) pda_nil))))))), p_is_word  q⟩
theorem ok_check_length {f : Addr} {fd : FuncData} (B : Bs K mg A) (d : DefT K mg "check_length" s_check_length f fd ["n"])
    {fi_InvalidNumber : Addr} {fdi_InvalidNumber : FuncData} (e_InvalidNumber : ExcT K mg "InvalidNumber" A.InvalidNumber fi_InvalidNumber ["value"]) (b_i_InvalidNumber : Binds K fdi_InvalidNumber ["self", "value"] []) (G_InvalidNumber : L2.FnOk P w K mg base (L2.CX P w) 1 fi_InvalidNumber fdi_InvalidNumber ["self", "value"] (spIni1 A.InvalidNumber "value"))
    {f_is_between : Addr} {fd_is_between : FuncData} (d_is_between : DefT K mg "is_between" s_is_between f_is_between fd_is_between ["value", "low", "high"]) (G_is_between : FnOk P w K mg base (L2.CX P w) 3 f_is_between fd_is_between ["value", "low", "high"] (spG K (S_is_between A)))  :
    FnOk P w K mg base (L2.CX P w) 4 f fd ["n"] (spG K (S_check_length A)) := by
  refine fn_pl d.F sc_check_length (fun ds Q E h => ?_) (fun X c W ds Qd Ed hX hr tk hp lk q => ?_)
  · first | (obtain ⟨_, rfl, _⟩ := h; rfl) | (obtain ⟨_, _, rfl, _⟩ := h; rfl) | (obtain ⟨_, _, _, rfl, _⟩ := h; rfl) | (obtain ⟨rfl, _⟩ := h; rfl) | (obtain ⟨_, _, _, _, _, rfl, _⟩ := h; rfl) | (obtain ⟨_, _, _, _, rfl, _⟩ := h; rfl) | (obtain ⟨_, _, _, _, _, _, _, rfl, _⟩ := h; rfl)
  · obtain ⟨cdv, AA, outer, s, H, E, rfl, rfl⟩ := hX
    exact ⟨w_check_length A (X0 Ed), (pdb_one (pds_if (pdt_not (pdt_val (pd_call G_is_between (mS_is_between A) lk tk (hr.mono (by decide)) rfl d_is_between.g d_is_between.k d_is_between.b (pda_cons (pd_var 0 (pv 0)) (pda_cons pd_int (pda_cons (B.c_LONGEST_WORD.elim fun _ h => pd_glob (v := .int 12) rfl h ⟨_, rfl⟩ (fun _ => .int _)) pda_nil)))))) (pdb_one (pds_raise1 e_InvalidNumber G_InvalidNumber b_i_InvalidNumber lk tk (hr.mono (by decide)) rfl rfl (pd_var 0 (pv 0)))) pdb_nil)), p_check_length  q⟩
theorem ok_all_words {f : Addr} {fd : FuncData} (B : Bs K mg A) (d : DefT K mg "all_words" s_all_words f fd ["n"])
    {f_check_length : Addr} {fd_check_length : FuncData} (d_check_length : DefT K mg "check_length" s_check_length f_check_length fd_check_length ["n"]) (G_check_length : FnOk P w K mg base (L2.CX P w) 4 f_check_length fd_check_length ["n"] (spG K (S_check_length A)))  :
    FnOk P w K mg base (L2.CX P w) 5 f fd ["n"] (spG K (S_all_words A)) := by
  refine fn_pl d.F sc_all_words (fun ds Q E h => ?_) (fun X c W ds Qd Ed hX hr tk hp lk q => ?_)
  · first | (obtain ⟨_, rfl, _⟩ := h; rfl) | (obtain ⟨_, _, rfl, _⟩ := h; rfl) | (obtain ⟨_, _, _, rfl, _⟩ := h; rfl) | (obtain ⟨rfl, _⟩ := h; rfl) | (obtain ⟨_, _, _, _, _, rfl, _⟩ := h; rfl) | (obtain ⟨_, _, _, _, rfl, _⟩ := h; rfl) | (obtain ⟨_, _, _, _, _, _, _, rfl, _⟩ := h; rfl)
  · obtain ⟨cdv, AA, outer, s, H, E, rfl, rfl⟩ := hX
    exact ⟨w_all_words A (X0 Ed), (pdb_cons (pds_expr (pd_call G_check_length (mS_check_length A) lk tk (hr.mono (by decide)) rfl d_check_length.g d_check_length.k d_check_length.b (pda_cons (pd_var 0 (pv 0)) pda_nil)))
    (pdb_cons (pds_set (i := 1) sc_all_words.nd rfl (by first | exact Or.inl rfl | exact Or.inr rfl) (pd_lst (pda_cons (pd_tup pda_nil) pda_nil)))
    (pdb_cons (pds_for hp rfl (pdi_range1 rfl B.b_range (pda_cons (pd_var 0 (pv 0)) pda_nil)) (pdg_name (i := 2) sc_all_words.nd rfl (by first | exact Or.inl rfl | exact Or.inr rfl))
    (pdb_one (pds_setLc2 (i := 1) (own := [("word", 3), ("bit", 4)]) (vs1 := [4]) rfl sc_all_words.nd rfl rfl (sw_true rfl rfl rfl (by decide +kernel)) (pdi_seq (pd_var 1 (pv 1))) (blkOk_by (N := N_all_words) (sc := defScope s_all_words) (by decide +kernel)) ⟨fun c _ _ _ _ _ _ => (pdg_name (i := 3) sc_all_words.nd rfl (by first | exact Or.inl rfl | exact Or.inr rfl)), fun c _ _ _ _ _ _ => pdts_nil, fun c _ _ _ _ _ _ => (pdi_seq (pd_tup (pda_cons pd_int (pda_cons pd_int pda_nil)))), fun c _ _ _ _ _ _ => (pdg_name (i := 4) sc_all_words.nd rfl (by first | exact Or.inl rfl | exact Or.inr rfl)), fun c _ _ _ _ _ _ => pdts_nil, fun c _ _ _ _ _ _ => (pd_add (pd_var 3 (pv 3)) (pd_tup (pda_cons (pd_var 4 (pv 4)) pda_nil)))⟩)))
    (pdb_one (pds_ret (pd_T_tuple rfl B.b_tuple (pda_cons (pd_var 1 (pv 1)) pda_nil))))))), p_all_words  q⟩
theorem ok_is_ascending {f : Addr} {fd : FuncData} (B : Bs K mg A) (d : DefT K mg "is_ascending" s_is_ascending f fd ["values"])
      :
    FnOk P w K mg base (L2.CX P w) 2 f fd ["values"] (spG K (S_is_ascending A)) := by
  refine fn_pl d.F sc_is_ascending (fun ds Q E h => ?_) (fun X c W ds Qd Ed hX hr tk hp lk q => ?_)
  · first | (obtain ⟨_, rfl, _⟩ := h; rfl) | (obtain ⟨_, _, rfl, _⟩ := h; rfl) | (obtain ⟨_, _, _, rfl, _⟩ := h; rfl) | (obtain ⟨rfl, _⟩ := h; rfl) | (obtain ⟨_, _, _, _, _, rfl, _⟩ := h; rfl) | (obtain ⟨_, _, _, _, rfl, _⟩ := h; rfl) | (obtain ⟨_, _, _, _, _, _, _, rfl, _⟩ := h; rfl)
  · obtain ⟨cdv, AA, outer, s, H, E, rfl, rfl⟩ := hX
    exact ⟨w_is_ascending A (X0 Ed), (pdb_one (pds_ret (pd_B_all rfl rfl B.b_all (pda_cons (pd_lc (own := [("before", 1), ("value", 2)]) rfl sc_is_ascending.nd (pdi_zip rfl B.b_zip (pda_cons (pd_var 0 (pv 0)) (pda_cons (pd_cut (pd_var 0 (pv 0)) (pdp_some pd_int) pdp_none) pda_nil))) (blkOk_by (N := N_is_ascending) (sc := defScope s_is_ascending) (by decide +kernel)) (fun c _ _ _ _ _ _ => (pdg_tup rfl (pdgs_cons (pdg_name (i := 1) sc_is_ascending.nd rfl (by first | exact Or.inl rfl | exact Or.inr rfl)) (pdgs_cons (pdg_name (i := 2) sc_is_ascending.nd rfl (by first | exact Or.inl rfl | exact Or.inr rfl)) pdgs_nil)))) (fun c _ _ _ _ _ _ => pdts_nil) (fun c _ _ _ _ _ _ => (pd_ltD hr (pd_var 1 (pv 1)) (pd_var 2 (pv 2))))) pda_nil)))), p_is_ascending  q⟩
theorem ok_are_unknowns {f : Addr} {fd : FuncData} (B : Bs K mg A) (d : DefT K mg "are_unknowns" s_are_unknowns f fd ["value", "n"])
    {f_is_ascending : Addr} {fd_is_ascending : FuncData} (d_is_ascending : DefT K mg "is_ascending" s_is_ascending f_is_ascending fd_is_ascending ["values"]) (G_is_ascending : FnOk P w K mg base (L2.CX P w) 2 f_is_ascending fd_is_ascending ["values"] (spG K (S_is_ascending A)))
    {f_is_between : Addr} {fd_is_between : FuncData} (d_is_between : DefT K mg "is_between" s_is_between f_is_between fd_is_between ["value", "low", "high"]) (G_is_between : FnOk P w K mg base (L2.CX P w) 3 f_is_between fd_is_between ["value", "low", "high"] (spG K (S_is_between A)))  :
    FnOk P w K mg base (L2.CX P w) 4 f fd ["value", "n"] (spG K (S_are_unknowns A)) := by
  refine fn_pl d.F sc_are_unknowns (fun ds Q E h => ?_) (fun X c W ds Qd Ed hX hr tk hp lk q => ?_)
  · first | (obtain ⟨_, rfl, _⟩ := h; rfl) | (obtain ⟨_, _, rfl, _⟩ := h; rfl) | (obtain ⟨_, _, _, rfl, _⟩ := h; rfl) | (obtain ⟨rfl, _⟩ := h; rfl) | (obtain ⟨_, _, _, _, _, rfl, _⟩ := h; rfl) | (obtain ⟨_, _, _, _, rfl, _⟩ := h; rfl) | (obtain ⟨_, _, _, _, _, _, _, rfl, _⟩ := h; rfl)
  · obtain ⟨cdv, AA, outer, s, H, E, rfl, rfl⟩ := hX
    exact ⟨w_are_unknowns A (X0 Ed), (pdb_cons (pds_if (PDW.pt (pdw_or (pdt_not (pdt_val (pd_isi .tuple B.cls rfl B.b_isinstance rfl B.b_tuple (by decide +kernel) (pd_var 0 (pv 0))))) (pdw_or1 (pdt_not (pdt_val (pd_B_all rfl rfl B.b_all (pda_cons (pd_lc (own := [("number", 2)]) rfl sc_are_unknowns.nd (pdi_seq (pd_var 0 (pv 0))) (blkOk_by (N := N_are_unknowns) (sc := defScope s_are_unknowns) (by decide +kernel)) (fun c _ _ _ _ _ _ => (pdg_name (i := 2) sc_are_unknowns.nd rfl (by first | exact Or.inl rfl | exact Or.inr rfl))) (fun c _ _ _ _ _ _ => pdts_nil) (fun c _ _ _ _ _ _ => (pd_call G_is_between (mS_is_between A) link0 takesN (hr.mono (by decide)) rfl d_is_between.g d_is_between.k d_is_between.b (pda_cons (pd_var 2 (pv 2)) (pda_cons pd_int (pda_cons (pd_sub (pd_var 1 (pv 1)) pd_int) pda_nil)))))) pda_nil))))))) (pdb_one (pds_ret pd_bl)) pdb_nil)
    (pdb_one (pds_ret (pd_call G_is_ascending (mS_is_ascending A) lk tk (hr.mono (by decide)) rfl d_is_ascending.g d_is_ascending.k d_is_ascending.b (pda_cons (pd_var 0 (pv 0)) pda_nil))))), p_are_unknowns  q⟩
theorem ok_are_pairs {f : Addr} {fd : FuncData} (B : Bs K mg A) (d : DefT K mg "are_pairs" s_are_pairs f fd ["value", "n"])
    {f_are_unknowns : Addr} {fd_are_unknowns : FuncData} (d_are_unknowns : DefT K mg "are_unknowns" s_are_unknowns f_are_unknowns fd_are_unknowns ["value", "n"]) (G_are_unknowns : FnOk P w K mg base (L2.CX P w) 4 f_are_unknowns fd_are_unknowns ["value", "n"] (spG K (S_are_unknowns A)))
    {f_is_ascending : Addr} {fd_is_ascending : FuncData} (d_is_ascending : DefT K mg "is_ascending" s_is_ascending f_is_ascending fd_is_ascending ["values"]) (G_is_ascending : FnOk P w K mg base (L2.CX P w) 2 f_is_ascending fd_is_ascending ["values"] (spG K (S_is_ascending A)))  :
    FnOk P w K mg base (L2.CX P w) 5 f fd ["value", "n"] (spG K (S_are_pairs A)) := by
  refine fn_pl d.F sc_are_pairs (fun ds Q E h => ?_) (fun X c W ds Qd Ed hX hr tk hp lk q => ?_)
  · first | (obtain ⟨_, rfl, _⟩ := h; rfl) | (obtain ⟨_, _, rfl, _⟩ := h; rfl) | (obtain ⟨_, _, _, rfl, _⟩ := h; rfl) | (obtain ⟨rfl, _⟩ := h; rfl) | (obtain ⟨_, _, _, _, _, rfl, _⟩ := h; rfl) | (obtain ⟨_, _, _, _, rfl, _⟩ := h; rfl) | (obtain ⟨_, _, _, _, _, _, _, rfl, _⟩ := h; rfl)
  · obtain ⟨cdv, AA, outer, s, H, E, rfl, rfl⟩ := hX
    exact ⟨w_are_pairs A (X0 Ed), (pdb_cons (pds_if (PDW.pt (pdw_or (pdt_not (pdt_val (pd_isi .tuple B.cls rfl B.b_isinstance rfl B.b_tuple (by decide +kernel) (pd_var 0 (pv 0))))) (pdw_or1 (pdt_not (pdt_val (pd_B_all rfl rfl B.b_all (pda_cons (pd_lc (own := [("pair", 2)]) rfl sc_are_pairs.nd (pdi_seq (pd_var 0 (pv 0))) (blkOk_by (N := N_are_pairs) (sc := defScope s_are_pairs) (by decide +kernel)) (fun c _ _ _ _ _ _ => (pdg_name (i := 2) sc_are_pairs.nd rfl (by first | exact Or.inl rfl | exact Or.inr rfl))) (fun c _ _ _ _ _ _ => pdts_nil) (fun c _ _ _ _ _ _ => (pd_andV (pd_call G_are_unknowns (mS_are_unknowns A) link0 takesN (hr.mono (by decide)) rfl d_are_unknowns.g d_are_unknowns.k d_are_unknowns.b (pda_cons (pd_var 2 (pv 2)) (pda_cons (pd_var 1 (pv 1)) pda_nil))) (pd_one (pd_eq hr (pd_len rfl B.b_len (pda_cons (pd_var 2 (pv 2)) pda_nil)) pd_int))))) pda_nil))))))) (pdb_one (pds_ret pd_bl)) pdb_nil)
    (pdb_one (pds_ret (pd_call G_is_ascending (mS_is_ascending A) lk tk (hr.mono (by decide)) rfl d_is_ascending.g d_is_ascending.k d_is_ascending.b (pda_cons (pd_var 0 (pv 0)) pda_nil))))), p_are_pairs  q⟩
theorem ok_is_equation {f : Addr} {fd : FuncData} (B : Bs K mg A) (d : DefT K mg "is_equation" s_is_equation f fd ["value", "n"])
    {f_are_pairs : Addr} {fd_are_pairs : FuncData} (d_are_pairs : DefT K mg "are_pairs" s_are_pairs f_are_pairs fd_are_pairs ["value", "n"]) (G_are_pairs : FnOk P w K mg base (L2.CX P w) 5 f_are_pairs fd_are_pairs ["value", "n"] (spG K (S_are_pairs A)))
    {f_are_unknowns : Addr} {fd_are_unknowns : FuncData} (d_are_unknowns : DefT K mg "are_unknowns" s_are_unknowns f_are_unknowns fd_are_unknowns ["value", "n"]) (G_are_unknowns : FnOk P w K mg base (L2.CX P w) 4 f_are_unknowns fd_are_unknowns ["value", "n"] (spG K (S_are_unknowns A)))
    {f_is_between : Addr} {fd_is_between : FuncData} (d_is_between : DefT K mg "is_between" s_is_between f_is_between fd_is_between ["value", "low", "high"]) (G_is_between : FnOk P w K mg base (L2.CX P w) 3 f_is_between fd_is_between ["value", "low", "high"] (spG K (S_is_between A)))  :
    FnOk P w K mg base (L2.CX P w) 6 f fd ["value", "n"] (spG K (S_is_equation A)) := by
  refine fn_pl d.F sc_is_equation (fun ds Q E h => ?_) (fun X c W ds Qd Ed hX hr tk hp lk q => ?_)
  · first | (obtain ⟨_, rfl, _⟩ := h; rfl) | (obtain ⟨_, _, rfl, _⟩ := h; rfl) | (obtain ⟨_, _, _, rfl, _⟩ := h; rfl) | (obtain ⟨rfl, _⟩ := h; rfl) | (obtain ⟨_, _, _, _, _, rfl, _⟩ := h; rfl) | (obtain ⟨_, _, _, _, rfl, _⟩ := h; rfl) | (obtain ⟨_, _, _, _, _, _, _, rfl, _⟩ := h; rfl)
  · obtain ⟨cdv, AA, outer, s, H, E, rfl, rfl⟩ := hX
    exact ⟨w_is_equation A (X0 Ed), (pdb_cons (pds_if (PDW.pt (pdw_or (pdt_not (pdt_val (pd_isi .tuple B.cls rfl B.b_isinstance rfl B.b_tuple (by decide +kernel) (pd_var 0 (pv 0))))) (pdw_or1 (pdt_ne hr (pd_len rfl B.b_len (pda_cons (pd_var 0 (pv 0)) pda_nil)) pd_int)))) (pdb_one (pds_ret pd_bl)) pdb_nil)
    (pdb_cons (pds_asg (pd_var 0 (pv 0)) (pdg_tup rfl (pdgs_cons (pdg_name (i := 2) sc_is_equation.nd rfl (by first | exact Or.inl rfl | exact Or.inr rfl)) (pdgs_cons (pdg_name (i := 3) sc_is_equation.nd rfl (by first | exact Or.inl rfl | exact Or.inr rfl)) (pdgs_cons (pdg_name (i := 4) sc_is_equation.nd rfl (by first | exact Or.inl rfl | exact Or.inr rfl)) pdgs_nil)))))
    (pdb_one (pds_ret (pd_andV (pd_call G_are_pairs (mS_are_pairs A) lk tk (hr.mono (by decide)) rfl d_are_pairs.g d_are_pairs.k d_are_pairs.b (pda_cons (pd_var 2 (pv 2)) (pda_cons (pd_var 1 (pv 1)) pda_nil))) (pd_andV (pd_call G_are_unknowns (mS_are_unknowns A) lk tk (hr.mono (by decide)) rfl d_are_unknowns.g d_are_unknowns.k d_are_unknowns.b (pda_cons (pd_var 3 (pv 3)) (pda_cons (pd_var 1 (pv 1)) pda_nil))) (pd_one (pd_call G_is_between (mS_is_between A) lk tk (hr.mono (by decide)) rfl d_is_between.g d_is_between.k d_is_between.b (pda_cons (pd_var 4 (pv 4)) (pda_cons pd_int (pda_cons pd_int pda_nil))))))))))), p_is_equation  q⟩
theorem ok_check_equations {f : Addr} {fd : FuncData} (B : Bs K mg A) (d : DefT K mg "check_equations" s_check_equations f fd ["n", "equations"])
    {fi_InvalidSystem : Addr} {fdi_InvalidSystem : FuncData} (e_InvalidSystem : ExcT K mg "InvalidSystem" A.InvalidSystem fi_InvalidSystem ["place", "part"]) (b_i_InvalidSystem : Binds K fdi_InvalidSystem ["self", "part", "place"] []) (G_InvalidSystem : L2.FnOk P w K mg base (L2.CX P w) 1 fi_InvalidSystem fdi_InvalidSystem ["self", "part", "place"] (spIni2 A.InvalidSystem "part" "place"))
    {f_first_none : Addr} {fd_first_none : FuncData} (d_first_none : DefT K mg "first_none" s_first_none f_first_none fd_first_none ["values", "is_one_at"])
    {f_is_equation : Addr} {fd_is_equation : FuncData} (d_is_equation : DefT K mg "is_equation" s_is_equation f_is_equation fd_is_equation ["value", "n"]) (G_is_equation : FnOk P w K mg base (L2.CX P w) 6 f_is_equation fd_is_equation ["value", "n"] (spG K (S_is_equation A)))
    {cc_check_equations P_check_equations : Addr} (LT : LamT mg base fd cc_check_equations P_check_equations (((PySem.Str.ofString "check_equations") ++ ".<locals>.") ++ "<lambda>"))  :
    FnOk P w K mg base (L2.CX P w) 9 f fd ["n", "equations"] (spG K (S_check_equations A)) := by
  refine fn_plC d.F sc_check_equations (fun ds Q E h => ?_) (fun X c W ds Qd Ed hX hr tk hp lk q => ?_)
  · first | (obtain ⟨_, rfl, _⟩ := h; rfl) | (obtain ⟨_, _, rfl, _⟩ := h; rfl) | (obtain ⟨_, _, _, rfl, _⟩ := h; rfl) | (obtain ⟨rfl, _⟩ := h; rfl) | (obtain ⟨_, _, _, _, _, rfl, _⟩ := h; rfl) | (obtain ⟨_, _, _, _, rfl, _⟩ := h; rfl) | (obtain ⟨_, _, _, _, _, _, _, rfl, _⟩ := h; rfl)
  · obtain ⟨cdv, AA, outer, s, H, E, rfl, rfl, hcd⟩ := hX
    exact ⟨w_check_equations A (X0 Ed), (pdb_cons (pds_set (i := 2) sc_check_equations.nd rfl (by first | exact Or.inl rfl | exact Or.inr rfl) (pd_lamC (k := 6) (x := "first_none") (at_ := "at") (NL := ["at", "n", "equations"]) (fr := ["n", "equations"]) (js := [0, 1]) (wg := fun wL => w_first_none A wL NoX) (hr.mono (by decide)) rfl d_first_none sc_first_none (by decide) rfl (Or.inl rfl) (Or.inl rfl) (fun Z cc wL hX hr HL => body_first_none B hX hr HL) (pd_var 1 (pv 1)) LT.tb (hcd.symm.trans LT.code) LT.hm LT.hu rfl (NdefX.nscope_by (by decide +kernel)) (NdefX.ndef_free (sc := defScope s_check_equations) (fr := ["n", "equations"]) (by decide +kernel)) (NdefX.ndef_fr (sc := defScope s_check_equations) (by decide +kernel)) rfl (fun _ _ _ _ _ _ => rfl) (fun c hc AA outer s H f c1 hr => (pd_call G_is_equation (mS_is_equation A) link0 takesN (hr.mono (by decide)) rfl d_is_equation.g d_is_equation.k d_is_equation.b (pda_cons (pd_idx (pd_var 2 (pv 2)) (pd_var 0 (pv 0))) (pda_cons (pd_var 1 (pv 1)) pda_nil))))))
    (pdb_one (pds_if (pdt_notN (pd_var 2 (pv 2))) (pdb_one (pds_raise2 e_InvalidSystem G_InvalidSystem b_i_InvalidSystem lk tk (hr.mono (by decide)) rfl rfl pd_str (pd_var 2 (pv 2)))) pdb_nil))), p_check_equations  q⟩
theorem ok_is_fitting {f : Addr} {fd : FuncData} (B : Bs K mg A) (d : DefT K mg "is_fitting" s_is_fitting f fd ["word", "equation"])
      :
    FnOk P w K mg base (L2.CX P w) 2 f fd ["word", "equation"] (spG K (S_is_fitting A)) := by
  refine fn_pl d.F sc_is_fitting (fun ds Q E h => ?_) (fun X c W ds Qd Ed hX hr tk hp lk q => ?_)
  · first | (obtain ⟨_, rfl, _⟩ := h; rfl) | (obtain ⟨_, _, rfl, _⟩ := h; rfl) | (obtain ⟨_, _, _, rfl, _⟩ := h; rfl) | (obtain ⟨rfl, _⟩ := h; rfl) | (obtain ⟨_, _, _, _, _, rfl, _⟩ := h; rfl) | (obtain ⟨_, _, _, _, rfl, _⟩ := h; rfl) | (obtain ⟨_, _, _, _, _, _, _, rfl, _⟩ := h; rfl)
  · obtain ⟨cdv, AA, outer, s, H, E, rfl, rfl⟩ := hX
    exact ⟨w_is_fitting A (X0 Ed), (pdb_cons (pds_asg (pd_var 1 (pv 1)) (pdg_tup rfl (pdgs_cons (pdg_name (i := 3) sc_is_fitting.nd rfl (by first | exact Or.inl rfl | exact Or.inr rfl)) (pdgs_cons (pdg_name (i := 4) sc_is_fitting.nd rfl (by first | exact Or.inl rfl | exact Or.inr rfl)) (pdgs_cons (pdg_name (i := 5) sc_is_fitting.nd rfl (by first | exact Or.inl rfl | exact Or.inr rfl)) pdgs_nil)))))
    (pdb_cons (pds_set (i := 2) sc_is_fitting.nd rfl (by first | exact Or.inl rfl | exact Or.inr rfl) (pd_add (pd_B_sum rfl rfl B.b_sum (pda_cons (pd_lc (own := [("i", 6), ("j", 7)]) rfl sc_is_fitting.nd (pdi_seq (pd_var 3 (pv 3))) (blkOk_by (N := N_is_fitting) (sc := defScope s_is_fitting) (by decide +kernel)) (fun c _ _ _ _ _ _ => (pdg_tup rfl (pdgs_cons (pdg_name (i := 6) sc_is_fitting.nd rfl (by first | exact Or.inl rfl | exact Or.inr rfl)) (pdgs_cons (pdg_name (i := 7) sc_is_fitting.nd rfl (by first | exact Or.inl rfl | exact Or.inr rfl)) pdgs_nil)))) (fun c _ _ _ _ _ _ => pdts_nil) (fun c _ _ _ _ _ _ => (pd_and (pd_idx (pd_var 0 (pv 0)) (pd_var 6 (pv 6))) (pd_idx (pd_var 0 (pv 0)) (pd_var 7 (pv 7)))))) pda_nil)) (pd_B_sum rfl rfl B.b_sum (pda_cons (pd_lc (own := [("i", 6)]) rfl sc_is_fitting.nd (pdi_seq (pd_var 4 (pv 4))) (blkOk_by (N := N_is_fitting) (sc := defScope s_is_fitting) (by decide +kernel)) (fun c _ _ _ _ _ _ => (pdg_name (i := 6) sc_is_fitting.nd rfl (by first | exact Or.inl rfl | exact Or.inr rfl))) (fun c _ _ _ _ _ _ => pdts_nil) (fun c _ _ _ _ _ _ => (pd_idx (pd_var 0 (pv 0)) (pd_var 6 (pv 6))))) pda_nil))))
    (pdb_one (pds_ret (pd_eq hr (pd_and (pd_var 2 (pv 2)) pd_int) (pd_var 5 (pv 5))))))), p_is_fitting  q⟩
theorem ok_System_init {f : Addr} {fd : FuncData} (B : Bs K mg A) (F : Fun K "__init__" "System.__init__" s_System_init f fd)
    {fi_InvalidSystem : Addr} {fdi_InvalidSystem : FuncData} (e_InvalidSystem : ExcT K mg "InvalidSystem" A.InvalidSystem fi_InvalidSystem ["place", "part"]) (b_i_InvalidSystem : Binds K fdi_InvalidSystem ["self", "part", "place"] []) (G_InvalidSystem : L2.FnOk P w K mg base (L2.CX P w) 1 fi_InvalidSystem fdi_InvalidSystem ["self", "part", "place"] (spIni2 A.InvalidSystem "part" "place"))
    {f_check_equations : Addr} {fd_check_equations : FuncData} (d_check_equations : DefT K mg "check_equations" s_check_equations f_check_equations fd_check_equations ["n", "equations"]) (G_check_equations : FnOk P w K mg base (L2.CX P w) 9 f_check_equations fd_check_equations ["n", "equations"] (spG K (S_check_equations A)))
    {f_is_between : Addr} {fd_is_between : FuncData} (d_is_between : DefT K mg "is_between" s_is_between f_is_between fd_is_between ["value", "low", "high"]) (G_is_between : FnOk P w K mg base (L2.CX P w) 3 f_is_between fd_is_between ["value", "low", "high"] (spG K (S_is_between A))) :
    FnOk P w K mg base (L2.CX P w) 10 f fd ["self", "n", "equations"] (spI K A.System (I_System A)) := by
  refine fn_init F sc_System_init (fun ds Q E h => ?_) (fun X c W ds a Qd Ed hX hr tk hp lk q => ?_)
  · first | (obtain ⟨_, rfl, _⟩ := h; rfl) | (obtain ⟨_, _, rfl, _⟩ := h; rfl) | (obtain ⟨_, _, _, rfl, _⟩ := h; rfl)
  · obtain ⟨cdv, AA, outer, s, H, E, rfl, rfl⟩ := hX
    exact ⟨w_System_init A (X0 Ed), (pdb_cons (pds_if (pdt_not (pdt_val (pd_call G_is_between (mS_is_between A) lk tk (hr.mono (by decide)) rfl d_is_between.g d_is_between.k d_is_between.b (pda_cons (pd_var 1 (pv 1)) (pda_cons pd_int (pda_cons (B.c_LONGEST_WORD.elim fun _ h => pd_glob (v := .int 12) rfl h ⟨_, rfl⟩ (fun _ => .int _)) pda_nil)))))) (pdb_one (pds_raise2 e_InvalidSystem G_InvalidSystem b_i_InvalidSystem lk tk (hr.mono (by decide)) rfl rfl pd_str pd_int)) pdb_nil)
    (pdb_cons (pds_expr (pd_call G_check_equations (mS_check_equations A) lk tk (hr.mono (by decide)) rfl d_check_equations.g d_check_equations.k d_check_equations.b (pda_cons (pd_var 1 (pv 1)) (pda_cons (pd_var 2 (pv 2)) pda_nil))))
    (pdb_cons (pds_setF (i := 0) B.fl_System_n (pv 0) (pd_var 1 (pv 1)))
    (pdb_one (pds_setF (i := 0) B.fl_System_equations (pv 0) (pd_T_tuple rfl B.b_tuple (pda_cons (pd_var 2 (pv 2)) pda_nil))))))), p_System_init q⟩
theorem ok_System_first_wrong {f : Addr} {fd : FuncData} (B : Bs K mg A) (F : Fun K "first_wrong" "System.first_wrong" s_System_first_wrong f fd)
    {fi_InvalidWord : Addr} {fdi_InvalidWord : FuncData} (e_InvalidWord : ExcT K mg "InvalidWord" A.InvalidWord fi_InvalidWord ["value"]) (b_i_InvalidWord : Binds K fdi_InvalidWord ["self", "value"] []) (G_InvalidWord : L2.FnOk P w K mg base (L2.CX P w) 1 fi_InvalidWord fdi_InvalidWord ["self", "value"] (spIni1 A.InvalidWord "value"))
    {f_is_fitting : Addr} {fd_is_fitting : FuncData} (d_is_fitting : DefT K mg "is_fitting" s_is_fitting f_is_fitting fd_is_fitting ["word", "equation"]) (G_is_fitting : FnOk P w K mg base (L2.CX P w) 2 f_is_fitting fd_is_fitting ["word", "equation"] (spG K (S_is_fitting A)))
    {f_is_word : Addr} {fd_is_word : FuncData} (d_is_word : DefT K mg "is_word" s_is_word f_is_word fd_is_word ["value", "n"]) (G_is_word : FnOk P w K mg base (L2.CX P w) 6 f_is_word fd_is_word ["value", "n"] (spG K (S_is_word A))) :
    FnOk P w K mg base (L2.CX P w) 7 f fd ["self", "word"] (spG K (S_System_first_wrong A)) := by
  refine fn_pl F sc_System_first_wrong (fun ds Q E h => ?_) (fun X c W ds Qd Ed hX hr tk hp lk q => ?_)
  · first | (obtain ⟨_, rfl, _⟩ := h; rfl) | (obtain ⟨_, _, rfl, _⟩ := h; rfl) | (obtain ⟨_, _, _, rfl, _⟩ := h; rfl) | (obtain ⟨rfl, _⟩ := h; rfl) | (obtain ⟨_, _, _, _, _, rfl, _⟩ := h; rfl) | (obtain ⟨_, _, _, _, rfl, _⟩ := h; rfl)
  · obtain ⟨cdv, AA, outer, s, H, E, rfl, rfl⟩ := hX
    exact ⟨w_System_first_wrong A (X0 Ed), (pdb_cons (pds_if (pdt_not (pdt_val (pd_call G_is_word (mS_is_word A) lk tk (hr.mono (by decide)) rfl d_is_word.g d_is_word.k d_is_word.b (pda_cons (pd_var 1 (pv 1)) (pda_cons (pd_fld B.fl_System_n (pd_var 0 (pv 0))) pda_nil))))) (pdb_one (pds_raise1 e_InvalidWord G_InvalidWord b_i_InvalidWord lk tk (hr.mono (by decide)) rfl rfl (pd_var 1 (pv 1)))) pdb_nil)
    (pdb_cons (pds_for hp rfl (pdi_enum rfl B.b_enumerate (pda_cons (pd_fld B.fl_System_equations (pd_var 0 (pv 0))) pda_nil)) (pdg_tup rfl (pdgs_cons (pdg_name (i := 2) sc_System_first_wrong.nd rfl (by first | exact Or.inl rfl | exact Or.inr rfl)) (pdgs_cons (pdg_name (i := 3) sc_System_first_wrong.nd rfl (by first | exact Or.inl rfl | exact Or.inr rfl)) pdgs_nil)))
    (pdb_one (pds_if (pdt_not (pdt_val (pd_call G_is_fitting (mS_is_fitting A) lk tk (hr.mono (by decide)) rfl d_is_fitting.g d_is_fitting.k d_is_fitting.b (pda_cons (pd_var 1 (pv 1)) (pda_cons (pd_var 3 (pv 3)) pda_nil))))) (pdb_one (pds_ret (pd_var 2 (pv 2)))) pdb_nil)))
    (pdb_one (pds_ret pd_non)))), p_System_first_wrong q⟩
theorem ok_System_contains {f : Addr} {fd : FuncData} (B : Bs K mg A) (F : Fun K "__contains__" "System.__contains__" s_System_contains f fd)
    {f_System_first_wrong : Addr} {fd_System_first_wrong : FuncData} (fn_System_first_wrong : PySem.W.findIn K (.ref A.System) "first_wrong" = some (some (.ref f_System_first_wrong))) (if_System_first_wrong : PySem.W.isFn K (.ref f_System_first_wrong) = true) (kp_System_first_wrong : PySem.W.keepIn K (.ref f_System_first_wrong) = true) (bn_System_first_wrong : Binds K fd_System_first_wrong ["self", "word"] []) (G_System_first_wrong : FnOk P w K mg base (L2.CX P w) 7 f_System_first_wrong fd_System_first_wrong ["self", "word"] (spG K (S_System_first_wrong A)))
    {f_is_word : Addr} {fd_is_word : FuncData} (d_is_word : DefT K mg "is_word" s_is_word f_is_word fd_is_word ["value", "n"]) (G_is_word : FnOk P w K mg base (L2.CX P w) 6 f_is_word fd_is_word ["value", "n"] (spG K (S_is_word A))) :
    FnOk P w K mg base (L2.CX P w) 9 f fd ["self", "x"] (spG K (S_System_contains A)) := by
  refine fn_pl F sc_System_contains (fun ds Q E h => ?_) (fun X c W ds Qd Ed hX hr tk hp lk q => ?_)
  · first | (obtain ⟨_, rfl, _⟩ := h; rfl) | (obtain ⟨_, _, rfl, _⟩ := h; rfl) | (obtain ⟨_, _, _, rfl, _⟩ := h; rfl) | (obtain ⟨rfl, _⟩ := h; rfl) | (obtain ⟨_, _, _, _, _, rfl, _⟩ := h; rfl) | (obtain ⟨_, _, _, _, rfl, _⟩ := h; rfl)
  · obtain ⟨cdv, AA, outer, s, H, E, rfl, rfl⟩ := hX
    exact ⟨w_System_contains A (X0 Ed), (pdb_one (pds_ret (pd_andV (pd_call G_is_word (mS_is_word A) lk tk (hr.mono (by decide)) rfl d_is_word.g d_is_word.k d_is_word.b (pda_cons (pd_var 1 (pv 1)) (pda_cons (pd_fld B.fl_System_n (pd_var 0 (pv 0))) pda_nil))) (pd_one (pd_isN (pd_meth B.cl_System ⟨fn_System_first_wrong, if_System_first_wrong, kp_System_first_wrong⟩ G_System_first_wrong (mS_System_first_wrong A) lk tk (hr.mono (by decide)) bn_System_first_wrong (pd_var 0 (pv 0)) (pda_cons (pd_var 1 (pv 1)) pda_nil))))))), p_System_contains q⟩
theorem ok_System_solutions {f : Addr} {fd : FuncData} (B : Bs K mg A) (F : Fun K "solutions" "System.solutions" s_System_solutions f fd)
    {f_System_first_wrong : Addr} {fd_System_first_wrong : FuncData} (fn_System_first_wrong : PySem.W.findIn K (.ref A.System) "first_wrong" = some (some (.ref f_System_first_wrong))) (if_System_first_wrong : PySem.W.isFn K (.ref f_System_first_wrong) = true) (kp_System_first_wrong : PySem.W.keepIn K (.ref f_System_first_wrong) = true) (bn_System_first_wrong : Binds K fd_System_first_wrong ["self", "word"] []) (G_System_first_wrong : FnOk P w K mg base (L2.CX P w) 7 f_System_first_wrong fd_System_first_wrong ["self", "word"] (spG K (S_System_first_wrong A)))
    {f_all_words : Addr} {fd_all_words : FuncData} (d_all_words : DefT K mg "all_words" s_all_words f_all_words fd_all_words ["n"]) (G_all_words : FnOk P w K mg base (L2.CX P w) 5 f_all_words fd_all_words ["n"] (spG K (S_all_words A))) :
    FnOk P w K mg base (L2.CX P w) 9 f fd ["self"] (spG K (S_System_solutions A)) := by
  refine fn_pl F sc_System_solutions (fun ds Q E h => ?_) (fun X c W ds Qd Ed hX hr tk hp lk q => ?_)
  · first | (obtain ⟨_, rfl, _⟩ := h; rfl) | (obtain ⟨_, _, rfl, _⟩ := h; rfl) | (obtain ⟨_, _, _, rfl, _⟩ := h; rfl) | (obtain ⟨rfl, _⟩ := h; rfl) | (obtain ⟨_, _, _, _, _, rfl, _⟩ := h; rfl) | (obtain ⟨_, _, _, _, rfl, _⟩ := h; rfl)
  · obtain ⟨cdv, AA, outer, s, H, E, rfl, rfl⟩ := hX
    exact ⟨w_System_solutions A (X0 Ed), (pdb_one (pds_ret (pd_T_tuple rfl B.b_tuple (pda_cons (pd_lc (own := [("word", 1)]) rfl sc_System_solutions.nd (pdi_seq (pd_call G_all_words (mS_all_words A) lk tk (hr.mono (by decide)) rfl d_all_words.g d_all_words.k d_all_words.b (pda_cons (pd_fld B.fl_System_n (pd_var 0 (pv 0))) pda_nil))) (blkOk_by (N := N_System_solutions) (sc := defScope s_System_solutions) (by decide +kernel)) (fun c _ _ _ _ _ _ => (pdg_name (i := 1) sc_System_solutions.nd rfl (by first | exact Or.inl rfl | exact Or.inr rfl))) (fun c _ _ _ _ _ _ => (pdts_one (pdt_isN (pd_meth B.cl_System ⟨fn_System_first_wrong, if_System_first_wrong, kp_System_first_wrong⟩ G_System_first_wrong (mS_System_first_wrong A) link0 takesN (hr.mono (by decide)) bn_System_first_wrong (pd_var 0 (pv 0)) (pda_cons (pd_var 1 (pv 1)) pda_nil))))) (fun c _ _ _ _ _ _ => (pd_var 1 (pv 1)))) pda_nil)))), p_System_solutions q⟩
theorem ok__law_mixed {f : Addr} {fd : FuncData} (B : Bs K mg A) (d : DefT K mg "_law_mixed" s__law_mixed f fd ["number", "turn"])
      :
    FnOk P w K mg base (L2.CX P w) 2 f fd ["number", "turn"] (spG K (S__law_mixed A)) := by
  refine fn_pl d.F sc__law_mixed (fun ds Q E h => ?_) (fun X c W ds Qd Ed hX hr tk hp lk q => ?_)
  · first | (obtain ⟨_, rfl, _⟩ := h; rfl) | (obtain ⟨_, _, rfl, _⟩ := h; rfl) | (obtain ⟨_, _, _, rfl, _⟩ := h; rfl) | (obtain ⟨rfl, _⟩ := h; rfl) | (obtain ⟨_, _, _, _, _, rfl, _⟩ := h; rfl) | (obtain ⟨_, _, _, _, rfl, _⟩ := h; rfl) | (obtain ⟨_, _, _, _, _, _, _, rfl, _⟩ := h; rfl)
  · obtain ⟨cdv, AA, outer, s, H, E, rfl, rfl⟩ := hX
    exact ⟨w__law_mixed A (X0 Ed), (pdb_cons (pds_set (i := 2) sc__law_mixed.nd rfl (by first | exact Or.inl rfl | exact Or.inr rfl) (pd_mod (pd_T_int rfl B.b_int (pda_cons (pd_add (pd_add (pd_mul (pd_var 0 (pv 0)) pd_int) (pd_mul (pd_var 1 (pv 1)) pd_int)) pd_int) pda_nil)) pd_int))
    (pdb_cons (pds_set (i := 3) sc__law_mixed.nd rfl (by first | exact Or.inl rfl | exact Or.inr rfl) (pd_mod (pd_T_int rfl B.b_int (pda_cons (pd_add (pd_add (pd_mul (pd_var 2 (pv 2)) pd_int) (pd_div (pd_var 2 (pv 2)) pd_int)) (pd_mul (pd_var 1 (pv 1)) pd_int)) pda_nil)) pd_int))
    (pdb_one (pds_ret (pd_mod (pd_T_int rfl B.b_int (pda_cons (pd_add (pd_mul (pd_var 3 (pv 3)) (pd_var 3 (pv 3))) (pd_div (pd_var 2 (pv 2)) pd_int)) pda_nil)) pd_int))))), p__law_mixed  q⟩
theorem ok__law_tape {f : Addr} {fd : FuncData} (B : Bs K mg A) (d : DefT K mg "_law_tape" s__law_tape f fd ["script"]) :
    FnOk P w K mg base (L2.CX P w) 2 f fd ["script"] (spHand K 3) := by
  refine d.F.okG sc__law_tape (fun vs H Q E h => ?_) (fun cdv AA outer s H vs Q E hr h => ?_)
  · obtain ⟨a, ns, rfl, _⟩ := h; rfl
  · obtain ⟨a, ns, rfl, hTb, hS, q⟩ := h
    refine ⟨_, pss_one (ps_ret (pe_disp (pps_cons pe_str (pe_callTy call_list_of rfl B.b_list (by decide +kernel) (pa_cons (pv 0) pa_nil)) (pps_cons pe_str pe_int (pps_cons pe_str pe_int (pps_cons pe_str pe_int (pps_cons pe_str pe_int (pps_cons pe_str pe_int pps_nil)))))) rfl rfl (by simp) (by decide))), ?_⟩
    exact tape_start hTb hS (fun p F H1 s1 h1 n => q p F H1 s1 h1 n) (fun H1 Q1 hS1 h1 => ⟨.ref a, rfl, a, _, rfl, .inl hS1, fun l hl => h1 l hl⟩)
theorem ok__law_draw {f : Addr} {fd : FuncData} (B : Bs K mg A) (d : DefT K mg "_law_draw" s__law_draw f fd ["tape", "many"])
    {f__law_mixed : Addr} {fd__law_mixed : FuncData} (d__law_mixed : DefT K mg "_law_mixed" s__law_mixed f__law_mixed fd__law_mixed ["number", "turn"]) (G__law_mixed : FnOk P w K mg base (L2.CX P w) 2 f__law_mixed fd__law_mixed ["number", "turn"] (spG K (S__law_mixed A))) :
    FnOk P w K mg base (L2.CX P w) 3 f fd ["tape", "many"] (spG K (S__law_draw A)) := by
  refine fn_tape d.F sc__law_draw rfl (fun X c hX hr => ?_)
  obtain ⟨cdv, AA, outer, s, H, E, rfl⟩ := hX
  exact ⟨w__law_draw A NoX, (pdb2_cons (pds2_lift (pds_tpS (i := 0) tk_turn hr (pv 0) (pd_add (pd_tpI tk_turn hr (pv 0)) pd_int)))
    (pdb2_cons (pds2_if (PDW.pt (pdw_and (pdt_eq hr (pd_tpI tk_left hr (pv 0)) pd_int) (pdw_and1 (pdt_lt (pd_tpI tk_at hr (pv 0)) (pd_len rfl B.b_len (pda_cons (pd_tpI tk_cells hr (pv 0)) pda_nil)))))) (pdb2_cons (pds2_lift (pds_set (i := 3) sc__law_draw.nd rfl (by first | exact Or.inl rfl | exact Or.inr rfl) (pd_idx (pd_tpI tk_cells hr (pv 0)) (pd_tpI tk_at hr (pv 0)))))
    (pdb2_cons (pds2_lift (pds_tpS (i := 0) tk_at hr (pv 0) (pd_add (pd_tpI tk_at hr (pv 0)) pd_int)))
    (pdb2_cons (pds2_lift (pds_tpS (i := 0) tk_seed hr (pv 0) (pd_call G__law_mixed (mS__law_mixed A) link0 takesN (hr.mono (by decide)) rfl d__law_mixed.g d__law_mixed.k d__law_mixed.b (pda_cons (pd_add (pd_tpI tk_seed hr (pv 0)) (pd_var 3 (pv 3))) (pda_cons (pd_tpI tk_at hr (pv 0)) pda_nil)))))
    (pdb2_cons (pds2_lift (pds_tpS (i := 0) tk_left hr (pv 0) pd_int))
    (pdb2_one (pds2_if (pdt_ge (pd_var 3 (pv 3)) (pd_pow pd_int pd_int)) (pdb2_cons (pds2_lift (pds_tpS (i := 0) tk_great hr (pv 0) (pd_var 3 (pv 3))))
    (pdb2_one (pds2_lift (pds_tpS (i := 0) tk_left hr (pv 0) pd_int)))) pdb2_nil)))))) pdb2_nil)
    (pdb2_cons (pds2_if (pdt_gt (pd_tpI tk_left hr (pv 0)) pd_int) (pdb2_one (pds2_lift (pds_tpS (i := 0) tk_left hr (pv 0) (pd_sub (pd_tpI tk_left hr (pv 0)) pd_int)))) pdb2_nil)
    (pdb2_cons (pds2_if (pdt_eq hr (pd_tpI tk_great hr (pv 0)) pd_int) (pdb2_one (pds2_ret (pd_mod (pd_T_int rfl B.b_int (pda_cons (pd_call G__law_mixed (mS__law_mixed A) link0 takesN (hr.mono (by decide)) rfl d__law_mixed.g d__law_mixed.k d__law_mixed.b (pda_cons (pd_tpI tk_seed hr (pv 0)) (pda_cons (pd_tpI tk_turn hr (pv 0)) pda_nil))) pda_nil)) (pd_var 1 (pv 1))))) pdb2_nil)
    (pdb2_cons (pds2_lift (pds_set (i := 2) sc__law_draw.nd rfl (by first | exact Or.inl rfl | exact Or.inr rfl) (pd_mod (pd_T_int rfl B.b_int (pda_cons (pd_tpI tk_great hr (pv 0)) pda_nil)) pd_int)))
    (pdb2_cons (pds2_lift (pds_tpS (i := 0) tk_great hr (pv 0) (pd_div (pd_tpI tk_great hr (pv 0)) pd_int)))
    (pdb2_cons (pds2_if (PDW.pt (pdw_or (pdt_eq hr (pd_tpI tk_great hr (pv 0)) pd_int) (pdw_or1 (pdt_eq hr (pd_tpI tk_left hr (pv 0)) pd_int)))) (pdb2_cons (pds2_lift (pds_tpS (i := 0) tk_great hr (pv 0) pd_int))
    (pdb2_one (pds2_lift (pds_tpS (i := 0) tk_left hr (pv 0) pd_int)))) pdb2_nil)
    (pdb2_one (pds2_ret (pd_mod (pd_T_int rfl B.b_int (pda_cons (pd_var 2 (pv 2)) pda_nil)) (pd_var 1 (pv 1)))))))))))), fun t ns n a b d u m hm => p__law_drawT hm⟩
theorem ok__law_pick {f : Addr} {fd : FuncData} (B : Bs K mg A) (d : DefT K mg "_law_pick" s__law_pick f fd ["tape", "row"])
    {f__law_draw : Addr} {fd__law_draw : FuncData} (d__law_draw : DefT K mg "_law_draw" s__law_draw f__law_draw fd__law_draw ["tape", "many"]) (G__law_draw : FnOk P w K mg base (L2.CX P w) 3 f__law_draw fd__law_draw ["tape", "many"] (spG K (S__law_draw A)))  :
    FnOk P w K mg base (L2.CX P w) 4 f fd ["tape", "row"] (spG K (S__law_pick A)) := by
  refine fn_pl d.F sc__law_pick (fun ds Q E h => ?_) (fun X c W ds Qd Ed hX hr tk hp lk q => ?_)
  · first | (obtain ⟨_, rfl, _⟩ := h; rfl) | (obtain ⟨_, _, rfl, _⟩ := h; rfl) | (obtain ⟨_, _, _, rfl, _⟩ := h; rfl) | (obtain ⟨rfl, _⟩ := h; rfl) | (obtain ⟨_, _, _, _, _, rfl, _⟩ := h; rfl) | (obtain ⟨_, _, _, _, rfl, _⟩ := h; rfl) | (obtain ⟨_, _, _, _, _, _, _, rfl, _⟩ := h; rfl)
  · obtain ⟨cdv, AA, outer, s, H, E, rfl, rfl⟩ := hX
    exact ⟨w__law_pick A (X0 Ed), (pdb_one (pds_ret (pd_idx (pd_var 1 (pv 1)) (pd_call G__law_draw (mS__law_draw A) lk tk (hr.mono (by decide)) rfl d__law_draw.g d__law_draw.k d__law_draw.b (pda_cons (pd_var 0 (pv 0)) (pda_cons (pd_len rfl B.b_len (pda_cons (pd_var 1 (pv 1)) pda_nil)) pda_nil)))))), p__law_pick  q⟩
theorem ok__law_word {f : Addr} {fd : FuncData} (B : Bs K mg A) (d : DefT K mg "_law_word" s__law_word f fd ["tape", "n"])
    {f__law_draw : Addr} {fd__law_draw : FuncData} (d__law_draw : DefT K mg "_law_draw" s__law_draw f__law_draw fd__law_draw ["tape", "many"]) (G__law_draw : FnOk P w K mg base (L2.CX P w) 3 f__law_draw fd__law_draw ["tape", "many"] (spG K (S__law_draw A)))  :
    FnOk P w K mg base (L2.CX P w) 4 f fd ["tape", "n"] (spG K (S__law_wordV A)) := by
  refine fn_pl d.F sc__law_word (fun ds Q E h => ?_) (fun X c W ds Qd Ed hX hr tk hp lk q => ?_)
  · first | (obtain ⟨_, rfl, _⟩ := h; rfl) | (obtain ⟨_, _, rfl, _⟩ := h; rfl) | (obtain ⟨_, _, _, rfl, _⟩ := h; rfl) | (obtain ⟨rfl, _⟩ := h; rfl) | (obtain ⟨_, _, _, _, _, rfl, _⟩ := h; rfl) | (obtain ⟨_, _, _, _, rfl, _⟩ := h; rfl) | (obtain ⟨_, _, _, _, _, _, _, rfl, _⟩ := h; rfl)
  · obtain ⟨cdv, AA, outer, s, H, E, rfl, rfl⟩ := hX
    exact ⟨w__law_wordV A (X0 Ed), (pdb_cons (pds_set (i := 2) sc__law_word.nd rfl (by first | exact Or.inl rfl | exact Or.inr rfl) (pd_lst pda_nil))
    (pdb_cons (pds_for hp rfl (pdi_range1 rfl B.b_range (pda_cons (pd_div (pd_add (pd_var 1 (pv 1)) pd_int) pd_int) pda_nil)) (pdg_name (i := 3) sc__law_word.nd rfl (by first | exact Or.inl rfl | exact Or.inr rfl))
    (pdb_cons (pds_set (i := 4) sc__law_word.nd rfl (by first | exact Or.inl rfl | exact Or.inr rfl) (pd_call G__law_draw (mS__law_draw A) lk tk (hr.mono (by decide)) rfl d__law_draw.g d__law_draw.k d__law_draw.b (pda_cons (pd_var 0 (pv 0)) (pda_cons pd_int pda_nil))))
    (pdb_one (pds_set (i := 2) sc__law_word.nd rfl (by first | exact Or.inl rfl | exact Or.inr rfl) (pd_add (pd_var 2 (pv 2)) (pd_lc (own := [("at", 5)]) rfl sc__law_word.nd (pdi_range1 rfl B.b_range (pda_cons pd_int pda_nil)) (blkOk_by (N := N__law_wordV) (sc := defScope s__law_word) (by decide +kernel)) (fun c _ _ _ _ _ _ => (pdg_name (i := 5) sc__law_word.nd rfl (by first | exact Or.inl rfl | exact Or.inr rfl))) (fun c _ _ _ _ _ _ => pdts_nil) (fun c _ _ _ _ _ _ => (pd_mod (pd_T_int rfl B.b_int (pda_cons (pd_shr (pd_var 4 (pv 4)) (pd_var 5 (pv 5))) pda_nil)) pd_int))))))))
    (pdb_one (pds_ret (pd_T_tuple rfl B.b_tuple (pda_cons (pd_cut (pd_var 2 (pv 2)) pdp_none (pdp_some (pd_var 1 (pv 1)))) pda_nil)))))), p__law_wordV  q⟩
theorem ok__law_words {f : Addr} {fd : FuncData} (B : Bs K mg A) (d : DefT K mg "_law_words" s__law_words f fd ["n"])
      :
    FnOk P w K mg base (L2.CX P w) 2 f fd ["n"] (spG K (S__law_wordsV A)) := by
  refine fn_pl d.F sc__law_words (fun ds Q E h => ?_) (fun X c W ds Qd Ed hX hr tk hp lk q => ?_)
  · first | (obtain ⟨_, rfl, _⟩ := h; rfl) | (obtain ⟨_, _, rfl, _⟩ := h; rfl) | (obtain ⟨_, _, _, rfl, _⟩ := h; rfl) | (obtain ⟨rfl, _⟩ := h; rfl) | (obtain ⟨_, _, _, _, _, rfl, _⟩ := h; rfl) | (obtain ⟨_, _, _, _, rfl, _⟩ := h; rfl) | (obtain ⟨_, _, _, _, _, _, _, rfl, _⟩ := h; rfl)
  · obtain ⟨cdv, AA, outer, s, H, E, rfl, rfl⟩ := hX
    exact ⟨w__law_wordsV A (X0 Ed), (pdb_one (pds_ret (pd_lc (own := [("number", 1)]) rfl sc__law_words.nd (pdi_range1 rfl B.b_range (pda_cons (pd_shl pd_int (pd_var 0 (pv 0))) pda_nil)) (blkOk_by (N := N__law_wordsV) (sc := defScope s__law_words) (by decide +kernel)) (fun c _ _ _ _ _ _ => (pdg_name (i := 1) sc__law_words.nd rfl (by first | exact Or.inl rfl | exact Or.inr rfl))) (fun c _ _ _ _ _ _ => pdts_nil) (fun c _ _ _ _ _ _ => (pd_T_tuple rfl B.b_tuple (pda_cons (pd_lc (own := [("at", 2)]) rfl sc__law_words.nd (pdi_range1 rfl B.b_range (pda_cons (pd_var 0 (pv 0)) pda_nil)) (blkOk_by (N := N__law_wordsV) (sc := relS _ (defScope s__law_words)) (by decide +kernel)) (fun c _ _ _ _ _ _ => (pdg_name (i := 2) sc__law_words.nd rfl (by first | exact Or.inl rfl | exact Or.inr rfl))) (fun c _ _ _ _ _ _ => pdts_nil) (fun c _ _ _ _ _ _ => (pd_mod (pd_T_int rfl B.b_int (pda_cons (pd_shr (pd_var 1 (pv 1)) (pd_sub (pd_sub (pd_var 0 (pv 0)) pd_int) (pd_var 2 (pv 2)))) pda_nil)) pd_int))) pda_nil)))))), p__law_wordsV  q⟩
theorem ok__law_left {f : Addr} {fd : FuncData} (B : Bs K mg A) (d : DefT K mg "_law_left" s__law_left f fd ["word", "equation"])
      :
    FnOk P w K mg base (L2.CX P w) 2 f fd ["word", "equation"] (spG K (S__law_left A)) := by
  refine fn_pl d.F sc__law_left (fun ds Q E h => ?_) (fun X c W ds Qd Ed hX hr tk hp lk q => ?_)
  · first | (obtain ⟨_, rfl, _⟩ := h; rfl) | (obtain ⟨_, _, rfl, _⟩ := h; rfl) | (obtain ⟨_, _, _, rfl, _⟩ := h; rfl) | (obtain ⟨rfl, _⟩ := h; rfl) | (obtain ⟨_, _, _, _, _, rfl, _⟩ := h; rfl) | (obtain ⟨_, _, _, _, rfl, _⟩ := h; rfl) | (obtain ⟨_, _, _, _, _, _, _, rfl, _⟩ := h; rfl)
  · obtain ⟨cdv, AA, outer, s, H, E, rfl, rfl⟩ := hX
    exact ⟨w__law_left A (X0 Ed), (pdb_cons (pds_set (i := 2) sc__law_left.nd rfl (by first | exact Or.inl rfl | exact Or.inr rfl) (pd_add (pd_B_sum rfl rfl B.b_sum (pda_cons (pd_lc (own := [("i", 3), ("j", 4)]) rfl sc__law_left.nd (pdi_seq (pd_idx (pd_var 1 (pv 1)) pd_int)) (blkOk_by (N := N__law_left) (sc := defScope s__law_left) (by decide +kernel)) (fun c _ _ _ _ _ _ => (pdg_tup rfl (pdgs_cons (pdg_name (i := 3) sc__law_left.nd rfl (by first | exact Or.inl rfl | exact Or.inr rfl)) (pdgs_cons (pdg_name (i := 4) sc__law_left.nd rfl (by first | exact Or.inl rfl | exact Or.inr rfl)) pdgs_nil)))) (fun c _ _ _ _ _ _ => pdts_nil) (fun c _ _ _ _ _ _ => (pd_mul (pd_idx (pd_var 0 (pv 0)) (pd_var 3 (pv 3))) (pd_idx (pd_var 0 (pv 0)) (pd_var 4 (pv 4)))))) pda_nil)) (pd_B_sum rfl rfl B.b_sum (pda_cons (pd_lc (own := [("i", 3)]) rfl sc__law_left.nd (pdi_seq (pd_idx (pd_var 1 (pv 1)) pd_int)) (blkOk_by (N := N__law_left) (sc := defScope s__law_left) (by decide +kernel)) (fun c _ _ _ _ _ _ => (pdg_name (i := 3) sc__law_left.nd rfl (by first | exact Or.inl rfl | exact Or.inr rfl))) (fun c _ _ _ _ _ _ => pdts_nil) (fun c _ _ _ _ _ _ => (pd_idx (pd_var 0 (pv 0)) (pd_var 3 (pv 3))))) pda_nil))))
    (pdb_one (pds_ret (pd_mod (pd_T_int rfl B.b_int (pda_cons (pd_var 2 (pv 2)) pda_nil)) pd_int)))), p__law_left  q⟩
theorem ok__law_fits {f : Addr} {fd : FuncData} (B : Bs K mg A) (d : DefT K mg "_law_fits" s__law_fits f fd ["word", "equation"])
    {f__law_left : Addr} {fd__law_left : FuncData} (d__law_left : DefT K mg "_law_left" s__law_left f__law_left fd__law_left ["word", "equation"]) (G__law_left : FnOk P w K mg base (L2.CX P w) 2 f__law_left fd__law_left ["word", "equation"] (spG K (S__law_left A)))  :
    FnOk P w K mg base (L2.CX P w) 3 f fd ["word", "equation"] (spG K (S__law_fits A)) := by
  refine fn_pl d.F sc__law_fits (fun ds Q E h => ?_) (fun X c W ds Qd Ed hX hr tk hp lk q => ?_)
  · first | (obtain ⟨_, rfl, _⟩ := h; rfl) | (obtain ⟨_, _, rfl, _⟩ := h; rfl) | (obtain ⟨_, _, _, rfl, _⟩ := h; rfl) | (obtain ⟨rfl, _⟩ := h; rfl) | (obtain ⟨_, _, _, _, _, rfl, _⟩ := h; rfl) | (obtain ⟨_, _, _, _, rfl, _⟩ := h; rfl) | (obtain ⟨_, _, _, _, _, _, _, rfl, _⟩ := h; rfl)
  · obtain ⟨cdv, AA, outer, s, H, E, rfl, rfl⟩ := hX
    exact ⟨w__law_fits A (X0 Ed), (pdb_one (pds_ret (pd_eq hr (pd_call G__law_left (mS__law_left A) lk tk (hr.mono (by decide)) rfl d__law_left.g d__law_left.k d__law_left.b (pda_cons (pd_var 0 (pv 0)) (pda_cons (pd_var 1 (pv 1)) pda_nil))) (pd_idx (pd_var 1 (pv 1)) pd_int)))), p__law_fits  q⟩
theorem ok__law_equation {f : Addr} {fd : FuncData} (B : Bs K mg A) (d : DefT K mg "_law_equation" s__law_equation f fd ["tape", "n", "word"])
    {f__law_draw : Addr} {fd__law_draw : FuncData} (d__law_draw : DefT K mg "_law_draw" s__law_draw f__law_draw fd__law_draw ["tape", "many"]) (G__law_draw : FnOk P w K mg base (L2.CX P w) 3 f__law_draw fd__law_draw ["tape", "many"] (spG K (S__law_draw A)))
    {f__law_left : Addr} {fd__law_left : FuncData} (d__law_left : DefT K mg "_law_left" s__law_left f__law_left fd__law_left ["word", "equation"]) (G__law_left : FnOk P w K mg base (L2.CX P w) 2 f__law_left fd__law_left ["word", "equation"] (spG K (S__law_left A)))  :
    FnOk P w K mg base (L2.CX P w) 4 f fd ["tape", "n", "word"] (spG K (S__law_equation A)) := by
  refine fn_pl d.F sc__law_equation (fun ds Q E h => ?_) (fun X c W ds Qd Ed hX hr tk hp lk q => ?_)
  · first | (obtain ⟨_, rfl, _⟩ := h; rfl) | (obtain ⟨_, _, rfl, _⟩ := h; rfl) | (obtain ⟨_, _, _, rfl, _⟩ := h; rfl) | (obtain ⟨rfl, _⟩ := h; rfl) | (obtain ⟨_, _, _, _, _, rfl, _⟩ := h; rfl) | (obtain ⟨_, _, _, _, rfl, _⟩ := h; rfl) | (obtain ⟨_, _, _, _, _, _, _, rfl, _⟩ := h; rfl)
  · obtain ⟨cdv, AA, outer, s, H, E, rfl, rfl⟩ := hX
    exact ⟨w__law_equation A (X0 Ed), (pdb_cons (pds_setO (i := 3) sc__law_equation.nd rfl (by first | exact Or.inl rfl | exact Or.inr rfl) pda_nil)
    (pdb_cons (pds_for hp rfl (pdi_range1 rfl B.b_range (pda_cons (pd_var 1 (pv 1)) pda_nil)) (pdg_name (i := 4) sc__law_equation.nd rfl (by first | exact Or.inl rfl | exact Or.inr rfl))
    (pdb_one (pds_for hp rfl (pdi_range2 rfl B.b_range (pda_cons (pd_add (pd_var 4 (pv 4)) pd_int) (pda_cons (pd_var 1 (pv 1)) pda_nil))) (pdg_name (i := 7) sc__law_equation.nd rfl (by first | exact Or.inl rfl | exact Or.inr rfl))
    (pdb_one (pds_if (pdt_lt (pd_call G__law_draw (mS__law_draw A) lk tk (hr.mono (by decide)) rfl d__law_draw.g d__law_draw.k d__law_draw.b (pda_cons (pd_var 0 (pv 0)) (pda_cons (pd_add (pd_var 1 (pv 1)) pd_int) pda_nil))) pd_int) (pdb_one (pds_app (i := 3) (pv 3) (pd_tup (pda_cons (pd_var 4 (pv 4)) (pda_cons (pd_var 7 (pv 7)) pda_nil))))) pdb_nil)))))
    (pdb_cons (pds_set (i := 5) sc__law_equation.nd rfl (by first | exact Or.inl rfl | exact Or.inr rfl) (pd_T_tuple rfl B.b_tuple (pda_cons (pd_lc (own := [("i", 4)]) rfl sc__law_equation.nd (pdi_range1 rfl B.b_range (pda_cons (pd_var 1 (pv 1)) pda_nil)) (blkOk_by (N := N__law_equation) (sc := defScope s__law_equation) (by decide +kernel)) (fun c _ _ _ _ _ _ => (pdg_name (i := 4) sc__law_equation.nd rfl (by first | exact Or.inl rfl | exact Or.inr rfl))) (fun c _ _ _ _ _ _ => (pdts_one (pdt_eq hr (pd_call G__law_draw (mS__law_draw A) link0 takesN (hr.mono (by decide)) rfl d__law_draw.g d__law_draw.k d__law_draw.b (pda_cons (pd_var 0 (pv 0)) (pda_cons pd_int pda_nil))) pd_int))) (fun c _ _ _ _ _ _ => (pd_var 4 (pv 4)))) pda_nil)))
    (pdb_cons (pds_set (i := 6) sc__law_equation.nd rfl (by first | exact Or.inl rfl | exact Or.inr rfl) (pd_call G__law_left (mS__law_left A) lk tk (hr.mono (by decide)) rfl d__law_left.g d__law_left.k d__law_left.b (pda_cons (pd_var 2 (pv 2)) (pda_cons (pd_tup (pda_cons (pd_var 3 (pv 3)) (pda_cons (pd_var 5 (pv 5)) (pda_cons pd_int pda_nil)))) pda_nil))))
    (pdb_cons (pds_if (pdt_eq hr (pd_call G__law_draw (mS__law_draw A) lk tk (hr.mono (by decide)) rfl d__law_draw.g d__law_draw.k d__law_draw.b (pda_cons (pd_var 0 (pv 0)) (pda_cons pd_int pda_nil))) pd_int) (pdb_one (pds_set (i := 6) sc__law_equation.nd rfl (by first | exact Or.inl rfl | exact Or.inr rfl) (pd_call G__law_draw (mS__law_draw A) lk tk (hr.mono (by decide)) rfl d__law_draw.g d__law_draw.k d__law_draw.b (pda_cons (pd_var 0 (pv 0)) (pda_cons pd_int pda_nil))))) pdb_nil)
    (pdb_one (pds_ret (pd_tup (pda_cons (pd_T_tuple rfl B.b_tuple (pda_cons (pd_var 3 (pv 3)) pda_nil)) (pda_cons (pd_var 5 (pv 5)) (pda_cons (pd_var 6 (pv 6)) pda_nil))))))))))), p__law_equation  q⟩
theorem ok__law_equations {f : Addr} {fd : FuncData} (B : Bs K mg A) (d : DefT K mg "_law_equations" s__law_equations f fd ["tape", "n", "many", "word"])
    {f__law_equation : Addr} {fd__law_equation : FuncData} (d__law_equation : DefT K mg "_law_equation" s__law_equation f__law_equation fd__law_equation ["tape", "n", "word"]) (G__law_equation : FnOk P w K mg base (L2.CX P w) 4 f__law_equation fd__law_equation ["tape", "n", "word"] (spG K (S__law_equation A)))  :
    FnOk P w K mg base (L2.CX P w) 5 f fd ["tape", "n", "many", "word"] (spG K (S__law_equations A)) := by
  refine fn_pl d.F sc__law_equations (fun ds Q E h => ?_) (fun X c W ds Qd Ed hX hr tk hp lk q => ?_)
  · first | (obtain ⟨_, rfl, _⟩ := h; rfl) | (obtain ⟨_, _, rfl, _⟩ := h; rfl) | (obtain ⟨_, _, _, rfl, _⟩ := h; rfl) | (obtain ⟨rfl, _⟩ := h; rfl) | (obtain ⟨_, _, _, _, _, rfl, _⟩ := h; rfl) | (obtain ⟨_, _, _, _, rfl, _⟩ := h; rfl) | (obtain ⟨_, _, _, _, _, _, _, rfl, _⟩ := h; rfl)
  · obtain ⟨cdv, AA, outer, s, H, E, rfl, rfl⟩ := hX
    exact ⟨w__law_equations A (X0 Ed), (pdb_one (pds_ret (pd_T_tuple rfl B.b_tuple (pda_cons (pd_lc (own := [("k", 4)]) rfl sc__law_equations.nd (pdi_range1 rfl B.b_range (pda_cons (pd_var 2 (pv 2)) pda_nil)) (blkOk_by (N := N__law_equations) (sc := defScope s__law_equations) (by decide +kernel)) (fun c _ _ _ _ _ _ => (pdg_name (i := 4) sc__law_equations.nd rfl (by first | exact Or.inl rfl | exact Or.inr rfl))) (fun c _ _ _ _ _ _ => pdts_nil) (fun c _ _ _ _ _ _ => (pd_call G__law_equation (mS__law_equation A) link0 takesN (hr.mono (by decide)) rfl d__law_equation.g d__law_equation.k d__law_equation.b (pda_cons (pd_var 0 (pv 0)) (pda_cons (pd_var 1 (pv 1)) (pda_cons (pd_var 3 (pv 3)) pda_nil)))))) pda_nil)))), p__law_equations  q⟩
theorem ok__law_solves {f : Addr} {fd : FuncData} (B : Bs K mg A) (d : DefT K mg "_law_solves" s__law_solves f fd ["word", "equations"])
    {f__law_fits : Addr} {fd__law_fits : FuncData} (d__law_fits : DefT K mg "_law_fits" s__law_fits f__law_fits fd__law_fits ["word", "equation"]) (G__law_fits : FnOk P w K mg base (L2.CX P w) 3 f__law_fits fd__law_fits ["word", "equation"] (spG K (S__law_fits A)))  :
    FnOk P w K mg base (L2.CX P w) 4 f fd ["word", "equations"] (spG K (S__law_solves A)) := by
  refine fn_pl d.F sc__law_solves (fun ds Q E h => ?_) (fun X c W ds Qd Ed hX hr tk hp lk q => ?_)
  · first | (obtain ⟨_, rfl, _⟩ := h; rfl) | (obtain ⟨_, _, rfl, _⟩ := h; rfl) | (obtain ⟨_, _, _, rfl, _⟩ := h; rfl) | (obtain ⟨rfl, _⟩ := h; rfl) | (obtain ⟨_, _, _, _, _, rfl, _⟩ := h; rfl) | (obtain ⟨_, _, _, _, rfl, _⟩ := h; rfl) | (obtain ⟨_, _, _, _, _, _, _, rfl, _⟩ := h; rfl)
  · obtain ⟨cdv, AA, outer, s, H, E, rfl, rfl⟩ := hX
    exact ⟨w__law_solves A (X0 Ed), (pdb_one (pds_ret (pd_eq hr (pd_lc (own := [("one", 2)]) rfl sc__law_solves.nd (pdi_seq (pd_var 1 (pv 1))) (blkOk_by (N := N__law_solves) (sc := defScope s__law_solves) (by decide +kernel)) (fun c _ _ _ _ _ _ => (pdg_name (i := 2) sc__law_solves.nd rfl (by first | exact Or.inl rfl | exact Or.inr rfl))) (fun c _ _ _ _ _ _ => (pdts_one (pdt_not (pdt_val (pd_call G__law_fits (mS__law_fits A) link0 takesN (hr.mono (by decide)) rfl d__law_fits.g d__law_fits.k d__law_fits.b (pda_cons (pd_var 0 (pv 0)) (pda_cons (pd_var 2 (pv 2)) pda_nil))))))) (fun c _ _ _ _ _ _ => (pd_var 2 (pv 2)))) (pd_lst pda_nil)))), p__law_solves  q⟩
theorem ok__law_solutions {f : Addr} {fd : FuncData} (B : Bs K mg A) (d : DefT K mg "_law_solutions" s__law_solutions f fd ["n", "equations"])
    {f__law_solves : Addr} {fd__law_solves : FuncData} (d__law_solves : DefT K mg "_law_solves" s__law_solves f__law_solves fd__law_solves ["word", "equations"]) (G__law_solves : FnOk P w K mg base (L2.CX P w) 4 f__law_solves fd__law_solves ["word", "equations"] (spG K (S__law_solves A)))
    {f__law_words : Addr} {fd__law_words : FuncData} (d__law_words : DefT K mg "_law_words" s__law_words f__law_words fd__law_words ["n"]) (G__law_words : FnOk P w K mg base (L2.CX P w) 2 f__law_words fd__law_words ["n"] (spG K (S__law_wordsV A)))  :
    FnOk P w K mg base (L2.CX P w) 5 f fd ["n", "equations"] (spG K (S__law_solutions A)) := by
  refine fn_pl d.F sc__law_solutions (fun ds Q E h => ?_) (fun X c W ds Qd Ed hX hr tk hp lk q => ?_)
  · first | (obtain ⟨_, rfl, _⟩ := h; rfl) | (obtain ⟨_, _, rfl, _⟩ := h; rfl) | (obtain ⟨_, _, _, rfl, _⟩ := h; rfl) | (obtain ⟨rfl, _⟩ := h; rfl) | (obtain ⟨_, _, _, _, _, rfl, _⟩ := h; rfl) | (obtain ⟨_, _, _, _, rfl, _⟩ := h; rfl) | (obtain ⟨_, _, _, _, _, _, _, rfl, _⟩ := h; rfl)
  · obtain ⟨cdv, AA, outer, s, H, E, rfl, rfl⟩ := hX
    exact ⟨w__law_solutions A (X0 Ed), (pdb_one (pds_ret (pd_T_tuple rfl B.b_tuple (pda_cons (pd_lc (own := [("word", 2)]) rfl sc__law_solutions.nd (pdi_seq (pd_call G__law_words (mS__law_wordsV A) lk tk (hr.mono (by decide)) rfl d__law_words.g d__law_words.k d__law_words.b (pda_cons (pd_var 0 (pv 0)) pda_nil))) (blkOk_by (N := N__law_solutions) (sc := defScope s__law_solutions) (by decide +kernel)) (fun c _ _ _ _ _ _ => (pdg_name (i := 2) sc__law_solutions.nd rfl (by first | exact Or.inl rfl | exact Or.inr rfl))) (fun c _ _ _ _ _ _ => (pdts_one (pdt_val (pd_call G__law_solves (mS__law_solves A) link0 takesN (hr.mono (by decide)) rfl d__law_solves.g d__law_solves.k d__law_solves.b (pda_cons (pd_var 2 (pv 2)) (pda_cons (pd_var 1 (pv 1)) pda_nil)))))) (fun c _ _ _ _ _ _ => (pd_var 2 (pv 2)))) pda_nil)))), p__law_solutions  q⟩
theorem ok_law {f : Addr} {fd : FuncData} (B : Bs K mg A) (d : DefT K mg "law" s_law f fd ["script"])
    {fi_System : Addr} {fdi_System : FuncData} (m_System : Mk K A.System fi_System) (b_i_System : Binds K fdi_System ["self", "n", "equations"] []) (G_System : FnOk P w K mg base (L2.CX P w) 10 fi_System fdi_System ["self", "n", "equations"] (spI K A.System (I_System A)))
    {f_System_contains : Addr} {fd_System_contains : FuncData} (fn_System_contains : PySem.W.findIn K (.ref A.System) "__contains__" = some (some (.ref f_System_contains))) (if_System_contains : PySem.W.isFn K (.ref f_System_contains) = true) (kp_System_contains : PySem.W.keepIn K (.ref f_System_contains) = true) (bn_System_contains : Binds K fd_System_contains ["self", "x"] []) (G_System_contains : FnOk P w K mg base (L2.CX P w) 9 f_System_contains fd_System_contains ["self", "x"] (spG K (S_System_contains A)))
    {f_System_first_wrong : Addr} {fd_System_first_wrong : FuncData} (fn_System_first_wrong : PySem.W.findIn K (.ref A.System) "first_wrong" = some (some (.ref f_System_first_wrong))) (if_System_first_wrong : PySem.W.isFn K (.ref f_System_first_wrong) = true) (kp_System_first_wrong : PySem.W.keepIn K (.ref f_System_first_wrong) = true) (bn_System_first_wrong : Binds K fd_System_first_wrong ["self", "word"] []) (G_System_first_wrong : FnOk P w K mg base (L2.CX P w) 7 f_System_first_wrong fd_System_first_wrong ["self", "word"] (spG K (S_System_first_wrong A)))
    {f_System_solutions : Addr} {fd_System_solutions : FuncData} (fn_System_solutions : PySem.W.findIn K (.ref A.System) "solutions" = some (some (.ref f_System_solutions))) (if_System_solutions : PySem.W.isFn K (.ref f_System_solutions) = true) (kp_System_solutions : PySem.W.keepIn K (.ref f_System_solutions) = true) (bn_System_solutions : Binds K fd_System_solutions ["self"] []) (G_System_solutions : FnOk P w K mg base (L2.CX P w) 9 f_System_solutions fd_System_solutions ["self"] (spG K (S_System_solutions A)))
    {f__law_draw : Addr} {fd__law_draw : FuncData} (d__law_draw : DefT K mg "_law_draw" s__law_draw f__law_draw fd__law_draw ["tape", "many"]) (G__law_draw : FnOk P w K mg base (L2.CX P w) 3 f__law_draw fd__law_draw ["tape", "many"] (spG K (S__law_draw A)))
    {f__law_equations : Addr} {fd__law_equations : FuncData} (d__law_equations : DefT K mg "_law_equations" s__law_equations f__law_equations fd__law_equations ["tape", "n", "many", "word"]) (G__law_equations : FnOk P w K mg base (L2.CX P w) 5 f__law_equations fd__law_equations ["tape", "n", "many", "word"] (spG K (S__law_equations A)))
    {f__law_pick : Addr} {fd__law_pick : FuncData} (d__law_pick : DefT K mg "_law_pick" s__law_pick f__law_pick fd__law_pick ["tape", "row"]) (G__law_pick : FnOk P w K mg base (L2.CX P w) 4 f__law_pick fd__law_pick ["tape", "row"] (spG K (S__law_pick A)))
    {f__law_solutions : Addr} {fd__law_solutions : FuncData} (d__law_solutions : DefT K mg "_law_solutions" s__law_solutions f__law_solutions fd__law_solutions ["n", "equations"]) (G__law_solutions : FnOk P w K mg base (L2.CX P w) 5 f__law_solutions fd__law_solutions ["n", "equations"] (spG K (S__law_solutions A)))
    {f__law_word : Addr} {fd__law_word : FuncData} (d__law_word : DefT K mg "_law_word" s__law_word f__law_word fd__law_word ["tape", "n"]) (G__law_word : FnOk P w K mg base (L2.CX P w) 4 f__law_word fd__law_word ["tape", "n"] (spG K (S__law_wordV A)))
    {f__law_tape : Addr} {fd__law_tape : FuncData} (d__law_tape : DefT K mg "_law_tape" s__law_tape f__law_tape fd__law_tape ["script"]) (G__law_tape : FnOk P w K mg base (L2.CX P w) 2 f__law_tape fd__law_tape ["script"] (spHand K 3)) :
    FnOk P w K mg base (L2.CX P w) 12 f fd ["script"] (spLawT K) := by
  refine d.F.okG sc_law (fun vs H Q E h => ?_) (fun cdv AA outer s H vs Q E hr h => ?_)
  · obtain ⟨a, ns, rfl, _⟩ := h; rfl
  · obtain ⟨a, ns, rfl, hl, hTb, hSq, q⟩ := h
    refine ⟨_, pss_made (kd := 3) (i := 1) sc_law.nd rfl (by first | exact Or.inl rfl | exact Or.inr rfl) (by decide) G__law_tape (hr.mono (by decide)) rfl d__law_tape.g d__law_tape.k d__law_tape.b (pv 0) (fun c => (pdb_cons (pds_for (passes_of rfl) rfl (pdi_range1 rfl B.b_range (pda_cons pd_int pda_nil)) (pdg_name (i := 2) sc_law.nd rfl (by first | exact Or.inl rfl | exact Or.inr rfl))
    (pdb_cons (pds_set (i := 3) sc_law.nd rfl (by first | exact Or.inl rfl | exact Or.inr rfl) (pd_call G__law_pick (mS__law_pick A) link0 takesN (hr.mono (by decide)) rfl d__law_pick.g d__law_pick.k d__law_pick.b (pda_cons (pd_var 1 (pv 1)) (pda_cons (pd_lst (pda_cons pd_int (pda_cons pd_int (pda_cons pd_int (pda_cons pd_int (pda_cons pd_int (pda_cons pd_int (pda_cons pd_int pda_nil)))))))) pda_nil))))
    (pdb_cons (pds_set (i := 4) sc_law.nd rfl (by first | exact Or.inl rfl | exact Or.inr rfl) (pd_call G__law_equations (mS__law_equations A) link0 takesN (hr.mono (by decide)) rfl d__law_equations.g d__law_equations.k d__law_equations.b (pda_cons (pd_var 1 (pv 1)) (pda_cons (pd_var 3 (pv 3)) (pda_cons (pd_call G__law_draw (mS__law_draw A) link0 takesN (hr.mono (by decide)) rfl d__law_draw.g d__law_draw.k d__law_draw.b (pda_cons (pd_var 1 (pv 1)) (pda_cons (pd_add (pd_var 3 (pv 3)) pd_int) pda_nil))) (pda_cons (pd_call G__law_word (mS__law_wordV A) link0 takesN (hr.mono (by decide)) rfl d__law_word.g d__law_word.k d__law_word.b (pda_cons (pd_var 1 (pv 1)) (pda_cons (pd_var 3 (pv 3)) pda_nil))) pda_nil))))))
    (pdb_cons (pds_set (i := 5) sc_law.nd rfl (by first | exact Or.inl rfl | exact Or.inr rfl) (pd_make m_System G_System (mI_System A) link0 takesN (hr.mono (by decide)) rfl B.g_System b_i_System (pda_cons (pd_var 3 (pv 3)) (pda_cons (pd_var 4 (pv 4)) pda_nil))))
    (pdb_cons (pds_set (i := 6) sc_law.nd rfl (by first | exact Or.inl rfl | exact Or.inr rfl) (pd_call G__law_solutions (mS__law_solutions A) link0 takesN (hr.mono (by decide)) rfl d__law_solutions.g d__law_solutions.k d__law_solutions.b (pda_cons (pd_var 3 (pv 3)) (pda_cons (pd_var 4 (pv 4)) pda_nil))))
    (pdb_cons (pds_if (PDW.pt (pdw_or (pdt_ne hr (pd_repr hr rfl B.b_repr (pda_cons (pd_meth0 B.cl_System ⟨fn_System_solutions, if_System_solutions, kp_System_solutions⟩ G_System_solutions (mS_System_solutions A) link0 takesN (hr.mono (by decide)) bn_System_solutions (pd_var 5 (pv 5))) pda_nil)) (pd_repr hr rfl B.b_repr (pda_cons (pd_var 6 (pv 6)) pda_nil))) (pdw_or1 (pdt_ne hr (pd_repr hr rfl B.b_repr (pda_cons (pd_meth0 B.cl_System ⟨fn_System_solutions, if_System_solutions, kp_System_solutions⟩ G_System_solutions (mS_System_solutions A) link0 takesN (hr.mono (by decide)) bn_System_solutions (pd_var 5 (pv 5))) pda_nil)) (pd_repr hr rfl B.b_repr (pda_cons (pd_var 6 (pv 6)) pda_nil)))))) (pdb_one (pds_ret pd_bl)) pdb_nil)
    (pdb_one (pds_for (passes_of rfl) rfl (pdi_seq (pd_add (pd_lst (pda_cons (pd_call G__law_word (mS__law_wordV A) link0 takesN (hr.mono (by decide)) rfl d__law_word.g d__law_word.k d__law_word.b (pda_cons (pd_var 1 (pv 1)) (pda_cons (pd_var 3 (pv 3)) pda_nil))) pda_nil)) (pd_T_list rfl B.b_list (pda_cons (pd_cut (pd_var 6 (pv 6)) pdp_none (pdp_some pd_int)) pda_nil)))) (pdg_name (i := 7) sc_law.nd rfl (by first | exact Or.inl rfl | exact Or.inr rfl))
    (pdb_one (pds_if (PDW.pt (pdw_or (pdt_ne hr (pd_inO fn_System_contains if_System_contains G_System_contains (mS_System_contains A) (hr.mono (by decide)) bn_System_contains (pd_var 7 (pv 7)) (pd_var 5 (pv 5))) (pd_inD hr (pd_var 7 (pv 7)) (pd_var 6 (pv 6)))) (pdw_or1 (pdt_ne hr (pd_isN (pd_meth B.cl_System ⟨fn_System_first_wrong, if_System_first_wrong, kp_System_first_wrong⟩ G_System_first_wrong (mS_System_first_wrong A) link0 takesN (hr.mono (by decide)) bn_System_first_wrong (pd_var 5 (pv 5)) (pda_cons (pd_var 7 (pv 7)) pda_nil))) (pd_inD hr (pd_var 7 (pv 7)) (pd_var 6 (pv 6))))))) (pdb_one (pds_ret pd_bl)) pdb_nil))))))))))
    (pdb_one (pds_ret pd_bl)))), a, ns, rfl, hTb, hSq, ?_⟩
    exact p_law (A := A)  (fun v F' H' t r => by rw [r.bl_eq]; exact q _)
end
end PL
end L2

namespace L2
namespace PL
open PySem PySem.Spec PyProof.Rows
section
variable [Tabl]
theorem all_mk {P : Program} {w : World} {K : PySem.W.Frag} {h : Heap} {mg : Str → Option Value} (X : K.In h) (G : h.Ns mainGlobals mg) {fa C_System R_ C_InvalidNumber N_InvalidNumber_ f_i_InvalidNumber C_InvalidSystem N_InvalidSystem_ f_i_InvalidSystem C_InvalidWord N_InvalidWord_ f_i_InvalidWord f_is_integer f_is_between f_first_none f_are_bits f_is_row_of_bits f_is_word f_check_length f_all_words f_is_ascending f_are_unknowns f_are_pairs f_is_equation f_check_equations cc_check_equations P_check_equations f_is_fitting f_System_init f_System_first_wrong f_System_contains f_System_solutions f__law_mixed f__law_tape f__law_draw f__law_pick f__law_word f__law_words f__law_left f__law_fits f__law_equation f__law_equations f__law_solves f__law_solutions f_law : Addr} (hfa : mg "law" = some (.ref fa))
    {od_i_InvalidNumber an_i_InvalidNumber od_i_InvalidSystem an_i_InvalidSystem od_i_InvalidWord an_i_InvalidWord od_is_integer an_is_integer od_is_between an_is_between od_first_none an_first_none od_are_bits an_are_bits od_is_row_of_bits an_is_row_of_bits od_is_word an_is_word od_check_length an_check_length od_all_words an_all_words od_is_ascending an_is_ascending od_are_unknowns an_are_unknowns od_are_pairs an_are_pairs od_is_equation an_is_equation od_check_equations an_check_equations od_is_fitting an_is_fitting od_System_init an_System_init od_System_first_wrong an_System_first_wrong od_System_contains an_System_contains od_System_solutions an_System_solutions od__law_mixed an__law_mixed od__law_tape an__law_tape od__law_draw an__law_draw od__law_pick an__law_pick od__law_word an__law_word od__law_words an__law_words od__law_left an__law_left od__law_fits an__law_fits od__law_equation an__law_equation od__law_equations an__law_equations od__law_solves an__law_solves od__law_solutions an__law_solutions od_law an_law : Option Addr} {sl_i_InvalidNumber sl_i_InvalidSystem sl_i_InvalidWord sl_is_integer sl_is_between sl_first_none sl_are_bits sl_is_row_of_bits sl_is_word sl_check_length sl_all_words sl_is_ascending sl_are_unknowns sl_are_pairs sl_is_equation sl_check_equations sl_is_fitting sl_System_init sl_System_first_wrong sl_System_contains sl_System_solutions sl__law_mixed sl__law_tape sl__law_draw sl__law_pick sl__law_word sl__law_words sl__law_left sl__law_fits sl__law_equation sl__law_equations sl__law_solves sl__law_solutions sl_law : Array (Option Value)} {oc_i_InvalidNumber kV_i_InvalidNumber dc_i_InvalidNumber pm_i_InvalidNumber cd_i_InvalidNumber ct_i_InvalidNumber oc_i_InvalidSystem kV_i_InvalidSystem dc_i_InvalidSystem pm_i_InvalidSystem cd_i_InvalidSystem ct_i_InvalidSystem oc_i_InvalidWord kV_i_InvalidWord dc_i_InvalidWord pm_i_InvalidWord cd_i_InvalidWord ct_i_InvalidWord oc_is_integer kV_is_integer dc_is_integer pm_is_integer cd_is_integer ct_is_integer oc_is_between kV_is_between dc_is_between pm_is_between cd_is_between ct_is_between oc_first_none kV_first_none dc_first_none pm_first_none cd_first_none ct_first_none oc_are_bits kV_are_bits dc_are_bits pm_are_bits cd_are_bits ct_are_bits oc_is_row_of_bits kV_is_row_of_bits dc_is_row_of_bits pm_is_row_of_bits cd_is_row_of_bits ct_is_row_of_bits oc_is_word kV_is_word dc_is_word pm_is_word cd_is_word ct_is_word oc_check_length kV_check_length dc_check_length pm_check_length cd_check_length ct_check_length oc_all_words kV_all_words dc_all_words pm_all_words cd_all_words ct_all_words oc_is_ascending kV_is_ascending dc_is_ascending pm_is_ascending cd_is_ascending ct_is_ascending oc_are_unknowns kV_are_unknowns dc_are_unknowns pm_are_unknowns cd_are_unknowns ct_are_unknowns oc_are_pairs kV_are_pairs dc_are_pairs pm_are_pairs cd_are_pairs ct_are_pairs oc_is_equation kV_is_equation dc_is_equation pm_is_equation cd_is_equation ct_is_equation oc_check_equations kV_check_equations dc_check_equations pm_check_equations ct_check_equations oc_is_fitting kV_is_fitting dc_is_fitting pm_is_fitting cd_is_fitting ct_is_fitting oc_System_init kV_System_init dc_System_init pm_System_init cd_System_init ct_System_init oc_System_first_wrong kV_System_first_wrong dc_System_first_wrong pm_System_first_wrong cd_System_first_wrong ct_System_first_wrong oc_System_contains kV_System_contains dc_System_contains pm_System_contains cd_System_contains ct_System_contains oc_System_solutions kV_System_solutions dc_System_solutions pm_System_solutions cd_System_solutions ct_System_solutions oc__law_mixed kV__law_mixed dc__law_mixed pm__law_mixed cd__law_mixed ct__law_mixed oc__law_tape kV__law_tape dc__law_tape pm__law_tape cd__law_tape ct__law_tape oc__law_draw kV__law_draw dc__law_draw pm__law_draw cd__law_draw ct__law_draw oc__law_pick kV__law_pick dc__law_pick pm__law_pick cd__law_pick ct__law_pick oc__law_word kV__law_word dc__law_word pm__law_word cd__law_word ct__law_word oc__law_words kV__law_words dc__law_words pm__law_words cd__law_words ct__law_words oc__law_left kV__law_left dc__law_left pm__law_left cd__law_left ct__law_left oc__law_fits kV__law_fits dc__law_fits pm__law_fits cd__law_fits ct__law_fits oc__law_equation kV__law_equation dc__law_equation pm__law_equation cd__law_equation ct__law_equation oc__law_equations kV__law_equations dc__law_equations pm__law_equations cd__law_equations ct__law_equations oc__law_solves kV__law_solves dc__law_solves pm__law_solves cd__law_solves ct__law_solves oc__law_solutions kV__law_solutions dc__law_solutions pm__law_solutions cd__law_solutions ct__law_solutions oc_law kV_law dc_law pm_law cd_law ct_law : Value}  {t_LONGEST_WORD : Tok}
    {nm_InvalidNumber q_InvalidNumber : Str} {bs_InvalidNumber : List Value} {sn_InvalidNumber : List Str} {sub_InvalidNumber : List Value} {ab_InvalidNumber : Bool} {col_InvalidNumber : Option Bool} {dd_InvalidNumber : Option Addr} {m0_InvalidNumber m1_InvalidNumber m2_InvalidNumber m3_InvalidNumber m5_InvalidNumber : Option Value}
    {nm_InvalidSystem q_InvalidSystem : Str} {bs_InvalidSystem : List Value} {sn_InvalidSystem : List Str} {sub_InvalidSystem : List Value} {ab_InvalidSystem : Bool} {col_InvalidSystem : Option Bool} {dd_InvalidSystem : Option Addr} {m0_InvalidSystem m1_InvalidSystem m2_InvalidSystem m3_InvalidSystem m5_InvalidSystem : Option Value}
    {nm_InvalidWord q_InvalidWord : Str} {bs_InvalidWord : List Value} {sn_InvalidWord : List Str} {sub_InvalidWord : List Value} {ab_InvalidWord : Bool} {col_InvalidWord : Option Bool} {dd_InvalidWord : Option Addr} {m0_InvalidWord m1_InvalidWord m2_InvalidWord m3_InvalidWord m5_InvalidWord : Option Value}
    (n_System : PySem.W.nsIn K mainGlobals "System" = some (some (.ref C_System)))
    (pg_System : PySem.W.plainGet K C_System Str.empty = true)
    (hd_System : PySem.W.hasDictIn K C_System = true)
    (po_System : PySem.W.plainOver K C_System = true)
    (sa_System : PySem.W.findIn K (.ref C_System) "__setattr__" = some (some (.builtin "object.__setattr__")))
    (mk_System : PySem.W.makesIn K C_System = true)
    (kc_System : PySem.W.keepIn K (.ref C_System) = true)
    (ha_System : PySem.W.findIn K (.ref C_System) "__class__" = some (some (.builtin "object.__class__")))
    (hm_System : PySem.W.mroIn K C_System (.type "object") = some true)
    (kt_int_System : PySem.W.kitOne K (.ref C_System) (.type "int") = some false)
    (kt_bool_System : PySem.W.kitOne K (.ref C_System) (.type "bool") = some false)
    (kt_tuple_System : PySem.W.kitOne K (.ref C_System) (.type "tuple") = some false)
    (kt_list_System : PySem.W.kitOne K (.ref C_System) (.type "list") = some false)
    (kt_str_System : PySem.W.kitOne K (.ref C_System) (.type "str") = some false)
    (ky_NoneType_System : PySem.W.kitOne K (.type "NoneType") (.ref C_System) = some false)
    (ky_bool_System : PySem.W.kitOne K (.type "bool") (.ref C_System) = some false)
    (ky_int_System : PySem.W.kitOne K (.type "int") (.ref C_System) = some false)
    (ky_str_System : PySem.W.kitOne K (.type "str") (.ref C_System) = some false)
    (ky_tuple_System : PySem.W.kitOne K (.type "tuple") (.ref C_System) = some false)
    (ky_list_System : PySem.W.kitOne K (.type "list") (.ref C_System) = some false)
    (ko_System_System : PySem.W.kitOne K (.ref C_System) (.ref C_System) = some true)
    (nf_System_equations : PySem.W.findIn K (.ref C_System) "equations" = some none)
    (nf_System_n : PySem.W.findIn K (.ref C_System) "n" = some none)
    (hn : PySem.W.specialIn K (.builtin "object.__class__") "__get__" = some (some (.builtin "getset_descriptor.__get__")))
    (htk : PySem.W.takesIn K (.builtin "object.__class__") = some true)
    (n_InvalidNumber : PySem.W.nsIn K mainGlobals "InvalidNumber" = some (some (.ref C_InvalidNumber)))
    (x_InvalidNumber : K.lookup C_InvalidNumber = some (excClassObj nm_InvalidNumber q_InvalidNumber C_InvalidNumber N_InvalidNumber_ bs_InvalidNumber [.ref R_, .type "ValueError", .type "Exception", .type "BaseException", .type "object"] true sn_InvalidNumber sub_InvalidNumber ab_InvalidNumber col_InvalidNumber dd_InvalidNumber m0_InvalidNumber m1_InvalidNumber m2_InvalidNumber m3_InvalidNumber m5_InvalidNumber "ValueError.__new__"))
    (es_InvalidNumber : PySem.W.findIn K (.ref C_InvalidNumber) "__setattr__" = some (some (.builtin "object.__setattr__")))
    (ee_InvalidNumber : PySem.W.subIn K (.ref C_InvalidNumber) (.type "BaseException") = some true)
    (et_InvalidNumber : PySem.W.typeIn K (.ref C_InvalidNumber) = some (.type "type"))
    (ek_InvalidNumber : PySem.W.keepIn K (.ref C_InvalidNumber) = true)
    (ec_InvalidNumber : PySem.W.isClsIn K C_InvalidNumber = true)
    (ga_InvalidNumber : PySem.W.findIn K (.ref C_InvalidNumber) "__getattribute__" = some (some (.builtin "BaseException.__getattribute__")))
    (gg_InvalidNumber : PySem.W.findIn K (.ref C_InvalidNumber) "__getattr__" = some none)
    (eh_InvalidNumber : PySem.W.hasDictIn K C_InvalidNumber = true)
    (ev_InvalidNumber_part : PySem.W.findIn K (.ref C_InvalidNumber) "part" = some none)
    (ev_InvalidNumber_place : PySem.W.findIn K (.ref C_InvalidNumber) "place" = some none)
    (ev_InvalidNumber_value : PySem.W.findIn K (.ref C_InvalidNumber) "value" = some none)
    (ei_InvalidNumber : PySem.W.findIn K (.ref C_InvalidNumber) "__init__" = some (some (.ref f_i_InvalidNumber)))
    (l_i_InvalidNumber : K.lookup f_i_InvalidNumber = some ⟨oc_i_InvalidNumber, od_i_InvalidNumber, .func (PySem.W.fnOf "__init__" "InvalidNumber.__init__" (defArgs si_InvalidNumber) (defBody si_InvalidNumber) (defScope si_InvalidNumber) .none kV_i_InvalidNumber dc_i_InvalidNumber pm_i_InvalidNumber an_i_InvalidNumber cd_i_InvalidNumber ct_i_InvalidNumber), sl_i_InvalidNumber⟩)
    (c_i_InvalidNumber : PySem.W.codeIn K cd_i_InvalidNumber "InvalidNumber.__init__" = true)
    (k_i_InvalidNumber : PySem.W.keepIn K (.ref f_i_InvalidNumber) = true)
    (ti_InvalidNumber : PySem.W.typeIn K (.ref f_i_InvalidNumber) = some (.type "function"))
    (n_InvalidSystem : PySem.W.nsIn K mainGlobals "InvalidSystem" = some (some (.ref C_InvalidSystem)))
    (x_InvalidSystem : K.lookup C_InvalidSystem = some (excClassObj nm_InvalidSystem q_InvalidSystem C_InvalidSystem N_InvalidSystem_ bs_InvalidSystem [.ref R_, .type "ValueError", .type "Exception", .type "BaseException", .type "object"] true sn_InvalidSystem sub_InvalidSystem ab_InvalidSystem col_InvalidSystem dd_InvalidSystem m0_InvalidSystem m1_InvalidSystem m2_InvalidSystem m3_InvalidSystem m5_InvalidSystem "ValueError.__new__"))
    (es_InvalidSystem : PySem.W.findIn K (.ref C_InvalidSystem) "__setattr__" = some (some (.builtin "object.__setattr__")))
    (ee_InvalidSystem : PySem.W.subIn K (.ref C_InvalidSystem) (.type "BaseException") = some true)
    (et_InvalidSystem : PySem.W.typeIn K (.ref C_InvalidSystem) = some (.type "type"))
    (ek_InvalidSystem : PySem.W.keepIn K (.ref C_InvalidSystem) = true)
    (ec_InvalidSystem : PySem.W.isClsIn K C_InvalidSystem = true)
    (ga_InvalidSystem : PySem.W.findIn K (.ref C_InvalidSystem) "__getattribute__" = some (some (.builtin "BaseException.__getattribute__")))
    (gg_InvalidSystem : PySem.W.findIn K (.ref C_InvalidSystem) "__getattr__" = some none)
    (eh_InvalidSystem : PySem.W.hasDictIn K C_InvalidSystem = true)
    (ev_InvalidSystem_part : PySem.W.findIn K (.ref C_InvalidSystem) "part" = some none)
    (ev_InvalidSystem_place : PySem.W.findIn K (.ref C_InvalidSystem) "place" = some none)
    (ev_InvalidSystem_value : PySem.W.findIn K (.ref C_InvalidSystem) "value" = some none)
    (ei_InvalidSystem : PySem.W.findIn K (.ref C_InvalidSystem) "__init__" = some (some (.ref f_i_InvalidSystem)))
    (l_i_InvalidSystem : K.lookup f_i_InvalidSystem = some ⟨oc_i_InvalidSystem, od_i_InvalidSystem, .func (PySem.W.fnOf "__init__" "InvalidSystem.__init__" (defArgs si_InvalidSystem) (defBody si_InvalidSystem) (defScope si_InvalidSystem) .none kV_i_InvalidSystem dc_i_InvalidSystem pm_i_InvalidSystem an_i_InvalidSystem cd_i_InvalidSystem ct_i_InvalidSystem), sl_i_InvalidSystem⟩)
    (c_i_InvalidSystem : PySem.W.codeIn K cd_i_InvalidSystem "InvalidSystem.__init__" = true)
    (k_i_InvalidSystem : PySem.W.keepIn K (.ref f_i_InvalidSystem) = true)
    (ti_InvalidSystem : PySem.W.typeIn K (.ref f_i_InvalidSystem) = some (.type "function"))
    (n_InvalidWord : PySem.W.nsIn K mainGlobals "InvalidWord" = some (some (.ref C_InvalidWord)))
    (x_InvalidWord : K.lookup C_InvalidWord = some (excClassObj nm_InvalidWord q_InvalidWord C_InvalidWord N_InvalidWord_ bs_InvalidWord [.ref R_, .type "ValueError", .type "Exception", .type "BaseException", .type "object"] true sn_InvalidWord sub_InvalidWord ab_InvalidWord col_InvalidWord dd_InvalidWord m0_InvalidWord m1_InvalidWord m2_InvalidWord m3_InvalidWord m5_InvalidWord "ValueError.__new__"))
    (es_InvalidWord : PySem.W.findIn K (.ref C_InvalidWord) "__setattr__" = some (some (.builtin "object.__setattr__")))
    (ee_InvalidWord : PySem.W.subIn K (.ref C_InvalidWord) (.type "BaseException") = some true)
    (et_InvalidWord : PySem.W.typeIn K (.ref C_InvalidWord) = some (.type "type"))
    (ek_InvalidWord : PySem.W.keepIn K (.ref C_InvalidWord) = true)
    (ec_InvalidWord : PySem.W.isClsIn K C_InvalidWord = true)
    (ga_InvalidWord : PySem.W.findIn K (.ref C_InvalidWord) "__getattribute__" = some (some (.builtin "BaseException.__getattribute__")))
    (gg_InvalidWord : PySem.W.findIn K (.ref C_InvalidWord) "__getattr__" = some none)
    (eh_InvalidWord : PySem.W.hasDictIn K C_InvalidWord = true)
    (ev_InvalidWord_part : PySem.W.findIn K (.ref C_InvalidWord) "part" = some none)
    (ev_InvalidWord_place : PySem.W.findIn K (.ref C_InvalidWord) "place" = some none)
    (ev_InvalidWord_value : PySem.W.findIn K (.ref C_InvalidWord) "value" = some none)
    (ei_InvalidWord : PySem.W.findIn K (.ref C_InvalidWord) "__init__" = some (some (.ref f_i_InvalidWord)))
    (l_i_InvalidWord : K.lookup f_i_InvalidWord = some ⟨oc_i_InvalidWord, od_i_InvalidWord, .func (PySem.W.fnOf "__init__" "InvalidWord.__init__" (defArgs si_InvalidWord) (defBody si_InvalidWord) (defScope si_InvalidWord) .none kV_i_InvalidWord dc_i_InvalidWord pm_i_InvalidWord an_i_InvalidWord cd_i_InvalidWord ct_i_InvalidWord), sl_i_InvalidWord⟩)
    (c_i_InvalidWord : PySem.W.codeIn K cd_i_InvalidWord "InvalidWord.__init__" = true)
    (k_i_InvalidWord : PySem.W.keepIn K (.ref f_i_InvalidWord) = true)
    (ti_InvalidWord : PySem.W.typeIn K (.ref f_i_InvalidWord) = some (.type "function"))
    (a_is_integer : PySem.W.nsIn K mainGlobals "is_integer" = some (some (.ref f_is_integer)))
    (l_is_integer : K.lookup f_is_integer = some ⟨oc_is_integer, od_is_integer, .func (PySem.W.fnOf "is_integer" "is_integer" (defArgs s_is_integer) (defBody s_is_integer) (defScope s_is_integer) .none kV_is_integer dc_is_integer pm_is_integer an_is_integer cd_is_integer ct_is_integer), sl_is_integer⟩)
    (c_is_integer : PySem.W.codeIn K cd_is_integer "is_integer" = true)
    (k_is_integer : PySem.W.keepIn K (.ref f_is_integer) = true)
    (a_is_between : PySem.W.nsIn K mainGlobals "is_between" = some (some (.ref f_is_between)))
    (l_is_between : K.lookup f_is_between = some ⟨oc_is_between, od_is_between, .func (PySem.W.fnOf "is_between" "is_between" (defArgs s_is_between) (defBody s_is_between) (defScope s_is_between) .none kV_is_between dc_is_between pm_is_between an_is_between cd_is_between ct_is_between), sl_is_between⟩)
    (c_is_between : PySem.W.codeIn K cd_is_between "is_between" = true)
    (k_is_between : PySem.W.keepIn K (.ref f_is_between) = true)
    (a_first_none : PySem.W.nsIn K mainGlobals "first_none" = some (some (.ref f_first_none)))
    (l_first_none : K.lookup f_first_none = some ⟨oc_first_none, od_first_none, .func (PySem.W.fnOf "first_none" "first_none" (defArgs s_first_none) (defBody s_first_none) (defScope s_first_none) .none kV_first_none dc_first_none pm_first_none an_first_none cd_first_none ct_first_none), sl_first_none⟩)
    (c_first_none : PySem.W.codeIn K cd_first_none "first_none" = true)
    (k_first_none : PySem.W.keepIn K (.ref f_first_none) = true)
    (a_are_bits : PySem.W.nsIn K mainGlobals "are_bits" = some (some (.ref f_are_bits)))
    (l_are_bits : K.lookup f_are_bits = some ⟨oc_are_bits, od_are_bits, .func (PySem.W.fnOf "are_bits" "are_bits" (defArgs s_are_bits) (defBody s_are_bits) (defScope s_are_bits) .none kV_are_bits dc_are_bits pm_are_bits an_are_bits cd_are_bits ct_are_bits), sl_are_bits⟩)
    (c_are_bits : PySem.W.codeIn K cd_are_bits "are_bits" = true)
    (k_are_bits : PySem.W.keepIn K (.ref f_are_bits) = true)
    (a_is_row_of_bits : PySem.W.nsIn K mainGlobals "is_row_of_bits" = some (some (.ref f_is_row_of_bits)))
    (l_is_row_of_bits : K.lookup f_is_row_of_bits = some ⟨oc_is_row_of_bits, od_is_row_of_bits, .func (PySem.W.fnOf "is_row_of_bits" "is_row_of_bits" (defArgs s_is_row_of_bits) (defBody s_is_row_of_bits) (defScope s_is_row_of_bits) .none kV_is_row_of_bits dc_is_row_of_bits pm_is_row_of_bits an_is_row_of_bits cd_is_row_of_bits ct_is_row_of_bits), sl_is_row_of_bits⟩)
    (c_is_row_of_bits : PySem.W.codeIn K cd_is_row_of_bits "is_row_of_bits" = true)
    (k_is_row_of_bits : PySem.W.keepIn K (.ref f_is_row_of_bits) = true)
    (a_is_word : PySem.W.nsIn K mainGlobals "is_word" = some (some (.ref f_is_word)))
    (l_is_word : K.lookup f_is_word = some ⟨oc_is_word, od_is_word, .func (PySem.W.fnOf "is_word" "is_word" (defArgs s_is_word) (defBody s_is_word) (defScope s_is_word) .none kV_is_word dc_is_word pm_is_word an_is_word cd_is_word ct_is_word), sl_is_word⟩)
    (c_is_word : PySem.W.codeIn K cd_is_word "is_word" = true)
    (k_is_word : PySem.W.keepIn K (.ref f_is_word) = true)
    (a_check_length : PySem.W.nsIn K mainGlobals "check_length" = some (some (.ref f_check_length)))
    (l_check_length : K.lookup f_check_length = some ⟨oc_check_length, od_check_length, .func (PySem.W.fnOf "check_length" "check_length" (defArgs s_check_length) (defBody s_check_length) (defScope s_check_length) .none kV_check_length dc_check_length pm_check_length an_check_length cd_check_length ct_check_length), sl_check_length⟩)
    (c_check_length : PySem.W.codeIn K cd_check_length "check_length" = true)
    (k_check_length : PySem.W.keepIn K (.ref f_check_length) = true)
    (a_all_words : PySem.W.nsIn K mainGlobals "all_words" = some (some (.ref f_all_words)))
    (l_all_words : K.lookup f_all_words = some ⟨oc_all_words, od_all_words, .func (PySem.W.fnOf "all_words" "all_words" (defArgs s_all_words) (defBody s_all_words) (defScope s_all_words) .none kV_all_words dc_all_words pm_all_words an_all_words cd_all_words ct_all_words), sl_all_words⟩)
    (c_all_words : PySem.W.codeIn K cd_all_words "all_words" = true)
    (k_all_words : PySem.W.keepIn K (.ref f_all_words) = true)
    (a_is_ascending : PySem.W.nsIn K mainGlobals "is_ascending" = some (some (.ref f_is_ascending)))
    (l_is_ascending : K.lookup f_is_ascending = some ⟨oc_is_ascending, od_is_ascending, .func (PySem.W.fnOf "is_ascending" "is_ascending" (defArgs s_is_ascending) (defBody s_is_ascending) (defScope s_is_ascending) .none kV_is_ascending dc_is_ascending pm_is_ascending an_is_ascending cd_is_ascending ct_is_ascending), sl_is_ascending⟩)
    (c_is_ascending : PySem.W.codeIn K cd_is_ascending "is_ascending" = true)
    (k_is_ascending : PySem.W.keepIn K (.ref f_is_ascending) = true)
    (a_are_unknowns : PySem.W.nsIn K mainGlobals "are_unknowns" = some (some (.ref f_are_unknowns)))
    (l_are_unknowns : K.lookup f_are_unknowns = some ⟨oc_are_unknowns, od_are_unknowns, .func (PySem.W.fnOf "are_unknowns" "are_unknowns" (defArgs s_are_unknowns) (defBody s_are_unknowns) (defScope s_are_unknowns) .none kV_are_unknowns dc_are_unknowns pm_are_unknowns an_are_unknowns cd_are_unknowns ct_are_unknowns), sl_are_unknowns⟩)
    (c_are_unknowns : PySem.W.codeIn K cd_are_unknowns "are_unknowns" = true)
    (k_are_unknowns : PySem.W.keepIn K (.ref f_are_unknowns) = true)
    (a_are_pairs : PySem.W.nsIn K mainGlobals "are_pairs" = some (some (.ref f_are_pairs)))
    (l_are_pairs : K.lookup f_are_pairs = some ⟨oc_are_pairs, od_are_pairs, .func (PySem.W.fnOf "are_pairs" "are_pairs" (defArgs s_are_pairs) (defBody s_are_pairs) (defScope s_are_pairs) .none kV_are_pairs dc_are_pairs pm_are_pairs an_are_pairs cd_are_pairs ct_are_pairs), sl_are_pairs⟩)
    (c_are_pairs : PySem.W.codeIn K cd_are_pairs "are_pairs" = true)
    (k_are_pairs : PySem.W.keepIn K (.ref f_are_pairs) = true)
    (a_is_equation : PySem.W.nsIn K mainGlobals "is_equation" = some (some (.ref f_is_equation)))
    (l_is_equation : K.lookup f_is_equation = some ⟨oc_is_equation, od_is_equation, .func (PySem.W.fnOf "is_equation" "is_equation" (defArgs s_is_equation) (defBody s_is_equation) (defScope s_is_equation) .none kV_is_equation dc_is_equation pm_is_equation an_is_equation cd_is_equation ct_is_equation), sl_is_equation⟩)
    (c_is_equation : PySem.W.codeIn K cd_is_equation "is_equation" = true)
    (k_is_equation : PySem.W.keepIn K (.ref f_is_equation) = true)
    (a_check_equations : PySem.W.nsIn K mainGlobals "check_equations" = some (some (.ref f_check_equations)))
    (l_check_equations : K.lookup f_check_equations = some ⟨oc_check_equations, od_check_equations, .func (PySem.W.fnOf "check_equations" "check_equations" (defArgs s_check_equations) (defBody s_check_equations) (defScope s_check_equations) .none kV_check_equations dc_check_equations pm_check_equations an_check_equations (.ref cc_check_equations) ct_check_equations), sl_check_equations⟩)
    (c_check_equations : PySem.W.codeIn K (.ref cc_check_equations) "check_equations" = true)
    (k_check_equations : PySem.W.keepIn K (.ref f_check_equations) = true)
    (a_is_fitting : PySem.W.nsIn K mainGlobals "is_fitting" = some (some (.ref f_is_fitting)))
    (l_is_fitting : K.lookup f_is_fitting = some ⟨oc_is_fitting, od_is_fitting, .func (PySem.W.fnOf "is_fitting" "is_fitting" (defArgs s_is_fitting) (defBody s_is_fitting) (defScope s_is_fitting) .none kV_is_fitting dc_is_fitting pm_is_fitting an_is_fitting cd_is_fitting ct_is_fitting), sl_is_fitting⟩)
    (c_is_fitting : PySem.W.codeIn K cd_is_fitting "is_fitting" = true)
    (k_is_fitting : PySem.W.keepIn K (.ref f_is_fitting) = true)
    (a_System_init : PySem.W.findIn K (.ref C_System) "__init__" = some (some (.ref f_System_init)))
    (i_System_init : PySem.W.isFn K (.ref f_System_init) = true)
    (l_System_init : K.lookup f_System_init = some ⟨oc_System_init, od_System_init, .func (PySem.W.fnOf "__init__" "System.__init__" (defArgs s_System_init) (defBody s_System_init) (defScope s_System_init) .none kV_System_init dc_System_init pm_System_init an_System_init cd_System_init ct_System_init), sl_System_init⟩)
    (c_System_init : PySem.W.codeIn K cd_System_init "System.__init__" = true)
    (k_System_init : PySem.W.keepIn K (.ref f_System_init) = true)
    (a_System_first_wrong : PySem.W.findIn K (.ref C_System) "first_wrong" = some (some (.ref f_System_first_wrong)))
    (i_System_first_wrong : PySem.W.isFn K (.ref f_System_first_wrong) = true)
    (l_System_first_wrong : K.lookup f_System_first_wrong = some ⟨oc_System_first_wrong, od_System_first_wrong, .func (PySem.W.fnOf "first_wrong" "System.first_wrong" (defArgs s_System_first_wrong) (defBody s_System_first_wrong) (defScope s_System_first_wrong) .none kV_System_first_wrong dc_System_first_wrong pm_System_first_wrong an_System_first_wrong cd_System_first_wrong ct_System_first_wrong), sl_System_first_wrong⟩)
    (c_System_first_wrong : PySem.W.codeIn K cd_System_first_wrong "System.first_wrong" = true)
    (k_System_first_wrong : PySem.W.keepIn K (.ref f_System_first_wrong) = true)
    (a_System_contains : PySem.W.findIn K (.ref C_System) "__contains__" = some (some (.ref f_System_contains)))
    (i_System_contains : PySem.W.isFn K (.ref f_System_contains) = true)
    (l_System_contains : K.lookup f_System_contains = some ⟨oc_System_contains, od_System_contains, .func (PySem.W.fnOf "__contains__" "System.__contains__" (defArgs s_System_contains) (defBody s_System_contains) (defScope s_System_contains) .none kV_System_contains dc_System_contains pm_System_contains an_System_contains cd_System_contains ct_System_contains), sl_System_contains⟩)
    (c_System_contains : PySem.W.codeIn K cd_System_contains "System.__contains__" = true)
    (k_System_contains : PySem.W.keepIn K (.ref f_System_contains) = true)
    (a_System_solutions : PySem.W.findIn K (.ref C_System) "solutions" = some (some (.ref f_System_solutions)))
    (i_System_solutions : PySem.W.isFn K (.ref f_System_solutions) = true)
    (l_System_solutions : K.lookup f_System_solutions = some ⟨oc_System_solutions, od_System_solutions, .func (PySem.W.fnOf "solutions" "System.solutions" (defArgs s_System_solutions) (defBody s_System_solutions) (defScope s_System_solutions) .none kV_System_solutions dc_System_solutions pm_System_solutions an_System_solutions cd_System_solutions ct_System_solutions), sl_System_solutions⟩)
    (c_System_solutions : PySem.W.codeIn K cd_System_solutions "System.solutions" = true)
    (k_System_solutions : PySem.W.keepIn K (.ref f_System_solutions) = true)
    (a__law_mixed : PySem.W.nsIn K mainGlobals "_law_mixed" = some (some (.ref f__law_mixed)))
    (l__law_mixed : K.lookup f__law_mixed = some ⟨oc__law_mixed, od__law_mixed, .func (PySem.W.fnOf "_law_mixed" "_law_mixed" (defArgs s__law_mixed) (defBody s__law_mixed) (defScope s__law_mixed) .none kV__law_mixed dc__law_mixed pm__law_mixed an__law_mixed cd__law_mixed ct__law_mixed), sl__law_mixed⟩)
    (c__law_mixed : PySem.W.codeIn K cd__law_mixed "_law_mixed" = true)
    (k__law_mixed : PySem.W.keepIn K (.ref f__law_mixed) = true)
    (a__law_tape : PySem.W.nsIn K mainGlobals "_law_tape" = some (some (.ref f__law_tape)))
    (l__law_tape : K.lookup f__law_tape = some ⟨oc__law_tape, od__law_tape, .func (PySem.W.fnOf "_law_tape" "_law_tape" (defArgs s__law_tape) (defBody s__law_tape) (defScope s__law_tape) .none kV__law_tape dc__law_tape pm__law_tape an__law_tape cd__law_tape ct__law_tape), sl__law_tape⟩)
    (c__law_tape : PySem.W.codeIn K cd__law_tape "_law_tape" = true)
    (k__law_tape : PySem.W.keepIn K (.ref f__law_tape) = true)
    (a__law_draw : PySem.W.nsIn K mainGlobals "_law_draw" = some (some (.ref f__law_draw)))
    (l__law_draw : K.lookup f__law_draw = some ⟨oc__law_draw, od__law_draw, .func (PySem.W.fnOf "_law_draw" "_law_draw" (defArgs s__law_draw) (defBody s__law_draw) (defScope s__law_draw) .none kV__law_draw dc__law_draw pm__law_draw an__law_draw cd__law_draw ct__law_draw), sl__law_draw⟩)
    (c__law_draw : PySem.W.codeIn K cd__law_draw "_law_draw" = true)
    (k__law_draw : PySem.W.keepIn K (.ref f__law_draw) = true)
    (a__law_pick : PySem.W.nsIn K mainGlobals "_law_pick" = some (some (.ref f__law_pick)))
    (l__law_pick : K.lookup f__law_pick = some ⟨oc__law_pick, od__law_pick, .func (PySem.W.fnOf "_law_pick" "_law_pick" (defArgs s__law_pick) (defBody s__law_pick) (defScope s__law_pick) .none kV__law_pick dc__law_pick pm__law_pick an__law_pick cd__law_pick ct__law_pick), sl__law_pick⟩)
    (c__law_pick : PySem.W.codeIn K cd__law_pick "_law_pick" = true)
    (k__law_pick : PySem.W.keepIn K (.ref f__law_pick) = true)
    (a__law_word : PySem.W.nsIn K mainGlobals "_law_word" = some (some (.ref f__law_word)))
    (l__law_word : K.lookup f__law_word = some ⟨oc__law_word, od__law_word, .func (PySem.W.fnOf "_law_word" "_law_word" (defArgs s__law_word) (defBody s__law_word) (defScope s__law_word) .none kV__law_word dc__law_word pm__law_word an__law_word cd__law_word ct__law_word), sl__law_word⟩)
    (c__law_word : PySem.W.codeIn K cd__law_word "_law_word" = true)
    (k__law_word : PySem.W.keepIn K (.ref f__law_word) = true)
    (a__law_words : PySem.W.nsIn K mainGlobals "_law_words" = some (some (.ref f__law_words)))
    (l__law_words : K.lookup f__law_words = some ⟨oc__law_words, od__law_words, .func (PySem.W.fnOf "_law_words" "_law_words" (defArgs s__law_words) (defBody s__law_words) (defScope s__law_words) .none kV__law_words dc__law_words pm__law_words an__law_words cd__law_words ct__law_words), sl__law_words⟩)
    (c__law_words : PySem.W.codeIn K cd__law_words "_law_words" = true)
    (k__law_words : PySem.W.keepIn K (.ref f__law_words) = true)
    (a__law_left : PySem.W.nsIn K mainGlobals "_law_left" = some (some (.ref f__law_left)))
    (l__law_left : K.lookup f__law_left = some ⟨oc__law_left, od__law_left, .func (PySem.W.fnOf "_law_left" "_law_left" (defArgs s__law_left) (defBody s__law_left) (defScope s__law_left) .none kV__law_left dc__law_left pm__law_left an__law_left cd__law_left ct__law_left), sl__law_left⟩)
    (c__law_left : PySem.W.codeIn K cd__law_left "_law_left" = true)
    (k__law_left : PySem.W.keepIn K (.ref f__law_left) = true)
    (a__law_fits : PySem.W.nsIn K mainGlobals "_law_fits" = some (some (.ref f__law_fits)))
    (l__law_fits : K.lookup f__law_fits = some ⟨oc__law_fits, od__law_fits, .func (PySem.W.fnOf "_law_fits" "_law_fits" (defArgs s__law_fits) (defBody s__law_fits) (defScope s__law_fits) .none kV__law_fits dc__law_fits pm__law_fits an__law_fits cd__law_fits ct__law_fits), sl__law_fits⟩)
    (c__law_fits : PySem.W.codeIn K cd__law_fits "_law_fits" = true)
    (k__law_fits : PySem.W.keepIn K (.ref f__law_fits) = true)
    (a__law_equation : PySem.W.nsIn K mainGlobals "_law_equation" = some (some (.ref f__law_equation)))
    (l__law_equation : K.lookup f__law_equation = some ⟨oc__law_equation, od__law_equation, .func (PySem.W.fnOf "_law_equation" "_law_equation" (defArgs s__law_equation) (defBody s__law_equation) (defScope s__law_equation) .none kV__law_equation dc__law_equation pm__law_equation an__law_equation cd__law_equation ct__law_equation), sl__law_equation⟩)
    (c__law_equation : PySem.W.codeIn K cd__law_equation "_law_equation" = true)
    (k__law_equation : PySem.W.keepIn K (.ref f__law_equation) = true)
    (a__law_equations : PySem.W.nsIn K mainGlobals "_law_equations" = some (some (.ref f__law_equations)))
    (l__law_equations : K.lookup f__law_equations = some ⟨oc__law_equations, od__law_equations, .func (PySem.W.fnOf "_law_equations" "_law_equations" (defArgs s__law_equations) (defBody s__law_equations) (defScope s__law_equations) .none kV__law_equations dc__law_equations pm__law_equations an__law_equations cd__law_equations ct__law_equations), sl__law_equations⟩)
    (c__law_equations : PySem.W.codeIn K cd__law_equations "_law_equations" = true)
    (k__law_equations : PySem.W.keepIn K (.ref f__law_equations) = true)
    (a__law_solves : PySem.W.nsIn K mainGlobals "_law_solves" = some (some (.ref f__law_solves)))
    (l__law_solves : K.lookup f__law_solves = some ⟨oc__law_solves, od__law_solves, .func (PySem.W.fnOf "_law_solves" "_law_solves" (defArgs s__law_solves) (defBody s__law_solves) (defScope s__law_solves) .none kV__law_solves dc__law_solves pm__law_solves an__law_solves cd__law_solves ct__law_solves), sl__law_solves⟩)
    (c__law_solves : PySem.W.codeIn K cd__law_solves "_law_solves" = true)
    (k__law_solves : PySem.W.keepIn K (.ref f__law_solves) = true)
    (a__law_solutions : PySem.W.nsIn K mainGlobals "_law_solutions" = some (some (.ref f__law_solutions)))
    (l__law_solutions : K.lookup f__law_solutions = some ⟨oc__law_solutions, od__law_solutions, .func (PySem.W.fnOf "_law_solutions" "_law_solutions" (defArgs s__law_solutions) (defBody s__law_solutions) (defScope s__law_solutions) .none kV__law_solutions dc__law_solutions pm__law_solutions an__law_solutions cd__law_solutions ct__law_solutions), sl__law_solutions⟩)
    (c__law_solutions : PySem.W.codeIn K cd__law_solutions "_law_solutions" = true)
    (k__law_solutions : PySem.W.keepIn K (.ref f__law_solutions) = true)
    (a_law : PySem.W.nsIn K mainGlobals "law" = some (some (.ref f_law)))
    (l_law : K.lookup f_law = some ⟨oc_law, od_law, .func (PySem.W.fnOf "law" "law" (defArgs s_law) (defBody s_law) (defScope s_law) .none kV_law dc_law pm_law an_law cd_law ct_law), sl_law⟩)
    (c_law : PySem.W.codeIn K cd_law "law" = true)
    (k_law : PySem.W.keepIn K (.ref f_law) = true)
    (su_InvalidNumber_InvalidNumber : PySem.W.subIn K (.ref C_InvalidNumber) (.ref C_InvalidNumber) = some true)
    (su_InvalidNumber_InvalidSystem : PySem.W.subIn K (.ref C_InvalidNumber) (.ref C_InvalidSystem) = some false)
    (su_InvalidNumber_InvalidWord : PySem.W.subIn K (.ref C_InvalidNumber) (.ref C_InvalidWord) = some false)
    (su_InvalidSystem_InvalidNumber : PySem.W.subIn K (.ref C_InvalidSystem) (.ref C_InvalidNumber) = some false)
    (su_InvalidSystem_InvalidSystem : PySem.W.subIn K (.ref C_InvalidSystem) (.ref C_InvalidSystem) = some true)
    (su_InvalidSystem_InvalidWord : PySem.W.subIn K (.ref C_InvalidSystem) (.ref C_InvalidWord) = some false)
    (su_InvalidWord_InvalidNumber : PySem.W.subIn K (.ref C_InvalidWord) (.ref C_InvalidNumber) = some false)
    (su_InvalidWord_InvalidSystem : PySem.W.subIn K (.ref C_InvalidWord) (.ref C_InvalidSystem) = some false)
    (su_InvalidWord_InvalidWord : PySem.W.subIn K (.ref C_InvalidWord) (.ref C_InvalidWord) = some true)
    (b_all : PySem.W.nsIn K mainGlobals "all" = some none)
    (b_bool : PySem.W.nsIn K mainGlobals "bool" = some none)
    (b_enumerate : PySem.W.nsIn K mainGlobals "enumerate" = some none)
    (b_int : PySem.W.nsIn K mainGlobals "int" = some none)
    (b_isinstance : PySem.W.nsIn K mainGlobals "isinstance" = some none)
    (b_len : PySem.W.nsIn K mainGlobals "len" = some none)
    (b_list : PySem.W.nsIn K mainGlobals "list" = some none)
    (b_range : PySem.W.nsIn K mainGlobals "range" = some none)
    (b_repr : PySem.W.nsIn K mainGlobals "repr" = some none)
    (b_sum : PySem.W.nsIn K mainGlobals "sum" = some none)
    (b_tuple : PySem.W.nsIn K mainGlobals "tuple" = some none)
    (b_zip : PySem.W.nsIn K mainGlobals "zip" = some none)
    (cc_LONGEST_WORD : PySem.W.nsIn K mainGlobals "LONGEST_WORD" = some (some (.int 12 t_LONGEST_WORD)))
    (ht_check_equations : (P_check_equations, (((PySem.Str.ofString "check_equations") ++ ".<locals>.") ++ "<lambda>")) ∈ Tabl.T)
    (hv_check_equations : ∀ p ∈ Tabl.T, p.1 = P_check_equations → p.2 = (((PySem.Str.ofString "check_equations") ++ ".<locals>.") ++ "<lambda>"))
    : ∃ fd : FuncData, (∀ (s : Shared) (v : Value), BindsTo s fd ⟨[v], []⟩ [("script", v)]) ∧ ∀ base : Heap, K.In base → base.Ns mainGlobals mg → (∀ p ∈ ([(cc_check_equations, P_check_equations)] : List (Addr × Addr)), LamX.TabB base mg p.1 p.2) → FnOk P w K mg base (L2.CX P w) 12 fa fd ["script"] (spLawT K) := by
  have e := hfa.symm.trans (PySem.W.mg_of X G a_law)
  cases e
  let A0 : Ad := { cls := [C_System], excs := [C_InvalidNumber, C_InvalidSystem, C_InvalidWord], eqs := fun _ => none, Share := 0, Table := 0, System := C_System, Circuit := 0, TablePaper := 0, SumsPaper := 0, Judge := 0, Desk := 0, ReadError := 0, InvalidNumber := C_InvalidNumber, InvalidWord := C_InvalidWord, InvalidWords := 0, InvalidMatrix := 0, InvalidSquare := 0, InvalidTable := 0, InvalidShare := 0, InvalidSystem := C_InvalidSystem, InvalidClause := 0, InvalidGate := 0, InvalidTie := 0, InvalidTerm := 0, InvalidPaper := 0, InvalidTape := 0, InvalidList := 0, InvalidText := 0, InvalidLine := 0, UnknownWord := 0, TooMany := 0, Undefined := 0, NothingToUndo := 0 }
  let A : Ad := { A0 with eqs := fun _ => none }
  have cl_System : Cls K C_System := ⟨pg_System, hd_System, po_System, sa_System⟩
  have ob_System : ObjT K C_System := ⟨cl_System, ha_System, hn, htk, hm_System, fun T => by cases T <;> assumption⟩
  have hob : ∀ C ∈ A.cls, ObjT K C := fun C hC => by
    simp only [A, A0, List.mem_cons, List.not_mem_nil, or_false] at hC
    rcases hC with hC
    · rw [hC]; exact ob_System
  have ty_System : ∀ n ∈ tyNs, PySem.W.kitOne K (.type n) (.ref A.System) = some false := fun n hn => by
    simp only [tyNs, List.mem_cons, List.not_mem_nil, or_false] at hn
    rcases hn with rfl | rfl | rfl | rfl | rfl | rfl <;> assumption
  have ow_System : ∀ C ∈ A.cls, PySem.W.kitOne K (.ref C) (.ref A.System) = some (C == A.System) := fun C hC => by
    simp only [A, A0, List.mem_cons, List.not_mem_nil, or_false] at hC
    rcases hC with hC
    · rw [hC, show (C_System == A.System) = true from beq_self_eq_true _]; exact ko_System_System
  have ii_System : IsC K A.cls A.System := ⟨ty_System, ow_System, hob⟩
  have F_i_InvalidNumber := fun_mk (st := si_InvalidNumber) l_i_InvalidNumber c_i_InvalidNumber k_i_InvalidNumber
  have bi_InvalidNumber : Binds K _ ["self", "value"] [] := F_i_InvalidNumber.binds (ps := ["self", "value"]) fun  _ _ _ _ _ _ us hl => match us, hl with | [_, _], _ => rfl
  have ox_InvalidNumber : OexC K C_InvalidNumber := ⟨⟨_, _, _, _, _, _, _, _, _, _, _, _, _, _, _, x_InvalidNumber, rfl⟩, es_InvalidNumber, ee_InvalidNumber, et_InvalidNumber, ek_InvalidNumber⟩
  have xf_InvalidNumber : XfC K C_InvalidNumber := ⟨ga_InvalidNumber, gg_InvalidNumber, ee_InvalidNumber, eh_InvalidNumber⟩
  have e_InvalidNumber : ExcT K mg "InvalidNumber" A.InvalidNumber f_i_InvalidNumber ["value"] := ⟨ox_InvalidNumber, xf_InvalidNumber, ei_InvalidNumber, ti_InvalidNumber, PySem.W.mg_of X G n_InvalidNumber, fun f hf => by rw [List.mem_singleton.mp hf]; exact ev_InvalidNumber_value⟩
  have F_i_InvalidSystem := fun_mk (st := si_InvalidSystem) l_i_InvalidSystem c_i_InvalidSystem k_i_InvalidSystem
  have bi_InvalidSystem : Binds K _ ["self", "part", "place"] [] := F_i_InvalidSystem.binds (ps := ["self", "part", "place"]) fun _ _ _ _ _ _ us hl => match us, hl with | [_, _, _], _ => rfl
  have ox_InvalidSystem : OexC K C_InvalidSystem := ⟨⟨_, _, _, _, _, _, _, _, _, _, _, _, _, _, _, x_InvalidSystem, rfl⟩, es_InvalidSystem, ee_InvalidSystem, et_InvalidSystem, ek_InvalidSystem⟩
  have xf_InvalidSystem : XfC K C_InvalidSystem := ⟨ga_InvalidSystem, gg_InvalidSystem, ee_InvalidSystem, eh_InvalidSystem⟩
  have e_InvalidSystem : ExcT K mg "InvalidSystem" A.InvalidSystem f_i_InvalidSystem ["place", "part"] := ⟨ox_InvalidSystem, xf_InvalidSystem, ei_InvalidSystem, ti_InvalidSystem, PySem.W.mg_of X G n_InvalidSystem, fun f hf => by
    simp only [List.mem_cons, List.not_mem_nil, or_false] at hf
    rcases hf with rfl | rfl <;> assumption⟩
  have F_i_InvalidWord := fun_mk (st := si_InvalidWord) l_i_InvalidWord c_i_InvalidWord k_i_InvalidWord
  have bi_InvalidWord : Binds K _ ["self", "value"] [] := F_i_InvalidWord.binds (ps := ["self", "value"]) fun  _ _ _ _ _ _ us hl => match us, hl with | [_, _], _ => rfl
  have ox_InvalidWord : OexC K C_InvalidWord := ⟨⟨_, _, _, _, _, _, _, _, _, _, _, _, _, _, _, x_InvalidWord, rfl⟩, es_InvalidWord, ee_InvalidWord, et_InvalidWord, ek_InvalidWord⟩
  have xf_InvalidWord : XfC K C_InvalidWord := ⟨ga_InvalidWord, gg_InvalidWord, ee_InvalidWord, eh_InvalidWord⟩
  have e_InvalidWord : ExcT K mg "InvalidWord" A.InvalidWord f_i_InvalidWord ["value"] := ⟨ox_InvalidWord, xf_InvalidWord, ei_InvalidWord, ti_InvalidWord, PySem.W.mg_of X G n_InvalidWord, fun f hf => by rw [List.mem_singleton.mp hf]; exact ev_InvalidWord_value⟩
  have nx_InvalidNumber_InvalidSystem : (C_InvalidNumber == C_InvalidSystem) = false := by
    cases hb : (C_InvalidNumber == C_InvalidSystem) with
    | false => rfl
    | true => exact absurd ((eq_of_beq hb ▸ su_InvalidNumber_InvalidNumber : PySem.W.subIn K (.ref C_InvalidNumber) (.ref C_InvalidSystem) = some true).symm.trans su_InvalidNumber_InvalidSystem) (by decide)
  have nx_InvalidNumber_InvalidWord : (C_InvalidNumber == C_InvalidWord) = false := by
    cases hb : (C_InvalidNumber == C_InvalidWord) with
    | false => rfl
    | true => exact absurd ((eq_of_beq hb ▸ su_InvalidNumber_InvalidNumber : PySem.W.subIn K (.ref C_InvalidNumber) (.ref C_InvalidWord) = some true).symm.trans su_InvalidNumber_InvalidWord) (by decide)
  have nx_InvalidSystem_InvalidNumber : (C_InvalidSystem == C_InvalidNumber) = false := by
    cases hb : (C_InvalidSystem == C_InvalidNumber) with
    | false => rfl
    | true => exact absurd ((eq_of_beq hb ▸ su_InvalidSystem_InvalidSystem : PySem.W.subIn K (.ref C_InvalidSystem) (.ref C_InvalidNumber) = some true).symm.trans su_InvalidSystem_InvalidNumber) (by decide)
  have nx_InvalidSystem_InvalidWord : (C_InvalidSystem == C_InvalidWord) = false := by
    cases hb : (C_InvalidSystem == C_InvalidWord) with
    | false => rfl
    | true => exact absurd ((eq_of_beq hb ▸ su_InvalidSystem_InvalidSystem : PySem.W.subIn K (.ref C_InvalidSystem) (.ref C_InvalidWord) = some true).symm.trans su_InvalidSystem_InvalidWord) (by decide)
  have nx_InvalidWord_InvalidNumber : (C_InvalidWord == C_InvalidNumber) = false := by
    cases hb : (C_InvalidWord == C_InvalidNumber) with
    | false => rfl
    | true => exact absurd ((eq_of_beq hb ▸ su_InvalidWord_InvalidWord : PySem.W.subIn K (.ref C_InvalidWord) (.ref C_InvalidNumber) = some true).symm.trans su_InvalidWord_InvalidNumber) (by decide)
  have nx_InvalidWord_InvalidSystem : (C_InvalidWord == C_InvalidSystem) = false := by
    cases hb : (C_InvalidWord == C_InvalidSystem) with
    | false => rfl
    | true => exact absurd ((eq_of_beq hb ▸ su_InvalidWord_InvalidWord : PySem.W.subIn K (.ref C_InvalidWord) (.ref C_InvalidSystem) = some true).symm.trans su_InvalidWord_InvalidSystem) (by decide)
  have hex_part : ∀ C ∈ A.excs, XfC K C ∧ PySem.W.findIn K (.ref C) "part" = some none := fun C hC => by
    simp only [A, A0, List.mem_cons, List.not_mem_nil, or_false] at hC
    rcases hC with rfl | rfl | rfl
    · exact ⟨xf_InvalidNumber, ev_InvalidNumber_part⟩
    · exact ⟨xf_InvalidSystem, ev_InvalidSystem_part⟩
    · exact ⟨xf_InvalidWord, ev_InvalidWord_part⟩
  have hex_place : ∀ C ∈ A.excs, XfC K C ∧ PySem.W.findIn K (.ref C) "place" = some none := fun C hC => by
    simp only [A, A0, List.mem_cons, List.not_mem_nil, or_false] at hC
    rcases hC with rfl | rfl | rfl
    · exact ⟨xf_InvalidNumber, ev_InvalidNumber_place⟩
    · exact ⟨xf_InvalidSystem, ev_InvalidSystem_place⟩
    · exact ⟨xf_InvalidWord, ev_InvalidWord_place⟩
  have hex_value : ∀ C ∈ A.excs, XfC K C ∧ PySem.W.findIn K (.ref C) "value" = some none := fun C hC => by
    simp only [A, A0, List.mem_cons, List.not_mem_nil, or_false] at hC
    rcases hC with rfl | rfl | rfl
    · exact ⟨xf_InvalidNumber, ev_InvalidNumber_value⟩
    · exact ⟨xf_InvalidSystem, ev_InvalidSystem_value⟩
    · exact ⟨xf_InvalidWord, ev_InvalidWord_value⟩
  have B : Bs K mg A := { cls := hob, b_all := PySem.W.mg_none_of X G b_all, b_bool := PySem.W.mg_none_of X G b_bool, b_enumerate := PySem.W.mg_none_of X G b_enumerate, b_int := PySem.W.mg_none_of X G b_int, b_isinstance := PySem.W.mg_none_of X G b_isinstance, b_len := PySem.W.mg_none_of X G b_len, b_list := PySem.W.mg_none_of X G b_list, b_range := PySem.W.mg_none_of X G b_range, b_repr := PySem.W.mg_none_of X G b_repr, b_sum := PySem.W.mg_none_of X G b_sum, b_tuple := PySem.W.mg_none_of X G b_tuple, b_zip := PySem.W.mg_none_of X G b_zip, c_LONGEST_WORD := ⟨_, PySem.W.mg_of X G cc_LONGEST_WORD⟩, cl_System := cl_System, fl_System_equations := ⟨cl_System, nf_System_equations⟩, fl_System_n := ⟨cl_System, nf_System_n⟩, g_System := PySem.W.mg_of X G n_System }
  have F_is_integer := fun_mk (st := s_is_integer) l_is_integer c_is_integer k_is_integer
  have b_i_is_integer : Binds K _ ["value"] [] := F_is_integer.binds (ps := ["value"]) fun _ _ _ _ _ _ us hl => match us, hl with | [_], _ => rfl
  have d_is_integer : DefT K mg "is_integer" s_is_integer f_is_integer _ ["value"] := ⟨F_is_integer, PySem.W.mg_of X G a_is_integer, k_is_integer, b_i_is_integer⟩
  have F_is_between := fun_mk (st := s_is_between) l_is_between c_is_between k_is_between
  have b_i_is_between : Binds K _ ["value", "low", "high"] [] := F_is_between.binds (ps := ["value", "low", "high"]) fun _ _ _ _ _ _ us hl => match us, hl with | [_, _, _], _ => rfl
  have d_is_between : DefT K mg "is_between" s_is_between f_is_between _ ["value", "low", "high"] := ⟨F_is_between, PySem.W.mg_of X G a_is_between, k_is_between, b_i_is_between⟩
  have F_first_none := fun_mk (st := s_first_none) l_first_none c_first_none k_first_none
  have b_i_first_none : Binds K _ ["values", "is_one_at"] [] := F_first_none.binds (ps := ["values", "is_one_at"]) fun _ _ _ _ _ _ us hl => match us, hl with | [_, _], _ => rfl
  have d_first_none : DefT K mg "first_none" s_first_none f_first_none _ ["values", "is_one_at"] := ⟨F_first_none, PySem.W.mg_of X G a_first_none, k_first_none, b_i_first_none⟩
  have F_are_bits := fun_mk (st := s_are_bits) l_are_bits c_are_bits k_are_bits
  have b_i_are_bits : Binds K _ ["values"] [] := F_are_bits.binds (ps := ["values"]) fun _ _ _ _ _ _ us hl => match us, hl with | [_], _ => rfl
  have d_are_bits : DefT K mg "are_bits" s_are_bits f_are_bits _ ["values"] := ⟨F_are_bits, PySem.W.mg_of X G a_are_bits, k_are_bits, b_i_are_bits⟩
  have F_is_row_of_bits := fun_mk (st := s_is_row_of_bits) l_is_row_of_bits c_is_row_of_bits k_is_row_of_bits
  have b_i_is_row_of_bits : Binds K _ ["value", "many"] [] := F_is_row_of_bits.binds (ps := ["value", "many"]) fun _ _ _ _ _ _ us hl => match us, hl with | [_, _], _ => rfl
  have d_is_row_of_bits : DefT K mg "is_row_of_bits" s_is_row_of_bits f_is_row_of_bits _ ["value", "many"] := ⟨F_is_row_of_bits, PySem.W.mg_of X G a_is_row_of_bits, k_is_row_of_bits, b_i_is_row_of_bits⟩
  have F_is_word := fun_mk (st := s_is_word) l_is_word c_is_word k_is_word
  have b_i_is_word : Binds K _ ["value", "n"] [] := F_is_word.binds (ps := ["value", "n"]) fun _ _ _ _ _ _ us hl => match us, hl with | [_, _], _ => rfl
  have d_is_word : DefT K mg "is_word" s_is_word f_is_word _ ["value", "n"] := ⟨F_is_word, PySem.W.mg_of X G a_is_word, k_is_word, b_i_is_word⟩
  have F_check_length := fun_mk (st := s_check_length) l_check_length c_check_length k_check_length
  have b_i_check_length : Binds K _ ["n"] [] := F_check_length.binds (ps := ["n"]) fun _ _ _ _ _ _ us hl => match us, hl with | [_], _ => rfl
  have d_check_length : DefT K mg "check_length" s_check_length f_check_length _ ["n"] := ⟨F_check_length, PySem.W.mg_of X G a_check_length, k_check_length, b_i_check_length⟩
  have F_all_words := fun_mk (st := s_all_words) l_all_words c_all_words k_all_words
  have b_i_all_words : Binds K _ ["n"] [] := F_all_words.binds (ps := ["n"]) fun _ _ _ _ _ _ us hl => match us, hl with | [_], _ => rfl
  have d_all_words : DefT K mg "all_words" s_all_words f_all_words _ ["n"] := ⟨F_all_words, PySem.W.mg_of X G a_all_words, k_all_words, b_i_all_words⟩
  have F_is_ascending := fun_mk (st := s_is_ascending) l_is_ascending c_is_ascending k_is_ascending
  have b_i_is_ascending : Binds K _ ["values"] [] := F_is_ascending.binds (ps := ["values"]) fun _ _ _ _ _ _ us hl => match us, hl with | [_], _ => rfl
  have d_is_ascending : DefT K mg "is_ascending" s_is_ascending f_is_ascending _ ["values"] := ⟨F_is_ascending, PySem.W.mg_of X G a_is_ascending, k_is_ascending, b_i_is_ascending⟩
  have F_are_unknowns := fun_mk (st := s_are_unknowns) l_are_unknowns c_are_unknowns k_are_unknowns
  have b_i_are_unknowns : Binds K _ ["value", "n"] [] := F_are_unknowns.binds (ps := ["value", "n"]) fun _ _ _ _ _ _ us hl => match us, hl with | [_, _], _ => rfl
  have d_are_unknowns : DefT K mg "are_unknowns" s_are_unknowns f_are_unknowns _ ["value", "n"] := ⟨F_are_unknowns, PySem.W.mg_of X G a_are_unknowns, k_are_unknowns, b_i_are_unknowns⟩
  have F_are_pairs := fun_mk (st := s_are_pairs) l_are_pairs c_are_pairs k_are_pairs
  have b_i_are_pairs : Binds K _ ["value", "n"] [] := F_are_pairs.binds (ps := ["value", "n"]) fun _ _ _ _ _ _ us hl => match us, hl with | [_, _], _ => rfl
  have d_are_pairs : DefT K mg "are_pairs" s_are_pairs f_are_pairs _ ["value", "n"] := ⟨F_are_pairs, PySem.W.mg_of X G a_are_pairs, k_are_pairs, b_i_are_pairs⟩
  have F_is_equation := fun_mk (st := s_is_equation) l_is_equation c_is_equation k_is_equation
  have b_i_is_equation : Binds K _ ["value", "n"] [] := F_is_equation.binds (ps := ["value", "n"]) fun _ _ _ _ _ _ us hl => match us, hl with | [_, _], _ => rfl
  have d_is_equation : DefT K mg "is_equation" s_is_equation f_is_equation _ ["value", "n"] := ⟨F_is_equation, PySem.W.mg_of X G a_is_equation, k_is_equation, b_i_is_equation⟩
  have F_check_equations := fun_mk (st := s_check_equations) l_check_equations c_check_equations k_check_equations
  have b_i_check_equations : Binds K _ ["n", "equations"] [] := F_check_equations.binds (ps := ["n", "equations"]) fun _ _ _ _ _ _ us hl => match us, hl with | [_, _], _ => rfl
  have d_check_equations : DefT K mg "check_equations" s_check_equations f_check_equations _ ["n", "equations"] := ⟨F_check_equations, PySem.W.mg_of X G a_check_equations, k_check_equations, b_i_check_equations⟩
  have F_is_fitting := fun_mk (st := s_is_fitting) l_is_fitting c_is_fitting k_is_fitting
  have b_i_is_fitting : Binds K _ ["word", "equation"] [] := F_is_fitting.binds (ps := ["word", "equation"]) fun _ _ _ _ _ _ us hl => match us, hl with | [_, _], _ => rfl
  have d_is_fitting : DefT K mg "is_fitting" s_is_fitting f_is_fitting _ ["word", "equation"] := ⟨F_is_fitting, PySem.W.mg_of X G a_is_fitting, k_is_fitting, b_i_is_fitting⟩
  have F_System_init := fun_mk (st := s_System_init) l_System_init c_System_init k_System_init
  have b_i_System_init : Binds K _ ["self", "n", "equations"] [] := F_System_init.binds (ps := ["self", "n", "equations"]) fun _ _ _ _ _ _ us hl => match us, hl with | [_, _, _], _ => rfl
  have F_System_first_wrong := fun_mk (st := s_System_first_wrong) l_System_first_wrong c_System_first_wrong k_System_first_wrong
  have b_i_System_first_wrong : Binds K _ ["self", "word"] [] := F_System_first_wrong.binds (ps := ["self", "word"]) fun _ _ _ _ _ _ us hl => match us, hl with | [_, _], _ => rfl
  have F_System_contains := fun_mk (st := s_System_contains) l_System_contains c_System_contains k_System_contains
  have b_i_System_contains : Binds K _ ["self", "x"] [] := F_System_contains.binds (ps := ["self", "x"]) fun _ _ _ _ _ _ us hl => match us, hl with | [_, _], _ => rfl
  have F_System_solutions := fun_mk (st := s_System_solutions) l_System_solutions c_System_solutions k_System_solutions
  have b_i_System_solutions : Binds K _ ["self"] [] := F_System_solutions.binds (ps := ["self"]) fun _ _ _ _ _ _ us hl => match us, hl with | [_], _ => rfl
  have F__law_mixed := fun_mk (st := s__law_mixed) l__law_mixed c__law_mixed k__law_mixed
  have b_i__law_mixed : Binds K _ ["number", "turn"] [] := F__law_mixed.binds (ps := ["number", "turn"]) fun _ _ _ _ _ _ us hl => match us, hl with | [_, _], _ => rfl
  have d__law_mixed : DefT K mg "_law_mixed" s__law_mixed f__law_mixed _ ["number", "turn"] := ⟨F__law_mixed, PySem.W.mg_of X G a__law_mixed, k__law_mixed, b_i__law_mixed⟩
  have F__law_tape := fun_mk (st := s__law_tape) l__law_tape c__law_tape k__law_tape
  have b_i__law_tape : Binds K _ ["script"] [] := F__law_tape.binds (ps := ["script"]) fun _ _ _ _ _ _ us hl => match us, hl with | [_], _ => rfl
  have d__law_tape : DefT K mg "_law_tape" s__law_tape f__law_tape _ ["script"] := ⟨F__law_tape, PySem.W.mg_of X G a__law_tape, k__law_tape, b_i__law_tape⟩
  have F__law_draw := fun_mk (st := s__law_draw) l__law_draw c__law_draw k__law_draw
  have b_i__law_draw : Binds K _ ["tape", "many"] [] := F__law_draw.binds (ps := ["tape", "many"]) fun _ _ _ _ _ _ us hl => match us, hl with | [_, _], _ => rfl
  have d__law_draw : DefT K mg "_law_draw" s__law_draw f__law_draw _ ["tape", "many"] := ⟨F__law_draw, PySem.W.mg_of X G a__law_draw, k__law_draw, b_i__law_draw⟩
  have F__law_pick := fun_mk (st := s__law_pick) l__law_pick c__law_pick k__law_pick
  have b_i__law_pick : Binds K _ ["tape", "row"] [] := F__law_pick.binds (ps := ["tape", "row"]) fun _ _ _ _ _ _ us hl => match us, hl with | [_, _], _ => rfl
  have d__law_pick : DefT K mg "_law_pick" s__law_pick f__law_pick _ ["tape", "row"] := ⟨F__law_pick, PySem.W.mg_of X G a__law_pick, k__law_pick, b_i__law_pick⟩
  have F__law_word := fun_mk (st := s__law_word) l__law_word c__law_word k__law_word
  have b_i__law_word : Binds K _ ["tape", "n"] [] := F__law_word.binds (ps := ["tape", "n"]) fun _ _ _ _ _ _ us hl => match us, hl with | [_, _], _ => rfl
  have d__law_word : DefT K mg "_law_word" s__law_word f__law_word _ ["tape", "n"] := ⟨F__law_word, PySem.W.mg_of X G a__law_word, k__law_word, b_i__law_word⟩
  have F__law_words := fun_mk (st := s__law_words) l__law_words c__law_words k__law_words
  have b_i__law_words : Binds K _ ["n"] [] := F__law_words.binds (ps := ["n"]) fun _ _ _ _ _ _ us hl => match us, hl with | [_], _ => rfl
  have d__law_words : DefT K mg "_law_words" s__law_words f__law_words _ ["n"] := ⟨F__law_words, PySem.W.mg_of X G a__law_words, k__law_words, b_i__law_words⟩
  have F__law_left := fun_mk (st := s__law_left) l__law_left c__law_left k__law_left
  have b_i__law_left : Binds K _ ["word", "equation"] [] := F__law_left.binds (ps := ["word", "equation"]) fun _ _ _ _ _ _ us hl => match us, hl with | [_, _], _ => rfl
  have d__law_left : DefT K mg "_law_left" s__law_left f__law_left _ ["word", "equation"] := ⟨F__law_left, PySem.W.mg_of X G a__law_left, k__law_left, b_i__law_left⟩
  have F__law_fits := fun_mk (st := s__law_fits) l__law_fits c__law_fits k__law_fits
  have b_i__law_fits : Binds K _ ["word", "equation"] [] := F__law_fits.binds (ps := ["word", "equation"]) fun _ _ _ _ _ _ us hl => match us, hl with | [_, _], _ => rfl
  have d__law_fits : DefT K mg "_law_fits" s__law_fits f__law_fits _ ["word", "equation"] := ⟨F__law_fits, PySem.W.mg_of X G a__law_fits, k__law_fits, b_i__law_fits⟩
  have F__law_equation := fun_mk (st := s__law_equation) l__law_equation c__law_equation k__law_equation
  have b_i__law_equation : Binds K _ ["tape", "n", "word"] [] := F__law_equation.binds (ps := ["tape", "n", "word"]) fun _ _ _ _ _ _ us hl => match us, hl with | [_, _, _], _ => rfl
  have d__law_equation : DefT K mg "_law_equation" s__law_equation f__law_equation _ ["tape", "n", "word"] := ⟨F__law_equation, PySem.W.mg_of X G a__law_equation, k__law_equation, b_i__law_equation⟩
  have F__law_equations := fun_mk (st := s__law_equations) l__law_equations c__law_equations k__law_equations
  have b_i__law_equations : Binds K _ ["tape", "n", "many", "word"] [] := F__law_equations.binds (ps := ["tape", "n", "many", "word"]) fun _ _ _ _ _ _ us hl => match us, hl with | [_, _, _, _], _ => rfl
  have d__law_equations : DefT K mg "_law_equations" s__law_equations f__law_equations _ ["tape", "n", "many", "word"] := ⟨F__law_equations, PySem.W.mg_of X G a__law_equations, k__law_equations, b_i__law_equations⟩
  have F__law_solves := fun_mk (st := s__law_solves) l__law_solves c__law_solves k__law_solves
  have b_i__law_solves : Binds K _ ["word", "equations"] [] := F__law_solves.binds (ps := ["word", "equations"]) fun _ _ _ _ _ _ us hl => match us, hl with | [_, _], _ => rfl
  have d__law_solves : DefT K mg "_law_solves" s__law_solves f__law_solves _ ["word", "equations"] := ⟨F__law_solves, PySem.W.mg_of X G a__law_solves, k__law_solves, b_i__law_solves⟩
  have F__law_solutions := fun_mk (st := s__law_solutions) l__law_solutions c__law_solutions k__law_solutions
  have b_i__law_solutions : Binds K _ ["n", "equations"] [] := F__law_solutions.binds (ps := ["n", "equations"]) fun _ _ _ _ _ _ us hl => match us, hl with | [_, _], _ => rfl
  have d__law_solutions : DefT K mg "_law_solutions" s__law_solutions f__law_solutions _ ["n", "equations"] := ⟨F__law_solutions, PySem.W.mg_of X G a__law_solutions, k__law_solutions, b_i__law_solutions⟩
  have F_law := fun_mk (st := s_law) l_law c_law k_law
  have b_i_law : Binds K _ ["script"] [] := F_law.binds (ps := ["script"]) fun _ _ _ _ _ _ us hl => match us, hl with | [_], _ => rfl
  have d_law : DefT K mg "law" s_law _ _ ["script"] := ⟨F_law, PySem.W.mg_of X G a_law, k_law, b_i_law⟩
  have m_System : Mk K A.System f_System_init := ⟨mk_System, a_System_init, i_System_init, kc_System⟩
  refine ⟨PySem.W.fnOf "law" "law" (defArgs s_law) (defBody s_law) (defScope s_law) .none kV_law dc_law pm_law an_law cd_law ct_law, fun s v => .of_eq rfl, fun base _ _ hTB => ?_⟩
  have G_InvalidNumber : L2.FnOk P w K mg base (L2.CX P w) 1 f_i_InvalidNumber _ ["self", "value"] (spIni1 A.InvalidNumber "value") := ini1 F_i_InvalidNumber ⟨rfl, rfl, rfl, by decide +kernel, rfl, by decide +kernel, by decide +kernel⟩ rfl rfl rfl (Or.inl rfl) (Or.inl rfl) ox_InvalidNumber ev_InvalidNumber_value (fun _ _ => rfl)
  have G_InvalidSystem : L2.FnOk P w K mg base (L2.CX P w) 1 f_i_InvalidSystem _ ["self", "part", "place"] (spIni2 A.InvalidSystem "part" "place") := ini2 F_i_InvalidSystem ⟨rfl, rfl, rfl, by decide +kernel, rfl, by decide +kernel, by decide +kernel⟩ rfl rfl rfl rfl rfl (Or.inl rfl) (Or.inl rfl) (Or.inl rfl) ox_InvalidSystem ev_InvalidSystem_part ev_InvalidSystem_place (fun _ _ => rfl) (fun _ _ => rfl)
  have G_InvalidWord : L2.FnOk P w K mg base (L2.CX P w) 1 f_i_InvalidWord _ ["self", "value"] (spIni1 A.InvalidWord "value") := ini1 F_i_InvalidWord ⟨rfl, rfl, rfl, by decide +kernel, rfl, by decide +kernel, by decide +kernel⟩ rfl rfl rfl (Or.inl rfl) (Or.inl rfl) ox_InvalidWord ev_InvalidWord_value (fun _ _ => rfl)
  have LT_check_equations : LamT mg base (PySem.W.fnOf "check_equations" "check_equations" (defArgs s_check_equations) (defBody s_check_equations) (defScope s_check_equations) .none kV_check_equations dc_check_equations pm_check_equations an_check_equations (.ref cc_check_equations) ct_check_equations) cc_check_equations P_check_equations (((PySem.Str.ofString "check_equations") ++ ".<locals>.") ++ "<lambda>") := ⟨rfl, hTB (cc_check_equations, P_check_equations) (by simp), ht_check_equations, hv_check_equations⟩
  have G_is_integer := ok_is_integer (P := P) (w := w) (base := base) B d_is_integer
  have G_is_between := ok_is_between (P := P) (w := w) (base := base) B d_is_between d_is_integer G_is_integer
  have G_are_bits := ok_are_bits (P := P) (w := w) (base := base) B d_are_bits d_is_between G_is_between
  have G_is_row_of_bits := ok_is_row_of_bits (P := P) (w := w) (base := base) B d_is_row_of_bits d_are_bits G_are_bits
  have G_is_word := ok_is_word (P := P) (w := w) (base := base) B d_is_word d_is_row_of_bits G_is_row_of_bits
  have G_check_length := ok_check_length (P := P) (w := w) (base := base) B d_check_length e_InvalidNumber bi_InvalidNumber G_InvalidNumber d_is_between G_is_between
  have G_all_words := ok_all_words (P := P) (w := w) (base := base) B d_all_words d_check_length G_check_length
  have G_is_ascending := ok_is_ascending (P := P) (w := w) (base := base) B d_is_ascending
  have G_are_unknowns := ok_are_unknowns (P := P) (w := w) (base := base) B d_are_unknowns d_is_ascending G_is_ascending d_is_between G_is_between
  have G_are_pairs := ok_are_pairs (P := P) (w := w) (base := base) B d_are_pairs d_are_unknowns G_are_unknowns d_is_ascending G_is_ascending
  have G_is_equation := ok_is_equation (P := P) (w := w) (base := base) B d_is_equation d_are_pairs G_are_pairs d_are_unknowns G_are_unknowns d_is_between G_is_between
  have G_check_equations := ok_check_equations (P := P) (w := w) (base := base) B d_check_equations e_InvalidSystem bi_InvalidSystem G_InvalidSystem d_first_none d_is_equation G_is_equation LT_check_equations
  have G_is_fitting := ok_is_fitting (P := P) (w := w) (base := base) B d_is_fitting
  have G_System_init := ok_System_init (P := P) (w := w) (base := base) B F_System_init e_InvalidSystem bi_InvalidSystem G_InvalidSystem d_check_equations G_check_equations d_is_between G_is_between
  have G_System_first_wrong := ok_System_first_wrong (P := P) (w := w) (base := base) B F_System_first_wrong e_InvalidWord bi_InvalidWord G_InvalidWord d_is_fitting G_is_fitting d_is_word G_is_word
  have G_System_contains := ok_System_contains (P := P) (w := w) (base := base) B F_System_contains a_System_first_wrong i_System_first_wrong k_System_first_wrong b_i_System_first_wrong G_System_first_wrong d_is_word G_is_word
  have G_System_solutions := ok_System_solutions (P := P) (w := w) (base := base) B F_System_solutions a_System_first_wrong i_System_first_wrong k_System_first_wrong b_i_System_first_wrong G_System_first_wrong d_all_words G_all_words
  have G__law_mixed := ok__law_mixed (P := P) (w := w) (base := base) B d__law_mixed
  have G__law_tape := ok__law_tape (P := P) (w := w) (base := base) B d__law_tape
  have G__law_draw := ok__law_draw (P := P) (w := w) (base := base) B d__law_draw d__law_mixed G__law_mixed
  have G__law_pick := ok__law_pick (P := P) (w := w) (base := base) B d__law_pick d__law_draw G__law_draw
  have G__law_word := ok__law_word (P := P) (w := w) (base := base) B d__law_word d__law_draw G__law_draw
  have G__law_words := ok__law_words (P := P) (w := w) (base := base) B d__law_words
  have G__law_left := ok__law_left (P := P) (w := w) (base := base) B d__law_left
  have G__law_fits := ok__law_fits (P := P) (w := w) (base := base) B d__law_fits d__law_left G__law_left
  have G__law_equation := ok__law_equation (P := P) (w := w) (base := base) B d__law_equation d__law_draw G__law_draw d__law_left G__law_left
  have G__law_equations := ok__law_equations (P := P) (w := w) (base := base) B d__law_equations d__law_equation G__law_equation
  have G__law_solves := ok__law_solves (P := P) (w := w) (base := base) B d__law_solves d__law_fits G__law_fits
  have G__law_solutions := ok__law_solutions (P := P) (w := w) (base := base) B d__law_solutions d__law_solves G__law_solves d__law_words G__law_words
  exact ok_law (P := P) (w := w) (base := base) B d_law m_System b_i_System_init G_System_init a_System_contains i_System_contains k_System_contains b_i_System_contains G_System_contains a_System_first_wrong i_System_first_wrong k_System_first_wrong b_i_System_first_wrong G_System_first_wrong a_System_solutions i_System_solutions k_System_solutions b_i_System_solutions G_System_solutions d__law_draw G__law_draw d__law_equations G__law_equations d__law_pick G__law_pick d__law_solutions G__law_solutions d__law_word G__law_word d__law_tape G__law_tape
end
theorem cx_none {P : Program} {w : World} {H : Hp} {s : Shared} {e : Value} {s' : Shared} (h : L2.CX P w [] H s (fun _ _ _ => False) e s') : False := by
  obtain ⟨_, _, _, _, _, _, _, _, _, _, _, _, z⟩ := h
  exact z.elim
end PL
end L2

namespace L2
namespace PL
open PySem PySem.Spec PyProof.Rows
/-! the end: a law's call, with tables of code objects -/
/-- what stands at b before the law's call: an empty table, or the script -/
def Was (K : PySem.W.Frag) (h : Heap) (ts : List (Addr × Addr)) (xs : List V) (b : Addr) (u : HO) : Prop :=
  (u = .tbl #[] ∧ b ∈ ts.map (·.2) ∧ h.get? b = some { cls := .none, data := .fields #[] }) ∨
    ∃ vs : Array Value, u = .frz { cls := .type "list", data := .seq vs } (.lst xs) ∧ h.get? b = some { cls := .type "list", data := .seq vs } ∧ K.lookup b = none
section
variable {P : Program} {w : World} {K : PySem.W.Frag} {h : Heap} {ts : List (Addr × Addr)} {xs : List V} {H : Hp}
/-- what is no list and no table is not tracked -/
theorem was_none (hw : ∀ b u, H b = some u → Was K h ts xs b u) {b : Addr} {o : Obj} (e : h.get? b = some o) (n1 : ∀ vs n, o.data ≠ .seq vs n) (n2 : o.data ≠ .fields #[]) : H b = none := by
  rcases hu : H b with _ | u
  · rfl
  · rcases hw b u hu with ⟨_, _, z⟩ | ⟨vs, _, z, _⟩
    · obtain rfl := Option.some.inj (e.symm.trans z)
      exact absurd rfl n2
    · obtain rfl := Option.some.inj (e.symm.trans z)
      exact absurd rfl (n1 _ _)
theorem was_ns (hw : ∀ b u, H b = some u → Was K h ts xs b u) {b : Addr} {m : Str → Option Value} (N : h.Ns b m) : (hidT h H).Ns b m := by
  obtain ⟨ob, dict, pos, get, isd, rest⟩ := N
  exact ⟨ob, dict, pos, hidT_get get (was_none hw get (fun vs n z => by rw [isd] at z; cases z) fun z => by rw [isd] at z; cases z), isd, rest⟩
theorem was_in (hw : ∀ b u, H b = some u → Was K h ts xs b u) (nT : ∀ p ∈ ts, K.lookup p.2 = none) (N : K.In h) : K.In (hidT h H) := fun b o e => hidT_get (N b o e) (by
  rcases hu : H b with _ | u
  · rfl
  · rcases hw b u hu with ⟨_, z, _⟩ | ⟨_, _, _, z⟩
    · obtain ⟨p, hp, rfl⟩ := List.mem_map.mp z
      cases (nT p hp).symm.trans e
    · cases z.symm.trans e)
theorem was_code (hw : ∀ b u, H b = some u → Was K h ts xs b u) {c p : Addr} (N : PySem.W.CodeHd h c p) : PySem.W.CodeHd (hidT h H) c p := by
  obtain ⟨ob, fields, x1, x2, x3, x4, x5, x6, x7, get, cl, isf, tab, others⟩ := N
  refine ⟨ob, fields, x1, x2, x3, x4, x5, x6, x7, hidT_get get (was_none hw get (fun vs n z => by rw [isf] at z; cases z) fun z => ?_), cl, isf, tab, others⟩
  rw [isf] at z
  injection z with z
  rw [z] at tab
  simp at tab
/-- the old heap is kept, but for what the tables gained -/
theorem was_old {s s' : Heap} {H' : Hp} (hw : ∀ b u, H b = some u → Was K s ts xs b u) (C : ∀ p ∈ ts, PySem.W.CodeHd s p.1 p.2) (U : Un [] [] H H' s s') (ok' : HOk P w H' s') : OldK s s' := by
  have each : ∀ b o, s.get? b = some o → (s'.get? b = some o) ∨ ∃ more : Array Value, o = { cls := .none, data := .fields #[] } ∧ (∃ p ∈ ts, p.2 = b) ∧ s'.get? b = some { cls := .none, data := .fields more } := fun b o e => by
    rcases hu : H b with _ | u
    · exact .inl (U.keep b o e hu (List.not_mem_nil) (List.not_mem_nil))
    · rcases hw b u hu with ⟨rfl, z, g⟩ | ⟨vs, rfl, g, _⟩
      · obtain ⟨more, q⟩ := U.tbls b #[] hu
        obtain ⟨p, hp, ep⟩ := List.mem_map.mp z
        exact .inr ⟨_, Option.some.inj (e.symm.trans g), ⟨p, hp, ep⟩, ok' b _ q⟩
      · obtain ⟨g', _⟩ := ok' b _ (U.frzs b _ _ hu)
        exact .inl (by rw [g', ← e, g])
  refine ⟨fun b o e => ?_, fun b o e => ?_⟩
  · rcases each b o e with q | ⟨more, rfl, ⟨p, hp, rfl⟩, q⟩
    · exact .inl q
    · exact .inr (.inl ⟨((C p hp).tab e).isCodeTable, rfl, #[], more, rfl, by rw [Array.empty_append]; exact q⟩)
  · rcases each b o e with q | ⟨more, _, _, q⟩
    · exact ⟨_, q⟩
    · exact ⟨_, q⟩
end
variable {P : Program} {w : World} {K : PySem.W.Frag} {mg mb : Str → Option Value} {CX : CXT} {k : Nat} {fa a : Addr} {ts : List (Addr × Addr)} {fd : FuncData} {x : Str} {sp : Sp} {s : Shared} {vs : List Value} {ns : List Int}
/-- the module's heap, as the law's call finds it -/
structure Ready (K : PySem.W.Frag) (mg mb : Str → Option Value) (ts : List (Addr × Addr)) (s : Shared) : Prop where
  kin : K.In s.heap
  glob : s.heap.Ns mainGlobals mg
  blt : s.heap.Ns builtinsNs mb
  boot : ∀ y : Str, y ≠ "__name__" → mb y = bootBuiltins y
  lim : s.heap.NoLimit
  gens : s.gens = #[]
  tab : ∀ p ∈ ts, s.heap.get? p.2 = some { cls := .none, data := .fields #[] }
  out : ∀ p ∈ ts, K.lookup p.2 = none
  code : ∀ p ∈ ts, PySem.W.CodeHd s.heap p.1 p.2
  bm : ∃ (m : Addr) (ob : Obj), mg "__builtins__" = some (.ref m) ∧ m ≠ builtinsNs ∧ s.heap.get? m = some ob ∧ ob.cls = .type "module" ∧ ob.dict = some builtinsNs ∧ ob.data = .plain
theorem Ready.base (R : Ready K mg mb ts s) {xs : List V} {H : Hp} (hw : ∀ b u, H b = some u → Was K s.heap ts xs b u) : L2.Mod K mg (hidT s.heap H) ∧ ∀ p ∈ ts, LamX.TabB (hidT s.heap H) mg p.1 p.2 := by
  obtain ⟨lm, l1, l2⟩ := R.lim
  refine ⟨⟨was_in hw R.out R.kin, was_ns hw R.glob, ⟨mb, was_ns hw R.blt, R.boot⟩, lm, was_ns hw l1, l2⟩, fun p hp => ?_⟩
  have gd : ∃ o es n, s.heap.get? mainGlobals = some o ∧ o.data = .dict es n := by
    obtain ⟨o, es, n, e, d, _⟩ := R.glob
    exact ⟨o, es, n, e, d⟩
  obtain ⟨go, ge, gn, g1, g2⟩ := gd
  obtain ⟨m, ob, b1, b2, b3, b4, b5, b6⟩ := R.bm
  refine ⟨was_code hw (R.code p hp), ⟨m, ob, b1, b2, fun z => ?_, fun z => ?_, hidT_get b3 (was_none hw b3 (fun vs n z => ?_) fun z => ?_), b4, b5, b6⟩, fun z => ?_⟩
  · rw [z] at b3
    obtain rfl := Option.some.inj (b3.symm.trans g1)
    cases b6.symm.trans g2
  · rw [z] at b3
    obtain rfl := Option.some.inj (b3.symm.trans (R.tab p hp))
    cases b6
  · cases b6.symm.trans z
  · cases b6.symm.trans z
  · rw [z] at g1
    obtain rfl := Option.some.inj (g1.symm.trans (R.tab p hp))
    cases g2
theorem call_ready (R : Ready K mg mb ts s) (script : s.heap.get? a = some { cls := .type "list", data := .seq vs.toArray }) (whole : IntsAre vs ns) (short : ns.length ≤ sizeLine) (room : Room k callerA)
    (F : ∀ base : Heap, K.In base → base.Ns mainGlobals mg → (∀ p ∈ ts, LamX.TabB base mg p.1 p.2) → FnOk P w K mg base CX k fa fd [x] sp) (binds : ∀ (s : Shared) (u : Value), BindsTo s fd ⟨[u], []⟩ [(x, u)])
    (start : ∀ H : Hp, (∀ p ∈ ts, H p.2 = some (.tbl #[])) → SqL K H a (ns.map V.int) → sp [.ref a] H (fun v _ => v = .bl true) fun _ _ _ => False) (none : ∀ H e s', CX [] H s (fun _ _ _ => False) e s' → False) :
    codeAny (model P w) callerA (.call (.ref fa) ⟨[.ref a], []⟩) (fun r s' => r = .ok (.ret (.bool true)) ∧ OldK s.heap s'.heap ∧ s'.os = s.os ∧ AllBare s'.gens) s := by
  have values := vals_ints whole
  have many := whole.length
  have go : ∀ H : Hp, (∀ b u, H b = some u → Was K s.heap ts (ns.map V.int) b u) → (∀ p ∈ ts, H p.2 = some (.tbl #[])) → SqL K H a (ns.map V.int) → HOk P w H s.heap →
      codeAny (model P w) callerA (.call (.ref fa) ⟨[.ref a], []⟩) (fun r s' => r = .ok (.ret (.bool true)) ∧ OldK s.heap s'.heap ∧ s'.os = s.os ∧ AllBare s'.gens) s := fun H hw hT hS ok => by
    obtain ⟨M, TB⟩ := R.base hw
    have env : Env0 P w K mg (hidT s.heap H) callerA [] s H := { frames := rfl, mod := M, bs := fun b o e => of_hidT e, bsz := Nat.le_of_eq (hidT_size _ _), funs := trivial, frf := fun b z => absurd z List.not_mem_nil, hok := ok, bare := .of_eq R.gens }
    have run := (F _ M.kin M.glob TB).run callerA [] s H ⟨[.ref a], []⟩ [.ref a] [.ref a] _ _ room env (binds s (.ref a)) (.cons rfl .nil) (start H hT hS)
    refine codeAny_mono run fun r s' q => ?_
    match r, q with
    | .error e, q => exact (none H e s' q).elim
    | .ok (.ret u), ⟨v, H', o1, o2, U, ok', rv, z⟩ =>
      have z : v = .bl true := z
      subst z
      obtain rfl : u = Value.bool true := rv
      exact ⟨rfl, was_old hw R.code U ok', o1, o2⟩
  have apart : ∀ p ∈ ts, p.2 ≠ a := fun p hp z => by
    have e := R.tab p hp
    rw [z, script] at e
    cases e
  have inT : ∀ b, b ∈ ts.map (·.2) → s.heap.get? b = some { cls := .none, data := .fields #[] } := fun b z => by
    obtain ⟨p, hp, rfl⟩ := List.mem_map.mp z
    exact R.tab p hp
  by_cases hk : K.lookup a = Option.none
  · refine go (upd (fun b => if b ∈ ts.map (·.2) then some (.tbl #[]) else Option.none) a (.frz { cls := .type "list", data := .seq vs.toArray } (.lst (ns.map V.int)))) (fun b u e => ?_) (fun p hp => ?_) (.inl (.inr ⟨_, upd_same⟩)) (fun b u e => ?_)
    · by_cases hb : b = a
      · rw [hb, upd_same] at e
        rw [hb, ← Option.some.inj e]
        exact .inr ⟨_, rfl, script, hk⟩
      · rw [upd_ne hb] at e
        split at e
        · rename_i z
          rw [← Option.some.inj e]
          exact .inl ⟨rfl, z, inT b z⟩
        · cases e
    · rw [upd_ne (apart p hp)]
      exact if_pos (List.mem_map.mpr ⟨p, hp, rfl⟩)
    · by_cases hb : b = a
      · rw [hb, upd_same] at e
        rw [hb, ← Option.some.inj e]
        exact ⟨script, by rw [List.length_map]; exact short, vs, _, values, script⟩
      · rw [upd_ne hb] at e
        split at e
        · rename_i z
          rw [← Option.some.inj e]
          exact inT b z
        · cases e
  · obtain ⟨o, ho⟩ := Option.ne_none_iff_exists'.mp hk
    have eo := R.kin a o ho
    obtain rfl := Option.some.inj (eo.symm.trans script)
    refine go (fun b => if b ∈ ts.map (·.2) then some (.tbl #[]) else Option.none) (fun b u e => ?_) (fun p hp => if_pos (List.mem_map.mpr ⟨p, hp, rfl⟩)) (.inr ⟨_, vs.toArray, _, ho, rfl, rfl, rfl, by rw [List.size_toArray, many]; exact short, by simpa using values⟩) (fun b u e => ?_)
    all_goals
      have e : (if b ∈ ts.map (·.2) then some (HO.tbl #[]) else Option.none) = some u := e
      split at e
    · rename_i z
      rw [← Option.some.inj e]
      exact .inl ⟨rfl, z, inT b z⟩
    · cases e
    · rename_i z
      rw [← Option.some.inj e]
      exact inT b z
    · cases e
/-- the row: what is known at the head, and the law's promise -/
theorem walk_tabs {l : PySem.W.OpenLaw} {n : Nat} {q : Program} {loose : List Str} {XP : (Str → Option Value) → Heap → Prop} {YP : World → Heap → Prop} {d : DefRec} {K : Params → PySem.W.Frag} {CX : World → CXT} {sp : PySem.W.Frag → Sp}
    (most : l.most = some n) (fits : n ≤ sizeLine) (plain : d.params.defaults = []) (room : Room k callerA) (kin : ∀ (w : World) (h : Heap), YP w h → (K w.params).In h) (tab : ∀ (w : World) (h : Heap), YP w h → ∀ p ∈ ts, h.get? p.2 = some { cls := .none, data := .fields #[] })
    (out : ∀ w : World, ∀ p ∈ ts, (K w.params).lookup p.2 = none) (code : ∀ w : World, ∀ p ∈ ts, PySem.W.codeHdIn (K w.params) p.1 p.2 = true)
    (F : ∀ (w : World) (mg : Str → Option Value) (fa : Addr) (h : Heap), (K w.params).In h → h.Ns mainGlobals mg → mg d.name = some (.ref fa) →
      ∃ fd : FuncData, (∀ (s : Shared) (u : Value), BindsTo s fd ⟨[u], []⟩ [(x, u)]) ∧ ∀ base : Heap, (K w.params).In base → base.Ns mainGlobals mg → (∀ p ∈ ts, LamX.TabB base mg p.1 p.2) → FnOk l.prog w (K w.params) mg base (CX w) k fa fd [x] (sp (K w.params)))
    (start : ∀ (w : World) (H : Hp) (a : Addr) (ns : List Int), ns.length ≤ n → (∀ p ∈ ts, H p.2 = some (.tbl #[])) → SqL (K w.params) H a (ns.map V.int) → sp (K w.params) [.ref a] H (fun v _ => v = .bl true) fun _ _ _ => False)
    (none : ∀ (w : World) (H : Hp) (s : Shared) (e : Value) (s' : Shared), CX w [] H s (fun _ _ _ => False) e s' → False) : PySem.W.WalkO q loose XP YP l.row.toRowW d [] (fun f vs => PySem.call f vs) := by
  refine Att.attach_callB most plain fun w s0 s mg mb fa o pm cd doc a vs ns G Y _ _ _ hmg script whole short _ gens => ?_
  have KX := kin w _ Y
  obtain ⟨fd, binds, all⟩ := F w mg fa _ KX G.T.g hmg
  exact call_ready ⟨KX, G.T.g, G.T.b, G.T.builtins, G.T.nolimit, gens, tab w _ Y, out w, fun p hp => PySem.W.codeHd_of_K KX (code w p hp), G.T.bmain⟩ script whole (Nat.le_trans short fits) room all binds (fun H hT hS => start w H a ns short hT hS) fun H e s' => none w H s e s'
end PL
end L2

open PySem PySem.W PyProof.Rows in
set_option maxRecDepth 100000 in
set_option maxHeartbeats 0 in
theorem PySem.Challenge.cw_fourread_k21_solutions_holds : PySem.Challenge.rw_fourread_k21_solutions.Holds := by
  w_on; o_law; k_head; (case hw => w_witness2)
  k_fill
  letI : L2.PL.Tabl := ⟨[(167, (((PySem.Str.ofString "check_equations") ++ ".<locals>.") ++ "<lambda>"))]⟩
  refine L2.PL.walk_tabs (ts := [(171, 167)]) (l := PySem.Challenge.rw_fourread_k21_solutions) (n := 63) (k := 12) (x := "script") (CX := fun w => L2.CX (PySem.Challenge.rw_fourread_k21_solutions).prog w) (sp := L2.PL.spLawT) rfl (by decide) rfl ⟨⟨rfl, by decide, by decide⟩, rfl⟩ (fun w h Y => PySem.W.km_in_of Y) (by intro w h Y p hp; simp only [List.mem_cons, List.not_mem_nil, or_false] at hp; rcases hp with rfl <;> exact PySem.W.km_tabs_of Y _ (by k_mem)) (by intro w p hp; simp only [List.mem_cons, List.not_mem_nil, or_false] at hp; rcases hp with rfl <;> kernel_rfl) (by intro w p hp; simp only [List.mem_cons, List.not_mem_nil, or_false] at hp; rcases hp with rfl <;> kernel_rfl) ?F ?S (fun _ _ _ _ _ z => L2.PL.cx_none z)
  case S =>
    intro w H a ns hl hT hS
    refine ⟨a, ns, rfl, hl, fun q hq => ?_, hS, fun _ => rfl⟩
    have hq : q ∈ ([(167, (((PySem.Str.ofString "check_equations") ++ ".<locals>.") ++ "<lambda>"))] : List (Addr × Str)) := hq
    simp only [List.mem_cons, List.not_mem_nil, or_false] at hq
    rcases hq with rfl
    · exact hT (171, 167) (by simp)
  case F =>
    intro w mg fa h KX G hmg
    refine' L2.PL.all_mk KX G hmg ?h_n_System ?h_pg_System ?h_hd_System ?h_po_System ?h_sa_System ?h_mk_System ?h_kc_System ?h_ha_System ?h_hm_System ?h_kt_int_System ?h_kt_bool_System ?h_kt_tuple_System ?h_kt_list_System ?h_kt_str_System ?h_ky_NoneType_System ?h_ky_bool_System ?h_ky_int_System ?h_ky_str_System ?h_ky_tuple_System ?h_ky_list_System ?h_ko_System_System ?h_nf_System_equations ?h_nf_System_n ?h_hn ?h_htk ?h_n_InvalidNumber ?h_x_InvalidNumber ?h_es_InvalidNumber ?h_ee_InvalidNumber ?h_et_InvalidNumber ?h_ek_InvalidNumber ?h_ec_InvalidNumber ?h_ga_InvalidNumber ?h_gg_InvalidNumber ?h_eh_InvalidNumber ?h_ev_InvalidNumber_part ?h_ev_InvalidNumber_place ?h_ev_InvalidNumber_value ?h_ei_InvalidNumber ?h_l_i_InvalidNumber ?h_c_i_InvalidNumber ?h_k_i_InvalidNumber ?h_ti_InvalidNumber ?h_n_InvalidSystem ?h_x_InvalidSystem ?h_es_InvalidSystem ?h_ee_InvalidSystem ?h_et_InvalidSystem ?h_ek_InvalidSystem ?h_ec_InvalidSystem ?h_ga_InvalidSystem ?h_gg_InvalidSystem ?h_eh_InvalidSystem ?h_ev_InvalidSystem_part ?h_ev_InvalidSystem_place ?h_ev_InvalidSystem_value ?h_ei_InvalidSystem ?h_l_i_InvalidSystem ?h_c_i_InvalidSystem ?h_k_i_InvalidSystem ?h_ti_InvalidSystem ?h_n_InvalidWord ?h_x_InvalidWord ?h_es_InvalidWord ?h_ee_InvalidWord ?h_et_InvalidWord ?h_ek_InvalidWord ?h_ec_InvalidWord ?h_ga_InvalidWord ?h_gg_InvalidWord ?h_eh_InvalidWord ?h_ev_InvalidWord_part ?h_ev_InvalidWord_place ?h_ev_InvalidWord_value ?h_ei_InvalidWord ?h_l_i_InvalidWord ?h_c_i_InvalidWord ?h_k_i_InvalidWord ?h_ti_InvalidWord ?h_a_is_integer ?h_l_is_integer ?h_c_is_integer ?h_k_is_integer ?h_a_is_between ?h_l_is_between ?h_c_is_between ?h_k_is_between ?h_a_first_none ?h_l_first_none ?h_c_first_none ?h_k_first_none ?h_a_are_bits ?h_l_are_bits ?h_c_are_bits ?h_k_are_bits ?h_a_is_row_of_bits ?h_l_is_row_of_bits ?h_c_is_row_of_bits ?h_k_is_row_of_bits ?h_a_is_word ?h_l_is_word ?h_c_is_word ?h_k_is_word ?h_a_check_length ?h_l_check_length ?h_c_check_length ?h_k_check_length ?h_a_all_words ?h_l_all_words ?h_c_all_words ?h_k_all_words ?h_a_is_ascending ?h_l_is_ascending ?h_c_is_ascending ?h_k_is_ascending ?h_a_are_unknowns ?h_l_are_unknowns ?h_c_are_unknowns ?h_k_are_unknowns ?h_a_are_pairs ?h_l_are_pairs ?h_c_are_pairs ?h_k_are_pairs ?h_a_is_equation ?h_l_is_equation ?h_c_is_equation ?h_k_is_equation ?h_a_check_equations ?h_l_check_equations ?h_c_check_equations ?h_k_check_equations ?h_a_is_fitting ?h_l_is_fitting ?h_c_is_fitting ?h_k_is_fitting ?h_a_System_init ?h_i_System_init ?h_l_System_init ?h_c_System_init ?h_k_System_init ?h_a_System_first_wrong ?h_i_System_first_wrong ?h_l_System_first_wrong ?h_c_System_first_wrong ?h_k_System_first_wrong ?h_a_System_contains ?h_i_System_contains ?h_l_System_contains ?h_c_System_contains ?h_k_System_contains ?h_a_System_solutions ?h_i_System_solutions ?h_l_System_solutions ?h_c_System_solutions ?h_k_System_solutions ?h_a__law_mixed ?h_l__law_mixed ?h_c__law_mixed ?h_k__law_mixed ?h_a__law_tape ?h_l__law_tape ?h_c__law_tape ?h_k__law_tape ?h_a__law_draw ?h_l__law_draw ?h_c__law_draw ?h_k__law_draw ?h_a__law_pick ?h_l__law_pick ?h_c__law_pick ?h_k__law_pick ?h_a__law_word ?h_l__law_word ?h_c__law_word ?h_k__law_word ?h_a__law_words ?h_l__law_words ?h_c__law_words ?h_k__law_words ?h_a__law_left ?h_l__law_left ?h_c__law_left ?h_k__law_left ?h_a__law_fits ?h_l__law_fits ?h_c__law_fits ?h_k__law_fits ?h_a__law_equation ?h_l__law_equation ?h_c__law_equation ?h_k__law_equation ?h_a__law_equations ?h_l__law_equations ?h_c__law_equations ?h_k__law_equations ?h_a__law_solves ?h_l__law_solves ?h_c__law_solves ?h_k__law_solves ?h_a__law_solutions ?h_l__law_solutions ?h_c__law_solutions ?h_k__law_solutions ?h_a_law ?h_l_law ?h_c_law ?h_k_law ?h_su_InvalidNumber_InvalidNumber ?h_su_InvalidNumber_InvalidSystem ?h_su_InvalidNumber_InvalidWord ?h_su_InvalidSystem_InvalidNumber ?h_su_InvalidSystem_InvalidSystem ?h_su_InvalidSystem_InvalidWord ?h_su_InvalidWord_InvalidNumber ?h_su_InvalidWord_InvalidSystem ?h_su_InvalidWord_InvalidWord ?h_b_all ?h_b_bool ?h_b_enumerate ?h_b_int ?h_b_isinstance ?h_b_len ?h_b_list ?h_b_range ?h_b_repr ?h_b_sum ?h_b_tuple ?h_b_zip ?h_cc_LONGEST_WORD ?h_ht_check_equations ?h_hv_check_equations
    (case h_n_System => first | rfl | k_is)
    (case h_pg_System => first | rfl | k_is)
    (case h_hd_System => first | rfl | k_is)
    (case h_po_System => first | rfl | k_is)
    (case h_sa_System => first | rfl | k_is)
    (case h_mk_System => first | rfl | k_is)
    (case h_kc_System => first | rfl | k_is)
    (case h_ha_System => first | rfl | k_is)
    (case h_hm_System => first | rfl | k_is)
    (case h_kt_int_System => first | rfl | k_is)
    (case h_kt_bool_System => first | rfl | k_is)
    (case h_kt_tuple_System => first | rfl | k_is)
    (case h_kt_list_System => first | rfl | k_is)
    (case h_kt_str_System => first | rfl | k_is)
    (case h_ky_NoneType_System => first | rfl | k_is)
    (case h_ky_bool_System => first | rfl | k_is)
    (case h_ky_int_System => first | rfl | k_is)
    (case h_ky_str_System => first | rfl | k_is)
    (case h_ky_tuple_System => first | rfl | k_is)
    (case h_ky_list_System => first | rfl | k_is)
    (case h_ko_System_System => first | rfl | k_is)
    (case h_nf_System_equations => first | rfl | k_is)
    (case h_nf_System_n => first | rfl | k_is)
    (case h_hn => first | rfl | k_is)
    (case h_htk => first | rfl | k_is)
    (case h_n_InvalidNumber => first | rfl | k_is)
    (case h_x_InvalidNumber => first | rfl | k_is)
    (case h_es_InvalidNumber => first | rfl | k_is)
    (case h_ee_InvalidNumber => first | rfl | k_is)
    (case h_et_InvalidNumber => first | rfl | k_is)
    (case h_ek_InvalidNumber => first | rfl | k_is)
    (case h_ec_InvalidNumber => first | rfl | k_is)
    (case h_ga_InvalidNumber => first | rfl | k_is)
    (case h_gg_InvalidNumber => first | rfl | k_is)
    (case h_eh_InvalidNumber => first | rfl | k_is)
    (case h_ev_InvalidNumber_part => first | rfl | k_is)
    (case h_ev_InvalidNumber_place => first | rfl | k_is)
    (case h_ev_InvalidNumber_value => first | rfl | k_is)
    (case h_ei_InvalidNumber => first | rfl | k_is)
    (case h_l_i_InvalidNumber => first | rfl | k_is)
    (case h_c_i_InvalidNumber => first | rfl | k_is)
    (case h_k_i_InvalidNumber => first | rfl | k_is)
    (case h_ti_InvalidNumber => first | rfl | k_is)
    (case h_n_InvalidSystem => first | rfl | k_is)
    (case h_x_InvalidSystem => first | rfl | k_is)
    (case h_es_InvalidSystem => first | rfl | k_is)
    (case h_ee_InvalidSystem => first | rfl | k_is)
    (case h_et_InvalidSystem => first | rfl | k_is)
    (case h_ek_InvalidSystem => first | rfl | k_is)
    (case h_ec_InvalidSystem => first | rfl | k_is)
    (case h_ga_InvalidSystem => first | rfl | k_is)
    (case h_gg_InvalidSystem => first | rfl | k_is)
    (case h_eh_InvalidSystem => first | rfl | k_is)
    (case h_ev_InvalidSystem_part => first | rfl | k_is)
    (case h_ev_InvalidSystem_place => first | rfl | k_is)
    (case h_ev_InvalidSystem_value => first | rfl | k_is)
    (case h_ei_InvalidSystem => first | rfl | k_is)
    (case h_l_i_InvalidSystem => first | rfl | k_is)
    (case h_c_i_InvalidSystem => first | rfl | k_is)
    (case h_k_i_InvalidSystem => first | rfl | k_is)
    (case h_ti_InvalidSystem => first | rfl | k_is)
    (case h_n_InvalidWord => first | rfl | k_is)
    (case h_x_InvalidWord => first | rfl | k_is)
    (case h_es_InvalidWord => first | rfl | k_is)
    (case h_ee_InvalidWord => first | rfl | k_is)
    (case h_et_InvalidWord => first | rfl | k_is)
    (case h_ek_InvalidWord => first | rfl | k_is)
    (case h_ec_InvalidWord => first | rfl | k_is)
    (case h_ga_InvalidWord => first | rfl | k_is)
    (case h_gg_InvalidWord => first | rfl | k_is)
    (case h_eh_InvalidWord => first | rfl | k_is)
    (case h_ev_InvalidWord_part => first | rfl | k_is)
    (case h_ev_InvalidWord_place => first | rfl | k_is)
    (case h_ev_InvalidWord_value => first | rfl | k_is)
    (case h_ei_InvalidWord => first | rfl | k_is)
    (case h_l_i_InvalidWord => first | rfl | k_is)
    (case h_c_i_InvalidWord => first | rfl | k_is)
    (case h_k_i_InvalidWord => first | rfl | k_is)
    (case h_ti_InvalidWord => first | rfl | k_is)
    (case h_a_is_integer => first | rfl | k_is)
    (case h_l_is_integer => first | rfl | k_is)
    (case h_c_is_integer => first | rfl | k_is)
    (case h_k_is_integer => first | rfl | k_is)
    (case h_a_is_between => first | rfl | k_is)
    (case h_l_is_between => first | rfl | k_is)
    (case h_c_is_between => first | rfl | k_is)
    (case h_k_is_between => first | rfl | k_is)
    (case h_a_first_none => first | rfl | k_is)
    (case h_l_first_none => first | rfl | k_is)
    (case h_c_first_none => first | rfl | k_is)
    (case h_k_first_none => first | rfl | k_is)
    (case h_a_are_bits => first | rfl | k_is)
    (case h_l_are_bits => first | rfl | k_is)
    (case h_c_are_bits => first | rfl | k_is)
    (case h_k_are_bits => first | rfl | k_is)
    (case h_a_is_row_of_bits => first | rfl | k_is)
    (case h_l_is_row_of_bits => first | rfl | k_is)
    (case h_c_is_row_of_bits => first | rfl | k_is)
    (case h_k_is_row_of_bits => first | rfl | k_is)
    (case h_a_is_word => first | rfl | k_is)
    (case h_l_is_word => first | rfl | k_is)
    (case h_c_is_word => first | rfl | k_is)
    (case h_k_is_word => first | rfl | k_is)
    (case h_a_check_length => first | rfl | k_is)
    (case h_l_check_length => first | rfl | k_is)
    (case h_c_check_length => first | rfl | k_is)
    (case h_k_check_length => first | rfl | k_is)
    (case h_a_all_words => first | rfl | k_is)
    (case h_l_all_words => first | rfl | k_is)
    (case h_c_all_words => first | rfl | k_is)
    (case h_k_all_words => first | rfl | k_is)
    (case h_a_is_ascending => first | rfl | k_is)
    (case h_l_is_ascending => first | rfl | k_is)
    (case h_c_is_ascending => first | rfl | k_is)
    (case h_k_is_ascending => first | rfl | k_is)
    (case h_a_are_unknowns => first | rfl | k_is)
    (case h_l_are_unknowns => first | rfl | k_is)
    (case h_c_are_unknowns => first | rfl | k_is)
    (case h_k_are_unknowns => first | rfl | k_is)
    (case h_a_are_pairs => first | rfl | k_is)
    (case h_l_are_pairs => first | rfl | k_is)
    (case h_c_are_pairs => first | rfl | k_is)
    (case h_k_are_pairs => first | rfl | k_is)
    (case h_a_is_equation => first | rfl | k_is)
    (case h_l_is_equation => first | rfl | k_is)
    (case h_c_is_equation => first | rfl | k_is)
    (case h_k_is_equation => first | rfl | k_is)
    (case h_a_check_equations => first | rfl | k_is)
    (case h_l_check_equations => first | rfl | k_is)
    (case h_c_check_equations => first | rfl | k_is)
    (case h_k_check_equations => first | rfl | k_is)
    (case h_a_is_fitting => first | rfl | k_is)
    (case h_l_is_fitting => first | rfl | k_is)
    (case h_c_is_fitting => first | rfl | k_is)
    (case h_k_is_fitting => first | rfl | k_is)
    (case h_a_System_init => first | rfl | k_is)
    (case h_i_System_init => first | rfl | k_is)
    (case h_l_System_init => first | rfl | k_is)
    (case h_c_System_init => first | rfl | k_is)
    (case h_k_System_init => first | rfl | k_is)
    (case h_a_System_first_wrong => first | rfl | k_is)
    (case h_i_System_first_wrong => first | rfl | k_is)
    (case h_l_System_first_wrong => first | rfl | k_is)
    (case h_c_System_first_wrong => first | rfl | k_is)
    (case h_k_System_first_wrong => first | rfl | k_is)
    (case h_a_System_contains => first | rfl | k_is)
    (case h_i_System_contains => first | rfl | k_is)
    (case h_l_System_contains => first | rfl | k_is)
    (case h_c_System_contains => first | rfl | k_is)
    (case h_k_System_contains => first | rfl | k_is)
    (case h_a_System_solutions => first | rfl | k_is)
    (case h_i_System_solutions => first | rfl | k_is)
    (case h_l_System_solutions => first | rfl | k_is)
    (case h_c_System_solutions => first | rfl | k_is)
    (case h_k_System_solutions => first | rfl | k_is)
    (case h_a__law_mixed => first | rfl | k_is)
    (case h_l__law_mixed => first | rfl | k_is)
    (case h_c__law_mixed => first | rfl | k_is)
    (case h_k__law_mixed => first | rfl | k_is)
    (case h_a__law_tape => first | rfl | k_is)
    (case h_l__law_tape => first | rfl | k_is)
    (case h_c__law_tape => first | rfl | k_is)
    (case h_k__law_tape => first | rfl | k_is)
    (case h_a__law_draw => first | rfl | k_is)
    (case h_l__law_draw => first | rfl | k_is)
    (case h_c__law_draw => first | rfl | k_is)
    (case h_k__law_draw => first | rfl | k_is)
    (case h_a__law_pick => first | rfl | k_is)
    (case h_l__law_pick => first | rfl | k_is)
    (case h_c__law_pick => first | rfl | k_is)
    (case h_k__law_pick => first | rfl | k_is)
    (case h_a__law_word => first | rfl | k_is)
    (case h_l__law_word => first | rfl | k_is)
    (case h_c__law_word => first | rfl | k_is)
    (case h_k__law_word => first | rfl | k_is)
    (case h_a__law_words => first | rfl | k_is)
    (case h_l__law_words => first | rfl | k_is)
    (case h_c__law_words => first | rfl | k_is)
    (case h_k__law_words => first | rfl | k_is)
    (case h_a__law_left => first | rfl | k_is)
    (case h_l__law_left => first | rfl | k_is)
    (case h_c__law_left => first | rfl | k_is)
    (case h_k__law_left => first | rfl | k_is)
    (case h_a__law_fits => first | rfl | k_is)
    (case h_l__law_fits => first | rfl | k_is)
    (case h_c__law_fits => first | rfl | k_is)
    (case h_k__law_fits => first | rfl | k_is)
    (case h_a__law_equation => first | rfl | k_is)
    (case h_l__law_equation => first | rfl | k_is)
    (case h_c__law_equation => first | rfl | k_is)
    (case h_k__law_equation => first | rfl | k_is)
    (case h_a__law_equations => first | rfl | k_is)
    (case h_l__law_equations => first | rfl | k_is)
    (case h_c__law_equations => first | rfl | k_is)
    (case h_k__law_equations => first | rfl | k_is)
    (case h_a__law_solves => first | rfl | k_is)
    (case h_l__law_solves => first | rfl | k_is)
    (case h_c__law_solves => first | rfl | k_is)
    (case h_k__law_solves => first | rfl | k_is)
    (case h_a__law_solutions => first | rfl | k_is)
    (case h_l__law_solutions => first | rfl | k_is)
    (case h_c__law_solutions => first | rfl | k_is)
    (case h_k__law_solutions => first | rfl | k_is)
    (case h_a_law => first | rfl | k_is)
    (case h_l_law => first | rfl | k_is)
    (case h_c_law => first | rfl | k_is)
    (case h_k_law => first | rfl | k_is)
    (case h_su_InvalidNumber_InvalidNumber => first | rfl | k_is)
    (case h_su_InvalidNumber_InvalidSystem => first | rfl | k_is)
    (case h_su_InvalidNumber_InvalidWord => first | rfl | k_is)
    (case h_su_InvalidSystem_InvalidNumber => first | rfl | k_is)
    (case h_su_InvalidSystem_InvalidSystem => first | rfl | k_is)
    (case h_su_InvalidSystem_InvalidWord => first | rfl | k_is)
    (case h_su_InvalidWord_InvalidNumber => first | rfl | k_is)
    (case h_su_InvalidWord_InvalidSystem => first | rfl | k_is)
    (case h_su_InvalidWord_InvalidWord => first | rfl | k_is)
    (case h_b_all => first | rfl | k_is)
    (case h_b_bool => first | rfl | k_is)
    (case h_b_enumerate => first | rfl | k_is)
    (case h_b_int => first | rfl | k_is)
    (case h_b_isinstance => first | rfl | k_is)
    (case h_b_len => first | rfl | k_is)
    (case h_b_list => first | rfl | k_is)
    (case h_b_range => first | rfl | k_is)
    (case h_b_repr => first | rfl | k_is)
    (case h_b_sum => first | rfl | k_is)
    (case h_b_tuple => first | rfl | k_is)
    (case h_b_zip => first | rfl | k_is)
    (case h_cc_LONGEST_WORD => first | rfl | k_is)
    (case h_ht_check_equations => show _ ∈ ([(167, (((PySem.Str.ofString "check_equations") ++ ".<locals>.") ++ "<lambda>"))] : List (Addr × Str)); repeat (first | exact List.mem_cons_self | apply List.mem_cons_of_mem))
    (case h_hv_check_equations => intro p hp e; have hp : p ∈ ([(167, (((PySem.Str.ofString "check_equations") ++ ".<locals>.") ++ "<lambda>"))] : List (Addr × Str)) := hp; simp only [List.mem_cons, List.not_mem_nil, or_false] at hp; rcases hp with rfl <;> first | rfl | (exact absurd e (by decide)))

