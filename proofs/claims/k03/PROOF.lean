import PyProof.Rows.All
import Wide.All
import OpenK.AllK
import Wide.FinOn
import KE.KExcIs
import HandS.ForMost
import HandS.Exc
import HandS.ExcInit
import HandS.ExcIs
import HandS.ExcField
import HandS.IsInst
import HandS.WordsExc
import HandS.ExcValue
import KE.KStateDown
import HandS.Defaults
import HandS.Head0
import HandS.Head1
import HandS.Head2
import HandS.HeadEnd
import HandS.HeadHook1
import HandS.HeadHook2
import HandS.Evl
import HandS.TupAny
import HandS.SortInts
import HandS.Wide
import HandS.HeadHook4
import KE.KxText
import HandS.SetBool
import HandS.TupSets
import HandS.DictComp
import KE.KDictKeyed
import KE.KeyNested
import HandS.StrMore
import HandS.ExcOwn
import HandS.Deep
import HandS.OwnEq
import HandS.IterVal
import HandS.Iter
import PyProof.P3Eq
import KE.KEqNest
import HandS.SetFor
import PyProof.Rows.SetFrom
import HandS.Codes
import HandS.Conv
import HandS.MakeKw
import HandS.Style
import HandS.More
import PySem.Challenge.RW_onceread_k03_moved_whole
set_option Elab.async false
set_option linter.all false
set_option maxRecDepth 100000
set_option maxHeartbeats 0
/-! own exceptions of the program as values: made, told apart, their fields read -/
namespace XV
open PySem PySem.Spec PyProof.Rows L2

def veB : List Value := [.type "ValueError", .type "Exception", .type "BaseException", .type "object"]
/-- an exception of the class at C with the fields fs -/
def ExAt (H : Hp) (a C : Addr) (fs : List (Str × V)) : Prop :=
  (fs = [] ∧ H a = some (exo a C none)) ∨ ∃ dx, H a = some (exo a C (some dx)) ∧ H dx = some (exd dx fs)
theorem ExAt.same {H H' : Hp} {a C : Addr} {fs : List (Str × V)} (s : Same H H') (h : ExAt H a C fs) : ExAt H' a C fs := by
  rcases h with ⟨e, h⟩ | ⟨dx, h1, h2⟩
  · exact .inl ⟨e, s _ _ h⟩
  · exact .inr ⟨dx, s _ _ h1, s _ _ h2⟩

/-- what the written part says of such a class -/
structure ExK (K : PySem.W.Frag) (C : Addr) : Prop where
  o : OexC K C
  e : ExcC K C
  clsv : (PySem.W.clsIn K C).isSome = true
def exCB (K : PySem.W.Frag) (C : Addr) : Bool := match K.lookup C with
  | some ⟨.type t, _, .cls cd, sl⟩ => (match cd.mro, sl.toList with
    | .ref C' :: bm, [_, _, _, _, some (.builtin n), _] => decide (t = "type") && (decide (C' = C) && (n == "ValueError.__new__" && (!cd.hasDel && (cd.hasDict && PySem.HandSPX.refsVE bm))))
    | _, _ => false)
  | _ => false
theorem exCB_ok {K : PySem.W.Frag} {C : Addr} (h : exCB K C = true) :
    ∃ nm q N bs bm sn sub ab col dd k0 k1 k2 k3 k5, K.lookup C = some (excClassObj nm q C N bs bm true sn sub ab col dd k0 k1 k2 k3 k5 "ValueError.__new__") ∧ PySem.HandSPX.refsVE bm = true := by
  unfold exCB at h
  split at h
  · rename_i t dd cd sl ho
    split at h
    · rename_i C' bm k0 k1 k2 k3 n k5 hm hs
      simp only [Bool.and_eq_true, beq_iff_eq, Bool.not_eq_true', decide_eq_true_eq] at h
      obtain ⟨rfl, rfl, rfl, hdel, hdict, hbm⟩ := h
      obtain ⟨nm, bs, mro, ns, qn, hd, sn, sub, ab, col, del⟩ := cd
      dsimp only at hm hdel hdict
      subst hm hdel hdict
      have hsl : sl = #[k0, k1, k2, k3, some (.builtin "ValueError.__new__"), k5] := by
        obtain ⟨l⟩ := sl
        simp only at hs
        rw [hs]
      subst hsl
      exact ⟨nm, qn, ns, bs, bm, sn, sub, ab, col, dd, k0, k1, k2, k3, k5, ho, hbm⟩
    · cases h
  · cases h
def exB (K : PySem.W.Frag) (C : Addr) : Bool :=
  exCB K C && (decide (PySem.W.findIn K (.ref C) "__setattr__" = some (some (.builtin "object.__setattr__"))) && (decide (PySem.W.subIn K (.ref C) (.type "BaseException") = some true) && (decide (PySem.W.typeIn K (.ref C) = some (.type "type")) && (PySem.W.keepIn K (.ref C) &&
  (decide (PySem.W.findIn K (.ref C) "__getattribute__" = some (some (.builtin "BaseException.__getattribute__"))) && (decide (PySem.W.findIn K (.ref C) "__getattr__" = some none) && (PySem.W.hasDictIn K C && (decide (PySem.W.findIn K (.ref C) "__class__" = some (some (.builtin "object.__class__"))) &&
  (decide (PySem.W.specialIn K (.builtin "object.__class__") "__get__" = some (some (.builtin "getset_descriptor.__get__"))) && (decide (PySem.W.takesIn K (.builtin "object.__class__") = some true) && (decide (PySem.W.mroIn K C (.type "object") = some true) && (PySem.W.clsIn K C).isSome)))))))))))
theorem exB_ok {K : PySem.W.Frag} {C : Addr} (h : exB K C = true) : ExK K C := by
  unfold exB at h
  simp only [Bool.and_eq_true, decide_eq_true_eq] at h
  obtain ⟨h1, h2, h3, h4, h5, h6, h7, h8, h9, h10, h11, h12, h13⟩ := h
  exact ⟨⟨exCB_ok h1, h2, h3, h4, h5⟩, ⟨h6, h7, h3, h8, h9, h10, h11, h12⟩, h13⟩
theorem ExK.x {K : PySem.W.Frag} {C : Addr} (T : ExK K C) : XfC K C := ⟨T.e.hg, T.e.hk, T.e.hs, T.e.hd⟩

section
variable {X : Cx} {e : Expr} {es : List Expr} {ta : TA} {te : TE} {p pos : Pos}
/-- X(e, ..), a class with its own __init__, as a value -/
def tMkV (C : Addr) (sp : Sp) (ta : TA) : TE := fun σ H Q => ta σ H fun vs H1 => vs.length ≤ 1000 ∧ ∀ a, H1 a = none → sp (.ref a :: vs) (upd H1 a (exo a C none)) (fun v H2 => v = .non ∧ Q (.ref a) H2) (fun _ _ _ => False)
theorem pe_oex {CX : CXT} {x : Str} {C fI : Addr} {k : Nat} {fd : FuncData} {ps : List Str} {sp : Sp} (T : OexC X.K C) (iC : PySem.W.findIn X.K (.ref C) "__init__" = some (some (.ref fI))) (tI : PySem.W.typeIn X.K (.ref fI) = some (.type "function"))
    (F1 : FnOk X.prog X.w X.K X.mg X.base CX k fI fd ps sp) (hr : Room (k + 1) X.A) (hb : Binds X.K fd ps []) (hx : Passes CX X (fun _ _ _ => False)) (hg : Gl X x) (hm : X.mg x = some (.ref C)) (ha : PA X (e :: es) ta)
    (hdb : (x == ("__debug__" : Str)) = false := by decide) (he : starEach (e :: es) X.env = (false, eval e X.env) :: starEach es X.env := by rfl) (hpl : (backTo pos (starEach es X.env)).any (·.1) = false := by rfl) :
    PE X (.Call (.Name x p) (e :: es) [] pos) (tMkV C sp ta) := by
  refine ⟨fun pins s σ H Q I h => ?_⟩
  obtain ⟨nm, q, N, bs, bm, sn, sub, ab, col, dd, k0, k1, k2, k3, k5, hC, hbm⟩ := T.cls
  refine wpAny_Call_Name_kw (ld_glob I hg hm ?_ hdb)
  refine PySem.W.callWith_K (h₀ := X.base) I.ok.mod.kin T.kC (thn (ha.run pos pins s σ H _ I h) fun us s1 ⟨vs, H1, I1, r1, hz, q1⟩ => ⟨I1.kIn, ?_⟩) he hpl
  show wpAny _ _ (call (.ref C) us) _ _ _
  obtain ⟨hp, g, dr, tk, os⟩ := s1
  have hsz : hp.objs.size ≤ hp.objs.size + 1 := Nat.le_succ _
  have hn : H1 (hp.objs.size + 1) = none := I1.hok.fresh hsz
  have hq := q1 (hp.objs.size + 1) hn
  have kk : ∀ b o, hp.get? b = some o → ((hp.push (PySem.W.kdv_tup us)).push (PySem.HandSPX.excO C hp.objs.size)).get? b = some o := fun b o e => Heap.get?_push_of_some _ (Heap.get?_push_of_some _ e)
  have hget : ((hp.push (PySem.W.kdv_tup us)).push (PySem.HandSPX.excO C hp.objs.size)).get? (hp.objs.size + 1) = some (PySem.HandSPX.excO C hp.objs.size) := by heap_get
  have I2 : Inv X pins σ (upd H1 (hp.objs.size + 1) (exo (hp.objs.size + 1) C none)) ⟨(hp.push (PySem.W.kdv_tup us)).push (PySem.HandSPX.excO C hp.objs.size), g, dr, tk, os⟩ :=
    I1.laid (t' := tk) (a := hp.objs.size + 1) (o := exo (hp.objs.size + 1) C none) (h' := (hp.push (PySem.W.kdv_tup us)).push (PySem.HandSPX.excO C hp.objs.size)) kk hsz (exo_ok hget)
  have r2 : Vals (V.ref (hp.objs.size + 1) :: vs) (Value.ref (hp.objs.size + 1) :: us) := .cons rfl r1
  have hl : (Value.ref (hp.objs.size + 1) :: us ++ []).length = ps.length := by
    have e := r2.length
    rw [F1.len _ _ _ _ hq] at e
    rw [List.append_nil]
    exact e.symm
  have hus : us.length ≤ sizeLine := by
    rw [← Paired.length r1, sizeLine_eq]
    omega
  have hbb := hb ⟨(hp.push (PySem.W.kdv_tup us)).push (PySem.HandSPX.excO C hp.objs.size), g, dr, tk, os⟩ (Value.ref (hp.objs.size + 1) :: us) I2.kIn hl
  rw [List.append_nil] at hbb
  refine wpAny_call (PySem.HandSPX.call_own F.excBase_ValueError (fun Y => PySem.HandSPX.refsVE_contains Y bm hbm) (I1.kIn _ _ hC) (PySem.W.looks_findIn I1.kIn iC) (fun self => PySem.W.bind_fn I1.kIn self tI) hus
    (codeAny_mono (F1.run _ X.stack _ _ ⟨Value.ref (hp.objs.size + 1) :: us, []⟩ (Value.ref (hp.objs.size + 1) :: us) _ _ (fun _ _ _ => False) (hr.make C us []) (I2.env0.make C us []) hbb r2 hq) fun r s' hq' => ?_))
  cases r with
  | error er => exact hx pins σ _ _ er s' I2 hq'
  | ok fl =>
    cases fl with
    | ret u =>
      obtain ⟨v, H2, os2, bare2, un2, hok2, rv, ev, q2⟩ := hq'
      subst ev
      have hend : EP X pins σ Q (.ref (hp.objs.size + 1)) s' := by
        have z := I2.after (Q := fun v H2 => Q v H2) (u := .ref (hp.objs.size + 1)) (s' := s') ⟨.ref (hp.objs.size + 1), H2, os2, bare2, un2, hok2, rfl, q2⟩
        exact z
      exact ⟨rv, hend⟩
    | next => exact False.elim hq'
    | brk => exact False.elim hq'
    | cont => exact False.elim hq'
/-- X(), a class without __init__ of its own -/
theorem pe_ex0 {x : Str} {C : Addr} (T : OexC X.K C) (q : PySem.W.excIn X.K C veB "ValueError.__new__" = true) (hg : Gl X x) (hm : X.mg x = some (.ref C)) (hdb : (x == ("__debug__" : Str)) = false := by decide) :
    PE X (.Call (.Name x p) [] [] pos) (fun _ H Q => ∀ a, H a = none → Q (.ref a) (upd H a (exo a C none))) := by
  refine ⟨fun pins s σ H Q I h => ?_⟩
  refine wpAny_Call_Name_kw (ld_glob I hg hm ?_ hdb)
  refine PySem.W.callWith_K0 I.kIn T.kC ?_
  show wpAny _ _ (call (.ref C) []) _ _ _
  obtain ⟨bm, N, nm, qn, bs, hdct, sn, sub, ab, col, dd, k0, k1, k2, k3, k5, mN, hC, hN, hni, T2⟩ := exc_obj I.kIn q
  refine wpAny_call_exc_subT F.excBase_ValueError T2 hC hN hni (fun h' a hm => ?_) (by show 0 ≤ sizeLine; omega)
  have hn : H a = none := I.hok.gone hm.new
  obtain ⟨t, ht, _, _⟩ := hm.there
  exact ⟨.ref a, upd H a (exo a C none), I.laidN hm.keeps hm.new hn (exo_ok ht), rfl, h a hn⟩
end
section
variable {X : Cx} {pins : List (Addr × Obj)} {σ : L2.St} {H : Hp} {s : Shared}
/-- such an exception as the library's instance -/
theorem ExAt.inst {a C : Addr} {fs : List (Str × V)} (h : ExAt H a C fs) (I : Inv X pins σ H s) : ∃ ox od, PySem.W.InstAt s.heap a ox C od := by
  rcases h with ⟨_, h⟩ | ⟨dx, h1, h2⟩
  · obtain ⟨t1, ho⟩ := exo_at I.hok h
    exact ⟨_, none, ho, rfl, rfl, trivial⟩
  · obtain ⟨t1, ho⟩ := exo_at I.hok h1
    obtain ⟨mA, hns, _⟩ := exd_at I.hok h2
    obtain ⟨od, hod, _⟩ := lookIn_ns hns
    exact ⟨_, some od, ho, rfl, rfl, hod⟩
end
/-- isinstance(e, c), e an exception of the program as a value -/
def rIsX (K : PySem.W.Frag) : List V → Hp → VK → Prop := fun xs H Q => ∃ (a C : Addr) (fs : List (Str × V)) (c : V) (cv : Value) (b : Bool), xs = [.ref a, c] ∧ ExAt H a C fs ∧ ExK K C ∧ ClsV c cv ∧ PySem.W.kitOne K (.ref C) cv = some b ∧ Q (.bl b) H
theorem call_isX {X : Cx} : CallR X (.builtin "isinstance") (rIsX X.K) := by
  intro pins s σ H xs us Q I r h
  obtain ⟨a, C, fs, c, cv, b, rfl, hE, T, k, e, q⟩ := h
  obtain ⟨u1, u2, rfl, r1, r2⟩ := vals2 r
  cases (show u1 = Value.ref a from r1)
  have e2 := k.eq r2
  subst e2
  obtain ⟨ox, od, J⟩ := hE.inst I
  exact PySem.W.kia_one (PySem.W.kitx_exc T.clsv T.e.hg T.e.hk T.e.hs T.e.ha T.e.hn T.e.ht T.e.hm) I.kIn J e (fun z => nomatch z) fun tk => ⟨.bl b, H, I.tok tk, rfl, q⟩
/-- e.f of such -/
def tXfV (K : PySem.W.Frag) (f : Str) (te : TE) : TE := fun σ H Q => te σ H fun x H1 => ∃ (a C dx : Addr) (fs : List (Str × V)) (v : V), x = .ref a ∧ H1 a = some (exo a C (some dx)) ∧ H1 dx = some (exd dx fs) ∧ ExK K C ∧ PySem.W.findIn K (.ref C) f = some none ∧ fs.lookup f = some v ∧ Q v H1
theorem pe_xfV {X : Cx} {e : Expr} {te : TE} {pos : Pos} {n : Str} (he : PE X e te) (hb : attributeBase e n X.env (eval e X.env) = eval e X.env := by rfl) :
    PE X (.Attribute e n pos) (tXfV X.K n te) := by
  refine ⟨fun pins s σ H Q I h => ?_⟩
  refine attr_of hb (thn (he.run pins s σ H _ I h) fun u s1 hh => ?_)
  obtain ⟨x, H1, I1, rx, a, C, dx, fs, v, rfl, ea, ed, T, hno, l, q⟩ := hh
  obtain rfl : u = Value.ref a := rx
  obtain ⟨t1, ho⟩ := exo_at I1.hok ea
  obtain ⟨mA, hns, hr⟩ := exd_at I1.hok ed
  obtain ⟨od, hod, hl⟩ := lookIn_ns hns
  obtain ⟨u, hu, ru⟩ := RelO.some_of (v := v) (o := mA n) (by rw [← l]; exact hr n)
  have J : PySem.W.InstAt s1.heap a _ C (some od) := ⟨ho, rfl, rfl, hod⟩
  exact HandSPX.exc_get I1.kIn J T.x.ga T.x.gg T.x.exC (PySem.W.findObj_own T.x.hdC hno rfl (by rw [hl, hu])) (handed_of ru) ⟨v, H1, I1.tok _, ru, q⟩
end XV
/-! a head by facts: He.hookD and one more Bool of the written part -/
namespace KH
open PySem PySem.Spec PyProof.Rows L2
abbrev Al : Type := He.AlD × Bool
def obs (n : Nat) (fa : List He.Fa) (fn : List He.DefD) (ex : PySem.W.Frag → Bool) (g : Addr → Option Obj) : Al := (He.obsD fa fn (He.frG g (He.asD g n)), ex (He.frG g (He.asD g n)))
def hook (n : Nat) (fa : List He.Fa) (fn : List He.DefD) (ex : PySem.W.Frag → Bool) : PySem.W.Hook where
  α := Al
  obs := fun s => obs n fa fn ex s.heap.get?
  val := fun _ => (He.valD fn, true)
  says := fun _ h => ∃ K : PySem.W.Frag, K.In h ∧ He.SaysD fa fn K ∧ ex K = true
  of := fun _ _ e => ⟨_, He.frG_in, congrArg (fun z : Al => z.1) e, congrArg (fun z : Al => z.2) e⟩
  keeps := fun _ _ _ ⟨K, hK, c, d⟩ k => ⟨K, PySem.W.Frag.In.keeps hK k, c, d⟩
theorem obs_eq {n : Nat} {fa : List He.Fa} {fn : List He.DefD} {ex : PySem.W.Frag → Bool} {g : Addr → Option Obj} {s : Shared} (h : ∀ a, g a = s.heap.get? a) : obs n fa fn ex g = (hook n fa fn ex).obs s := by
  have e : g = s.heap.get? := funext h
  rw [e] <;> rfl
/-- the def at a place of the text, as a datum -/
def dat (at_ : Str × Option Str) (qual : Str) (st : Stmt) (dfl : List He.Dv := []) : He.DefD := ⟨at_, (match at_.2 with | none => at_.1 | some m => m), qual, defArgs st, defBody st, defScope st, dfl, []⟩
end KH
/-! calls by contract, and readings that keep one base heap -/
namespace LX
open PySem PySem.Spec PyProof.Rows L2 Evl
/-! ### a def by its name -/
structure OkF (P : Program) (w : World) (K : PySem.W.Frag) (mg : Str → Option Value) (base : Heap) (k : Nat) (x : Str) (ps : List Str) (sp : Sp) : Prop where
  ex : ∃ (f : Addr) (fd : FuncData), mg x = some (.ref f) ∧ PySem.W.keepIn K (.ref f) = true ∧ FnOk P w K mg base CX0 k f fd ps sp ∧ Binds K fd ps []
theorem pe_f {X : Cx} {x : Str} {e : Expr} {es : List Expr} {p pos : Pos} {k j : Nat} {ps : List Str} {sp : Sp} {t : TA} (O : OkF X.prog X.w X.K X.mg X.base k x ps sp) (hr : Room j X.A) (hj : k ≤ j) (ha : PA X (e :: es) t) (hg : Gl X x := by rfl)
    (hdb : (x == ("__debug__" : Str)) = false := by decide) (he : starEach (e :: es) X.env = (false, eval e X.env) :: starEach es X.env := by rfl) (hpl : (backTo pos (starEach es X.env)).any (·.1) = false := by rfl) :
    PE X (.Call (.Name x p) (e :: es) [] pos) (tCall sp [] E0 t) := by
  obtain ⟨f, fd, gm, kp, F, b⟩ := O.ex
  exact pe_call F (hr.mono hj) hg gm kp b .nil pass0 ha hdb he hpl
/-- from a def of the text -/
theorem fun_of {K : PySem.W.Frag} {x qual : Str} {st : Stmt} {f : Addr} {fd : FuncData} (F : FunD K x qual (defArgs st) (defBody st) (defScope st) [] [] f fd) : Fun K x qual st f fd := by
  obtain ⟨⟨oc, od, dV, kV, doc, pm, an, cdv, ct, osl, rfl, lk, hcd, hD, _⟩, kp⟩ := F
  rcases hD with ⟨_, rfl⟩ | ⟨e, _⟩
  · exact ⟨⟨oc, od, kV, doc, pm, an, cdv, ct, osl, rfl, lk, hcd⟩, kp⟩
  · exact absurd rfl e

/-! ### readings over one base heap -/
/-- whatever stands besides H -/
def Sg (ts : TS) (D : Ends) (σ : L2.St) (H : Hp) : Prop := ∀ H1, Ex H H1 → ts D σ H1
section
variable {K : PySem.W.Frag} {σ : L2.St} {H H' : Hp} {ta tb te tx : TE} {t u : TT} {x y z v : V} {r : R2} {D : Ends} {tu tw tz : TS} {g : TG}
theorem Sg.mono (e : Ex H H') (h : Sg tu D σ H) : Sg tu D σ H' := fun H1 a => h H1 (e.trans a)
theorem g_asg {i : Nat} (h : Ev te σ H v) (k : Sg tz D (σ.set i (some v)) H) : Sg (tSeq (tAsg te (gName i)) tz) D σ H := fun H1 e => q_asg (h.mono e) fun H2 e2 => k H2 (e.trans e2)
theorem g_asgL {i : Nat} {xs : List V} (h : EvL te σ H xs) (k : ∀ p H1, H p = none → Ex H H1 → H1 p = some (.lst xs) → Sg tz D (σ.set i (some (.ref p))) H1) : Sg (tSeq (tAsg te (gName i)) tz) D σ H :=
  fun H1 e => q_asgL (h.mono e) fun p H2 hp e2 h2 => k p H2 (fresh_back e hp) (e.trans e2) h2 H2 (Ex.refl H2)
theorem EvU.mono {xs : List V} (e : Ex H H') (h : EvU te σ H xs) : EvU te σ H' xs := fun H1 a Q q => h H1 (e.trans a) Q q
theorem g_asgU {i : Nat} {xs : List V} (h : EvU te σ H xs) (k : ∀ p H1, H p = none → Ex H H1 → H1 p = some (.tup xs) → Sg tz D (σ.set i (some (.ref p))) H1) : Sg (tSeq (tAsg te (gName i)) tz) D σ H :=
  fun H1 e => q_asgU (EvU.mono e h) fun p H2 hp e2 h2 => k p H2 (fresh_back e hp) (e.trans e2) h2 H2 (Ex.refl H2)
theorem g_ret (h : Ev te σ H v) (k : ∀ H1, Ex H H1 → D.rt v H1) : Sg (tRet te) D σ H := fun H1 e => s_ret (h.mono e) fun H2 e2 => k H2 (e.trans e2)
theorem g_retL {xs : List V} (h : EvL te σ H xs) (k : ∀ p H1, H p = none → Ex H H1 → H1 p = some (.lst xs) → D.rt (.ref p) H1) : Sg (tRet te) D σ H := fun H1 e => s_retL (h.mono e) fun p H2 hp e2 h2 => k p H2 (fresh_back e hp) (e.trans e2) h2
theorem g_retU {xs : List V} (h : EvU te σ H xs) (k : ∀ p H1, H p = none → Ex H H1 → H1 p = some (.tup xs) → D.rt (.ref p) H1) : Sg (tRet te) D σ H := fun H1 e => s_retU (EvU.mono e h) fun p H2 hp e2 h2 => k p H2 (fresh_back e hp) (e.trans e2) h2
theorem g_if {b : Bool} (h : EvT t σ H b) (h1 : b = true → Sg tu { D with nx := tz D } σ H) (h2 : b = false → Sg tw { D with nx := tz D } σ H) : Sg (tSeq (tIfS t tu tw) tz) D σ H := fun H1 e =>
  q_if (h.mono e) (fun hb H2 e2 => h1 hb H2 (e.trans e2)) fun hb H2 e2 => h2 hb H2 (e.trans e2)
/-- an if without else -/
theorem g_when {b : Bool} (h : EvT t σ H b) (h1 : b = true → Sg tu { D with nx := tz D } σ H) (h2 : b = false → Sg tz D σ H) : Sg (tSeq (tIfS t tu tNext) tz) D σ H := fun H1 e =>
  q_when (h.mono e) (fun hb H2 e2 => h1 hb H2 (e.trans e2)) fun hb H2 e2 => h2 hb H2 (e.trans e2)
/-- the last statement of a block -/
theorem g1_asg {i : Nat} (h : Ev te σ H v) (k : ∀ H1, Ex H H1 → D.nx (σ.set i (some v)) H1) : Sg (tAsg te (gName i)) D σ H := fun H1 e => s_asg (h.mono e) fun H2 e2 => k H2 (e.trans e2)
theorem g1_if {b : Bool} (h : EvT t σ H b) (h1 : b = true → Sg tu D σ H) (h2 : b = false → Sg tw D σ H) : Sg (tIfS t tu tw) D σ H := fun H1 e => s_if (h.mono e) (fun hb H2 e2 => h1 hb H2 (e.trans e2)) fun hb H2 e2 => h2 hb H2 (e.trans e2)
theorem g1_when {b : Bool} (h : EvT t σ H b) (h1 : b = true → Sg tu D σ H) (h2 : b = false → ∀ H1, Ex H H1 → D.nx σ H1) : Sg (tIfS t tu tNext) D σ H := fun H1 e => s_when (h.mono e) (fun hb H2 e2 => h1 hb H2 (e.trans e2)) fun hb H2 e2 => h2 hb H2 (e.trans e2)
theorem g_nil (k : ∀ H1, Ex H H1 → D.nx σ H1) : Sg tNext D σ H := k
/-- xs.append(e) where H knows nothing of xs: H0 the base, H the heap now -/
theorem g_drop (h : Ev te σ H v) (k : Sg tz D σ H) : Sg (tSeq (tDrop te) tz) D σ H := fun H1 e => q_drop (h.mono e) fun H2 e2 => k H2 (e.trans e2)

/-! ### evaluation -/
theorem ev_int {i : Int} (h : Ev te σ H (.int i)) : Ev (tCB (fun xs H Q => (∃ i, xs = [.int i] ∧ Q (.int i) H) ∨ ∃ k, xs = [.bl k] ∧ Q (.int (if k then 1 else 0)) H) (tCons te tNil)) σ H (.int i) :=
  ev_cb (ea_cons h ea_nil) fun H1 _ Q q => .inl ⟨i, rfl, q H1 (Ex.refl H1)⟩
theorem ev_isi {c : V} {tt uu : Value} {b : Bool} (h : Ev te σ H x) (hc : ClsV c uu) (ht : ∀ H1, Ex H H1 → TyX K H1 x tt) (hk : PySem.W.kitOne K tt uu = some b) : Ev (tCB (rIsi K) (tCons te (tCons (tC c) tNil))) σ H (.bl b) :=
  ev_cb (ea_cons h (ea_cons ev_c ea_nil)) fun H1 e Q q => ⟨x, c, tt, uu, b, rfl, hc, ht H1 e, hk, q H1 (Ex.refl H1)⟩
theorem ev_isi_int {i : Int} {n : String} {b : Bool} (h : Ev te σ H (.int i)) (hk : kitB "int" n = some b) : Ev (tCB (rIsi K) (tCons te (tCons (tC (.ty n)) tNil))) σ H (.bl b) :=
  ev_isi h (.ty n) (fun _ _ => .base (.int i)) (kit_ty hk)
theorem ev_isi_str {i : Str} {n : String} {b : Bool} (h : Ev te σ H (.str i)) (hk : kitB "str" n = some b) : Ev (tCB (rIsi K) (tCons te (tCons (tC (.ty n)) tNil))) σ H (.bl b) :=
  ev_isi h (.ty n) (fun _ _ => .base (.str i)) (kit_ty hk)
theorem ev_isi_tup {a : Addr} {xs : List V} {n : String} {b : Bool} (h : Ev te σ H (.ref a)) (ha : H a = some (.tup xs)) (hk : kitB "tuple" n = some b) : Ev (tCB (rIsi K) (tCons te (tCons (tC (.ty n)) tNil))) σ H (.bl b) :=
  ev_isi h (.ty n) (fun H1 e => .base (.tup (e _ _ ha))) (kit_ty hk)
theorem ev_isi_lst {a : Addr} {xs : List V} {n : String} {b : Bool} (h : Ev te σ H (.ref a)) (ha : H a = some (.lst xs)) (hk : kitB "list" n = some b) : Ev (tCB (rIsi K) (tCons te (tCons (tC (.ty n)) tNil))) σ H (.bl b) :=
  ev_isi h (.ty n) (fun H1 e => .base (.lst (e _ _ ha))) (kit_ty hk)
end
section
variable {H : Hp} {i j : Int}
theorem rv_mulR (h : -(2 ^ 64) < j ∧ j < 2 ^ 64) : RV (rI CMul fun i j => .int (i * j)) (.int i) (.int j) H (.int (i * j)) := rv_I (Or.inr h)
theorem rv_mulL (h : -(2 ^ 64) < i ∧ i < 2 ^ 64) : RV (rI CMul fun i j => .int (i * j)) (.int i) (.int j) H (.int (i * j)) := rv_I (Or.inl h)
theorem rv_mod (h : 0 < j) : RV (rI (fun _ j => 0 < j) fun i j => .int (i % j)) (.int i) (.int j) H (.int (i % j)) := rv_I h
theorem rv_div (h : 0 < j ∧ j < 1073741824) : RV (rI CDiv fun i j => .int (i / j)) (.int i) (.int j) H (.int (i / j)) := rv_I h
theorem rv_pow (h : 0 ≤ j ∧ j ≤ 1000000 ∧ i.natAbs < 2 ^ 64) : RV (rI CPow fun i j => .int (i ^ j.toNat)) (.int i) (.int j) H (.int (i ^ j.toNat)) := rv_I h
end
/-! ### the text's facts -/
structure Tx (gloN freeN : List Str) (fnD : List He.DefD) (ex : PySem.W.Frag → Bool) (K : PySem.W.Frag) (mg : Str → Option Value) : Prop where
  g : ∀ x ∈ gloN, mg x = some (.ref (He.ga K x))
  n : ∀ x ∈ freeN, mg x = none
  d : ∀ d ∈ fnD, ∃ fd, FunD K d.name d.qual d.params d.body d.scope (d.dvs K) (d.kws K) (He.fAd K d.at_) fd
  x : ex K = true
theorem Tx.fn {gloN freeN : List Str} {fnD : List He.DefD} {ex : PySem.W.Frag → Bool} {K : PySem.W.Frag} {mg : Str → Option Value} (T : Tx gloN freeN fnD ex K mg) (i : Nat) {x : Str} {st : Stmt} (h : fnD[i]? = some (KH.dat (x, none) x st)) : ∃ fd, Fun K x x st (He.ga K x) fd := by
  obtain ⟨fd, F⟩ := T.d _ (List.mem_of_getElem? h)
  exact ⟨fd, fun_of F⟩
theorem Tx.okF {gloN freeN : List Str} {fnD : List He.DefD} {ex : PySem.W.Frag → Bool} {K : PySem.W.Frag} {mg : Str → Option Value} {P : Program} {w : World} {base : Heap} {k : Nat} {ps : List Str} {sp : Sp} (T : Tx gloN freeN fnD ex K mg) (i : Nat) {x : Str} {st : Stmt}
    (h : fnD[i]? = some (KH.dat (x, none) x st)) (hx : x ∈ gloN) (hF : ∀ f fd, Fun K x x st f fd → FnOk P w K mg base CX0 k f fd ps sp)
    (hb : ∀ (kV doc pm : Value) (an : Option Addr) (cdv ct : Value) (us : List Value), us.length = ps.length → bindArgs (PySem.W.fnOf x x (defArgs st) (defBody st) (defScope st) .none kV doc pm an cdv ct) ⟨us, []⟩ = pure (ps.zip us)) : OkF P w K mg base k x ps sp := by
  obtain ⟨fd, F⟩ := T.fn i h
  exact ⟨_, fd, T.g x hx, F.kp, hF _ fd F, F.binds hb⟩
theorem Tx.of {n : Nat} {gloN freeN : List Str} {fnD : List He.DefD} {ex : PySem.W.Frag → Bool} {K : PySem.W.Frag} {h : Heap} {mg : Str → Option Value} (X : K.In h) (G : h.Ns mainGlobals mg) (c : He.SaysD (gloN.map He.Fa.glo ++ freeN.map He.Fa.free) fnD K) (cx : ex K = true) : Tx gloN freeN fnD ex K mg where
  g := fun x hx => He.glo_ok X G (c.facts (List.mem_append_left _ (List.mem_map_of_mem hx)))
  n := fun x hx => He.free_ok X G (c.facts (List.mem_append_right _ (List.mem_map_of_mem hx)))
  d := fun d hd => c.defs hd
  x := cx
/-! ### rules whose reading names the written part by a letter -/
section
variable {X : Cx} {K : PySem.W.Frag}
theorem k_ixl (h : X.K = K := by rfl) : IxR X (rIxL K) := by subst h; exact ix_list
theorem k_ixt (h : X.K = K := by rfl) : IxR X (rIxT K) := by subst h; exact ix_tup
theorem k_len (h : X.K = K := by rfl) : CallR X (.builtin "len") (rLenS K) := by subst h; exact call_len_seq
theorem k_isi (h : X.K = K := by rfl) : CallR X (.builtin "isinstance") (rIsi K) := by subst h; exact call_isi
theorem k_isX (h : X.K = K := by rfl) : CallR X (.builtin "isinstance") (XV.rIsX K) := by subst h; exact XV.call_isX
def rTupOf (K : PySem.W.Frag) : List V → Hp → VK → Prop := fun xs H Q => ∃ p ys, xs = [.ref p] ∧ ((SqL K H p ys ∧ ∀ l, H l = none → Q (.ref l) (upd H l (.tup ys))) ∨ (SqT K H p ys ∧ Q (.ref p) H))
theorem k_tupOf (h : X.K = K := by rfl) : CallR X (.type "tuple") (rTupOf K) := by subst h; exact call_tuple_of
theorem k_listOf (h : X.K = K := by rfl) : CallR X (.type "list") (rListS K) := by subst h; exact call_list_of
theorem k_in (h : X.K = K := by rfl) : OpR X (compareOp .In) (rIn K false) := by subst h; exact op_in_seq
theorem k_notIn (h : X.K = K := by rfl) : OpR X (compareOp .NotIn) (rIn K true) := by subst h; exact op_notIn_seq
theorem k_eqD (hu : X.A.units + 64 < cLine) (h : X.K = K := by rfl) : OpR X (compareOp .Eq) (rEqD K) := by subst h; exact op_eqD hu
theorem k_neD (hu : X.A.units + 64 < cLine) (h : X.K = K := by rfl) : OpR X (compareOp .NotEq) (rNeD K) := by subst h; exact op_neD hu
theorem k_catA (h : X.K = K := by rfl) : OpR X (binaryOp .Add) (rCatA K) := by subst h; exact op_catA
theorem k_sll (h : X.K = K := by rfl) : SlR X (rSlL K) := by subst h; exact sl_list
end
end LX
/-! own exceptions as values, over the readings -/
namespace LX
open PySem PySem.Spec PyProof.Rows L2 Evl XV
/-- a class with its own __init__ -/
structure OkC (P : Program) (w : World) (K : PySem.W.Frag) (mg : Str → Option Value) (base : Heap) (k : Nat) (x : Str) (ps : List Str) (sp : Sp) : Prop where
  g : mg x = some (.ref (He.ga K x))
  o : OexC K (He.ga K x)
  ex : ∃ (fI : Addr) (fd : FuncData), PySem.W.findIn K (.ref (He.ga K x)) "__init__" = some (some (.ref fI)) ∧ PySem.W.typeIn K (.ref fI) = some (.type "function") ∧ FnOk P w K mg base CX0 k fI fd ps sp ∧ Binds K fd ps []
theorem pe_c {X : Cx} {x : Str} {e : Expr} {es : List Expr} {p pos : Pos} {k j : Nat} {ps : List Str} {sp : Sp} {t : TA} (O : OkC X.prog X.w X.K X.mg X.base k x ps sp) (hr : Room j X.A) (hj : k + 1 ≤ j) (ha : PA X (e :: es) t) (hg : Gl X x := by rfl)
    (hdb : (x == ("__debug__" : Str)) = false := by decide) (he : starEach (e :: es) X.env = (false, eval e X.env) :: starEach es X.env := by rfl) (hpl : (backTo pos (starEach es X.env)).any (·.1) = false := by rfl) :
    PE X (.Call (.Name x p) (e :: es) [] pos) (tMkV (He.ga X.K x) sp t) := by
  obtain ⟨fI, fd, iC, tI, F, b⟩ := O.ex
  exact pe_oex O.o iC tI F (hr.mono hj) b pass0 hg O.g ha hdb he hpl
/-- a class without one -/
structure OkC0 (K : PySem.W.Frag) (mg : Str → Option Value) (x : Str) : Prop where
  g : mg x = some (.ref (He.ga K x))
  o : OexC K (He.ga K x)
  q : PySem.W.excIn K (He.ga K x) veB "ValueError.__new__" = true
def tMk0 (C : Addr) : TE := fun _ H Q => ∀ a, H a = none → Q (.ref a) (upd H a (exo a C none))
theorem pe_c0 {X : Cx} {x : Str} {p pos : Pos} (O : OkC0 X.K X.mg x) (hg : Gl X x := by rfl) (hdb : (x == ("__debug__" : Str)) = false := by decide) :
    PE X (.Call (.Name x p) [] [] pos) (tMk0 (He.ga X.K x)) := pe_ex0 O.o O.q hg O.g hdb
section
variable {K : PySem.W.Frag} {σ : L2.St} {H H' : Hp} {te : TE} {ta : TA} {D : Ends} {C a : Addr} {fs : List (Str × V)}
/-- a new exception -/
def EvX (te : TE) (σ : L2.St) (H : Hp) (C : Addr) (fs : List (Str × V)) : Prop := ∀ H1, Ex H H1 → ∀ Q : VK, (∀ p H2, H1 p = none → Ex H1 H2 → ExAt H2 p C fs → Q (.ref p) H2) → te σ H1 Q
theorem EvX.mono (e : Ex H H') (h : EvX te σ H C fs) : EvX te σ H' C fs := fun H1 a Q q => h H1 (e.trans a) Q q
theorem ev_mk0 : EvX (tMk0 C) σ H C [] := fun H1 _ Q q a ha => q a _ ha (Ex.new ha) (.inl ⟨rfl, upd_same⟩)
/-- what __init__ does of one field f -/
def spInit (K : PySem.W.Frag) (C : Addr) (f : Str) (ok : V → Hp → Prop) : Sp := fun vs H Q _ => ∃ (a : Addr) (y : V), vs = [.ref a, y] ∧ ok y H ∧ H a = some (exo a C none) ∧
  ∀ dx, H dx = none → dx ≠ a → Q .non (upd (upd H dx (exd dx [(f, y)])) a (exo a C (some dx)))
theorem ev_mkV {f : Str} {y : V} {ok : V → Hp → Prop} (h : EvA ta σ H [y]) (hy : ∀ H1, Ex H H1 → ok y H1) : EvX (tMkV C (spInit K C f ok) ta) σ H C [(f, y)] := fun H1 e1 Q q =>
  h H1 e1 _ fun H2 e2 => ⟨by show 1 ≤ 1000; decide, fun a ha => ⟨a, y, rfl, hy _ ((e1.trans e2).trans (Ex.new ha)), upd_same, fun dx hdx hne => ⟨rfl, by
    have hdx2 : H2 dx = none := by rw [upd_ne hne] at hdx; exact hdx
    refine q a _ (fresh_back e2 ha) (e2.trans ?_) (.inr ⟨dx, upd_same, ?_⟩)
    · intro b o hb
      have hba : b ≠ a := ne_of_none hb ha
      have hbd : b ≠ dx := ne_of_none hb hdx2
      rw [upd_ne hba, upd_ne hbd, upd_ne hba]
      exact hb
    · rw [upd_ne hne, upd_same]⟩⟩⟩
theorem g_retX (h : EvX te σ H C fs) (k : ∀ p H1, H p = none → Ex H H1 → ExAt H1 p C fs → D.rt (.ref p) H1) : Sg (tRet te) D σ H := fun H1 e => h H1 e _ fun p H2 hp e2 hx => k p H2 (fresh_back e hp) (e.trans e2) hx
theorem ev_isX {c : V} {cv : Value} {b : Bool} (h : Ev te σ H (.ref a)) (hE : ExAt H a C fs) (T : ExK K C) (hc : ClsV c cv) (hk : PySem.W.kitOne K (.ref C) cv = some b) : Ev (tCB (rIsX K) (tCons te (tCons (tC c) tNil))) σ H (.bl b) :=
  ev_cb (ea_cons h (ea_cons ev_c ea_nil)) fun H1 e Q q => ⟨a, C, fs, c, cv, b, rfl, ExAt.same e hE, T, hc, hk, q H1 (Ex.refl H1)⟩
theorem ev_fld {f : Str} {v : V} {dx : Addr} (h : Ev te σ H (.ref a)) (h1 : H a = some (exo a C (some dx))) (h2 : H dx = some (exd dx fs)) (T : ExK K C) (hno : PySem.W.findIn K (.ref C) f = some none) (hl : fs.lookup f = some v) : Ev (tXfV K f te) σ H v := fun H1 e Q q =>
  h H1 e _ fun H2 e2 => ⟨a, C, dx, fs, v, rfl, (e.trans e2) _ _ h1, (e.trans e2) _ _ h2, T, hno, hl, q H2 e2⟩
end
theorem Tx.okC {gloN freeN : List Str} {fnD : List He.DefD} {ex : PySem.W.Frag → Bool} {K : PySem.W.Frag} {mg : Str → Option Value} {P : Program} {w : World} {base : Heap} {k : Nat} {ps : List Str} {sp : Sp} (T : Tx gloN freeN fnD ex K mg) (i : Nat) {x q : Str} {st : Stmt}
    (h : fnD[i]? = some (KH.dat (x, some "__init__") q st)) (o : mg x = some (.ref (He.ga K x)) ∧ OexC K (He.ga K x)) (hi : PySem.W.findIn K (.ref (He.ga K x)) "__init__" = some (some (.ref (He.ma K (He.ga K x) "__init__"))) ∧ PySem.W.typeIn K (.ref (He.ma K (He.ga K x) "__init__")) = some (.type "function"))
    (hF : ∀ f fd, Fun K "__init__" q st f fd → FnOk P w K mg base CX0 k f fd ps sp)
    (hb : ∀ (kV doc pm : Value) (an : Option Addr) (cdv ct : Value) (us : List Value), us.length = ps.length → bindArgs (PySem.W.fnOf "__init__" q (defArgs st) (defBody st) (defScope st) .none kV doc pm an cdv ct) ⟨us, []⟩ = pure (ps.zip us)) : OkC P w K mg base k x ps sp := by
  obtain ⟨fd, F⟩ := T.d _ (List.mem_of_getElem? h)
  have F2 : Fun K "__init__" q st (He.ma K (He.ga K x) "__init__") fd := fun_of F
  exact ⟨o.1, o.2, _, fd, hi.1, hi.2, hF _ fd F2, F2.binds hb⟩
section
variable {K : PySem.W.Frag} {σ : L2.St} {H H' : Hp} {ta tb te : TE} {x y z v : V}
theorem el_cat {l : Addr} {xs ys : List V} (ha : Ev ta σ H (.ref l)) (hl : H l = some (.lst xs)) (hb : EvL tb σ H ys) (hz : xs.length + ys.length ≤ 100000) : EvL (tOp rCat ta tb) σ H (xs ++ ys) := fun H1 e Q q =>
  ha H1 e _ fun H2 e2 => hb H2 (e.trans e2) _ fun b H3 hb0 e3 hb3 => ⟨l, b, xs, ys, rfl, rfl, ((e.trans e2).trans e3) _ _ hl, hb3, sz_of hz, fun p hp => q p _ (fresh_back (e2.trans e3) hp) ((e2.trans e3).trans (Ex.new hp)) upd_same⟩
theorem el_catN {xs ys : List V} (ha : EvL ta σ H xs) (hb : EvL tb σ H ys) (hz : xs.length + ys.length ≤ 100000) : EvL (tOp rCat ta tb) σ H (xs ++ ys) := fun H1 e Q q =>
  ha H1 e _ fun l H2 hl0 e2 hl => hb H2 (e.trans e2) _ fun b H3 hb0 e3 hb3 => ⟨l, b, xs, ys, rfl, rfl, e3 _ _ hl, hb3, sz_of hz, fun p hp => q p _ (fresh_back (e2.trans e3) hp) ((e2.trans e3).trans (Ex.new hp)) upd_same⟩
theorem dp_ints {K : PySem.W.Frag} {H : Hp} : ∀ ns : List Int, DpAll K H (ns.map V.int) (ns.map PyData.int)
  | [] => .nil
  | n :: r => .cons (.int n) (dp_ints r)
theorem ints_lay (ns : List Int) : PyData.canLayAll0 (ns.map PyData.int) = true := by
  induction ns with
  | nil => rfl
  | cons n r ih =>
    show (PyData.canLay0 (.int n) && PyData.canLayAll0 (r.map PyData.int)) = true
    rw [ih]
    rfl
theorem ints_depth (ns : List Int) : PyData.depthAll (ns.map PyData.int) = 0 := by
  induction ns with
  | nil => rfl
  | cons n r ih =>
    show max (PyData.depth (.int n)) (PyData.depthAll (r.map PyData.int)) = 0
    rw [ih]
    rfl
theorem shaped_ints (ns : List Int) : SeqAt.shaped (.list (ns.map PyData.int)) = true := by
  show (PyData.canLayAll0 (ns.map PyData.int) && decide (PyData.depthAll (ns.map PyData.int) + 1 ≤ 64)) = true
  rw [ints_lay, ints_depth]
  rfl
theorem shaped_intsT (ns : List Int) : SeqAt.shaped (.tuple (ns.map PyData.int)) = true := shaped_ints ns
theorem eqv_ints : ∀ ns ms : List Int, PyData.eqvAll (ns.map PyData.int) (ms.map PyData.int) = decide (ns = ms)
  | [], [] => rfl
  | n :: r, [] => rfl
  | [], m :: t => rfl
  | n :: r, m :: t => by
    have e : PyData.eqvAll ((n :: r).map PyData.int) ((m :: t).map PyData.int) = ((n == m) && PyData.eqvAll (r.map PyData.int) (t.map PyData.int)) := rfl
    rw [e, eqv_ints r t]
    by_cases h : n = m
    · by_cases h2 : r = t
      · simp [h, h2]
      · simp [h, h2]
    · simp [h]
end
end LX
/-! more of evaluation: values told by a property, new tuples, calls whose arguments are new objects -/
namespace LX
open PySem PySem.Spec PyProof.Rows L2 Evl XV
section
variable {K : PySem.W.Frag} {σ : L2.St} {H H' : Hp} {ta tb te : TE} {t : TT} {tr : TA} {x y z v : V} {D : Ends} {tz : TS}
/-- a value with a property -/
def EvP (te : TE) (σ : L2.St) (H : Hp) (P : V → Prop) : Prop := ∀ H1, Ex H H1 → ∀ Q : VK, (∀ z H2, Ex H1 H2 → P z → Q z H2) → te σ H1 Q
theorem EvP.mono {P : V → Prop} (e : Ex H H') (h : EvP te σ H P) : EvP te σ H' P := fun H1 a Q q => h H1 (e.trans a) Q q
theorem Ev.p {P : V → Prop} (h : Ev te σ H v) (hp : P v) : EvP te σ H P := fun H1 e Q q => h H1 e Q fun H2 e2 => q v H2 e2 hp
def spP (D : List V → Hp → (V → Prop) → Prop) : Sp := fun vs H Q _ => ∃ Pz, D vs H Pz ∧ ∀ z H', Ex H H' → Pz z → Q z H'
theorem g_asgP {i : Nat} {P : V → Prop} (h : EvP te σ H P) (k : ∀ z, P z → Sg tz D (σ.set i (some z)) H) : Sg (tSeq (tAsg te (gName i)) tz) D σ H := fun H1 e => h H1 e _ fun z H2 e2 hz => k z hz H2 (e.trans e2)
theorem g_asgX {i : Nat} {C : Addr} {fs : List (Str × V)} (h : EvX te σ H C fs) (k : ∀ p H1, H p = none → Ex H H1 → ExAt H1 p C fs → Sg tz D (σ.set i (some (.ref p))) H1) : Sg (tSeq (tAsg te (gName i)) tz) D σ H :=
  fun H1 e => h H1 e _ fun p H2 hp e2 hx => k p H2 (fresh_back e hp) (e.trans e2) hx H2 (Ex.refl H2)
theorem g_retP {P : V → Prop} (h : EvP te σ H P) (k : ∀ z H1, Ex H H1 → P z → D.rt z H1) : Sg (tRet te) D σ H := fun H1 e => h H1 e _ fun z H2 e2 hz => k z H2 (e.trans e2) hz
/-- arguments some of which are new objects -/
def EvAP (ta : TA) (σ : L2.St) (H : Hp) (P : List V → Hp → Prop) : Prop := ∀ H1, Ex H H1 → ∀ Q : List V → Hp → Prop, (∀ vs H2, Ex H1 H2 → P vs H2 → Q vs H2) → ta σ H1 Q
theorem eap_nil : EvAP tNil σ H fun vs _ => vs = [] := fun H1 _ Q q => q [] H1 (Ex.refl H1) rfl
theorem eap_cons {P : List V → Hp → Prop} (h : Ev te σ H v) (hr : EvAP tr σ H P) : EvAP (tCons te tr) σ H fun vs H2 => ∃ r, vs = v :: r ∧ P r H2 := fun H1 e Q q =>
  h H1 e _ fun H2 e2 => hr H2 (e.trans e2) _ fun r H3 e3 hP => q _ H3 (e2.trans e3) ⟨r, rfl, hP⟩
theorem eap_consU {P : List V → Hp → Prop} {xs : List V} (h : EvU te σ H xs) (hr : EvAP tr σ H P) : EvAP (tCons te tr) σ H fun vs H2 => ∃ p r, vs = .ref p :: r ∧ H2 p = some (.tup xs) ∧ P r H2 := fun H1 e Q q =>
  h H1 e _ fun p H2 _ e2 hp => hr H2 (e.trans e2) _ fun r H3 e3 hP => q _ H3 (e2.trans e3) ⟨p, r, rfl, e3 _ _ hp, hP⟩
theorem eap_consL {P : List V → Hp → Prop} {xs : List V} (h : EvL te σ H xs) (hr : EvAP tr σ H P) : EvAP (tCons te tr) σ H fun vs H2 => ∃ p r, vs = .ref p :: r ∧ H2 p = some (.lst xs) ∧ P r H2 := fun H1 e Q q =>
  h H1 e _ fun p H2 _ e2 hp => hr H2 (e.trans e2) _ fun r H3 e3 hP => q _ H3 (e2.trans e3) ⟨p, r, rfl, e3 _ _ hp, hP⟩
theorem el_callP {sp : Sp} {E : XK} {ta : TA} {P : List V → Hp → Prop} {xs : List V} (h : EvAP ta σ H P) (hs : ∀ vs H1, Ex H H1 → P vs H1 → SpL sp vs H1 xs) : EvL (tCall sp [] E ta) σ H xs := fun H1 e Q q =>
  h H1 e _ fun vs H2 e2 hP => by
    show sp (vs ++ []) H2 Q E
    rw [List.append_nil]
    exact hs vs H2 (e.trans e2) hP H2 (Ex.refl H2) Q (fun p H3 hp e3 h3 => q p H3 (fresh_back e2 hp) (e2.trans e3) h3) E
theorem ev_callP {sp : Sp} {E : XK} {ta : TA} {P : List V → Hp → Prop} (h : EvAP ta σ H P) (hs : ∀ vs H1, Ex H H1 → P vs H1 → SpV sp vs H1 z) : Ev (tCall sp [] E ta) σ H z := fun H1 e Q q =>
  h H1 e _ fun vs H2 e2 hP => by
    show sp (vs ++ []) H2 Q E
    rw [List.append_nil]
    exact hs vs H2 (e.trans e2) hP H2 (Ex.refl H2) Q (fun H3 e3 => q H3 (e2.trans e3)) E
theorem ep_callP {Dz : List V → Hp → (V → Prop) → Prop} {E : XK} {ta : TA} {P : List V → Hp → Prop} {Pz : V → Prop} (h : EvAP ta σ H P) (hs : ∀ vs H1, Ex H H1 → P vs H1 → Dz vs H1 Pz) : EvP (tCall (spP Dz) [] E ta) σ H Pz := fun H1 e Q q =>
  h H1 e _ fun vs H2 e2 hP => by
    show spP Dz (vs ++ []) H2 Q E
    rw [List.append_nil]
    exact ⟨Pz, hs vs H2 (e.trans e2) hP, fun z H3 e3 hz => q z H3 (e2.trans e3) hz⟩
/-! texts -/
theorem ev_lenS {s : Str} (h : Ev te σ H (.str s)) (hz : s.length ≤ 100000) : Ev (tCB (fun xs H Q => ∃ z, xs = [.str z] ∧ z.length ≤ sizeLine ∧ Q (.int z.length) H) (tCons te tNil)) σ H (.int (s.length : Int)) :=
  ev_cb (ea_cons h ea_nil) fun H1 _ Q q => ⟨s, rfl, sz_of hz, q H1 (Ex.refl H1)⟩
theorem rv_addS {i j : Str} (h : i.length + j.length ≤ 100000) : RV (fun x y H Q => ∃ i j, x = .str i ∧ y = .str j ∧ i.length + j.length ≤ sizeLine ∧ Q (.str (i ++ j)) H) (.str i) (.str j) H (.str (i ++ j)) := fun H1 _ Q q => ⟨i, j, rfl, rfl, sz_of h, q H1 (Ex.refl H1)⟩
theorem ev_join {K : PySem.W.Frag} {a : Str} {ys : List Str} (h : Ev ta σ H (.str a)) (hl : EvL te σ H (ys.map V.str)) (hz : (ys.map (·.length)).sum + ys.length * a.length ≤ 16777216) :
    Ev (tM1 (fun x xs H Q => ∃ a p, ∃ ys : List Str, x = .str a ∧ xs = [.ref p] ∧ (SqL K H p (ys.map V.str) ∨ SqT K H p (ys.map V.str)) ∧ (ys.map (·.length)).sum + ys.length * a.length ≤ 16777216 ∧ Q (.str (Txt.join a ys)) H) ta te) σ H (.str (Txt.join a ys)) := fun H1 e Q q =>
  h H1 e _ fun H2 e2 => ⟨⟨a, rfl⟩, hl H2 (e.trans e2) _ fun p H3 _ e3 hp => ⟨a, p, ys, rfl, rfl, .inl (sq_of hp), hz, q H3 (e2.trans e3)⟩⟩
/-! comprehensions -/
theorem et_yes : EvT tYes σ H true := fun H1 _ _ q => q H1 (Ex.refl H1)
theorem given_all (n : Nat) (v : Nat → V) : given n (fun _ => true) v = (List.range n).map v := by
  unfold given
  rw [List.filter_eq_self.mpr fun _ _ => rfl]
/-! tuples -/
theorem eu_tupL {xs : List V} (h : EvL te σ H xs) : EvU (tCB (rTupOf K) (tCons te tNil)) σ H xs := fun H1 e Q q =>
  h H1 e _ fun p H2 hp0 e2 hp => ⟨p, xs, rfl, .inl ⟨sq_of hp, fun l hl => q l _ (fresh_back e2 hl) (e2.trans (Ex.new hl)) upd_same⟩⟩
theorem eu_catR {a : Addr} {xs ys : List V} (h1 : Ev ta σ H (.ref a)) (h2 : EvU tb σ H ys) (ha : SqT K H a xs) (hy : ys ≠ []) (hz : xs.length + ys.length ≤ 100000) : EvU (tOp (rCatA K) ta tb) σ H (xs ++ ys) := fun H1 e Q q =>
  h1 H1 e _ fun H2 e2 => h2 H2 (e.trans e2) _ fun b H3 hb0 e3 hb => ⟨a, b, xs, ys, rfl, rfl, ex_t ((e.trans e2).trans e3) ha, st_of hb, sz_of hz,
    fun hx => by
      subst hx
      exact q b H3 (fresh_back e2 hb0) (e2.trans e3) hb, fun _ h => absurd h hy, fun _ _ p hp => q p _ (fresh_back (e2.trans e3) hp) ((e2.trans e3).trans (Ex.new hp)) upd_same⟩
theorem eu_catL {b : Addr} {xs ys : List V} (h1 : EvU ta σ H xs) (h2 : Ev tb σ H (.ref b)) (hb : SqT K H b ys) (hx : xs ≠ []) (hz : xs.length + ys.length ≤ 100000) : EvU (tOp (rCatA K) ta tb) σ H (xs ++ ys) := fun H1 e Q q =>
  h1 H1 e _ fun a H2 ha0 e2 ha => h2 H2 (e.trans e2) _ fun H3 e3 => ⟨a, b, xs, ys, rfl, rfl, st_of (e3 _ _ ha), ex_t ((e.trans e2).trans e3) hb, sz_of hz,
    fun h => absurd h hx, fun _ hy => by
      subst hy
      have hq := q a H3 ha0 (e2.trans e3) (by rw [List.append_nil]; exact e3 _ _ ha)
      exact hq, fun _ _ p hp => q p _ (fresh_back (e2.trans e3) hp) ((e2.trans e3).trans (Ex.new hp)) upd_same⟩
end
end LX
/-! comprehensions of sets and dicts whose container is told by a reading of its own -/
namespace WS
open PySem PySem.Spec PyProof.Rows L2 PpSet
/-- what adding the element y to the container at D asks, and how it goes on -/
abbrev AddR := V → Hp → Addr → (Hp → Prop) → Prop
section
variable {X : Cx}
/-- {elt for target in iter if ..}: D the new set, O0 what it is told as at first -/
def tScG (O0 : Addr → HO) (add : AddR) (wi : TI) (g : TG) (tt : TT) (te : TE) (vs : List Nat) : TE := fun σ H Q => wi σ H fun J H1 => ∀ D, H1 D = none → ∃ W : Nat → Nat → Hp → Prop, (∃ m, W 0 m (upd H1 D (O0 D))) ∧ ∀ i m H, W i m H →
  (J.stop i H ∧ Q (.ref D) H) ∨ (J.go i H ∧ ∃ Nx : Hp → Prop, (∀ H', Nx H' → ∃ m', m' < m ∧ W (i + 1) m' H') ∧ ∀ x H', J.yld i H x H' → g x (wipe σ vs) H' fun σ2 H2 => wipe σ2 vs = wipe σ vs ∧ tt σ2 H2 fun b H3 =>
    if b = true then te σ2 H3 fun y H4 => add y H4 D Nx else Nx H3)
/-- set.add keeps to add, wherever X's block stands -/
def AddOk (X : Cx) (add : AddR) : Prop := ∀ (Y : Cx), Y.prog = X.prog → Y.w = X.w → Y.K = X.K → Y.A = X.A → Y.calm = X.calm → ∀ (pins : List (Addr × Obj)) (σ : L2.St) (H : Hp) (s : Shared) (D : Addr) (y : V) (u : Value) (Nx : Hp → Prop) (E : Value → Shared → Prop),
  Inv Y pins σ H s → RelV y u → add y H D Nx → wpAny (model X.prog X.w) X.A (call (.builtin "set.add") [.ref D, u]) (fun _ s' => ∃ H', Inv Y pins σ H' s' ∧ Nx H') E s
/-- the fresh set may be told so -/
def NewOk (X : Cx) (O0 : Addr → HO) : Prop := ∀ (H : Hp) (h : Heap), ObjOk X.prog X.w H (h.push { cls := .type "set", dict := none, data := .set #[] 0 (.fresh 0 0 (!X.w.params.followText "set-order")) }) h.objs.size (O0 h.objs.size)
theorem scG_core {O0 : Addr → HO} {add : AddR} {pins : List (Addr × Obj)} {s : Shared} {σ : L2.St} {H : Hp} {Q : VK} {elt tg iter : Expr} {ifs : List Expr} {scope : Scope} {own : List (PySem.Str × Nat)} {pos pos' : Pos} {wi : TI} {g : TG} {tt : TT} {te : TE} {use : Option (Value → Sem Unit)} {Qf : Value → Shared → Prop}
    (hA : AddOk X add) (h0 : NewOk X O0) (hc : X.calm = true) (hN : X.N.Nodup) (I : Inv X pins σ H s) (hi : PI X tg iter wi) (ok : BlkOk X.N X.env.scope scope own)
    (hg : ∀ (s : Shared) (H : Hp) (C : Addr) (cl : List (PySem.Str × Addr)) (fp : List Addr), PG (X.blk s H scope (compEnvC scope cl C X.env) fp) tg g) (ht : ∀ (s : Shared) (H : Hp) (C : Addr) (cl : List (PySem.Str × Addr)) (fp : List Addr), PTs (X.blk s H scope (compEnvC scope cl C X.env) fp) ifs tt)
    (he : ∀ (s : Shared) (H : Hp) (C : Addr) (cl : List (PySem.Str × Addr)) (fp : List Addr), PE (X.blk s H scope (compEnvC scope cl C X.env) fp) elt te) (hs : ∀ x, foldedSetIterable iter X.env x = pure x)
    (h : tScG O0 add wi g tt te (own.map (·.2)) σ H Q)
    (hRR : ∀ D C s' m H', Inv X pins σ H' s' → Q (.ref D) H' → s'.heap.Ns C m → FpOk X pins H' C → compPost (model X.prog X.w) X.A X.xe use Qf (.ref D) C (.ok .next) s') :
    wpAny (model X.prog X.w) X.A (comprehension (.SetComp elt [⟨tg, iter, ifs, 0⟩] scope pos) scope X.env pos' (newSet (.type "set")) false (eval iter X.env) use) Qf X.xe s := by
  have hfree : ∀ y ∈ scope.names, y.2 = .free → ∃ c, X.env.cells.lookup y.1 = some c := fun y hy e => (ok.free y hy e).elim (fun k => I.ok.has _ (.inl k)) fun k => I.ok.has _ (.inr k)
  refine wpAny_comprehension_free (use := use) rfl hs (closure_ok hfree) ok.kind (fun y hy e => by rw [ok.uniq y hy, e])
    (thn (hi.run pins s σ H _ I h) fun xv s1 hx => thn hx fun itv s2 h2 => ?_)
  obtain ⟨it, fp, tn, J, H2, rfl, I2, T, st2, f2, q⟩ := h2
  refine newSet_ok (newEnv_comp ?_)
  have hDn : H2 s2.heap.objs.size = none := I2.hok.fresh (Nat.le_refl _)
  obtain ⟨W, ⟨m0, w0⟩, turn⟩ := q _ hDn
  have hO := h0 (upd H2 s2.heap.objs.size (O0 s2.heap.objs.size)) s2.heap
  have I3 : Inv X pins σ (upd H2 s2.heap.objs.size (O0 s2.heap.objs.size)) { s2 with heap := s2.heap.push { cls := .type "set", dict := none, data := .set #[] 0 (.fresh 0 0 (!X.w.params.followText "set-order")) } } :=
    I2.laid (t' := s2.toks) (fun b o e => Heap.get?_push_of_some _ e) (Nat.le_refl _) hO
  generalize hD : s2.heap.objs.size = D at *
  generalize hs3 : ({ s2 with heap := s2.heap.push { cls := .type "set", dict := none, data := .set #[] 0 (.fresh 0 0 (!X.w.params.followText "set-order")) } } : Shared) = s3 at *
  have h3 : s3.heap = s2.heap.push { cls := .type "set", dict := none, data := .set #[] 0 (.fresh 0 0 (!X.w.params.followText "set-order")) } := by rw [← hs3]
  have sz : ∀ b ∈ fp, b < s2.heap.objs.size := fun b hb => by
    obtain ⟨o, e, _⟩ := T.obj _ _ st2 b hb
    exact Heap.lt_size e
  have f3 : ∀ b ∈ fp, FpOk X pins (upd H2 D (O0 D)) b ∧ b < s3.heap.objs.size := fun b hb => by
    have hlt := sz b hb
    refine ⟨⟨?_, (f2 b hb).2⟩, by rw [h3, Heap.size_push]; exact Nat.lt_succ_of_lt hlt⟩
    rw [upd_ne (by rw [← hD]; exact Nat.ne_of_lt hlt)]
    exact (f2 b hb).1
  have st3 : tn 0 s3.heap := T.keep _ _ _ st2 fun b _ o e => by rw [h3]; exact Heap.get?_push_of_some _ e
  have I4 := block_start I3 ok hN f3
  have pg := hg s3 (upd H2 D (O0 D)) s3.heap.objs.size (cellsFrom (s3.heap.objs.size + 1) scope.names (cloFrom X.env.cells scope.names [])) fp
  have pt := ht s3 (upd H2 D (O0 D)) s3.heap.objs.size (cellsFrom (s3.heap.objs.size + 1) scope.names (cloFrom X.env.cells scope.names [])) fp
  have pe := he s3 (upd H2 D (O0 D)) s3.heap.objs.size (cellsFrom (s3.heap.objs.size + 1) scope.names (cloFrom X.env.cells scope.names [])) fp
  show codeAny _ _ (.compStart (.SetComp elt [⟨tg, iter, ifs, 0⟩] scope pos) 0 (.ref it) (.ref D) (compEnvC scope (cellsFrom (s3.heap.objs.size + 1) scope.names (cloFrom X.env.cells scope.names [])) s3.heap.objs.size X.env)) (compPost (model X.prog X.w) X.A X.xe use Qf (.ref D) s3.heap.objs.size) { s3 with heap := pushCells (s3.heap.push { cls := .type "dict", data := .dict #[] }) scope.names }
  have nfp : ∀ b ∈ fp, (upd H2 D (O0 D)) b = none := fun b hb => (f3 b hb).1.1
  generalize hce : compEnvC scope (cellsFrom (s3.heap.objs.size + 1) scope.names (cloFrom X.env.cells scope.names [])) s3.heap.objs.size X.env = ce at I4 pg pt pe ⊢
  have cL : ce.locals = s3.heap.objs.size := by subst hce; rfl
  generalize hH3 : upd H2 D (O0 D) = H3 at I3 I4 pg pt pe w0 nfp f3
  generalize hs4 : ({ s3 with heap := pushCells (s3.heap.push { cls := .type "dict", data := .dict #[] }) scope.names } : Shared) = s4 at I4 ⊢
  have st4 : tn 0 s4.heap := T.keep _ _ _ st3 fun b _ o e => by rw [← hs4]; exact pushCells_keeps _ _ _ _ (Heap.get?_push_of_some _ e)
  have stat : ∀ {σ' : L2.St} {H' : Hp} {s' : Shared}, Inv (X.blk s3 H3 scope ce fp) [] σ' H' s' → (∀ b ∈ fp, H' b = none) → ∀ b ∈ fp, FpOk (X.blk s3 H3 scope ce fp) [] H' b := fun {σ' H' s'} I' hn b hb =>
    ⟨hn b hb, (I'.ok.exf b hb).1, I'.ok.exfs b hb, .inl hb, fun x c e => (I'.ok.exf b hb).2 x c e, fun p hp => absurd (show p ∈ ([] : List (Addr × Obj)) ++ [] from hp) (by simp)⟩
  have loop : codeAny (model X.prog X.w) X.A (.compLoop (.SetComp elt [⟨tg, iter, ifs, 0⟩] scope pos) 0 (.ref it) (.ref D) ce) (compPost (model X.prog X.w) X.A X.xe use Qf (.ref D) s3.heap.objs.size) s4 := by
    refine compLoopS_any (fun n s' => ∃ i H', Inv (X.blk s3 H3 scope ce fp) [] (wipe σ (own.map (·.2))) H' s' ∧ tn i s'.heap ∧ (∀ b ∈ fp, H' b = none) ∧ W i n H') ?_ m0 ⟨0, H3, I4, st4, nfp, w0⟩
    rintro n s5 ⟨i, H5, I5, st5, n5, w5⟩
    rcases turn i n H5 w5 with ⟨stop, qq⟩ | ⟨go, Nx, hNx, step⟩
    · have td := T.done (X.blk s3 H3 scope ce fp) rfl rfl rfl hc i [] s5 _ H5 (fun _ _ => False) I5 (stat I5 n5) st5 stop
      refine thnF td fun r s6 ⟨hr, I6⟩ => ?_
      subst hr
      have I7 : Inv X pins σ H5 s6 := I3.call' (ch := fp) I6.os I6.base I6.hok I6.bare fun b hb => ⟨(f3 b hb).1.2.2.2.1, (f3 b hb).1.2.1, (f3 b hb).1.2.2.2.2.1, (f3 b hb).1.2.2.2.2.2⟩
      have nC : H5 s3.heap.objs.size = none := by
        have z : H5 ce.locals = none := I6.free
        rw [cL] at z
        exact z
      obtain ⟨m, hn, _⟩ := I6.loc
      have hn : s6.heap.Ns ce.locals m := hn
      rw [cL] at hn
      exact hRR D s3.heap.objs.size s6 m H5 I7 qq hn (I3.fpOk (Nat.le_refl _) nC)
    · have ti := T.item (X.blk s3 H3 scope ce fp) rfl rfl rfl hc i [] s5 _ H5 (fun _ _ => False) I5 (stat I5 n5) st5 go
      refine thnF ti fun r s6 ⟨u, hr, h6⟩ => ?_
      subst hr
      refine thnF h6 fun _ s7 ⟨x, H7, I7, r7, y7, st7, n7⟩ => ?_
      have I7' := I7.pinned (stat I7 n7) (T.obj _ _ st7)
      refine thnF (pg.run _ s7 _ H7 x u _ I7' r7 (step x H7 y7)) fun _ s8 ⟨σ8, H8, I8, hw8, q8⟩ => ?_
      refine thnF (pt.run _ s8 σ8 H8 _ I8 q8) fun b s9 ⟨H9, I9, q9⟩ => ?_
      have fin : ∀ {s' : Shared} {H' : Hp}, Inv (X.blk s3 H3 scope ce fp) ([] ++ pinsAt fp s7.heap) σ8 H' s' → Nx H' → ∃ m, m < n ∧ ∃ i H', Inv (X.blk s3 H3 scope ce fp) [] (wipe σ (own.map (·.2))) H' s' ∧ tn i s'.heap ∧ (∀ b ∈ fp, H' b = none) ∧ W i m H' := fun {s' H'} I' nx => by
        obtain ⟨m', hm, w'⟩ := hNx H' nx
        have pin' : ∀ b ∈ fp, ∀ o, s7.heap.get? b = some o → s'.heap.get? b = some o ∧ H' b = none := fun b hb o e =>
          let z := I'.pin (b, o) (List.mem_append_right _ (List.mem_append_right _ (mem_pinsAt hb e)))
          ⟨z.1, z.2.1⟩
        have hl : (wipe σ (own.map (·.2))).length = σ8.length := by rw [← hw8, wipe_length]
        refine ⟨m', hm, i + 1, H', (I'.unpinned (pins := [])).weak hl (fun j v e => ?_), T.keep _ _ _ st7 fun b hb o e => (pin' b hb o e).1, fun b hb => ?_, w'⟩
        · rw [← hw8] at e
          exact (wipe_some e).1
        · obtain ⟨o, e, _⟩ := T.obj _ _ st7 b hb
          exact (pin' b hb o e).2
      cases b with
      | false =>
        simp only [Bool.false_eq_true, if_false] at q9 ⊢
        exact fin I9 q9
      | true =>
        simp only [if_true] at q9 ⊢
        refine thnF (pe.run _ s9 σ8 H9 _ I9 q9) fun z s10 ⟨yv, H10, I10, r10, ad⟩ => ?_
        exact wpAny_mono (hA (X.blk s3 H3 scope ce fp) rfl rfl rfl rfl rfl _ _ _ _ _ _ _ _ _ I10 r10 ad) (fun _ s11 ⟨H11, I11, nx⟩ => fin I11 nx) fun _ _ z => z
  exact codeAny_compStart_set loop (T.self X.A 0 _ _ _ st4 loop)
theorem pe_scG {O0 : Addr → HO} {add : AddR} {elt tg iter : Expr} {ifs : List Expr} {scope : Scope} {own : List (PySem.Str × Nat)} {pos : Pos} {wi : TI} {g : TG} {tt : TT} {te : TE} (hA : AddOk X add) (h0 : NewOk X O0) (hc : X.calm = true) (hN : X.N.Nodup) (hi : PI X tg iter wi) (ok : BlkOk X.N X.env.scope scope own)
    (hg : ∀ (s : Shared) (H : Hp) (C : Addr) (cl : List (PySem.Str × Addr)) (fp : List Addr), PG (X.blk s H scope (compEnvC scope cl C X.env) fp) tg g) (ht : ∀ (s : Shared) (H : Hp) (C : Addr) (cl : List (PySem.Str × Addr)) (fp : List Addr), PTs (X.blk s H scope (compEnvC scope cl C X.env) fp) ifs tt)
    (he : ∀ (s : Shared) (H : Hp) (C : Addr) (cl : List (PySem.Str × Addr)) (fp : List Addr), PE (X.blk s H scope (compEnvC scope cl C X.env) fp) elt te) (hs : ∀ x, foldedSetIterable iter X.env x = pure x := by intro _; rfl) :
    PE X (.SetComp elt [⟨tg, iter, ifs, 0⟩] scope pos) (tScG O0 add wi g tt te (own.map (·.2))) := by
  refine ⟨fun pins s σ H Q I h => ?_⟩
  rw [eval_SetComp]
  refine scG_core hA h0 hc hN I hi ok hg ht he hs h fun D C s' m H' I' q hn f => ⟨m, hn, fun h'' sb => ?_⟩
  obtain ⟨f0, f1, f2, f3, f4, f5⟩ := f
  exact ⟨.ref D, H', I'.turned (t' := s'.toks) (fun b o hb e => (sb.2 b hb).trans e) f0 f1 f3 f4 f5, rfl, q⟩
end
end WS
/-! sets of tuples of ints by a comprehension -/
namespace WS
open PySem PySem.Spec PyProof.Rows L2 PpSet
section
variable {X : Cx}
/-- the set's members, told by the addresses and the ints -/
def addTup (K : PySem.W.Frag) (P : Program) (w : World) : AddR := fun y H D Nx => ∃ (b : Addr) (k : List Int) (L : List (Addr × List Int)), y = .ref b ∧ SqT K H b (k.map V.int) ∧ H D = some (SetTO P w D L) ∧ (∀ p ∈ L, SqT K H p.1 (p.2.map V.int)) ∧ L.length + 1 < 64 ∧
  (∀ L', (k ∈ L.map (·.2) → L' = L) → (k ∉ L.map (·.2) → L'.Perm ((b, k) :: L)) → Nx (upd H D (SetTO P w D L')))
theorem addTup_ok (hu : X.A.units + 64 < cLine) : AddOk X (addTup X.K X.prog X.w) := by
  intro Y hP hw hK hA hcm pins σ H s D y u Nx E I r h
  obtain ⟨b, k, L, rfl, hb, hD, hL, hfew, q⟩ := h
  obtain rfl : u = Value.ref b := r
  have R0 : SetT0 X.prog X.w s.heap D L := (I.hok D _ hD).1
  rw [← hP, ← hw] at R0 ⊢
  rw [← hA] at hu ⊢
  rw [← hK] at hb hL
  obtain ⟨es, ep, t, R⟩ := R0.full fun p hp => I.isT (hL p hp)
  have hx := I.isT hb
  have hT : s.TypeIs (.ref D) "set" := by
    obtain ⟨o, ho, hex, _⟩ := R.ob
    exact ⟨o, ho, hex.1⟩
  refine wpAny_call_entry F.slot_set_add hT F.entry_set_add ?_ (F.args_set_add_2 _ _)
  unfold Builtin.«set.add» Builtin.Frozenset.oneOther
  simp only [List.isEmpty_nil, bind_assoc]
  unfold Builtin.Frozenset.addrOf setAdd
  refine wpAny_bind (wpAny_pure ?_)
  try dsimp only
  refine wpAny_bind (wpAny_pure ?_)
  try dsimp only
  refine wpAny_bind ?_
  refine wpAny_holding ?_
  refine wpAny_bind (wpAny_pyHash_tuple (by have := hu; simp only [Around.in1_units]; omega) hx ?_)
  have R' : SetTR Y.prog Y.w ({ s with toks := s.toks + (k.length + 1) } : Shared).heap D L es ep t := R
  refine add_at (s := { s with toks := s.toks + (k.length + 1) }) R' hx (by have := hu; simp only [Around.in1_units]; omega) hfew fun c h' L' es' ep' t' sb R2 c1 c2 => ?_
  show wpAny _ _ (ret Value.none) _ _ _
  have he : ∃ q, h'.get? D = some q := let ⟨o, ho, _⟩ := R2.ob; ⟨o, ho⟩
  refine wpAny_pure ⟨_, rfl, upd H D (SetTO X.prog X.w D L'), ?_, q L' c1 c2⟩
  have nw := setTO_new (H := upd H D (SetTO Y.prog Y.w D L')) R2.t0
  rw [hP, hw] at nw
  refine I.write (x := D) (e := D) (t' := s.toks + (k.length + 1)) (by rw [hD]; trivial) (.inl rfl) (fun a q hb' z => (sb.2 a hb').trans z) he ?_
  rw [hP, hw]
  exact nw
theorem newTup_ok : NewOk X fun a => SetTO X.prog X.w a [] := fun H h => setTO_new (setTR_fresh (Heap.get?_push_size _ rfl)).t0
/-- over a list that the block leaves as it is -/
theorem scG_list {O0 : Addr → HO} {add : AddR} {K : PySem.W.Frag} {a : Addr} {xs : List V} {g : TG} {tt : TT} {te : TE} {vs : List Nat} {σ : L2.St} {H1 : Hp} {D : Addr} {Qd : Hp → Prop} (Pv : Nat → Hp → Prop) (h0 : Pv 0 (upd H1 D (O0 D))) (hl : ∀ i H, i ≤ xs.length → Pv i H → SqL K H a xs)
    (hs : ∀ i x H, xs[i]? = some x → Pv i H → g x (wipe σ vs) H fun σ2 H2 => wipe σ2 vs = wipe σ vs ∧ tt σ2 H2 fun b H3 =>
      if b = true then te σ2 H3 fun y H4 => add y H4 D (Pv (i + 1)) else Pv (i + 1) H3) (hd : ∀ H, Pv xs.length H → Qd H) :
    ∃ W : Nat → Nat → Hp → Prop, (∃ m, W 0 m (upd H1 D (O0 D))) ∧ ∀ i m H, W i m H →
      ((Itl K a).stop i H ∧ Qd H) ∨ ((Itl K a).go i H ∧ ∃ Nx : Hp → Prop, (∀ H', Nx H' → ∃ m', m' < m ∧ W (i + 1) m' H') ∧ ∀ x H', (Itl K a).yld i H x H' → g x (wipe σ vs) H' fun σ2 H2 => wipe σ2 vs = wipe σ vs ∧ tt σ2 H2 fun b H3 =>
        if b = true then te σ2 H3 fun y H4 => add y H4 D Nx else Nx H3) := by
  refine ⟨fun i m H => m = xs.length - i ∧ i ≤ xs.length ∧ Pv i H, ⟨xs.length, by simp, Nat.zero_le _, h0⟩, ?_⟩
  rintro i m H ⟨rfl, hi, p⟩
  have q := hl i H hi p
  by_cases hlt : i < xs.length
  · refine .inr ⟨⟨xs, xs[i], q, by simp [hlt]⟩, Pv (i + 1), fun H' p' => ⟨xs.length - (i + 1), by omega, rfl, hlt, p'⟩, fun x H' y => ?_⟩
    obtain ⟨e, y⟩ := y
    subst e
    exact hs i x _ (y xs q) p
  · have e : i = xs.length := by omega
    subst e
    exact .inl ⟨⟨xs, q, Nat.le_refl _⟩, hd H p⟩
theorem scG_tup {O0 : Addr → HO} {add : AddR} {K : PySem.W.Frag} {a : Addr} {xs : List V} {g : TG} {tt : TT} {te : TE} {vs : List Nat} {σ : L2.St} {H1 : Hp} {D : Addr} {Qd : Hp → Prop} (Pv : Nat → Hp → Prop) (h0 : Pv 0 (upd H1 D (O0 D))) (hl : ∀ i H, i ≤ xs.length → Pv i H → SqT K H a xs)
    (hs : ∀ i x H, xs[i]? = some x → Pv i H → g x (wipe σ vs) H fun σ2 H2 => wipe σ2 vs = wipe σ vs ∧ tt σ2 H2 fun b H3 =>
      if b = true then te σ2 H3 fun y H4 => add y H4 D (Pv (i + 1)) else Pv (i + 1) H3) (hd : ∀ H, Pv xs.length H → Qd H) :
    ∃ W : Nat → Nat → Hp → Prop, (∃ m, W 0 m (upd H1 D (O0 D))) ∧ ∀ i m H, W i m H →
      ((Itt K a).stop i H ∧ Qd H) ∨ ((Itt K a).go i H ∧ ∃ Nx : Hp → Prop, (∀ H', Nx H' → ∃ m', m' < m ∧ W (i + 1) m' H') ∧ ∀ x H', (Itt K a).yld i H x H' → g x (wipe σ vs) H' fun σ2 H2 => wipe σ2 vs = wipe σ vs ∧ tt σ2 H2 fun b H3 =>
        if b = true then te σ2 H3 fun y H4 => add y H4 D Nx else Nx H3) := by
  refine ⟨fun i m H => m = xs.length - i ∧ i ≤ xs.length ∧ Pv i H, ⟨xs.length, by simp, Nat.zero_le _, h0⟩, ?_⟩
  rintro i m H ⟨rfl, hi, p⟩
  have q := hl i H hi p
  by_cases hlt : i < xs.length
  · refine .inr ⟨⟨xs, xs[i], q, by simp [hlt]⟩, Pv (i + 1), fun H' p' => ⟨xs.length - (i + 1), by omega, rfl, hlt, p'⟩, fun x H' y => ?_⟩
    obtain ⟨e, y⟩ := y
    subst e
    exact hs i x _ (y xs q) p
  · have e : i = xs.length := by omega
    subst e
    exact .inl ⟨⟨xs, q, Nat.le_refl _⟩, hd H p⟩
end
end WS
/-! comprehensions of dicts whose container is told by a reading of its own; dicts with nested keys -/
namespace WS
open PySem PySem.Spec PyProof.Rows L2 PpSet
/-- what putting z at the key y of the container at D asks, and how it goes on -/
abbrev PutR := V → V → Hp → Addr → (Hp → Prop) → Prop
section
variable {X : Cx}
def tDcG (O0 : Addr → HO) (put : PutR) (wi : TI) (g : TG) (tt : TT) (tk tv : TE) (vs : List Nat) : TE := fun σ H Q => wi σ H fun J H1 => ∀ D, H1 D = none → ∃ W : Nat → Nat → Hp → Prop, (∃ m, W 0 m (upd H1 D (O0 D))) ∧ ∀ i m H, W i m H →
  (J.stop i H ∧ Q (.ref D) H) ∨ (J.go i H ∧ ∃ Nx : Hp → Prop, (∀ H', Nx H' → ∃ m', m' < m ∧ W (i + 1) m' H') ∧ ∀ x H', J.yld i H x H' → g x (wipe σ vs) H' fun σ2 H2 => wipe σ2 vs = wipe σ vs ∧ tt σ2 H2 fun b H3 =>
    if b = true then tk σ2 H3 fun y H4 => tv σ2 H4 fun z H5 => put y z H5 D Nx else Nx H3)
def PutOk (X : Cx) (put : PutR) : Prop := ∀ (Y : Cx), Y.prog = X.prog → Y.w = X.w → Y.K = X.K → Y.A = X.A → Y.calm = X.calm → ∀ (pins : List (Addr × Obj)) (σ : L2.St) (H : Hp) (s : Shared) (D : Addr) (y z : V) (u r : Value) (Nx : Hp → Prop) (E : Value → Shared → Prop),
  Inv Y pins σ H s → RelV y u → RelV z r → put y z H D Nx → wpAny (model X.prog X.w) X.A (dictSet D u r) (fun _ s' => ∃ H', Inv Y pins σ H' s' ∧ Nx H') E s
def NewDOk (X : Cx) (O0 : Addr → HO) : Prop := ∀ (H : Hp) (h : Heap), sysModules < h.objs.size → ObjOk X.prog X.w H (h.push { cls := .type "dict", data := .dict #[] }) h.objs.size (O0 h.objs.size)
theorem dcG_core {O0 : Addr → HO} {put : PutR} {pins : List (Addr × Obj)} {s : Shared} {σ : L2.St} {H : Hp} {Q : VK} {kx vx tg iter : Expr} {ifs : List Expr} {scope : Scope} {own : List (PySem.Str × Nat)} {pos pos' : Pos} {wi : TI} {g : TG} {tt : TT} {tk tv : TE} {use : Option (Value → Sem Unit)} {Qf : Value → Shared → Prop}
    (hA : PutOk X put) (h0 : NewDOk X O0) (hc : X.calm = true) (hN : X.N.Nodup) (I : Inv X pins σ H s) (hi : PI X tg iter wi) (ok : BlkOk X.N X.env.scope scope own)
    (hg : ∀ (s : Shared) (H : Hp) (C : Addr) (cl : List (PySem.Str × Addr)) (fp : List Addr), PG (X.blk s H scope (compEnvC scope cl C X.env) fp) tg g) (ht : ∀ (s : Shared) (H : Hp) (C : Addr) (cl : List (PySem.Str × Addr)) (fp : List Addr), PTs (X.blk s H scope (compEnvC scope cl C X.env) fp) ifs tt)
    (hk : ∀ (s : Shared) (H : Hp) (C : Addr) (cl : List (PySem.Str × Addr)) (fp : List Addr), PE (X.blk s H scope (compEnvC scope cl C X.env) fp) kx tk)
    (he : ∀ (s : Shared) (H : Hp) (C : Addr) (cl : List (PySem.Str × Addr)) (fp : List Addr), PE (X.blk s H scope (compEnvC scope cl C X.env) fp) vx tv) (hs : ∀ x, foldedSetIterable iter X.env x = pure x)
    (h : tDcG O0 put wi g tt tk tv (own.map (·.2)) σ H Q)
    (hRR : ∀ D C s' m H', Inv X pins σ H' s' → Q (.ref D) H' → s'.heap.Ns C m → FpOk X pins H' C → compPost (model X.prog X.w) X.A X.xe use Qf (.ref D) C (.ok .next) s') :
    wpAny (model X.prog X.w) X.A (comprehension (.DictComp kx vx [⟨tg, iter, ifs, 0⟩] scope pos) scope X.env pos' newDict false (eval iter X.env) use) Qf X.xe s := by
  have hfree : ∀ y ∈ scope.names, y.2 = .free → ∃ c, X.env.cells.lookup y.1 = some c := fun y hy e => (ok.free y hy e).elim (fun k => I.ok.has _ (.inl k)) fun k => I.ok.has _ (.inr k)
  refine wpAny_comprehension_free (use := use) rfl hs (closure_ok hfree) ok.kind (fun y hy e => by rw [ok.uniq y hy, e])
    (thn (hi.run pins s σ H _ I h) fun xv s1 hx => thn hx fun itv s2 h2 => ?_)
  obtain ⟨it, fp, tn, J, H2, rfl, I2, T, st2, f2, q⟩ := h2
  refine wpAny_newObj_type (newEnv_comp ?_)
  have hDn : H2 s2.heap.objs.size = none := I2.hok.fresh (Nat.le_refl _)
  obtain ⟨W, ⟨m0, w0⟩, turn⟩ := q _ hDn
  have hO := h0 (upd H2 s2.heap.objs.size (O0 s2.heap.objs.size)) s2.heap I2.big
  have I3 : Inv X pins σ (upd H2 s2.heap.objs.size (O0 s2.heap.objs.size)) { s2 with heap := s2.heap.push { cls := .type "dict", data := .dict #[] } } :=
    I2.laid (t' := s2.toks) (fun b o e => Heap.get?_push_of_some _ e) (Nat.le_refl _) hO
  generalize hD : s2.heap.objs.size = D at *
  generalize hs3 : ({ s2 with heap := s2.heap.push { cls := .type "dict", data := .dict #[] } } : Shared) = s3 at *
  have h3 : s3.heap = s2.heap.push { cls := .type "dict", data := .dict #[] } := by rw [← hs3]
  have sz : ∀ b ∈ fp, b < s2.heap.objs.size := fun b hb => by
    obtain ⟨o, e, _⟩ := T.obj _ _ st2 b hb
    exact Heap.lt_size e
  have f3 : ∀ b ∈ fp, FpOk X pins (upd H2 D (O0 D)) b ∧ b < s3.heap.objs.size := fun b hb => by
    have hlt := sz b hb
    refine ⟨⟨?_, (f2 b hb).2⟩, by rw [h3, Heap.size_push]; exact Nat.lt_succ_of_lt hlt⟩
    rw [upd_ne (by rw [← hD]; exact Nat.ne_of_lt hlt)]
    exact (f2 b hb).1
  have st3 : tn 0 s3.heap := T.keep _ _ _ st2 fun b _ o e => by rw [h3]; exact Heap.get?_push_of_some _ e
  have I4 := block_start I3 ok hN f3
  have pg := hg s3 (upd H2 D (O0 D)) s3.heap.objs.size (cellsFrom (s3.heap.objs.size + 1) scope.names (cloFrom X.env.cells scope.names [])) fp
  have pt := ht s3 (upd H2 D (O0 D)) s3.heap.objs.size (cellsFrom (s3.heap.objs.size + 1) scope.names (cloFrom X.env.cells scope.names [])) fp
  have pk := hk s3 (upd H2 D (O0 D)) s3.heap.objs.size (cellsFrom (s3.heap.objs.size + 1) scope.names (cloFrom X.env.cells scope.names [])) fp
  have pe := he s3 (upd H2 D (O0 D)) s3.heap.objs.size (cellsFrom (s3.heap.objs.size + 1) scope.names (cloFrom X.env.cells scope.names [])) fp
  show codeAny _ _ (.compStart (.DictComp kx vx [⟨tg, iter, ifs, 0⟩] scope pos) 0 (.ref it) (.ref D) (compEnvC scope (cellsFrom (s3.heap.objs.size + 1) scope.names (cloFrom X.env.cells scope.names [])) s3.heap.objs.size X.env)) (compPost (model X.prog X.w) X.A X.xe use Qf (.ref D) s3.heap.objs.size) { s3 with heap := pushCells (s3.heap.push { cls := .type "dict", data := .dict #[] }) scope.names }
  have nfp : ∀ b ∈ fp, (upd H2 D (O0 D)) b = none := fun b hb => (f3 b hb).1.1
  generalize hce : compEnvC scope (cellsFrom (s3.heap.objs.size + 1) scope.names (cloFrom X.env.cells scope.names [])) s3.heap.objs.size X.env = ce at I4 pg pt pk pe ⊢
  have cL : ce.locals = s3.heap.objs.size := by subst hce; rfl
  generalize hH3 : upd H2 D (O0 D) = H3 at I3 I4 pg pt pk pe w0 nfp f3
  generalize hs4 : ({ s3 with heap := pushCells (s3.heap.push { cls := .type "dict", data := .dict #[] }) scope.names } : Shared) = s4 at I4 ⊢
  have st4 : tn 0 s4.heap := T.keep _ _ _ st3 fun b _ o e => by rw [← hs4]; exact pushCells_keeps _ _ _ _ (Heap.get?_push_of_some _ e)
  have stat : ∀ {σ' : L2.St} {H' : Hp} {s' : Shared}, Inv (X.blk s3 H3 scope ce fp) [] σ' H' s' → (∀ b ∈ fp, H' b = none) → ∀ b ∈ fp, FpOk (X.blk s3 H3 scope ce fp) [] H' b := fun {σ' H' s'} I' hn b hb =>
    ⟨hn b hb, (I'.ok.exf b hb).1, I'.ok.exfs b hb, .inl hb, fun x c e => (I'.ok.exf b hb).2 x c e, fun p hp => absurd (show p ∈ ([] : List (Addr × Obj)) ++ [] from hp) (by simp)⟩
  have loop : codeAny (model X.prog X.w) X.A (.compLoop (.DictComp kx vx [⟨tg, iter, ifs, 0⟩] scope pos) 0 (.ref it) (.ref D) ce) (compPost (model X.prog X.w) X.A X.xe use Qf (.ref D) s3.heap.objs.size) s4 := by
    refine compLoop_anyD (fun n s' => ∃ i H', Inv (X.blk s3 H3 scope ce fp) [] (wipe σ (own.map (·.2))) H' s' ∧ tn i s'.heap ∧ (∀ b ∈ fp, H' b = none) ∧ W i n H') ?_ m0 ⟨0, H3, I4, st4, nfp, w0⟩
    rintro n s5 ⟨i, H5, I5, st5, n5, w5⟩
    rcases turn i n H5 w5 with ⟨stop, qq⟩ | ⟨go, Nx, hNx, step⟩
    · have td := T.done (X.blk s3 H3 scope ce fp) rfl rfl rfl hc i [] s5 _ H5 (fun _ _ => False) I5 (stat I5 n5) st5 stop
      refine thnF td fun r s6 ⟨hr, I6⟩ => ?_
      subst hr
      have I7 : Inv X pins σ H5 s6 := I3.call' (ch := fp) I6.os I6.base I6.hok I6.bare fun b hb => ⟨(f3 b hb).1.2.2.2.1, (f3 b hb).1.2.1, (f3 b hb).1.2.2.2.2.1, (f3 b hb).1.2.2.2.2.2⟩
      have nC : H5 s3.heap.objs.size = none := by
        have z : H5 ce.locals = none := I6.free
        rw [cL] at z
        exact z
      obtain ⟨m, hn, _⟩ := I6.loc
      have hn : s6.heap.Ns ce.locals m := hn
      rw [cL] at hn
      exact hRR D s3.heap.objs.size s6 m H5 I7 qq hn (I3.fpOk (Nat.le_refl _) nC)
    · have ti := T.item (X.blk s3 H3 scope ce fp) rfl rfl rfl hc i [] s5 _ H5 (fun _ _ => False) I5 (stat I5 n5) st5 go
      refine thnF ti fun r s6 ⟨u, hr, h6⟩ => ?_
      subst hr
      refine thnF h6 fun _ s7 ⟨x, H7, I7, r7, y7, st7, n7⟩ => ?_
      have I7' := I7.pinned (stat I7 n7) (T.obj _ _ st7)
      refine thnF (pg.run _ s7 _ H7 x u _ I7' r7 (step x H7 y7)) fun _ s8 ⟨σ8, H8, I8, hw8, q8⟩ => ?_
      refine thnF (pt.run _ s8 σ8 H8 _ I8 q8) fun b s9 ⟨H9, I9, q9⟩ => ?_
      have fin : ∀ {s' : Shared} {H' : Hp}, Inv (X.blk s3 H3 scope ce fp) ([] ++ pinsAt fp s7.heap) σ8 H' s' → Nx H' → ∃ m, m < n ∧ ∃ i H', Inv (X.blk s3 H3 scope ce fp) [] (wipe σ (own.map (·.2))) H' s' ∧ tn i s'.heap ∧ (∀ b ∈ fp, H' b = none) ∧ W i m H' := fun {s' H'} I' nx => by
        obtain ⟨m', hm, w'⟩ := hNx H' nx
        have pin' : ∀ b ∈ fp, ∀ o, s7.heap.get? b = some o → s'.heap.get? b = some o ∧ H' b = none := fun b hb o e =>
          let z := I'.pin (b, o) (List.mem_append_right _ (List.mem_append_right _ (mem_pinsAt hb e)))
          ⟨z.1, z.2.1⟩
        have hl : (wipe σ (own.map (·.2))).length = σ8.length := by rw [← hw8, wipe_length]
        refine ⟨m', hm, i + 1, H', (I'.unpinned (pins := [])).weak hl (fun j v e => ?_), T.keep _ _ _ st7 fun b hb o e => (pin' b hb o e).1, fun b hb => ?_, w'⟩
        · rw [← hw8] at e
          exact (wipe_some e).1
        · obtain ⟨o, e, _⟩ := T.obj _ _ st7 b hb
          exact (pin' b hb o e).2
      cases b with
      | false =>
        simp only [Bool.false_eq_true, if_false] at q9 ⊢
        exact fin I9 q9
      | true =>
        simp only [if_true] at q9 ⊢
        refine thnF (pk.run _ s9 σ8 H9 _ I9 q9) fun z s10 ⟨yk, H10, I10, r10, q10⟩ => ?_
        refine thnF (pe.run _ s10 σ8 H10 _ I10 q10) fun z2 s11 ⟨yv, H11, I11, r11, ad⟩ => ?_
        exact wpAny_mono (hA (X.blk s3 H3 scope ce fp) rfl rfl rfl rfl rfl _ _ _ _ _ _ _ _ _ _ _ I11 r10 r11 ad) (fun _ s12 ⟨H12, I12, nx⟩ => fin I12 nx) fun _ _ z => z
  exact codeAny_compStart_dict loop (T.self X.A 0 _ _ _ st4 loop)
theorem pe_dcG {O0 : Addr → HO} {put : PutR} {kx vx tg iter : Expr} {ifs : List Expr} {scope : Scope} {own : List (PySem.Str × Nat)} {pos : Pos} {wi : TI} {g : TG} {tt : TT} {tk tv : TE} (hA : PutOk X put) (h0 : NewDOk X O0) (hc : X.calm = true) (hN : X.N.Nodup) (hi : PI X tg iter wi) (ok : BlkOk X.N X.env.scope scope own)
    (hg : ∀ (s : Shared) (H : Hp) (C : Addr) (cl : List (PySem.Str × Addr)) (fp : List Addr), PG (X.blk s H scope (compEnvC scope cl C X.env) fp) tg g) (ht : ∀ (s : Shared) (H : Hp) (C : Addr) (cl : List (PySem.Str × Addr)) (fp : List Addr), PTs (X.blk s H scope (compEnvC scope cl C X.env) fp) ifs tt)
    (hk : ∀ (s : Shared) (H : Hp) (C : Addr) (cl : List (PySem.Str × Addr)) (fp : List Addr), PE (X.blk s H scope (compEnvC scope cl C X.env) fp) kx tk)
    (he : ∀ (s : Shared) (H : Hp) (C : Addr) (cl : List (PySem.Str × Addr)) (fp : List Addr), PE (X.blk s H scope (compEnvC scope cl C X.env) fp) vx tv) (hs : ∀ x, foldedSetIterable iter X.env x = pure x := by intro _; rfl) :
    PE X (.DictComp kx vx [⟨tg, iter, ifs, 0⟩] scope pos) (tDcG O0 put wi g tt tk tv (own.map (·.2))) := by
  refine ⟨fun pins s σ H Q I h => ?_⟩
  rw [arm_eval_DictComp]
  refine dcG_core hA h0 hc hN I hi ok hg ht hk he hs h fun D C s' m H' I' q hn f => ⟨m, hn, fun h'' sb => ?_⟩
  obtain ⟨f0, f1, f2, f3, f4, f5⟩ := f
  exact ⟨.ref D, H', I'.turned (t' := s'.toks) (fun b o hb e => (sb.2 b hb).trans e) f0 f1 f3 f4 f5, rfl, q⟩
end
/-! ### dicts whose keys are nested tuples of whole numbers and texts -/
mutual
inductive NK (K : PySem.W.Frag) (H : Hp) : V → NestedKey → Prop
  | num (i : Int) : NK K H (.int i) (.num i)
  | text (s : Str) : NK K H (.str s) (.text s)
  | tup {a : Addr} {xs : List V} {ks : List NestedKey} : SqT K H a xs → NKs K H xs ks → NK K H (.ref a) (.tup ks)
inductive NKs (K : PySem.W.Frag) (H : Hp) : List V → List NestedKey → Prop
  | nil : NKs K H [] []
  | cons {x : V} {k : NestedKey} {xs : List V} {ks : List NestedKey} : NK K H x k → NKs K H xs ks → NKs K H (x :: xs) (k :: ks)
end
section
variable {X : Cx} {pins : List (Addr × Obj)} {σ : L2.St} {H : Hp} {s : Shared}
mutual
theorem NK.at (I : Inv X pins σ H s) : ∀ {k : NestedKey} {x : V} {u : Value}, NK X.K H x k → RelV x u → NestedIs s.heap k u
  | .num i, _, u, .num _, r => by
    obtain ⟨t, rfl⟩ := r
    exact .int i t
  | .text y, _, u, .text _, r => by
    obtain ⟨t, rfl⟩ := r
    exact .text y t
  | .tup ks, _, u, .tup (a := a) h hs, r => by
    obtain rfl : u = Value.ref a := r
    obtain ⟨its, rv, ⟨o, ho, hc, n, hd⟩, _⟩ := I.tuple h
    exact .tup ho hc hd (by simpa using NKs.at I hs rv)
theorem NKs.at (I : Inv X pins σ H s) : ∀ {ks : List NestedKey} {xs : List V} {us : List Value}, NKs X.K H xs ks → Vals xs us → NestedAll s.heap ks us
  | [], _, _, .nil, r => by cases r; exact .nil
  | k :: ks, _, _, .cons h hs, r => by
    cases r with
    | cons r1 r2 => exact .cons (NK.at I h r1) (NKs.at I hs r2)
end
theorem nks_ints {K : PySem.W.Frag} {H : Hp} : ∀ ns : List Int, NKs K H (ns.map V.int) (ns.map NestedKey.num)
  | [] => .nil
  | n :: r => .cons (.num n) (nks_ints r)
/-- the dict, without its keys' tuples -/
def DnRel (kvs : List (NestedKey × Addr × V)) (xs : List (NestedKey × Addr × Value)) : Prop := Paired (fun (p : NestedKey × Addr × V) (q : NestedKey × Addr × Value) => p.1 = q.1 ∧ p.2.1 = q.2.1 ∧ RelV p.2.2 q.2.2) kvs xs
def DnAt (P : Program) (w : World) (D : Addr) (kvs : List (NestedKey × Addr × V)) (h : Heap) : Prop := ∃ xs : List (NestedKey × Addr × Value), DnRel kvs xs ∧ kvs.length ≤ sizeLine ∧ (D == sysModules) = false ∧ ∃ o es ep, h.get? D = some o ∧ o.ExactDict ∧ o.data = .dict es ep ∧ es.toList = xs.map (entryOfKey (nestedKind P w)) ∧ (xs.map (·.1)).Nodup
def DnO (P : Program) (w : World) (D : Addr) (kvs : List (NestedKey × Addr × V)) : HO := .ext (DnAt P w D kvs)
def fitN (k : NestedKey) : Prop := k.depth ≤ 8 ∧ ∃ ks, k = .tup ks
def putN (kvs : List (NestedKey × Addr × V)) (k : NestedKey) (a : Addr) (z : V) : List (NestedKey × Addr × V) :=
  if (kvs.find? fun p => decide (p.1 = k)).isSome then kvs.map (fun p => if p.1 = k then (p.1, p.2.1, z) else p) else kvs ++ [(k, a, z)]
theorem DnRel.find {k : NestedKey} : ∀ {kvs : List (NestedKey × Addr × V)} {xs : List (NestedKey × Addr × Value)}, DnRel kvs xs → (atKey xs k).isSome = (kvs.find? fun p => decide (p.1 = k)).isSome
  | _, _, .nil => rfl
  | _, _, .cons (a := p) (b := q) r t => by
    have ih := DnRel.find (k := k) t
    unfold atKey at ih ⊢
    rw [List.find?_cons, List.find?_cons, ← r.1]
    by_cases h : p.1 = k
    · simp [h]
    · simpa [h] using ih
theorem DnRel.mapPut {k : NestedKey} {z : V} {r : Value} (rz : RelV z r) : ∀ {kvs : List (NestedKey × Addr × V)} {xs : List (NestedKey × Addr × Value)}, DnRel kvs xs → DnRel (kvs.map (fun p => if p.1 = k then (p.1, p.2.1, z) else p)) (xs.map (putAt k r))
  | _, _, .nil => .nil
  | _, _, .cons (a := p) (b := q) rr t => by
    refine .cons ?_ (DnRel.mapPut rz t)
    unfold putAt
    dsimp only
    by_cases h : p.1 = k
    · rw [if_pos h, if_pos (rr.1 ▸ h)]
      exact ⟨rr.1, rr.2.1, rz⟩
    · rw [if_neg h, if_neg (rr.1 ▸ h)]
      exact rr
theorem DnRel.snoc {k : NestedKey} {a : Addr} {z : V} {r : Value} (rz : RelV z r) : ∀ {kvs : List (NestedKey × Addr × V)} {xs : List (NestedKey × Addr × Value)}, DnRel kvs xs → DnRel (kvs ++ [(k, a, z)]) (xs ++ [(k, a, r)])
  | _, _, .nil => .cons ⟨rfl, rfl, rz⟩ .nil
  | _, _, .cons rr t => .cons rr (DnRel.snoc rz t)
theorem DnRel.put {k : NestedKey} {a : Addr} {z : V} {r : Value} (rz : RelV z r) {kvs : List (NestedKey × Addr × V)} {xs : List (NestedKey × Addr × Value)} (h : DnRel kvs xs) : DnRel (putN kvs k a z) (storedH xs k a r) := by
  unfold putN storedH
  rw [h.find]
  split
  · exact h.mapPut rz
  · exact h.snoc rz
theorem DnRel.length {kvs : List (NestedKey × Addr × V)} {xs : List (NestedKey × Addr × Value)} (h : DnRel kvs xs) : kvs.length = xs.length := Paired.length h
theorem DnRel.mem {kvs : List (NestedKey × Addr × V)} : ∀ {xs : List (NestedKey × Addr × Value)}, DnRel kvs xs → ∀ x ∈ xs, ∃ p ∈ kvs, p.1 = x.1 ∧ p.2.1 = x.2.1
  | _, .nil, x, hx => nomatch hx
  | _, .cons (a := p) rr t, x, hx => by
    rcases List.mem_cons.mp hx with e | e
    · subst e
      exact ⟨p, List.mem_cons_self, rr.1, rr.2.1⟩
    · obtain ⟨p', hp, q⟩ := DnRel.mem t x e
      exact ⟨p', List.mem_cons_of_mem _ hp, q⟩
theorem dn_new {P : Program} {w : World} {H : Hp} {h : Heap} {D : Addr} {kvs : List (NestedKey × Addr × V)} (R : DnAt P w D kvs h) : ObjOk P w H h D (DnO P w D kvs) := by
  have R' := R
  obtain ⟨xs, r, z, hd, o, es, ep, ho, q⟩ := R
  refine ⟨R', ⟨o, ho⟩, fun h1 h2 p k => ?_⟩
  obtain ⟨xs', r', z', hd', o', es', ep', ho', q'⟩ := p
  exact ⟨xs', r', z', hd', o', es', ep', k o' ho', q'⟩
/-- every key's tuple is there -/
def DnKeys (K : PySem.W.Frag) (H : Hp) (kvs : List (NestedKey × Addr × V)) : Prop := ∀ p ∈ kvs, NK K H (.ref p.2.1) p.1 ∧ p.1.depth ≤ 8
theorem DnAt.full (I : Inv X pins σ H s) {D : Addr} {kvs : List (NestedKey × Addr × V)} (R : DnAt X.prog X.w D kvs s.heap) (hk : DnKeys X.K H kvs) : ∃ xs, DnRel kvs xs ∧ s.heap.DictOfH (nestedKind X.prog X.w) D xs ∧ xs.length ≤ sizeLine ∧ (D == sysModules) = false := by
  obtain ⟨xs, r, z, hd, o, es, ep, ho, hx, hdat, he, hn⟩ := R
  refine ⟨xs, r, ⟨o, es, ep, ho, hx, hdat, he, fun x hx' => ?_, hn⟩, by rw [← r.length]; exact z, hd⟩
  obtain ⟨p, hp, e1, e2⟩ := r.mem x hx'
  obtain ⟨nk, dd⟩ := hk p hp
  rw [← e1, ← e2]
  exact ⟨NK.at I nk rfl, dd⟩
def putNk (K : PySem.W.Frag) (P : Program) (w : World) : PutR := fun y z H D Nx => ∃ (a : Addr) (k : NestedKey) (kvs : List (NestedKey × Addr × V)), y = .ref a ∧ NK K H y k ∧ k.depth ≤ 8 ∧ H D = some (DnO P w D kvs) ∧ DnKeys K H kvs ∧ (putN kvs k a z).length ≤ sizeLine ∧ Nx (upd H D (DnO P w D (putN kvs k a z)))
theorem putNk_ok (hu : X.A.units + 64 < cLine) : PutOk X (putNk X.K X.prog X.w) := by
  intro Y hP hw hK hA hcm pins σ H s D y z u r Nx E I ry rz h
  obtain ⟨a, k, kvs, rfl, hk, hdep, hD, hks, hlen, q⟩ := h
  obtain rfl : u = Value.ref a := ry
  have R0 : DnAt X.prog X.w D kvs s.heap := (I.hok D _ hD).1
  rw [← hP, ← hw] at R0 ⊢
  rw [← hA] at hu ⊢
  rw [← hK] at hk hks
  obtain ⟨xs, rel, dd, hz, hsm⟩ := R0.full I hks
  refine wpAny_dictSet_heap (knd := nestedKind Y.prog Y.w) (k := k) (hsz := hz) (by show Y.A.units + 8 < cLine; omega) ⟨NK.at I hk rfl, hdep⟩ dd fun h' dd' sb => ?_
  refine ⟨upd H D (DnO X.prog X.w D (putN kvs k a z)), ?_, q⟩
  obtain ⟨o, es, ep, ho, hx, hdat, he, _, hn⟩ := dd'
  have nw := dn_new (P := Y.prog) (w := Y.w) (H := upd H D (DnO Y.prog Y.w D (putN kvs k a z))) (h := h') (D := D) ⟨_, rel.put rz, hlen, hsm, o, es, ep, ho, hx, hdat, he, hn⟩
  rw [hP, hw] at nw
  refine I.write (x := D) (e := D) (by rw [hD]; trivial) (.inl rfl) (fun a q hb' z => (sb.2 a hb').trans z) ⟨o, ho⟩ ?_
  rw [hP, hw]
  exact nw
theorem newNk_ok : NewDOk X fun a => DnO X.prog X.w a [] := fun H h hb => dn_new ⟨[], .nil, Nat.zero_le _, beq_eq_false_iff_ne.mpr (Ne.symm (Nat.ne_of_lt hb)), _, #[], 0, Heap.get?_push_size _ rfl, ⟨rfl, rfl, rfl⟩, rfl, rfl, List.nodup_nil⟩
theorem dcG_tup {O0 : Addr → HO} {put : PutR} {K : PySem.W.Frag} {a : Addr} {xs : List V} {g : TG} {tt : TT} {tk tv : TE} {vs : List Nat} {σ : L2.St} {H1 : Hp} {D : Addr} {Qd : Hp → Prop} (Pv : Nat → Hp → Prop) (h0 : Pv 0 (upd H1 D (O0 D))) (hl : ∀ i H, i ≤ xs.length → Pv i H → SqT K H a xs)
    (hs : ∀ i x H, xs[i]? = some x → Pv i H → g x (wipe σ vs) H fun σ2 H2 => wipe σ2 vs = wipe σ vs ∧ tt σ2 H2 fun b H3 =>
      if b = true then tk σ2 H3 fun y H4 => tv σ2 H4 fun z H5 => put y z H5 D (Pv (i + 1)) else Pv (i + 1) H3) (hd : ∀ H, Pv xs.length H → Qd H) :
    ∃ W : Nat → Nat → Hp → Prop, (∃ m, W 0 m (upd H1 D (O0 D))) ∧ ∀ i m H, W i m H →
      ((Itt K a).stop i H ∧ Qd H) ∨ ((Itt K a).go i H ∧ ∃ Nx : Hp → Prop, (∀ H', Nx H' → ∃ m', m' < m ∧ W (i + 1) m' H') ∧ ∀ x H', (Itt K a).yld i H x H' → g x (wipe σ vs) H' fun σ2 H2 => wipe σ2 vs = wipe σ vs ∧ tt σ2 H2 fun b H3 =>
        if b = true then tk σ2 H3 fun y H4 => tv σ2 H4 fun z H5 => put y z H5 D Nx else Nx H3) := by
  refine ⟨fun i m H => m = xs.length - i ∧ i ≤ xs.length ∧ Pv i H, ⟨xs.length, by simp, Nat.zero_le _, h0⟩, ?_⟩
  rintro i m H ⟨rfl, hi, p⟩
  have q := hl i H hi p
  by_cases hlt : i < xs.length
  · refine .inr ⟨⟨xs, xs[i], q, by simp [hlt]⟩, Pv (i + 1), fun H' p' => ⟨xs.length - (i + 1), by omega, rfl, hlt, p'⟩, fun x H' y => ?_⟩
    obtain ⟨e, y⟩ := y
    subst e
    exact hs i x _ (y xs q) p
  · have e : i = xs.length := by omega
    subst e
    exact .inl ⟨⟨xs, q, Nat.le_refl _⟩, hd H p⟩
end
end WS
/-! readings whose results are described by a relation on the heap that is known: B the heap that is known, H the heap that is, X the heap at the call -/
namespace RX
open PySem PySem.Spec PyProof.Rows L2 Evl LX
/-- what B' knows besides B does not stand in X -/
def Av (X B B' : Hp) : Prop := ∀ a, B a = none → X a ≠ none → B' a = none
structure Gr (X B B' : Hp) : Prop where
  ex : Ex B B'
  av : Av X B B'
theorem ex_ne {H H' : Hp} {a : Addr} (e : Ex H H') (h : H a ≠ none) : H' a ≠ none := by
  cases q : H a with
  | none => exact absurd q h
  | some o => rw [e a o q]; exact Option.some_ne_none o
theorem Av.back {X H B B' : Hp} (e : Ex X H) (h : Av H B B') : Av X B B' := fun a ha hx => h a ha (ex_ne e hx)
theorem Gr.refl (X B : Hp) : Gr X B B := ⟨Ex.refl B, fun _ h _ => h⟩
theorem Gr.trans {X B B' B'' : Hp} (a : Gr X B B') (b : Gr X B' B'') : Gr X B B'' := ⟨a.ex.trans b.ex, fun x h hx => b.av x (a.av x h hx) hx⟩
theorem Gr.back {X H B B' : Hp} (e : Ex X H) (h : Gr H B B') : Gr X B B' := ⟨h.ex, h.av.back e⟩
/-- both together -/
def mrg (B1 B2 : Hp) : Hp := fun a => match B1 a with | some o => some o | none => B2 a
theorem mrg_some {B1 B2 : Hp} {a : Addr} {o : HO} (h : B1 a = some o) : mrg B1 B2 a = some o := by unfold mrg; rw [h]
theorem mrg_none {B1 B2 : Hp} {a : Addr} (h : B1 a = none) : mrg B1 B2 a = B2 a := by unfold mrg; rw [h]
theorem mrg_l {B1 B2 : Hp} : Ex B1 (mrg B1 B2) := fun _ _ h => mrg_some h
theorem mrg_le {B1 B2 H : Hp} (e1 : Ex B1 H) (e2 : Ex B2 H) : Ex (mrg B1 B2) H := fun a o h => by
  cases q : B1 a with
  | none => rw [mrg_none q] at h; exact e2 a o h
  | some u => rw [mrg_some q] at h; rw [← h]; exact e1 a u q
theorem mrg_r {B1 B2 H : Hp} (e1 : Ex B1 H) (e2 : Ex B2 H) : Ex B2 (mrg B1 B2) := fun a o h => by
  cases q : B1 a with
  | none => rw [mrg_none q]; exact h
  | some u => rw [mrg_some q, ← e1 a u q, e2 a o h]
theorem mrg_av {H B B1 B2 : Hp} (a : Av H B B1) (b : Av H B B2) : Av H B (mrg B1 B2) := fun x h hx => by
  rw [mrg_none (a x h hx)]
  exact b x h hx
/-- a new object -/
theorem gr_new {X B : Hp} {p : Addr} {o : HO} (hb : B p = none) (hx : X p = none) : Gr X B (upd B p o) := ⟨Ex.new hb, fun a ha hxa => by
  by_cases e : a = p
  · subst e; exact absurd hx hxa
  · rw [upd_ne e]; exact ha⟩
theorem ex_upd {B H : Hp} {p : Addr} {o : HO} (e : Ex B H) (h : H p = some o) : Ex (upd B p o) H := fun a u q => by
  by_cases e2 : a = p
  · subst e2; rw [upd_same] at q; rw [← q]; exact h
  · rw [upd_ne e2] at q; exact e a u q
theorem none_of {B H : Hp} {p : Addr} (e : Ex B H) (h : H p = none) : B p = none := fresh_back e h
/-- a description that stays -/
class Mo (P : V → Hp → Prop) : Prop where
  mo : ∀ {z H H'}, Ex H H' → P z H → P z H'
class MoA (P : List V → Hp → Prop) : Prop where
  mo : ∀ {z H H'}, Ex H H' → P z H → P z H'
def IsV (v : V) : V → Hp → Prop := fun z _ => z = v
def IsNL (xs : List V) : V → Hp → Prop := fun z H => ∃ p, z = .ref p ∧ H p = some (.lst xs)
def IsNU (xs : List V) : V → Hp → Prop := fun z H => ∃ p, z = .ref p ∧ H p = some (.tup xs)
/-- a list whose items are described -/
def IsLP (n : Nat) (P : Nat → V → Hp → Prop) : V → Hp → Prop := fun z H => ∃ p ys, z = .ref p ∧ H p = some (.lst ys) ∧ ys.length = n ∧ ∀ i y, ys[i]? = some y → P i y H
def IsUP (n : Nat) (P : Nat → V → Hp → Prop) : V → Hp → Prop := fun z H => ∃ p ys, z = .ref p ∧ H p = some (.tup ys) ∧ ys.length = n ∧ ∀ i y, ys[i]? = some y → P i y H
def IsD (K : PySem.W.Frag) (d : PyData) : V → Hp → Prop := fun z H => Dp K H z d
mutual
theorem dp_ex {K : PySem.W.Frag} {H H' : Hp} (e : Ex H H') : ∀ {v : V} {d : PyData}, Dp K H v d → Dp K H' v d
  | _, _, .non => .non
  | _, _, .bl b => .bl b
  | _, _, .int i => .int i
  | _, _, .str x => .str x
  | _, _, .lst h hs => .lst (ex_l e h) (dps_ex e hs)
  | _, _, .tup h hs => .tup (ex_t e h) (dps_ex e hs)
theorem dps_ex {K : PySem.W.Frag} {H H' : Hp} (e : Ex H H') : ∀ {vs : List V} {ds : List PyData}, DpAll K H vs ds → DpAll K H' vs ds
  | _, _, .nil => .nil
  | _, _, .cons h hs => .cons (dp_ex e h) (dps_ex e hs)
end
instance {v : V} : Mo (IsV v) := ⟨fun _ h => h⟩
instance {xs : List V} : Mo (IsNL xs) := ⟨fun e ⟨p, h, q⟩ => ⟨p, h, e _ _ q⟩⟩
instance {xs : List V} : Mo (IsNU xs) := ⟨fun e ⟨p, h, q⟩ => ⟨p, h, e _ _ q⟩⟩
instance {K : PySem.W.Frag} {d : PyData} : Mo (IsD K d) := ⟨fun e h => dp_ex e h⟩
instance {n : Nat} {P : Nat → V → Hp → Prop} [m : ∀ i, Mo (P i)] : Mo (IsLP n P) := ⟨fun e ⟨p, ys, h, q, l, k⟩ => ⟨p, ys, h, e _ _ q, l, fun i y hi => (m i).mo e (k i y hi)⟩⟩
instance {n : Nat} {P : Nat → V → Hp → Prop} [m : ∀ i, Mo (P i)] : Mo (IsUP n P) := ⟨fun e ⟨p, ys, h, q, l, k⟩ => ⟨p, ys, h, e _ _ q, l, fun i y hi => (m i).mo e (k i y hi)⟩⟩
def EvR (te : TE) (σ : L2.St) (B : Hp) (P : V → Hp → Prop) : Prop := ∀ H1, Ex B H1 → ∀ Q : VK, (∀ z H2 B', Ex H1 H2 → Gr H1 B B' → Ex B' H2 → P z B' → Q z H2) → te σ H1 Q
def EvAR (ta : TA) (σ : L2.St) (B : Hp) (P : List V → Hp → Prop) : Prop := ∀ H1, Ex B H1 → ∀ Q : List V → Hp → Prop, (∀ z H2 B', Ex H1 H2 → Gr H1 B B' → Ex B' H2 → P z B' → Q z H2) → ta σ H1 Q
section
variable {K : PySem.W.Frag} {σ : L2.St} {B B' H X : Hp} {ta tb te : TE} {t : TT} {tr : TA} {x y z v : V} {D : Ends} {tz tu tw : TS} {P : V → Hp → Prop} {xs : List V}
theorem EvR.mono (e : Ex B B') (m : Mo P) (h : EvR te σ B P) : EvR te σ B' P := fun H1 e1 Q q => h H1 (e.trans e1) Q fun z H2 B2 e2 g g2 p =>
  q z H2 (mrg B' B2) e2 ⟨mrg_l, fun a ha hx => by rw [mrg_none ha]; exact g.av a (none_of e ha) hx⟩ (mrg_le (e1.trans e2) g2) (m.mo (mrg_r (e1.trans e2) g2) p)
theorem EvR.imp {P' : V → Hp → Prop} (h : EvR te σ B P) (i : ∀ z B', Ex B B' → P z B' → P' z B') : EvR te σ B P' := fun H1 e1 Q q => h H1 e1 Q fun z H2 B2 e2 g g2 p => q z H2 B2 e2 g g2 (i z B2 g.ex p)
theorem eR_v (h : Ev te σ B v) : EvR te σ B (IsV v) := fun H1 e Q q => h H1 e Q fun H2 e2 => q v H2 B e2 (Gr.refl _ _) (e.trans e2) rfl
theorem rVp (h : Ev te σ B v) (hp : P v B) : EvR te σ B P := fun H1 e Q q => h H1 e Q fun H2 e2 => q v H2 B e2 (Gr.refl _ _) (e.trans e2) hp
theorem rL (h : EvL te σ B xs) : EvR te σ B (IsNL xs) := fun H1 e Q q => h H1 e Q fun p H2 hp e2 h2 => q _ H2 (upd B p (.lst xs)) e2 (gr_new (none_of e hp) hp) (ex_upd (e.trans e2) h2) ⟨p, rfl, upd_same⟩
theorem rU (h : EvU te σ B xs) : EvR te σ B (IsNU xs) := fun H1 e Q q => h H1 e Q fun p H2 hp e2 h2 => q _ H2 (upd B p (.tup xs)) e2 (gr_new (none_of e hp) hp) (ex_upd (e.trans e2) h2) ⟨p, rfl, upd_same⟩
theorem EvR.val (h : EvR te σ B (IsV v)) : Ev te σ B v := fun H1 e Q q => h H1 e Q fun z H2 B' e2 _ _ hz => by
  have hz : z = v := hz
  subst hz
  exact q H2 e2
theorem rA (h : EvA tr σ B xs) : EvAR tr σ B (fun vs _ => vs = xs) := fun H1 e Q q => h H1 e Q fun H2 e2 => q xs H2 B e2 (Gr.refl _ _) (e.trans e2) rfl
theorem ear_nil : EvAR tNil σ B fun vs _ => vs = [] := fun H1 e Q q => q [] H1 B (Ex.refl H1) (Gr.refl _ _) e rfl
theorem ear_cons {Pr : List V → Hp → Prop} (m : Mo P) (mr : MoA Pr) (h : EvR te σ B P) (hr : EvAR tr σ B Pr) : EvAR (tCons te tr) σ B fun vs B' => ∃ z r, vs = z :: r ∧ P z B' ∧ Pr r B' := fun H1 e Q q =>
  h H1 e _ fun z H2 B1 e2 g1 e3 p => hr H2 (e.trans e2) _ fun r H3 B2 e4 g2 e5 pr =>
    q _ H3 (mrg B1 B2) (e2.trans e4) ⟨g1.ex.trans mrg_l, mrg_av g1.av (g2.av.back e2)⟩ (mrg_le (e3.trans e4) e5) ⟨z, r, rfl, m.mo mrg_l p, mr.mo (mrg_r (e3.trans e4) e5) pr⟩
instance moA_nil : MoA fun vs _ => vs = ([] : List V) := ⟨fun _ h => h⟩
instance moA_eq {xs : List V} : MoA fun vs _ => vs = xs := ⟨fun _ h => h⟩
instance moA_cons {Pr : List V → Hp → Prop} [m : Mo P] [mr : MoA Pr] : MoA fun vs B' => ∃ z r, vs = z :: r ∧ P z B' ∧ Pr r B' := ⟨fun e ⟨z, r, h, p, q⟩ => ⟨z, r, h, m.mo e p, mr.mo e q⟩⟩
theorem ear (m : Mo P) {Pr : List V → Hp → Prop} [mr : MoA Pr] (h : EvR te σ B P) (hr : EvAR tr σ B Pr) : EvAR (tCons te tr) σ B fun vs B' => ∃ z r, vs = z :: r ∧ P z B' ∧ Pr r B' := ear_cons m mr h hr
/-- calls by contract -/
def spR (D : List V → Hp → (V → Hp → Prop) → Prop) : Sp := fun vs H1 Q _ => ∃ B P, Ex B H1 ∧ D vs B P ∧ ∀ z H2 B', Ex H1 H2 → Gr H1 B B' → Ex B' H2 → P z B' → Q z H2
theorem er_call {Dd : List V → Hp → (V → Hp → Prop) → Prop} {E : XK} {Pa : List V → Hp → Prop} (h : EvAR tr σ B Pa) (hs : ∀ vs B', Ex B B' → Pa vs B' → Dd vs B' P) : EvR (tCall (spR Dd) [] E tr) σ B P := fun H1 e Q q =>
  h H1 e _ fun vs H2 B1 e2 g1 e3 pa => by
    show spR Dd (vs ++ []) H2 Q E
    rw [List.append_nil]
    exact ⟨B1, P, e3, hs vs B1 g1.ex pa, fun z H3 B' e4 g2 e5 p => q z H3 B' (e2.trans e4) (g1.trans (g2.back e2)) e5 p⟩
theorem er_callV {Dd : List V → Hp → (V → Hp → Prop) → Prop} {E : XK} {vs : List V} (h : EvA tr σ B vs) (hs : Dd vs B P) (hm : ∀ B', Ex B B' → Dd vs B' P := by intros; assumption) : EvR (tCall (spR Dd) [] E tr) σ B P := er_call (rA h) fun vs' B' e q => by
  subst q
  exact hm B' e
/-- statements -/
def Sx (X : Hp) (ts : TS) (D : Ends) (σ : L2.St) (B : Hp) : Prop := ∀ H, Ex B H → Ex X H → ts D σ H
theorem Sx.mono (e : Ex B B') (h : Sx X tu D σ B) : Sx X tu D σ B' := fun H a b => h H (e.trans a) b
theorem x_last (h : Sx X (tSeq tu tNext) D σ B) : Sx X tu D σ B := h
theorem x_asg {i : Nat} (h : EvR te σ B P) (k : ∀ z B', Gr X B B' → P z B' → Sx X tz D (σ.set i (some z)) B') : Sx X (tSeq (tAsg te (gName i)) tz) D σ B := fun H e eX => h H e _ fun z H2 B' e2 g e3 p => k z B' (g.back eX) p H2 e3 (eX.trans e2)
theorem x_asgV {i : Nat} (h : Ev te σ B v) (k : Sx X tz D (σ.set i (some v)) B) : Sx X (tSeq (tAsg te (gName i)) tz) D σ B := fun H e eX => h H e _ fun H2 e2 => k H2 (e.trans e2) (eX.trans e2)
/-- a new list: X does not know it -/
theorem x_asgL {i : Nat} (h : EvL te σ B xs) (k : ∀ p, B p = none → X p = none → Sx X tz D (σ.set i (some (.ref p))) (upd B p (.lst xs))) : Sx X (tSeq (tAsg te (gName i)) tz) D σ B := fun H e eX => h H e _ fun p H2 hp e2 h2 => k p (none_of e hp) (none_of eX hp) H2 (ex_upd (e.trans e2) h2) (eX.trans e2)
theorem x_ret (h : EvR te σ B P) (k : ∀ z B' H, Gr X B B' → P z B' → Ex B' H → Ex X H → D.rt z H) : Sx X (tRet te) D σ B := fun H e eX => h H e _ fun z H2 B' e2 g e3 p => k z B' H2 (g.back eX) p e3 (eX.trans e2)
theorem x_when {b : Bool} (h : EvT t σ B b) (h1 : b = true → Sx X tu { D with nx := tz D } σ B) (h2 : b = false → Sx X tz D σ B) : Sx X (tSeq (tIfS t tu tNext) tz) D σ B := fun H e eX => h H e _ fun H2 e2 => by
  cases b with
  | true => exact h1 rfl H2 (e.trans e2) (eX.trans e2)
  | false => exact h2 rfl H2 (e.trans e2) (eX.trans e2)
theorem x_if {b : Bool} (h : EvT t σ B b) (h1 : b = true → Sx X tu { D with nx := tz D } σ B) (h2 : b = false → Sx X tw { D with nx := tz D } σ B) : Sx X (tSeq (tIfS t tu tw) tz) D σ B := fun H e eX => h H e _ fun H2 e2 => by
  cases b with
  | true => exact h1 rfl H2 (e.trans e2) (eX.trans e2)
  | false => exact h2 rfl H2 (e.trans e2) (eX.trans e2)
theorem x_end (h : Sx X tz D σ B) : Sx X tNext { D with nx := tz D } σ B := h
theorem x_drop (h : Ev te σ B v) (k : Sx X tz D σ B) : Sx X (tSeq (tDrop te) tz) D σ B := fun H e eX => h H e _ fun H2 e2 => k H2 (e.trans e2) (eX.trans e2)
/-- what a loop's turn hands on -/
def NxS (X : Hp) (R : L2.St → Hp → Prop) : L2.St → Hp → Prop := fun σ H => ∃ B, R σ B ∧ Ex B H ∧ Ex X H
theorem x_nx {R : L2.St → Hp → Prop} (hD : D.nx = NxS X R) (h : R σ B) : Sx X tNext D σ B := fun H e eX => by
  show D.nx σ H
  rw [hD]
  exact ⟨B, h, e, eX⟩
def del (B : Hp) (l : Addr) : Hp := fun a => if a = l then none else B a
theorem del_ex : Ex (del B x') B := fun a o h => by
  unfold del at h
  split at h
  · exact nomatch h
  · exact h
theorem del_same {l : Addr} : del B l l = none := by unfold del; rw [if_pos rfl]
theorem del_ne {l a : Addr} (h : a ≠ l) : del B l a = B a := by unfold del; rw [if_neg h]
/-- xs.append(e), e not told by xs -/
theorem x_app {l : Addr} (m : Mo P) (hl : B l = some (.lst xs)) (hX : X l = none) (ha : Ev ta σ B (.ref l)) (h : EvR te σ (del B l) P) (hz : xs.length < 100000)
    (k : ∀ z B', Gr X (del B l) B' → B' l = none → P z B' → Sx X tz D σ (upd B' l (.lst (xs ++ [z])))) : Sx X (tSeq (tDrop (tBM K "list" rAppend ta (tCons te tNil))) tz) D σ B := fun H e eX => by
  refine ha H e _ fun H1 e1 => ⟨Or.inl ⟨rfl, xs, sq_of (e1 l _ (e l _ hl))⟩, h H1 (del_ex.trans (e.trans e1)) _ fun z H2 B' e2 g e3 p => ?_⟩
  have hH1 : H1 l = some (.lst xs) := e1 l _ (e l _ hl)
  have hB' : B' l = none := g.av l del_same (by rw [hH1]; exact Option.some_ne_none _)
  refine ⟨l, xs, z, rfl, rfl, e2 l _ hH1, sz_lt hz, ?_⟩
  refine k z B' (g.back (eX.trans e1)) hB' p _ (fun a u q => ?_) (fun a u q => ?_)
  · by_cases c : a = l
    · subst c; rw [upd_same] at q ⊢; exact q
    · rw [upd_ne c] at q ⊢; exact e3 a u q
  · have c : a ≠ l := fun c => by subst c; rw [hX] at q; exact nomatch q
    rw [upd_ne c]
    exact e2 a u (e1 a u (eX a u q))
/-- what is given one after another -/
structure FIt (J : It) (xs : List V) (F : Hp) : Prop where
  go : ∀ i H, Ex F H → i < xs.length → J.go i H
  stop : ∀ H, Ex F H → J.stop xs.length H
  yld : ∀ i H x H', Ex F H → J.yld i H x H' → i < xs.length → H' = H ∧ xs[i]? = some x
def EvI (wi : TI) (σ : L2.St) (B : Hp) (Pxs : List V → Hp → Prop) : Prop := ∀ H1, Ex B H1 → ∀ R : It → Hp → Prop, (∀ J H2 B' xs, Ex H1 H2 → Gr H1 B B' → Ex B' H2 → Pxs xs B' → FIt J xs B' → R J H2) → wi σ H1 R
theorem fit_l {a : Addr} (h : SqL K B a xs) : FIt (Itl K a) xs B :=
  ⟨fun i H e hi => ⟨xs, xs[i], ex_l e h, by simp [hi]⟩, fun H e => ⟨xs, ex_l e h, Nat.le_refl _⟩, fun i H x H' e ⟨e1, y⟩ _ => ⟨e1, y xs (ex_l e h)⟩⟩
theorem fit_t {a : Addr} (h : SqT K B a xs) : FIt (Itt K a) xs B :=
  ⟨fun i H e hi => ⟨xs, xs[i], ex_t e h, by simp [hi]⟩, fun H e => ⟨xs, ex_t e h, Nat.le_refl _⟩, fun i H x H' e ⟨e1, y⟩ _ => ⟨e1, y xs (ex_t e h)⟩⟩
def rngV (lo : Int) (n : Nat) : List V := (List.range n).map fun (i : Nat) => V.int (lo + (i : Int))
theorem rngV_len {lo : Int} {n : Nat} : (rngV lo n).length = n := by unfold rngV; simp
theorem fit_r {lo : Int} {n : Nat} : FIt (Itr lo n) (rngV lo n) B := by
  refine ⟨fun i H e hi => by rw [rngV_len] at hi; exact hi, fun H e => by show n ≤ _; rw [rngV_len]; exact Nat.le_refl _, fun i H x H' e ⟨e1, y⟩ hi => ⟨e1, ?_⟩⟩
  rw [rngV_len] at hi
  unfold rngV
  rw [List.getElem?_map, List.getElem?_range hi, y]
  rfl
theorem ei_list {a : Addr} (h : Ev te σ B (.ref a)) (hx : SqL K B a xs) : EvI (iList K te) σ B fun ys _ => ys = xs := fun H1 e R q =>
  h H1 e _ fun H2 e2 => ⟨a, rfl, ⟨xs, ex_l (e.trans e2) hx⟩, q _ H2 B xs e2 (Gr.refl _ _) (e.trans e2) rfl (fit_l hx)⟩
theorem ei_tup {a : Addr} (h : Ev te σ B (.ref a)) (hx : SqT K B a xs) : EvI (iTup K te) σ B fun ys _ => ys = xs := fun H1 e R q =>
  h H1 e _ fun H2 e2 => ⟨a, rfl, ⟨xs, ex_t (e.trans e2) hx⟩, q _ H2 B xs e2 (Gr.refl _ _) (e.trans e2) rfl (fit_t hx)⟩
theorem ei_rng1 {n : Int} (h : EvA tr σ B [.int n]) (hn : 0 ≤ n ∧ n ≤ 1000000000) : EvI (iRng1 tr) σ B fun ys _ => ys = rngV 0 n.toNat := fun H1 e R q =>
  h H1 e _ fun H2 e2 => ⟨n, rfl, by omega, by omega, q _ H2 B _ e2 (Gr.refl _ _) (e.trans e2) rfl fit_r⟩
/-- over a list that is told -/
theorem ei_listR {Pxs : List V → Hp → Prop} (h : EvR te σ B fun z B' => ∃ a ys, z = .ref a ∧ SqL K B' a ys ∧ Pxs ys B') : EvI (iList K te) σ B Pxs := fun H1 e R q =>
  h H1 e _ fun z H2 B' e2 g e3 ⟨a, ys, hz, hs, hp⟩ => ⟨a, hz, ⟨ys, ex_l e3 hs⟩, q _ H2 B' ys e2 g e3 hp (fit_l hs)⟩
theorem ei_tupR {Pxs : List V → Hp → Prop} (h : EvR te σ B fun z B' => ∃ a ys, z = .ref a ∧ SqT K B' a ys ∧ Pxs ys B') : EvI (iTup K te) σ B Pxs := fun H1 e R q =>
  h H1 e _ fun z H2 B' e2 g e3 ⟨a, ys, hz, hs, hp⟩ => ⟨a, hz, ⟨ys, ex_t e3 hs⟩, q _ H2 B' ys e2 g e3 hp (fit_t hs)⟩
/-- for: F what stays, B the heap at the loop's start -/
theorem x_for {F : Hp} {wi : TI} {j : Nat} {Pxs : List V → Hp → Prop} (hF : Ex F B) (hi : EvI wi σ F Pxs) (Pv : Hp → List V → Nat → L2.St → Hp → Prop) (h0 : ∀ F' xs, Gr X F F' → Pxs xs F' → (∀ a, F a = none → B a ≠ none → F' a = none) → Pv F' xs 0 σ (mrg F' B))
    (hl : ∀ F' xs i σ' B', Pv F' xs i σ' B' → Ex F' B')
    (hs : ∀ F' xs i x σ' B', Gr X F F' → Pxs xs F' → xs[i]? = some x → Pv F' xs i σ' B' → Sx X tu { D with nx := NxS X (Pv F' xs (i + 1)), ct := NxS X (Pv F' xs (i + 1)), bk := tz D } (σ'.set j (some x)) B')
    (hd : ∀ F' xs σ' B', Gr X F F' → Pxs xs F' → Pv F' xs xs.length σ' B' → Sx X tz D σ' B') : Sx X (tSeq (tFor wi (gName j) tu) tz) D σ B := fun H e eX => by
  refine hi H (hF.trans e) _ fun J H2 F' xs e2 g e3 px ft => ?_
  have gX := g.back eX
  refine ⟨fun i m σ' H' => m = xs.length - i ∧ i ≤ xs.length ∧ ∃ B', Pv F' xs i σ' B' ∧ Ex B' H' ∧ Ex X H', ⟨xs.length, by simp, Nat.zero_le _, mrg F' B, h0 F' xs gX px (fun a ha hb => g.av a ha (ex_ne e hb)), mrg_le e3 (e.trans e2), eX.trans e2⟩, ?_⟩
  rintro i m σ' H' ⟨rfl, hi', B', p, eB, eX'⟩
  have eF := (hl F' xs i σ' B' p).trans eB
  by_cases hlt : i < xs.length
  · refine .inr ⟨ft.go i H' eF hlt, NxS X (Pv F' xs (i + 1)), fun σ2 H3 ⟨B3, p3, e4, e5⟩ => ⟨xs.length - (i + 1), by omega, rfl, hlt, B3, p3, e4, e5⟩, fun x H3 y => ?_⟩
    obtain ⟨r, hx⟩ := ft.yld i H' x H3 eF y hlt
    subst r
    exact hs F' xs i x σ' B' gX px hx p H3 eB eX'
  · have c : i = xs.length := by omega
    subst c
    exact .inl ⟨ft.stop H' eF, hd F' xs σ' B' gX px p H' eB eX'⟩
/-- the items that stood the test, as described -/
def Told (f : Nat → Bool) (Pe : Nat → V → Hp → Prop) (i : Nat) (ys : List V) (B : Hp) : Prop := ys.length = ((List.range i).filter f).length ∧ ∀ (k : Nat) (y : V) (n : Nat), ys[k]? = some y → ((List.range i).filter f)[k]? = some n → Pe n y B
theorem told_nil {f : Nat → Bool} {Pe : Nat → V → Hp → Prop} : Told f Pe 0 [] B := ⟨rfl, fun k y n h => nomatch h⟩
theorem told_no {f : Nat → Bool} {Pe : Nat → V → Hp → Prop} {i : Nat} {ys : List V} (h : Told f Pe i ys B) (hf : f i = false) : Told f Pe (i + 1) ys B := by
  unfold Told
  rw [List.range_succ, List.filter_append, List.filter_cons_of_neg (by simp [hf]), List.filter_nil, List.append_nil]
  exact h
theorem told_yes {f : Nat → Bool} {Pe : Nat → V → Hp → Prop} {i : Nat} {ys : List V} (h : Told f Pe i ys B) (hf : f i = true) (hy : Pe i y B) : Told f Pe (i + 1) (ys ++ [y]) B := by
  obtain ⟨hl, hp⟩ := h
  have e : (List.range (i + 1)).filter f = (List.range i).filter f ++ [i] := by
    rw [List.range_succ, List.filter_append, List.filter_cons_of_pos (by simp [hf]), List.filter_nil]
  unfold Told
  rw [e]
  refine ⟨by rw [List.length_append, List.length_append, hl]; rfl, fun k u n hk hn => ?_⟩
  by_cases c : k < ys.length
  · rw [List.getElem?_append_left c] at hk
    rw [List.getElem?_append_left (by omega)] at hn
    exact hp k u n hk hn
  · have c2 : k < (ys ++ [y]).length := (List.getElem?_eq_some_iff.mp hk).1
    rw [List.length_append, List.length_singleton] at c2
    have c3 : k = ys.length := by omega
    subst c3
    rw [List.getElem?_append_right (Nat.le_refl _), Nat.sub_self] at hk
    rw [hl, List.getElem?_append_right (Nat.le_refl _), Nat.sub_self] at hn
    cases hk
    cases hn
    exact hy
theorem Told.mono {f : Nat → Bool} {Pe : Nat → V → Hp → Prop} (mo : ∀ i, Mo (Pe i)) {i : Nat} {ys : List V} (e : Ex B B') (h : Told f Pe i ys B) : Told f Pe i ys B' := ⟨h.1, fun k y n a b => (mo n).mo e (h.2 k y n a b)⟩
theorem Told.len {f : Nat → Bool} {Pe : Nat → V → Hp → Prop} {i : Nat} {ys : List V} (h : Told f Pe i ys B) : ys.length ≤ i := by
  rw [h.1]
  have := List.length_filter_le f (List.range i)
  rw [List.length_range] at this
  exact this
/-- no test -/
theorem Told.all {Pe : Nat → V → Hp → Prop} {i : Nat} {ys : List V} (h : Told (fun _ => true) Pe i ys B) : ys.length = i ∧ ∀ (k : Nat) (y : V), ys[k]? = some y → Pe k y B := by
  obtain ⟨hl, hp⟩ := h
  have e : (List.range i).filter (fun _ => true) = List.range i := List.filter_eq_self.mpr fun _ _ => rfl
  rw [e] at hl hp
  rw [List.length_range] at hl
  refine ⟨hl, fun k y hk => hp k y k hk ?_⟩
  have := (List.getElem?_eq_some_iff.mp hk).1
  rw [List.getElem?_range (by omega)]
/-- [e for x in it if ..]: f which of them, Pe what each is -/
theorem er_lc {wi : TI} {j : Nat} {vs : List Nat} {Pxs : List V → Hp → Prop} (f : List V → Nat → Bool) (Pe : List V → Nat → V → Hp → Prop) (mo : ∀ xs i, Mo (Pe xs i)) (mp : MoA Pxs) (hi : EvI wi σ B Pxs) (hw : ∀ x, wipe ((wipe σ vs).set j (some x)) vs = wipe σ vs)
    (hz : ∀ xs B', Pxs xs B' → xs.length ≤ 40000)
    (ht : ∀ xs i x B', Ex B B' → Pxs xs B' → xs[i]? = some x → EvT t ((wipe σ vs).set j (some x)) B' (f xs i)) (he : ∀ xs i x B', Ex B B' → Pxs xs B' → xs[i]? = some x → f xs i = true → EvR te ((wipe σ vs).set j (some x)) B' (Pe xs i)) :
    EvR (tLc wi (gName j) t te vs) σ B fun z B' => ∃ (xs : List V) (p : Addr) (ys : List V), Pxs xs B' ∧ z = .ref p ∧ B' p = some (.lst ys) ∧ Told (f xs) (Pe xs) xs.length ys B' := fun H1 e Q q => by
  refine hi H1 e _ fun J H2 B1 xs e2 g e3 px ft => fun Dl hD => ?_
  have hD1 : B1 Dl = none := none_of e3 hD
  refine ⟨fun i m H' => m = xs.length - i ∧ i ≤ xs.length ∧ ∃ Bs ys, Gr H2 B1 Bs ∧ Bs Dl = none ∧ Ex Bs H' ∧ H' Dl = some (.lst ys) ∧ Told (f xs) (Pe xs) i ys Bs ∧ Ex H2 H', ⟨xs.length, by simp, Nat.zero_le _, B1, [], Gr.refl _ _, hD1, e3.trans (Ex.new hD), upd_same, told_nil, Ex.new hD⟩, ?_⟩
  rintro i m H' ⟨rfl, hi', Bs, ys, gs, hDs, es, hDl, td, e2'⟩
  have eF : Ex B1 H' := gs.ex.trans es
  by_cases hlt : i < xs.length
  · refine .inr ⟨ft.go i H' eF hlt, fun H'' => (xs.length - (i + 1)) = xs.length - (i + 1) ∧ i + 1 ≤ xs.length ∧ ∃ Bs ys, Gr H2 B1 Bs ∧ Bs Dl = none ∧ Ex Bs H'' ∧ H'' Dl = some (.lst ys) ∧ Told (f xs) (Pe xs) (i + 1) ys Bs ∧ Ex H2 H'', fun H'' h => ⟨_, by omega, h⟩, fun x H3 y => ?_⟩
    obtain ⟨r, hx⟩ := ft.yld i H' x H3 eF y hlt
    subst r
    refine ⟨hw x, ht xs i x B1 g.ex px hx H3 eF _ fun H4 e4 => ?_⟩
    cases hf : f xs i with
    | false => exact ⟨rfl, hlt, Bs, ys, gs, hDs, es.trans e4, e4 _ _ hDl, told_no td hf, e2'.trans e4⟩
    | true =>
      refine he xs i x B1 g.ex px hx hf H4 (eF.trans e4) _ fun z H5 B' e5 g5 e6 pz => ⟨ys, e5 _ _ (e4 _ _ hDl), sz_lt (by have := td.len; have := hz xs B1 px; omega), rfl, hlt, mrg Bs B', ys ++ [z], ?_⟩
      have hB' : B' Dl = none := g5.av Dl hD1 (by rw [e4 _ _ hDl]; exact Option.some_ne_none _)
      have hM : mrg Bs B' Dl = none := by rw [mrg_none hDs]; exact hB'
      have eM : Ex (mrg Bs B') H5 := mrg_le ((es.trans e4).trans e5) e6
      refine ⟨⟨gs.ex.trans mrg_l, mrg_av gs.av (g5.av.back (e2'.trans e4))⟩, hM, fun a o ha => ?_, upd_same, told_yes (td.mono (mo xs) mrg_l) hf ((mo xs i).mo (mrg_r ((es.trans e4).trans e5) e6) pz), fun a o ha => ?_⟩
      · have c : a ≠ Dl := fun c => by subst c; rw [hM] at ha; exact nomatch ha
        rw [upd_ne c]; exact eM a o ha
      · have c : a ≠ Dl := fun c => by subst c; rw [hD] at ha; exact nomatch ha
        rw [upd_ne c]; exact e5 a o (e4 a o (e2' a o ha))
  · have c : i = xs.length := by omega
    subst c
    refine .inl ⟨ft.stop H' eF, q (.ref Dl) H' (upd Bs Dl (.lst ys)) (e2.trans e2') ⟨(g.ex.trans gs.ex).trans (Ex.new hDs), fun a ha hx => ?_⟩ (ex_upd es hDl) ⟨xs, Dl, ys, mp.mo (gs.ex.trans (Ex.new hDs)) px, rfl, upd_same, td.mono (mo xs) (Ex.new hDs)⟩⟩
    have c : a ≠ Dl := fun c => by subst c; exact ex_ne e2 hx hD
    rw [upd_ne c]
    exact gs.av a (g.av a ha hx) (ex_ne e2 hx)
end
end RX
/-! lists and tuples alike; values by their data -/
namespace RX
open PySem PySem.Spec PyProof.Rows L2 Evl LX
def SqA (K : PySem.W.Frag) (H : Hp) (a : Addr) (xs : List V) : Prop := SqL K H a xs ∨ SqT K H a xs
theorem ex_a {K : PySem.W.Frag} {H H' : Hp} {a : Addr} {xs : List V} (e : Ex H H') (h : SqA K H a xs) : SqA K H' a xs := h.imp (ex_l e) (ex_t e)
def LsP (K : PySem.W.Frag) (Py : List V → Hp → Prop) : V → Hp → Prop := fun z B => ∃ p ys, z = .ref p ∧ SqL K B p ys ∧ Py ys B
def TpP (K : PySem.W.Frag) (Py : List V → Hp → Prop) : V → Hp → Prop := fun z B => ∃ p ys, z = .ref p ∧ SqT K B p ys ∧ Py ys B
def SqP (K : PySem.W.Frag) (Py : List V → Hp → Prop) : V → Hp → Prop := fun z B => ∃ p ys, z = .ref p ∧ SqA K B p ys ∧ Py ys B
instance {K : PySem.W.Frag} {Py : List V → Hp → Prop} [m : MoA Py] : Mo (LsP K Py) := ⟨fun e ⟨p, ys, h, s, q⟩ => ⟨p, ys, h, ex_l e s, m.mo e q⟩⟩
instance {K : PySem.W.Frag} {Py : List V → Hp → Prop} [m : MoA Py] : Mo (TpP K Py) := ⟨fun e ⟨p, ys, h, s, q⟩ => ⟨p, ys, h, ex_t e s, m.mo e q⟩⟩
instance {K : PySem.W.Frag} {Py : List V → Hp → Prop} [m : MoA Py] : Mo (SqP K Py) := ⟨fun e ⟨p, ys, h, s, q⟩ => ⟨p, ys, h, ex_a e s, m.mo e q⟩⟩
/-! ### data -/
def tyD : PyData → String
  | .none => "NoneType"
  | .bool _ => "bool"
  | .int _ => "int"
  | .str _ => "str"
  | .list _ => "list"
  | .tuple _ => "tuple"
  | _ => ""
def seqD : PyData → Option (List PyData)
  | .list ds => some ds
  | .tuple ds => some ds
  | _ => none
def wholeD : PyData → Bool
  | .int _ => true
  | _ => false
def betweenD (d : PyData) (lo hi : Int) : Bool := match d with
  | .int i => decide (lo ≤ i) && decide (i ≤ hi)
  | _ => false
section
variable {K : PySem.W.Frag} {H : Hp} {v : V} {d : PyData}
theorem sql_ty {a : Addr} {xs : List V} (h : SqL K H a xs) : TyX K H (.ref a) (.type "list") := by
  rcases h with (h | ⟨o, h⟩) | ⟨o, its, n, hk, hc, _⟩
  · exact .base (.lst h)
  · exact .base (.frz h)
  · exact .kList hk hc
theorem sqt_ty {a : Addr} {xs : List V} (h : SqT K H a xs) : TyX K H (.ref a) (.type "tuple") := by
  rcases h with (h | ⟨o, h⟩) | ⟨o, its, n, hk, hc, _⟩
  · exact .base (.tup h)
  · exact .fTuple h
  · exact .kTuple hk hc
theorem dp_ty : Dp K H v d → TyX K H v (.type (tyD d))
  | .non => .base .non
  | .bl b => .base (.bl b)
  | .int i => .base (.int i)
  | .str x => .base (.str x)
  | .lst h _ => sql_ty h
  | .tup h _ => sqt_ty h
theorem dp_seq {ds : List PyData} (h : Dp K H v d) (hs : seqD d = some ds) : ∃ a xs, v = .ref a ∧ SqA K H a xs ∧ DpAll K H xs ds := by
  cases h with
  | lst h hs' => cases hs; exact ⟨_, _, rfl, .inl h, hs'⟩
  | tup h hs' => cases hs; exact ⟨_, _, rfl, .inr h, hs'⟩
  | _ => exact nomatch hs
theorem dps_len {vs : List V} {ds : List PyData} : DpAll K H vs ds → vs.length = ds.length
  | .nil => rfl
  | .cons _ t => by rw [List.length_cons, List.length_cons, dps_len t]
theorem dps_get : ∀ {vs : List V} {ds : List PyData} {i : Nat} {x : V}, DpAll K H vs ds → vs[i]? = some x → ∃ d, ds[i]? = some d ∧ Dp K H x d
  | _, _, 0, x, .cons (v := v) (d := d) h t, e => by
    have e : v = x := Option.some.inj e
    exact ⟨d, rfl, e ▸ h⟩
  | _, _, i + 1, x, .cons h t, e => dps_get (i := i) t e
end
/-! ### rules -/
section
variable {X : Cx} {K : PySem.W.Frag}
def rIxA (K : PySem.W.Frag) : R2 := fun x y H Q => rIxL K x y H Q ∨ rIxT K x y H Q
theorem k_ixa (h : X.K = K := by rfl) : IxR X (rIxA K) := (k_ixl h).or (k_ixt h)
theorem k_isiT (h : X.K = K := by rfl) : CallR X (.builtin "isinstance") (rIsiT K) := by subst h; exact call_isiT
theorem k_all (hc : X.calm = true) (h : X.K = K := by rfl) : CallR X (.builtin "all") (rAll K) := by subst h; exact cr_all hc
theorem k_any (hc : X.calm = true) (h : X.K = K := by rfl) : CallR X (.builtin "any") (rAny K) := by subst h; exact cr_any hc
def gOr (t u : TG) : TG := fun v σ H Q => t v σ H Q ∨ u v σ H Q
theorem pg_or {tg : Expr} {t u : TG} (a : PG X tg t) (b : PG X tg u) : PG X tg (gOr t u) := ⟨fun pins s σ H v u' Q I r h => h.elim (a.run pins s σ H v u' Q I r) (b.run pins s σ H v u' Q I r)⟩
def iOr (t u : TI) : TI := fun σ H R => t σ H R ∨ u σ H R
theorem pi_or {tg e : Expr} {t u : TI} (a : PI X tg e t) (b : PI X tg e u) : PI X tg e (iOr t u) := ⟨fun pins s σ H R I h => h.elim (a.run pins s σ H R I) (b.run pins s σ H R I)⟩
/-- list or tuple -/
def iSeq (K : PySem.W.Frag) (te : TE) : TI := iOr (iList K te) (iTup K te)
theorem pi_seq {tg e : Expr} {te : TE} (he : PE X e te) (h : X.K = K := by rfl) : PI X tg e (iSeq K te) := by subst h; exact pi_or (pi_list he) (pi_tup he)
def gSeq (K : PySem.W.Frag) (n : Nat) (t : TGs) : TG := gOr (gTup K n t) (gUnl K n t)
theorem pg_seq {es : List Expr} {k : Nat} {pos : Pos} {t : TGs} {n : Nat} (hc : X.calm = true) (hs : PGs X es t) (hn : (assignEach es X.env).length = n := by rfl) (hst : (assignEach es X.env).findIdx? (·.1) = none := by rfl) (h : X.K = K := by rfl) : PG X (.Tuple es k pos) (gSeq K n t) := by
  subst h; exact pg_or (pg_tup hc hs hn hst) (pg_unl hc hs hn hst)
end
/-! ### readings -/
section
variable {K : PySem.W.Frag} {σ : L2.St} {B X : Hp} {ta tb tc te : TE} {t : TT} {tr : TA} {x y z v : V} {D : Ends} {tz : TS} {P : V → Hp → Prop} {xs : List V} {d : PyData}
theorem ei_seq {a : Addr} (h : Ev te σ B (.ref a)) (hx : SqA K B a xs) : EvI (iSeq K te) σ B fun ys _ => ys = xs := fun H1 e R q => by
  rcases hx with hx | hx
  · exact .inl (ei_list h hx H1 e R q)
  · exact .inr (ei_tup h hx H1 e R q)
theorem ev_isiD {n : String} {b : Bool} (h : Ev te σ B x) (hd : Dp K B x d) (hk : kitB (tyD d) n = some b) : Ev (tCB (rIsi K) (tCons te (tCons (tC (.ty n)) tNil))) σ B (.bl b) :=
  ev_isi h (.ty n) (fun _ e => dp_ty (dp_ex e hd)) (kit_ty hk)
theorem ev_isiT2 {n m : String} {a b : Bool} (h : Ev te σ B x) (hd : Dp K B x d) (ha : kitB (tyD d) n = some a) (hb : kitB (tyD d) m = some b) : Ev (tCB (rIsiT K) (tCons te (tCons (tTup (tCons (tC (.ty n)) (tCons (tC (.ty m)) tNil))) tNil))) σ B (.bl (a || b)) := fun H1 e Q q => by
  refine h H1 e _ fun H2 e2 => ?_
  refine (eu_tup (vs := [.ty n, .ty m]) (ea_cons ev_c (ea_cons ev_c ea_nil)) (show (2 : Nat) ≤ 100000 by decide)) H2 (Ex.refl H2) _ fun p H3 hp e3 h3 => ?_
  refine ⟨x, p, [.ty n, .ty m], .type (tyD d), [.type n, .type m], a || b, rfl, h3, .cons (.ty n) (.cons (.ty m) .nil), dp_ty (dp_ex ((e.trans e2).trans e3) hd), ?_, q H3 (e2.trans e3)⟩
  cases a with
  | true => exact kitAny_cons (kit_ty ha) (fun z => nomatch z) fun _ => rfl
  | false => exact kitAny_cons (kit_ty ha) (fun _ => kitAny_cons (kit_ty hb) (fun z => by subst z; exact kitAny_nil) fun z => by subst z; rfl) fun z => nomatch z
theorem ev_lenA {a : Addr} (ha : Ev ta σ B (.ref a)) (h : SqA K B a xs) : Ev (tCB (rLenS K) (tCons ta tNil)) σ B (.int (xs.length : Int)) := fun H1 e Q q =>
  ha H1 e _ fun H2 e2 => ⟨a, xs, rfl, h.imp (ex_l (e.trans e2)) (ex_t (e.trans e2)), q H2 e2⟩
theorem rv_ixA {p : Addr} {i : Int} (h : SqA K B p xs) (ha : atI xs i = some v) : RV (rIxA K) (.ref p) (.int i) B v := fun H1 e Q q => by
  rcases h with h | h
  · exact .inl (rv_ixL h ha H1 e Q q)
  · exact .inr (rv_ixT h ha H1 e Q q)
theorem ev_chain {f g : Int → Int → Bool} {i j k : Int} (ha : Ev ta σ B (.int i)) (hb : Ev tb σ B (.int j)) (hc : Ev tc σ B (.int k)) : Ev (tChain (rI0 fun i j => .bl (f i j)) (rI0 fun i j => .bl (g i j)) ta tb tc) σ B (.bl (f i j && g j k)) := fun H1 e Q q =>
  ha H1 e _ fun H2 e2 => hb H2 (e.trans e2) _ fun H3 e3 => ⟨i, j, rfl, rfl, f i j, rfl, by
    cases hf : f i j with
    | true =>
      rw [if_pos rfl]
      refine hc H3 ((e.trans e2).trans e3) _ fun H4 e4 => ⟨j, k, rfl, rfl, ?_⟩
      have z := q H4 ((e2.trans e3).trans e4)
      rw [hf] at z
      exact z
    | false =>
      rw [if_neg (by decide)]
      have z := q H3 (e2.trans e3)
      rw [hf] at z
      exact z⟩
theorem ev_m0 {r : V → List V → Hp → VK → Prop} {s : Str} (h : Ev te σ B (.str s)) (hr : ∀ H Q, Q v H → r (.str s) [] H Q) : Ev (tM0 r te) σ B v := fun H1 e Q q =>
  h H1 e _ fun H2 e2 => ⟨⟨s, rfl⟩, hr H2 _ (q H2 e2)⟩
theorem ev_all {n : Nat} {b : Nat → Bool} (h : EvR te σ B fun z B' => ∃ p ys, z = .ref p ∧ B' p = some (.lst ys) ∧ ys = (List.range n).map fun i => V.bl (b i)) : Ev (tCB (rAll K) (tCons te tNil)) σ B (.bl ((List.range n).all b)) := fun H1 e Q q =>
  h H1 e _ fun z H2 B' e2 g e3 ⟨p, ys, hz, hp, hy⟩ => by
    subst hz
    refine ⟨p, (List.range n).map b, rfl, sq_of ?_, ?_⟩
    · rw [e3 _ _ hp, hy, List.map_map]; rfl
    · have c : ((List.range n).map b).all id = (List.range n).all b := by rw [List.all_map]; rfl
      rw [c]
      exact q H2 e2
/-- tuple(e) -/
theorem er_tup {Py : List V → Hp → Prop} (m : MoA Py) (h : EvR te σ B (SqP K Py)) : EvR (tCB (rTupOf K) (tCons te tNil)) σ B (TpP K Py) := fun H1 e Q q =>
  h H1 e _ fun z H2 B' e2 g e3 ⟨p, ys, hz, hs, hp⟩ => by
    subst hz
    refine ⟨p, ys, rfl, ?_⟩
    rcases hs with hs | hs
    · refine .inl ⟨ex_l e3 hs, fun l hl => ?_⟩
      have hB : B' l = none := none_of e3 hl
      refine q _ _ (upd B' l (.tup ys)) (e2.trans (Ex.new hl)) ⟨g.ex.trans (Ex.new hB), fun a ha hx => ?_⟩ (fun a o ha => ?_) ⟨l, ys, rfl, st_of upd_same, m.mo (Ex.new hB) hp⟩
      · have c : a ≠ l := fun c => by subst c; exact ex_ne e2 hx hl
        rw [upd_ne c]; exact g.av a ha hx
      · by_cases c : a = l
        · subst c; rw [upd_same] at ha ⊢; exact ha
        · rw [upd_ne c] at ha ⊢; exact e3 a o ha
    · exact .inr ⟨ex_t e3 hs, q _ _ B' e2 g e3 ⟨p, ys, rfl, hs, hp⟩⟩
/-- list(e) -/
theorem er_list {Py : List V → Hp → Prop} (m : MoA Py) (h : EvR te σ B (SqP K Py)) : EvR (tCB (rListS K) (tCons te tNil)) σ B (fun z B' => ∃ p ys, z = .ref p ∧ B' p = some (.lst ys) ∧ B p = none ∧ Py ys B') := fun H1 e Q q =>
  h H1 e _ fun z H2 B' e2 g e3 ⟨p, ys, hz, hs, hp⟩ => by
    subst hz
    refine ⟨p, ys, rfl, hs.imp (ex_l e3) (ex_t e3), fun l hl => ?_⟩
    have hB : B' l = none := none_of e3 hl
    refine q _ _ (upd B' l (.lst ys)) (e2.trans (Ex.new hl)) ⟨g.ex.trans (Ex.new hB), fun a ha hx => ?_⟩ (fun a o ha => ?_) ⟨l, ys, rfl, upd_same, none_of g.ex hB, m.mo (Ex.new hB) hp⟩
    · have c : a ≠ l := fun c => by subst c; exact ex_ne e2 hx hl
      rw [upd_ne c]; exact g.av a ha hx
    · by_cases c : a = l
      · subst c; rw [upd_same] at ha ⊢; exact ha
      · rw [upd_ne c] at ha ⊢; exact e3 a o ha
/-- (e, ..) -/
theorem er_tupN {Pa : List V → Hp → Prop} (m : MoA Pa) (h : EvAR tr σ B Pa) (hl : ∀ vs B', Pa vs B' → vs.length ≤ 100000) : EvR (tTup tr) σ B (fun z B' => ∃ p vs, z = .ref p ∧ B' p = some (.tup vs) ∧ Pa vs B') := fun H1 e Q q =>
  h H1 e _ fun vs H2 B' e2 g e3 pa => ⟨sz_of (hl vs B' pa), fun p hp => by
    have hB : B' p = none := none_of e3 hp
    refine q _ _ (upd B' p (.tup vs)) (e2.trans (Ex.new hp)) ⟨g.ex.trans (Ex.new hB), fun a ha hx => ?_⟩ (fun a o ha => ?_) ⟨p, vs, rfl, upd_same, m.mo (Ex.new hB) pa⟩
    · have c : a ≠ p := fun c => by subst c; exact ex_ne e2 hx hp
      rw [upd_ne c]; exact g.av a ha hx
    · by_cases c : a = p
      · subst c; rw [upd_same] at ha ⊢; exact ha
      · rw [upd_ne c] at ha ⊢; exact e3 a o ha⟩
theorem er_lstN {Pa : List V → Hp → Prop} (m : MoA Pa) (h : EvAR tr σ B Pa) (hl : ∀ vs B', Pa vs B' → vs.length ≤ 100000) : EvR (tLst tr) σ B (fun z B' => ∃ p vs, z = .ref p ∧ B' p = some (.lst vs) ∧ Pa vs B') := fun H1 e Q q =>
  h H1 e _ fun vs H2 B' e2 g e3 pa => ⟨sz_of (hl vs B' pa), fun p hp => by
    have hB : B' p = none := none_of e3 hp
    refine q _ _ (upd B' p (.lst vs)) (e2.trans (Ex.new hp)) ⟨g.ex.trans (Ex.new hB), fun a ha hx => ?_⟩ (fun a o ha => ?_) ⟨p, vs, rfl, upd_same, m.mo (Ex.new hB) pa⟩
    · have c : a ≠ p := fun c => by subst c; exact ex_ne e2 hx hp
      rw [upd_ne c]; exact g.av a ha hx
    · by_cases c : a = p
      · subst c; rw [upd_same] at ha ⊢; exact ha
      · rw [upd_ne c] at ha ⊢; exact e3 a o ha⟩
/-- a, b, c = e -/
theorem x_unp {n : Nat} {a : Addr} {t : TGs} (h : Ev te σ B (.ref a)) (hx : SqA K B a xs) (hn : xs.length = n) (k : ∀ H Q, Ex B H → Ex X H → (∀ σ', (∀ H', Ex B H' → Ex X H' → tz D σ' H') → Q σ' H) → t xs σ H Q) : Sx X (tSeq (tAsg te (gSeq K n t)) tz) D σ B := fun H e eX => h H e _ fun H2 e2 => by
  rcases hx with hx | hx
  · exact .inr ⟨a, xs, rfl, ex_l (e.trans e2) hx, hn, k H2 _ (e.trans e2) (eX.trans e2) fun σ' q => q H2 (e.trans e2) (eX.trans e2)⟩
  · exact .inl ⟨a, xs, rfl, ex_t (e.trans e2) hx, hn, k H2 _ (e.trans e2) (eX.trans e2) fun σ' q => q H2 (e.trans e2) (eX.trans e2)⟩
end
end RX
/-! the text's facts, with its constants -/
namespace RX
open PySem PySem.Spec PyProof.Rows L2 Evl LX XV
def exC (intN : List (Str × Int)) (tupN : List (Str × List He.Dv)) (ex : PySem.W.Frag → Bool) (K : PySem.W.Frag) : Bool := (intN.all fun p => (He.Fa.int p.1 p.2).ok K) && ((tupN.all fun p => He.tupB K p.1 p.2) && ex K)
structure TxC (gloN freeN : List Str) (fnD : List He.DefD) (intN : List (Str × Int)) (tupN : List (Str × List He.Dv)) (ex : PySem.W.Frag → Bool) (K : PySem.W.Frag) (mg : Str → Option Value) : Prop where
  t : Tx gloN freeN fnD ex K mg
  i : ∀ p ∈ intN, ∃ tk, mg p.1 = some (.int p.2 tk)
  u : ∀ p ∈ tupN, ∀ H, SqT K H (He.ga K p.1) (p.2.map (He.Dv.v K))
section
variable {gloN freeN : List Str} {fnD : List He.DefD} {intN : List (Str × Int)} {tupN : List (Str × List He.Dv)} {ex : PySem.W.Frag → Bool} {K : PySem.W.Frag} {mg : Str → Option Value}
theorem TxC.of {n : Nat} {h : Heap} (X : K.In h) (G : h.Ns mainGlobals mg) (c : He.SaysD (gloN.map He.Fa.glo ++ freeN.map He.Fa.free) fnD K) (cx : exC intN tupN ex K = true) : TxC gloN freeN fnD intN tupN ex K mg where
  t := Tx.of (n := n) X G c (He.ba (He.ba cx).2).2
  i := fun p hp => He.int_ok X G (List.all_eq_true.mp (He.ba cx).1 p hp)
  u := fun p hp H => He.tupB_ok (List.all_eq_true.mp (He.ba (He.ba cx).2).1 p hp) H
theorem TxC.n (T : TxC gloN freeN fnD intN tupN ex K mg) (x : Str) (h : x ∈ freeN) : mg x = none := T.t.n x h
theorem TxC.g (T : TxC gloN freeN fnD intN tupN ex K mg) (x : Str) (h : x ∈ gloN) : mg x = some (.ref (He.ga K x)) := T.t.g x h
theorem TxC.okF {P : Program} {w : World} {base : Heap} {k : Nat} {ps : List Str} {sp : Sp} (T : TxC gloN freeN fnD intN tupN ex K mg) (i : Nat) {x : Str} {st : Stmt}
    (h : fnD[i]? = some (KH.dat (x, none) x st)) (hx : x ∈ gloN) (hF : ∀ f fd, Fun K x x st f fd → FnOk P w K mg base CX0 k f fd ps sp)
    (hb : ∀ (kV doc pm : Value) (an : Option Addr) (cdv ct : Value) (us : List Value), us.length = ps.length → bindArgs (PySem.W.fnOf x x (defArgs st) (defBody st) (defScope st) .none kV doc pm an cdv ct) ⟨us, []⟩ = pure (ps.zip us)) : OkF P w K mg base k x ps sp := T.t.okF i h hx hF hb
theorem TxC.okC {P : Program} {w : World} {base : Heap} {k : Nat} {ps : List Str} {sp : Sp} (T : TxC gloN freeN fnD intN tupN ex K mg) (i : Nat) {x q : Str} {st : Stmt}
    (h : fnD[i]? = some (KH.dat (x, some "__init__") q st)) (o : mg x = some (.ref (He.ga K x)) ∧ OexC K (He.ga K x)) (hi : PySem.W.findIn K (.ref (He.ga K x)) "__init__" = some (some (.ref (He.ma K (He.ga K x) "__init__"))) ∧ PySem.W.typeIn K (.ref (He.ma K (He.ga K x) "__init__")) = some (.type "function"))
    (hF : ∀ f fd, Fun K "__init__" q st f fd → FnOk P w K mg base CX0 k f fd ps sp)
    (hb : ∀ (kV doc pm : Value) (an : Option Addr) (cdv ct : Value) (us : List Value), us.length = ps.length → bindArgs (PySem.W.fnOf "__init__" q (defArgs st) (defBody st) (defScope st) .none kV doc pm an cdv ct) ⟨us, []⟩ = pure (ps.zip us)) : OkC P w K mg base k x ps sp := T.t.okC i h o hi hF hb
end
/-- a def that hands back one of two truth values, or whatever is described: the start of its proof -/
theorem spR_len {D : List V → Hp → (V → Hp → Prop) → Prop} {vs : List V} {H : Hp} {Q : VK} {E : XK} {n : Nat} (h : spR D vs H Q E) (hn : ∀ B P, D vs B P → vs.length = n) : vs.length = n := let ⟨B, P, _, d, _⟩ := h; hn B P d
end RX
/-! all of a comprehension; data of bounded size -/
namespace RX
open PySem PySem.Spec PyProof.Rows L2 Evl LX XV
section
variable {K : PySem.W.Frag} {σ : L2.St} {B X : Hp} {te : TE} {wi : TI} {xs : List V} {j : Nat} {vs : List Nat}
theorem list_range {α : Type} {f : Nat → α} {n : Nat} {ys : List α} (hl : ys.length = n) (h : ∀ (k : Nat) (y : α), ys[k]? = some y → y = f k) : ys = (List.range n).map f := by
  apply List.ext_getElem?
  intro i
  rw [List.getElem?_map]
  by_cases c : i < n
  · rw [List.getElem?_range c, List.getElem?_eq_getElem (by omega)]
    exact congrArg some (h i _ (List.getElem?_eq_getElem (by omega)))
  · rw [List.getElem?_eq_none (by omega), List.getElem?_eq_none (by rw [List.length_range]; omega)]
    rfl
/-- a comprehension without a test, over items that are known -/
theorem er_lc0 {Pe : Nat → V → Hp → Prop} (mo : ∀ i, Mo (Pe i)) (hi : EvI wi σ B fun ys _ => ys = xs) (hz : xs.length ≤ 40000) (hw : ∀ x, wipe ((wipe σ vs).set j (some x)) vs = wipe σ vs)
    (he : ∀ i x B', Ex B B' → xs[i]? = some x → EvR te ((wipe σ vs).set j (some x)) B' (Pe i)) :
    EvR (tLc wi (gName j) tYes te vs) σ B fun z B' => ∃ (p : Addr) (ys : List V), z = .ref p ∧ B' p = some (.lst ys) ∧ ys.length = xs.length ∧ ∀ (k : Nat) (y : V), ys[k]? = some y → Pe k y B' :=
  (er_lc (fun _ _ => true) (fun _ => Pe) (fun _ => mo) moA_eq hi hw (fun ys B' h => by rw [h]; exact hz) (fun _ _ _ _ _ _ _ => et_yes) (fun ys i x B' e h hx _ => he i x B' e (by rw [← h]; exact hx))).imp fun z B' _ ⟨ys, p, zs, h1, h2, h3, h4⟩ => by
    subst h1
    obtain ⟨l, q⟩ := h4.all
    exact ⟨p, zs, h2, h3, l, q⟩
theorem ev_allLc {b : Nat → Bool} (hi : EvI wi σ B fun ys _ => ys = xs) (hz : xs.length ≤ 40000) (hw : ∀ x, wipe ((wipe σ vs).set j (some x)) vs = wipe σ vs)
    (he : ∀ i x B', Ex B B' → xs[i]? = some x → Ev te ((wipe σ vs).set j (some x)) B' (.bl (b i))) : Ev (tCB (rAll K) (tCons (tLc wi (gName j) tYes te vs) tNil)) σ B (.bl ((List.range xs.length).all b)) :=
  ev_all ((er_lc0 (Pe := fun i => IsV (.bl (b i))) (fun _ => inferInstance) hi hz hw (fun i x B' e hx => eR_v (he i x B' e hx))).imp fun z B' _ ⟨p, ys, h1, h2, h3, h4⟩ => ⟨p, ys, h1, h2, list_range h3 h4⟩)
end
theorem all_range {α : Type} (p : α → Bool) (z : α) : ∀ ds : List α, ds.all p = (List.range ds.length).all fun i => p (ds.getD i z) := fun ds => by
  rw [Bool.eq_iff_iff, List.all_eq_true, List.all_eq_true]
  constructor
  · intro h i hi
    have hi := List.mem_range.mp hi
    rw [List.getD_eq_getElem?_getD, List.getElem?_eq_getElem hi]
    exact h _ (List.getElem_mem hi)
  · intro h x hx
    obtain ⟨i, hi, e⟩ := List.mem_iff_getElem.mp hx
    have q := h i (List.mem_range.mpr hi)
    rw [List.getD_eq_getElem?_getD, List.getElem?_eq_getElem hi] at q
    rw [← e]
    exact q
mutual
def smD : PyData → Bool
  | .str s => decide (s.length ≤ 40000)
  | .list ds => decide (ds.length ≤ 40000) && smAll ds
  | .tuple ds => decide (ds.length ≤ 40000) && smAll ds
  | _ => true
def smAll : List PyData → Bool
  | [] => true
  | d :: ds => smD d && smAll ds
end
theorem smAll_mem : ∀ {ds : List PyData}, smAll ds = true → ∀ d ∈ ds, smD d = true
  | [], _, d, h => nomatch h
  | a :: r, h, d, hd => by
    rw [smAll, Bool.and_eq_true] at h
    rcases List.mem_cons.mp hd with e | e
    · rw [e]; exact h.1
    · exact smAll_mem h.2 d e
theorem smAll_of : ∀ {ds : List PyData}, (∀ d ∈ ds, smD d = true) → smAll ds = true
  | [], _ => rfl
  | a :: r, h => by
    rw [smAll, Bool.and_eq_true]
    exact ⟨h a List.mem_cons_self, smAll_of fun d hd => h d (List.mem_cons_of_mem _ hd)⟩
theorem sm_seq {d : PyData} {ds : List PyData} (h : smD d = true) (hs : seqD d = some ds) : ds.length ≤ 40000 ∧ ∀ x ∈ ds, smD x = true := by
  cases d with
  | list l =>
    cases hs
    rw [smD, Bool.and_eq_true] at h
    exact ⟨of_decide_eq_true h.1, smAll_mem h.2⟩
  | tuple l =>
    cases hs
    rw [smD, Bool.and_eq_true] at h
    exact ⟨of_decide_eq_true h.1, smAll_mem h.2⟩
  | _ => exact nomatch hs
end RX
namespace RX
open PySem PySem.Spec PyProof.Rows L2 Evl LX XV
section
variable {K : PySem.W.Frag} {σ : L2.St} {B X : Hp} {te : TE} {D : Ends} {tz : TS} {x y z : V} {a : Addr}
theorem x_unp2 {i j : Nat} (h : Ev te σ B (.ref a)) (hx : SqA K B a [x, y]) (k : Sx X tz D ((σ.set i (some x)).set j (some y)) B) : Sx X (tSeq (tAsg te (gSeq K 2 (gCons (gName i) (gCons (gName j) gNil)))) tz) D σ B :=
  x_unp h hx rfl fun H2 Q2 _ _ q => ⟨_, _, rfl, _, _, rfl, rfl, q _ fun H' e1 e2 => k H' e1 e2⟩
theorem x_unp3 {i j l : Nat} (h : Ev te σ B (.ref a)) (hx : SqA K B a [x, y, z]) (k : Sx X tz D (((σ.set i (some x)).set j (some y)).set l (some z)) B) : Sx X (tSeq (tAsg te (gSeq K 3 (gCons (gName i) (gCons (gName j) (gCons (gName l) gNil))))) tz) D σ B :=
  x_unp h hx rfl fun H2 Q2 _ _ q => ⟨_, _, rfl, _, _, rfl, _, _, rfl, rfl, q _ fun H' e1 e2 => k H' e1 e2⟩
end
theorem dps3 {K : PySem.W.Frag} {B : Hp} : ∀ {xs : List V} {ds : List PyData}, DpAll K B xs ds → xs.length = 3 → ∃ x y z a b c, xs = [x, y, z] ∧ ds = [a, b, c] ∧ Dp K B x a ∧ Dp K B y b ∧ Dp K B z c := by
  intro xs ds h hl
  cases h with
  | nil => exact nomatch hl
  | cons h1 t =>
    cases t with
    | nil => exact nomatch hl
    | cons h2 t =>
      cases t with
      | nil => exact nomatch hl
      | cons h3 t =>
        cases t with
        | nil => exact ⟨_, _, _, _, _, _, rfl, rfl, h1, h2, h3⟩
        | cons h4 t =>
          rw [List.length_cons, List.length_cons, List.length_cons, List.length_cons] at hl
          omega
end RX
/-! rows of whole numbers in ascending order, each once -/
namespace AS
open PySem PySem.Spec PyProof.Rows L2 TS
theorem code_inj {B : Int} : ∀ {r q : List Int}, r.length = q.length → Bd B r → Bd B q → code B r = code B q → r = q
  | [], [], _, _, _, _ => rfl
  | [], b :: q, hl, _, _, _ => by simp at hl
  | a :: r, [], hl, _, _, _ => by simp at hl
  | a :: r, b :: q, hl, hr, hq, h => by
    have hl' : r.length = q.length := by simpa using hl
    have hab : a = b := by
      rcases Int.lt_trichotomy a b with c | c | c
      · have := code_lt hl' hr.tail hq.tail c; omega
      · exact c
      · have := code_lt hl'.symm hq.tail hr.tail c; omega
    subst hab
    have hc : code B r = code B q := by
      have h : a * B ^ r.length + code B r = a * B ^ q.length + code B q := h
      rw [hl'] at h
      omega
    rw [code_inj hl' hr.tail hq.tail hc]
/-- rows of one arity, things below B -/
def Ok (B : Int) (d : Nat) (r : List Int) : Prop := r.length = d ∧ Bd B r
theorem ok_inj {B : Int} {d : Nat} {r q : List Int} (h : Ok B d r) (h' : Ok B d q) (e : code B r = code B q) : r = q := code_inj (h.1.trans h'.1.symm) h.2 h'.2 e
def Asc (B : Int) (L : List (List Int)) : Prop := L.Pairwise fun q r => code B q < code B r
theorem asc_of {B : Int} {d : Nat} {L : List (List Int)} (hok : ∀ r ∈ L, Ok B d r) (hn : L.Nodup) (hp : L.Pairwise fun q r => code B q ≤ code B r) : Asc B L := by
  unfold Asc
  have h2 : L.Pairwise fun q r => q ≠ r := hn
  have := List.Pairwise.and hp h2
  refine List.Pairwise.imp_of_mem (fun {a b} ha hb h => ?_) this
  obtain ⟨h1, h2⟩ := h
  rcases Int.lt_or_eq_of_le h1 with c | c
  · exact c
  · exact absurd (ok_inj (hok a ha) (hok b hb) c) h2
theorem asc_uniq {B : Int} : ∀ {L M : List (List Int)}, Asc B L → Asc B M → (∀ r, r ∈ L ↔ r ∈ M) → L = M
  | [], [], _, _, _ => rfl
  | [], m :: M, _, _, h => absurd ((h m).mpr List.mem_cons_self) (by simp)
  | l :: L, [], _, _, h => absurd ((h l).mp List.mem_cons_self) (by simp)
  | l :: L, m :: M, h1, h2, h => by
    obtain ⟨a1, a2⟩ := List.pairwise_cons.mp h1
    obtain ⟨b1, b2⟩ := List.pairwise_cons.mp h2
    have e : l = m := by
      rcases List.mem_cons.mp ((h l).mp List.mem_cons_self) with c | c
      · exact c
      · rcases List.mem_cons.mp ((h m).mpr List.mem_cons_self) with c' | c'
        · exact c'.symm
        · have := b1 l c; have := a1 m c'; omega
    subst e
    refine congrArg (l :: ·) (asc_uniq a2 b2 fun r => ⟨fun hr => ?_, fun hr => ?_⟩)
    · rcases List.mem_cons.mp ((h r).mp (List.mem_cons_of_mem _ hr)) with c | c
      · subst c; have := a1 r hr; omega
      · exact c
    · rcases List.mem_cons.mp ((h r).mpr (List.mem_cons_of_mem _ hr)) with c | c
      · subst c; have := b1 r hr; omega
      · exact c
def ins (B : Int) (r : List Int) : List (List Int) → List (List Int)
  | [] => [r]
  | x :: t => if code B r < code B x then r :: x :: t else if r = x then x :: t else x :: ins B r t
def ascR (B : Int) (rows : List (List Int)) : List (List Int) := rows.foldr (ins B) []
theorem mem_ins {B : Int} {r y : List Int} : ∀ {L : List (List Int)}, y ∈ ins B r L ↔ y = r ∨ y ∈ L
  | [] => by simp [ins]
  | x :: t => by
    unfold ins
    split
    · simp
    · split
      · rename_i h
        subst h
        simp
      · rw [List.mem_cons, mem_ins, List.mem_cons]
        constructor
        · rintro (c | c | c) <;> simp [c]
        · rintro (c | c | c) <;> simp [c]
theorem mem_ascR {B : Int} {y : List Int} : ∀ {L : List (List Int)}, y ∈ ascR B L ↔ y ∈ L
  | [] => by simp [ascR]
  | x :: t => by
    show y ∈ ins B x (ascR B t) ↔ _
    rw [mem_ins, mem_ascR, List.mem_cons]
theorem ins_asc {B : Int} {d : Nat} {r : List Int} : ∀ {L : List (List Int)}, Asc B L → Ok B d r → (∀ x ∈ L, Ok B d x) → Asc B (ins B r L)
  | [], _, _, _ => List.pairwise_singleton _ _
  | x :: t, h, hr, hL => by
    obtain ⟨a1, a2⟩ := List.pairwise_cons.mp h
    unfold ins
    split
    · rename_i c
      refine List.pairwise_cons.mpr ⟨fun y hy => ?_, h⟩
      rcases List.mem_cons.mp hy with e | e
      · rw [e]; exact c
      · have := a1 y e; omega
    · rename_i c
      split
      · exact h
      · rename_i c2
        refine List.pairwise_cons.mpr ⟨fun y hy => ?_, ins_asc a2 hr fun z hz => hL z (List.mem_cons_of_mem _ hz)⟩
        rcases mem_ins.mp hy with e | e
        · subst e
          rcases Int.lt_or_eq_of_le (Int.not_lt.mp c) with q | q
          · exact q
          · exact absurd (ok_inj hr (hL x List.mem_cons_self) q.symm) c2
        · exact a1 y e
theorem ascR_asc {B : Int} {d : Nat} : ∀ {L : List (List Int)}, (∀ x ∈ L, Ok B d x) → Asc B (ascR B L)
  | [], _ => List.Pairwise.nil
  | x :: t, h => ins_asc (ascR_asc fun y hy => h y (List.mem_cons_of_mem _ hy)) (h x List.mem_cons_self) fun y hy => h y (List.mem_cons_of_mem _ (mem_ascR.mp hy))
/-- sorted, each once: there is one such list -/
theorem ascR_of {B : Int} {d : Nat} {L M : List (List Int)} (hM : ∀ x ∈ M, Ok B d x) (hn : L.Nodup) (hp : L.Pairwise fun q r => code B q ≤ code B r) (hm : ∀ r, r ∈ L ↔ r ∈ M) : L = ascR B M :=
  asc_uniq (asc_of (fun r hr => hM r ((hm r).mp hr)) hn hp) (ascR_asc hM) fun r => (hm r).trans mem_ascR.symm
end AS
/-! sets of rows, sorted; dicts with texts as keys -/
namespace RX
open PySem PySem.Spec PyProof.Rows L2 Evl LX XV WS
def IsTI (K : PySem.W.Frag) (k : List Int) : V → Hp → Prop := fun z B => ∃ p, z = .ref p ∧ SqT K B p (k.map V.int)
instance {K : PySem.W.Frag} {k : List Int} : Mo (IsTI K k) := ⟨fun e ⟨p, h, s⟩ => ⟨p, h, ex_t e s⟩⟩
/-- the values ys are the rows R -/
def RowsAt (K : PySem.W.Frag) (R : List (List Int)) : List V → Hp → Prop := fun ys B => ys.length = R.length ∧ ∀ (i : Nat) (y : V) (r : List Int), ys[i]? = some y → R[i]? = some r → IsTI K r y B
instance {K : PySem.W.Frag} {R : List (List Int)} : MoA (RowsAt K R) := ⟨fun e ⟨l, h⟩ => ⟨l, fun i y r a b => Mo.mo e (h i y r a b)⟩⟩
section
variable {K : PySem.W.Frag} {P : Program} {w : World} {σ : L2.St} {B X : Hp} {te ta tb : TE} {wi : TI} {xs : List V} {j : Nat} {vs : List Nat} {D : Ends} {tz : TS} {v : V}
/-- {e for x in it}, each e a row -/
theorem er_sc {k : Nat → List Int} (hi : EvI wi σ B fun ys _ => ys = xs) (hz : xs.length < 63) (hw : ∀ x, wipe ((wipe σ vs).set j (some x)) vs = wipe σ vs)
    (he : ∀ i x B', Ex B B' → xs[i]? = some x → EvR te ((wipe σ vs).set j (some x)) B' (IsTI K (k i))) :
    EvR (tScG (fun a => SetTO P w a []) (addTup K P w) wi (gName j) tYes te vs) σ B fun z B' => ∃ (a : Addr) (L : List (Addr × List Int)), z = .ref a ∧ B' a = some (SetTO P w a L) ∧ (∀ p ∈ L, SqT K B' p.1 (p.2.map V.int)) ∧ L.length ≤ xs.length ∧ ∀ r, r ∈ L.map (·.2) ↔ ∃ i, i < xs.length ∧ r = k i := fun H1 e Q q => by
  refine hi H1 e _ fun J H2 B1 ys e2 g e3 px ft => fun Dl hD => ?_
  subst px
  have hD1 : B1 Dl = none := none_of e3 hD
  have nil0 : ∀ r, r ∈ ([] : List (Addr × List Int)).map (·.2) ↔ ∃ n, n < 0 ∧ r = k n := by
    intro r
    simp
  refine ⟨fun i m H' => m = ys.length - i ∧ i ≤ ys.length ∧ ∃ Bs L, Gr H2 B1 Bs ∧ Bs Dl = none ∧ Ex Bs H' ∧ H' Dl = some (SetTO P w Dl L) ∧ (∀ p ∈ L, SqT K Bs p.1 (p.2.map V.int)) ∧ L.length ≤ i ∧ (∀ r, r ∈ L.map (·.2) ↔ ∃ n, n < i ∧ r = k n) ∧ Ex H2 H', ⟨ys.length, by simp, Nat.zero_le _, B1, [], Gr.refl _ _, hD1, e3.trans (Ex.new hD), upd_same, (fun p h => nomatch h), Nat.le_refl _, nil0, Ex.new hD⟩, ?_⟩
  rintro i m H' ⟨rfl, hi', Bs, L, gs, hDs, es, hDl, ht, hLn, hLm, e2'⟩
  have eF : Ex B1 H' := gs.ex.trans es
  by_cases hlt : i < ys.length
  · refine .inr ⟨ft.go i H' eF hlt, fun H'' => (ys.length - (i + 1)) = ys.length - (i + 1) ∧ i + 1 ≤ ys.length ∧ ∃ Bs L, Gr H2 B1 Bs ∧ Bs Dl = none ∧ Ex Bs H'' ∧ H'' Dl = some (SetTO P w Dl L) ∧ (∀ p ∈ L, SqT K Bs p.1 (p.2.map V.int)) ∧ L.length ≤ i + 1 ∧ (∀ r, r ∈ L.map (·.2) ↔ ∃ n, n < i + 1 ∧ r = k n) ∧ Ex H2 H'', fun H'' h => ⟨_, by omega, h⟩, fun x H3 y => ?_⟩
    obtain ⟨r, hx⟩ := ft.yld i H' x H3 eF y hlt
    subst r
    refine ⟨hw x, ?_⟩
    show te _ H3 _
    refine he i x B1 g.ex hx H3 eF _ fun z H5 B' e5 g5 e6 ⟨b, hz', hb⟩ => ?_
    have hB' : B' Dl = none := g5.av Dl hD1 (by rw [hDl]; exact Option.some_ne_none _)
    have hM : mrg Bs B' Dl = none := by rw [mrg_none hDs]; exact hB'
    have eM : Ex (mrg Bs B') H5 := mrg_le (es.trans e5) e6
    have eB' : Ex B' (mrg Bs B') := mrg_r (es.trans e5) e6
    refine ⟨b, k i, L, hz', ex_t e6 hb, e5 _ _ hDl, fun p hp => ex_t (es.trans e5) (ht p hp), by omega, fun L' c1 c2 => ⟨rfl, hlt, mrg Bs B', L', ⟨gs.ex.trans mrg_l, mrg_av gs.av (g5.av.back e2')⟩, hM, fun a o ha => ?_, upd_same, fun p hp => ?_, ?_, fun r => ?_, fun a o ha => ?_⟩⟩
    · have c : a ≠ Dl := fun c => by subst c; rw [hM] at ha; exact nomatch ha
      rw [upd_ne c]; exact eM a o ha
    · by_cases c : k i ∈ L.map (·.2)
      · rw [c1 c] at hp
        exact ex_t mrg_l (ht p hp)
      · rcases List.mem_cons.mp ((c2 c).mem_iff.mp hp) with e' | e'
        · rw [e']; exact ex_t eB' hb
        · exact ex_t mrg_l (ht p e')
    · by_cases c : k i ∈ L.map (·.2)
      · rw [c1 c]; omega
      · rw [(c2 c).length_eq, List.length_cons]; omega
    · have hm : r ∈ L'.map (·.2) ↔ r = k i ∨ r ∈ L.map (·.2) := by
        by_cases c : k i ∈ L.map (·.2)
        · rw [c1 c]
          exact ⟨.inr, fun h => h.elim (fun h => h ▸ c) id⟩
        · rw [((c2 c).map (·.2)).mem_iff, List.map_cons, List.mem_cons]
      rw [hm, hLm]
      constructor
      · rintro (h | ⟨n, hn, h⟩)
        · exact ⟨i, Nat.lt_succ_self _, h⟩
        · exact ⟨n, Nat.lt_succ_of_lt hn, h⟩
      · rintro ⟨n, hn, h⟩
        rcases Nat.lt_or_eq_of_le (Nat.le_of_lt_succ hn) with c | c
        · exact .inr ⟨n, c, h⟩
        · exact .inl (c ▸ h)
    · have c : a ≠ Dl := fun c => by subst c; rw [hD] at ha; exact nomatch ha
      rw [upd_ne c]; exact e5 a o (e2' a o ha)
  · have c : i = ys.length := by omega
    subst c
    refine .inl ⟨ft.stop H' eF, q (.ref Dl) H' (upd Bs Dl (SetTO P w Dl L)) (e2.trans e2') ⟨(g.ex.trans gs.ex).trans (Ex.new hDs), fun a ha hx => ?_⟩ (ex_upd es hDl) ⟨Dl, L, rfl, upd_same, fun p hp => ex_t (Ex.new hDs) (ht p hp), hLn, hLm⟩⟩
    have c : a ≠ Dl := fun c => by subst c; exact ex_ne e2 hx hD
    rw [upd_ne c]
    exact gs.av a (g.av a ha hx) (ex_ne e2 hx)
/-- sorted(a set of rows) -/
theorem k_sortedT {Y : Cx} (hc : Y.calm = true) (h : Y.K = K := by rfl) (hp : Y.prog = P := by rfl) (hw : Y.w = w := by rfl) : CallR Y (.builtin "sorted") (rSortedT K P w) := by
  subst h hp hw
  exact cr_sortedT hc
theorem er_sortedT {Bn : Int} {d : Nat} {M : List (List Int)} (hd : 1 ≤ d) (hM : ∀ x ∈ M, AS.Ok Bn d x) (h : EvR te σ B fun z B' => ∃ (a : Addr) (L : List (Addr × List Int)), z = .ref a ∧ B' a = some (SetTO P w a L) ∧ (∀ p ∈ L, SqT K B' p.1 (p.2.map V.int)) ∧ ∀ r, r ∈ L.map (·.2) ↔ r ∈ M) :
    EvR (tCB (rSortedT K P w) (tCons te tNil)) σ B (LsP K (RowsAt K (AS.ascR Bn M))) := fun H1 e Q q =>
  h H1 e _ fun z H2 B' e2 g e3 ⟨a, L, hz, ha, ht, hm⟩ => by
    subst hz
    have hok : ∀ p ∈ L, AS.Ok Bn d p.2 := fun p hp => hM _ ((hm p.2).mp (List.mem_map_of_mem hp))
    refine ⟨a, L, d, Bn, rfl, e3 _ _ ha, fun p hp => ex_t e3 (ht p hp), hd, fun p hp => hok p hp, fun L' p pm hn h64 hpw hp => ?_⟩
    have hB : B' p = none := none_of e3 hp
    have hR : L'.map (·.2) = AS.ascR Bn M := AS.ascR_of hM hn (List.pairwise_map.mpr hpw) fun r => by rw [(pm.map (·.2)).mem_iff]; exact hm r
    refine q _ _ (upd B' p (.lst (L'.map fun q => V.ref q.1))) (e2.trans (Ex.new hp)) ⟨g.ex.trans (Ex.new hB), fun x hx1 hx2 => ?_⟩ (fun x o hx => ?_) ⟨p, _, rfl, sq_of upd_same, ?_, fun i y r hy hr => ?_⟩
    · have c : x ≠ p := fun c => by subst c; exact ex_ne e2 hx2 hp
      rw [upd_ne c]; exact g.av x hx1 hx2
    · by_cases c : x = p
      · subst c; rw [upd_same] at hx ⊢; exact hx
      · rw [upd_ne c] at hx ⊢; exact e3 x o hx
    · rw [← hR, List.length_map, List.length_map]
    · rw [← hR, List.getElem?_map] at hr
      rw [List.getElem?_map] at hy
      cases hq : L'[i]? with
      | none => rw [hq] at hy; exact nomatch hy
      | some pr =>
        rw [hq] at hy hr
        cases hy
        cases hr
        exact ⟨pr.1, rfl, ex_t (Ex.new hB) (ht pr ((pm.mem_iff).mp (List.mem_of_getElem? hq)))⟩
/-! ### dicts with texts as keys -/
def sk (kvs : List (Str × V)) : List (Key × V) := kvs.map fun p => (Sum.inr p.1, p.2)
theorem et_din {a : Addr} {s : Str} {kvs : List (Key × V)} (h : Ev te σ B (.str s)) (hd : Ev ta σ B (.ref a)) (ha : B a = some (.dK kvs)) : Ev (tDIn te ta) σ B (.bl (valV kvs (Sum.inr s)).isSome) := fun H1 e Q q =>
  h H1 e _ fun H2 e2 => hd H2 (e.trans e2) _ fun H3 e3 => ⟨a, _, rfl, DGet.k (k := Sum.inr s) (((e.trans e2).trans e3) _ _ ha), q H3 (e2.trans e3)⟩
theorem et_dnin {a : Addr} {s : Str} {kvs : List (Key × V)} (h : Ev te σ B (.str s)) (hd : Ev ta σ B (.ref a)) (ha : B a = some (.dK kvs)) : Ev (tDNotIn te ta) σ B (.bl (!(valV kvs (Sum.inr s)).isSome)) := fun H1 e Q q =>
  h H1 e _ fun H2 e2 => hd H2 (e.trans e2) _ fun H3 e3 => ⟨a, _, rfl, DGet.k (k := Sum.inr s) (((e.trans e2).trans e3) _ _ ha), q H3 (e2.trans e3)⟩
theorem ev_dget {a : Addr} {s : Str} {kvs : List (Key × V)} (hd : Ev ta σ B (.ref a)) (h : Ev te σ B (.str s)) (ha : B a = some (.dK kvs)) (hv : valV kvs (Sum.inr s) = some v) : Ev (tDGet ta te) σ B v := fun H1 e Q q =>
  hd H1 e _ fun H2 e2 => h H2 (e.trans e2) _ fun H3 e3 => ⟨a, v, rfl, by
    have := DGet.k (k := Sum.inr s) (((e.trans e2).trans e3) _ _ ha)
    rw [hv] at this
    exact this, q H3 (e2.trans e3)⟩
/-- {} -/
theorem x_asgD {i : Nat} (k : ∀ p, B p = none → X p = none → Sx X tz D (σ.set i (some (.ref p))) (upd B p (.dK []))) : Sx X (tSeq (tAsg tDNewK (gName i)) tz) D σ B := fun H e eX => fun p hp =>
  k p (none_of e hp) (none_of eX hp) _ (fun a o h => by
    by_cases c : a = p
    · subst c; rw [upd_same] at h ⊢; exact h
    · rw [upd_ne c] at h ⊢; exact e a o h) (eX.trans (Ex.new hp))
/-- a dict of the def's own: d[s] = e, e not told by d -/
theorem x_dput {l : Addr} {s : Str} {Pe : V → Hp → Prop} {kvs : List (Key × V)} (hl : B l = some (.dK kvs)) (hX : X l = none) (hd : Ev ta σ B (.ref l)) (hs : Ev tb σ B (.str s)) (h : EvR te σ (del B l) Pe) (hz : kvs.length < 100000)
    (k : ∀ z B', Gr X (del B l) B' → B' l = none → Pe z B' → Sx X tz D σ (upd B' l (.dK (putK kvs (Sum.inr s) z)))) : Sx X (tSeq (sDPut ta tb te) tz) D σ B := fun H e eX =>
  h H (del_ex.trans e) _ fun z H2 B' e2 g e3 p => hd H2 (e.trans e2) _ fun H3 e4 => hs H3 ((e.trans e2).trans e4) _ fun H4 e5 => by
    have hB' : B' l = none := g.av l del_same (by rw [e l _ hl]; exact Option.some_ne_none _)
    refine ⟨l, _, rfl, DPut.k (k := Sum.inr s) (((e2.trans e4).trans e5) _ _ (e l _ hl)) (sz_lt hz), k z B' (g.back eX) hB' p _ (fun a u q => ?_) (fun a u q => ?_)⟩
    · by_cases c : a = l
      · subst c; rw [upd_same] at q ⊢; exact q
      · rw [upd_ne c] at q ⊢; exact (e4.trans e5) _ _ (e3 a u q)
    · have c : a ≠ l := fun c => by subst c; rw [hX] at q; exact nomatch q
      rw [upd_ne c]
      exact ((e2.trans e4).trans e5) a u (eX a u q)
end
end RX
namespace LX
open PySem PySem.Spec PyProof.Rows L2
theorem k_fld {X : Cx} {K : PySem.W.Frag} {e : Expr} {f : Str} {pos : Pos} {ta : TE} (he : PE X e ta) (hb : attributeBase e f X.env (eval e X.env) = eval e X.env) (h : X.K = K := by rfl) : PE X (.Attribute e f pos) (tFld K ta f) := by subst h; exact pe_fld he hb
theorem u1 {k : Nat} {A : Around} (r : Room k A) : A.units + 1 < cLine := by have := r.units; omega
end LX
namespace RX
open PySem PySem.Spec PyProof.Rows L2 Evl LX XV WS
section
variable {X : Cx} {K : PySem.W.Frag} {P : Program} {w : World}
theorem k_addTup (hu : X.A.units + 64 < cLine) (h : X.K = K := by rfl) (hp : X.prog = P := by rfl) (hw : X.w = w := by rfl) : AddOk X (addTup K P w) := by subst h hp hw; exact addTup_ok hu
theorem k_newTup (hp : X.prog = P := by rfl) (hw : X.w = w := by rfl) : NewOk X fun a => SetTO P w a [] := by subst hp hw; exact newTup_ok
theorem k_putNk (hu : X.A.units + 64 < cLine) (h : X.K = K := by rfl) (hp : X.prog = P := by rfl) (hw : X.w = w := by rfl) : PutOk X (putNk K P w) := by subst h hp hw; exact putNk_ok hu
theorem k_newNk (hp : X.prog = P := by rfl) (hw : X.w = w := by rfl) : NewDOk X fun a => DnO P w a [] := by subst hp hw; exact newNk_ok
end
section
variable {K : PySem.W.Frag} {B : Hp} {B' : Hp}
theorem dps_ints : ∀ {xs : List V} {ns : List Int}, DpAll K B xs (ns.map PyData.int) → xs = ns.map V.int
  | _, [], .nil => rfl
  | _, n :: ns, .cons h t => by
    cases h
    rw [dps_ints t]
    rfl
theorem del_upd {l : Addr} {o : HO} (h : B l = none) : del (upd B l o) l = B := by
  funext a
  by_cases c : a = l
  · subst c; rw [del_same, h]
  · rw [del_ne c, upd_ne c]
end
theorem mrg_upd {F' B : Hp} {p : Addr} {o : HO} (e : Ex B F') (h : F' p = none) : mrg F' (upd B p o) = upd F' p o := by
  funext a
  by_cases c : a = p
  · subst c; rw [mrg_none h, upd_same, upd_same]
  · rw [upd_ne c]
    cases q : F' a with
    | none => rw [mrg_none q, upd_ne c]; exact none_of e q
    | some u => exact mrg_some q
theorem nodup_take {α β : Type} {f : α → β} {l : List α} {i : Nat} {x : α} (h : (l.map f).Nodup) (hx : l[i]? = some x) : f x ∉ (l.take i).map f := by
  obtain ⟨hi, e⟩ := List.getElem?_eq_some_iff.mp hx
  have hl : l = l.take i ++ x :: l.drop (i + 1) := by
    rw [← e]
    simp
  rw [hl, List.map_append, List.map_cons] at h
  have := (List.nodup_append.mp h).2.2
  intro hm
  exact this _ hm _ List.mem_cons_self rfl
theorem take_snoc {α : Type} {l : List α} {i : Nat} {x : α} (hx : l[i]? = some x) : l.take (i + 1) = l.take i ++ [x] := by
  rw [List.take_add_one, hx]
  rfl
/-! ### relations as data -/
structure Rel where
  name : Str
  ar : Int
  rows : List (List Int)
def EntAt (K : PySem.W.Frag) (r : Rel) : V → Hp → Prop := fun v B => ∃ t q ys, v = .ref t ∧ SqT K B t [.int r.ar, .ref q] ∧ SqT K B q ys ∧ RowsAt K r.rows ys B
instance {K : PySem.W.Frag} {r : Rel} : Mo (EntAt K r) := ⟨fun e ⟨t, q, ys, h, a, b, c⟩ => ⟨t, q, ys, h, ex_t e a, ex_t e b, MoA.mo e c⟩⟩
def TabAt (K : PySem.W.Frag) (rels : List Rel) (kvs : List (Key × V)) (B : Hp) : Prop := kvs.map (·.1) = rels.map (fun r => (Sum.inr r.name : Key)) ∧ ∀ (i : Nat) (p : Key × V) (r : Rel), kvs[i]? = some p → rels[i]? = some r → EntAt K r p.2 B
theorem TabAt.mono {K : PySem.W.Frag} {rels : List Rel} {kvs : List (Key × V)} {B B' : Hp} (e : Ex B B') (h : TabAt K rels kvs B) : TabAt K rels kvs B' := ⟨h.1, fun i p r a b => Mo.mo e (h.2 i p r a b)⟩
theorem TabAt.len {K : PySem.W.Frag} {rels : List Rel} {kvs : List (Key × V)} {B : Hp} (h : TabAt K rels kvs B) : kvs.length = rels.length := by
  have := congrArg List.length h.1
  rw [List.length_map, List.length_map] at this
  exact this
theorem TabAt.snoc {K : PySem.W.Frag} {rels : List Rel} {kvs : List (Key × V)} {B : Hp} {r : Rel} {v : V} (h : TabAt K rels kvs B) (hv : EntAt K r v B) : TabAt K (rels ++ [r]) (kvs ++ [(Sum.inr r.name, v)]) B := by
  refine ⟨by rw [List.map_append, List.map_append, h.1]; rfl, fun i p r' hp hr => ?_⟩
  have hl := h.len
  by_cases c : i < kvs.length
  · rw [List.getElem?_append_left c] at hp
    rw [List.getElem?_append_left (by omega)] at hr
    exact h.2 i p r' hp hr
  · have c2 := (List.getElem?_eq_some_iff.mp hp).1
    rw [List.length_append, List.length_singleton] at c2
    have c3 : i = kvs.length := by omega
    subst c3
    rw [List.getElem?_append_right (Nat.le_refl _), Nat.sub_self] at hp
    rw [hl, List.getElem?_append_right (Nat.le_refl _), Nat.sub_self] at hr
    cases hp
    cases hr
    exact hv
theorem TabAt.find {K : PySem.W.Frag} {B : Hp} {s : Str} : ∀ {rels : List Rel} {kvs : List (Key × V)}, TabAt K rels kvs B → (match rels.find? (fun r => decide (r.name = s)) with
    | some r => ∃ v, valV kvs (Sum.inr s) = some v ∧ EntAt K r v B
    | none => valV kvs (Sum.inr s) = none)
  | [], kvs, h => by
    have : kvs = [] := List.length_eq_zero_iff.mp h.len
    subst this
    rfl
  | r :: rels, [], h => by
    have := h.len
    simp at this
  | r :: rels, p :: kvs, h => by
    have hk : p.1 = Sum.inr r.name := by
      have := h.1
      rw [List.map_cons, List.map_cons] at this
      exact (List.cons.inj this).1
    have ht : TabAt K rels kvs B := ⟨by
      have := h.1
      rw [List.map_cons, List.map_cons] at this
      exact (List.cons.inj this).2, fun i q r' a b => h.2 (i + 1) q r' a b⟩
    rw [List.find?_cons]
    by_cases c : r.name = s
    · rw [decide_eq_true c]
      exact ⟨p.2, valV_pos (by rw [hk, c]), h.2 0 p r rfl rfl⟩
    · rw [decide_eq_false c]
      have hn : ¬ p.1 = Sum.inr s := fun z => c (by rw [hk] at z; exact Sum.inr.inj z)
      rw [valV_neg hn]
      exact TabAt.find ht
end RX
/-! comprehensions with two fors; of dicts with nested keys -/
namespace RX
open PySem PySem.Spec PyProof.Rows L2 Evl LX XV WS
/-- the values ys are told one by one by ds -/
def A2 {δ : Type} (Pd : δ → V → Hp → Prop) (ds : List δ) (ys : List V) (B : Hp) : Prop := ys.length = ds.length ∧ ∀ (k : Nat) (y : V) (d : δ), ys[k]? = some y → ds[k]? = some d → Pd d y B
section
variable {δ : Type} {Pd : δ → V → Hp → Prop} {K : PySem.W.Frag} {P : Program} {w : World} {σ : L2.St} {B B' X : Hp} {te tk tv ta tb : TE} {wi wi1 : TI} {xs : List V} {j j1 : Nat} {vs vs1 : List Nat} {D : Ends} {tz : TS} {v : V}
theorem a2_nil : A2 Pd [] [] B := ⟨rfl, fun k y d h => nomatch h⟩
theorem A2.mono (mo : ∀ d, Mo (Pd d)) {ds : List δ} {ys : List V} (e : Ex B B') (h : A2 Pd ds ys B) : A2 Pd ds ys B' := ⟨h.1, fun k y d a b => (mo d).mo e (h.2 k y d a b)⟩
instance {ds : List δ} [mo : ∀ d, Mo (Pd d)] : MoA (fun ys B => A2 Pd ds ys B) := ⟨fun e h => h.mono mo e⟩
instance {ds : List δ} [mo : ∀ d, Mo (Pd d)] : MoA (A2 Pd ds) := ⟨fun e h => h.mono mo e⟩
theorem A2.snoc {ds : List δ} {ys : List V} {d : δ} {y : V} (h : A2 Pd ds ys B) (hy : Pd d y B) : A2 Pd (ds ++ [d]) (ys ++ [y]) B := by
  obtain ⟨hl, hp⟩ := h
  refine ⟨by rw [List.length_append, List.length_append, hl]; rfl, fun k u e hk hn => ?_⟩
  by_cases c : k < ys.length
  · rw [List.getElem?_append_left c] at hk
    rw [List.getElem?_append_left (by omega)] at hn
    exact hp k u e hk hn
  · have c2 : k < (ys ++ [y]).length := (List.getElem?_eq_some_iff.mp hk).1
    rw [List.length_append, List.length_singleton] at c2
    have c3 : k = ys.length := by omega
    subst c3
    rw [List.getElem?_append_right (Nat.le_refl _), Nat.sub_self] at hk
    rw [hl, List.getElem?_append_right (Nat.le_refl _), Nat.sub_self] at hn
    cases hk
    cases hn
    exact hy
theorem er_lc2 (mo : ∀ d, Mo (Pd d)) (es : Nat → List δ) (hi : EvI wi σ B fun ys _ => ys = xs) (hw : ∀ x, wipe ((wipe σ vs).set j (some x)) vs = wipe σ vs) (hw1 : ∀ x y, wipe ((wipe ((wipe σ vs).set j (some x)) vs1).set j1 (some y)) vs1 = wipe ((wipe σ vs).set j (some x)) vs1)
    (hz : ∀ i k, i < xs.length → ((List.range i).flatMap es ++ (es i).take k).length ≤ 50000)
    (hi1 : ∀ (i : Nat) (x : V) (B' : Hp), Ex B B' → xs[i]? = some x → ∃ zs : List V, EvI wi1 ((wipe σ vs).set j (some x)) B' (fun ys _ => ys = zs) ∧ zs.length = (es i).length ∧ ∀ (k : Nat) (y : V) (B'' : Hp) (d : δ), Ex B' B'' → zs[k]? = some y → (es i)[k]? = some d → EvR te ((wipe ((wipe σ vs).set j (some x)) vs1).set j1 (some y)) B'' (Pd d)) :
    EvR (tLc2 wi (gName j) tYes wi1 (gName j1) tYes te vs vs1) σ B fun z B' => ∃ (p : Addr) (ys : List V), z = .ref p ∧ B' p = some (.lst ys) ∧ A2 Pd ((List.range xs.length).flatMap es) ys B' := fun H1 e Q q => by
  refine hi H1 e _ fun J H2 B1 ys0 e2 g e3 px ft => fun Dl hD => ?_
  subst px
  have hD1 : B1 Dl = none := none_of e3 hD
  refine ⟨fun i m H' => m = ys0.length - i ∧ i ≤ ys0.length ∧ ∃ Bs ys, Gr H2 B1 Bs ∧ Bs Dl = none ∧ Ex Bs H' ∧ H' Dl = some (.lst ys) ∧ A2 Pd ((List.range i).flatMap es) ys Bs ∧ Ex H2 H', ⟨ys0.length, by simp, Nat.zero_le _, B1, [], Gr.refl _ _, hD1, e3.trans (Ex.new hD), upd_same, a2_nil, Ex.new hD⟩, ?_⟩
  rintro i m H' ⟨rfl, hi', Bs, ys, gs, hDs, es', hDl, td, e2'⟩
  have eF : Ex B1 H' := gs.ex.trans es'
  by_cases hlt : i < ys0.length
  · refine .inr ⟨ft.go i H' eF hlt, fun H'' => (ys0.length - (i + 1)) = ys0.length - (i + 1) ∧ i + 1 ≤ ys0.length ∧ ∃ Bs ys, Gr H2 B1 Bs ∧ Bs Dl = none ∧ Ex Bs H'' ∧ H'' Dl = some (.lst ys) ∧ A2 Pd ((List.range (i + 1)).flatMap es) ys Bs ∧ Ex H2 H'', fun H'' h => ⟨_, by omega, h⟩, fun x H3 y => ?_⟩
    obtain ⟨r, hx⟩ := ft.yld i H' x H3 eF y hlt
    subst r
    refine ⟨hw x, ?_⟩
    obtain ⟨zs, hI, hlen, hE⟩ := hi1 i x B1 g.ex hx
    show wi1 _ H3 _
    refine hI H3 eF _ fun J1 H4 B4 zs' e4 g4 e5 pz ft1 => ?_
    subst pz
    have hB4 : B4 Dl = none := g4.av Dl hD1 (by rw [hDl]; exact Option.some_ne_none _)
    have hM4 : mrg Bs B4 Dl = none := by rw [mrg_none hDs]; exact hB4
    refine ⟨fun k m H'' => m = zs'.length - k ∧ k ≤ zs'.length ∧ ∃ Bs ys, Gr H2 B1 Bs ∧ Bs Dl = none ∧ Ex B4 Bs ∧ Ex Bs H'' ∧ H'' Dl = some (.lst ys) ∧ A2 Pd ((List.range i).flatMap es ++ (es i).take k) ys Bs ∧ Ex H2 H'', ⟨zs'.length, by simp, Nat.zero_le _, mrg Bs B4, ys, ⟨gs.ex.trans mrg_l, mrg_av gs.av (g4.av.back e2')⟩, hM4, mrg_r (es'.trans e4) e5, mrg_le (es'.trans e4) e5, e4 _ _ hDl, by rw [List.take_zero, List.append_nil]; exact td.mono mo mrg_l, e2'.trans e4⟩, ?_⟩
    rintro k m2 H5 ⟨rfl, hk', Bt, yt, gt, hDt, eB4, et, hDlt, tdt, e2t⟩
    by_cases hlt2 : k < zs'.length
    · refine .inr ⟨ft1.go k H5 (eB4.trans et) hlt2, fun H'' => (zs'.length - (k + 1)) = zs'.length - (k + 1) ∧ k + 1 ≤ zs'.length ∧ ∃ Bs ys, Gr H2 B1 Bs ∧ Bs Dl = none ∧ Ex B4 Bs ∧ Ex Bs H'' ∧ H'' Dl = some (.lst ys) ∧ A2 Pd ((List.range i).flatMap es ++ (es i).take (k + 1)) ys Bs ∧ Ex H2 H'', fun H'' h => ⟨_, by omega, h⟩, fun x2 H6 y2 => ?_⟩
      obtain ⟨r, hx2⟩ := ft1.yld k H5 x2 H6 (eB4.trans et) y2 hlt2
      subst r
      refine ⟨hw1 x x2, ?_⟩
      have hd : (es i)[k]? = some (es i)[k] := List.getElem?_eq_getElem (by omega)
      show te _ H6 _
      refine hE k x2 B1 _ (Ex.refl _) hx2 hd H6 (gt.ex.trans et) _ fun z H7 B' e7 g7 e8 pz' => ⟨yt, e7 _ _ hDlt, sz_lt (by have := tdt.1; have := hz i k hlt; omega), rfl, hlt2, mrg Bt B', yt ++ [z], ?_⟩
      have hB' : B' Dl = none := g7.av Dl hD1 (by rw [hDlt]; exact Option.some_ne_none _)
      have hM : mrg Bt B' Dl = none := by rw [mrg_none hDt]; exact hB'
      have eM : Ex (mrg Bt B') H7 := mrg_le (et.trans e7) e8
      refine ⟨⟨gt.ex.trans mrg_l, mrg_av gt.av (g7.av.back e2t)⟩, hM, eB4.trans mrg_l, fun a o ha => ?_, upd_same, ?_, fun a o ha => ?_⟩
      · have c : a ≠ Dl := fun c => by subst c; rw [hM] at ha; exact nomatch ha
        rw [upd_ne c]; exact eM a o ha
      · rw [take_snoc hd, ← List.append_assoc]
        exact (tdt.mono mo mrg_l).snoc ((mo _).mo (mrg_r (et.trans e7) e8) pz')
      · have c : a ≠ Dl := fun c => by subst c; rw [hD] at ha; exact nomatch ha
        rw [upd_ne c]; exact e7 a o (e2t a o ha)
    · have c : k = zs'.length := by omega
      subst c
      refine .inl ⟨ft1.stop H5 (eB4.trans et), rfl, hlt, Bt, yt, gt, hDt, et, hDlt, ?_, e2t⟩
      rw [List.range_succ, List.flatMap_append]
      rw [hlen, List.take_length] at tdt
      have : [i].flatMap es = es i := by simp
      rw [this]
      exact tdt
  · have c : i = ys0.length := by omega
    subst c
    refine .inl ⟨ft.stop H' eF, q (.ref Dl) H' (upd Bs Dl (.lst ys)) (e2.trans e2') ⟨(g.ex.trans gs.ex).trans (Ex.new hDs), fun a ha hx => ?_⟩ (ex_upd es' hDl) ⟨Dl, ys, rfl, upd_same, td.mono mo (Ex.new hDs)⟩⟩
    have c : a ≠ Dl := fun c => by subst c; exact ex_ne e2 hx hD
    rw [upd_ne c]
    exact gs.av a (g.av a ha hx) (ex_ne e2 hx)
theorem er_lc1 (mo : ∀ d, Mo (Pd d)) {ds : List δ} (hi : EvI wi σ B fun ys _ => ys = xs) (hz : xs.length ≤ 40000) (hl : xs.length = ds.length) (hw : ∀ x, wipe ((wipe σ vs).set j (some x)) vs = wipe σ vs)
    (he : ∀ (i : Nat) (x : V) (B' : Hp) (d : δ), Ex B B' → xs[i]? = some x → ds[i]? = some d → EvR te ((wipe σ vs).set j (some x)) B' (Pd d)) :
    EvR (tLc wi (gName j) tYes te vs) σ B fun z B' => ∃ (p : Addr) (ys : List V), z = .ref p ∧ B' p = some (.lst ys) ∧ A2 Pd ds ys B' :=
  EvR.imp (er_lc0 (Pe := fun i z B' => ∀ d, ds[i]? = some d → Pd d z B') (fun i => ⟨fun e h d hd => (mo d).mo e (h d hd)⟩) hi hz hw (fun i x B' e hx => by
    have hi' := (List.getElem?_eq_some_iff.mp hx).1
    have hd : ds[i]? = some ds[i] := List.getElem?_eq_getElem (by omega)
    exact EvR.imp (he i x B' _ e hx hd) fun z B'' _ p d hd' => by
      rw [hd] at hd'
      cases hd'
      exact p)) fun z B' _ ⟨p, ys, h1, h2, h3, h4⟩ => ⟨p, ys, h1, h2, h3.trans hl, fun k y d hk hd => h4 k y hk d hd⟩
mutual
theorem nk_ex {H H' : Hp} (e : Ex H H') : ∀ {v : V} {k : NestedKey}, NK K H v k → NK K H' v k
  | _, _, .num i => .num i
  | _, _, .text s => .text s
  | _, _, .tup h hs => .tup (ex_t e h) (nks_ex e hs)
theorem nks_ex {H H' : Hp} (e : Ex H H') : ∀ {vs : List V} {ks : List NestedKey}, NKs K H vs ks → NKs K H' vs ks
  | _, _, .nil => .nil
  | _, _, .cons h hs => .cons (nk_ex e h) (nks_ex e hs)
end
theorem putN_new {kvs : List (NestedKey × Addr × V)} {k : NestedKey} {a : Addr} {z : V} (h : k ∉ kvs.map (·.1)) : putN kvs k a z = kvs ++ [(k, a, z)] := by
  unfold putN
  have : kvs.find? (fun p => decide (p.1 = k)) = none := by
    rw [List.find?_eq_none]
    intro p hp c
    exact h (of_decide_eq_true c ▸ List.mem_map_of_mem hp)
  rw [this]
  rfl
/-- {x: True for x in it}, the x nested keys that are there: ks, each once -/
theorem er_dcTrue {ks : List NestedKey} (hi : EvI wi σ B fun ys _ => ys = xs) (hl : xs.length = ks.length) (hz : xs.length ≤ 40000) (hn : ks.Nodup) (hk : ∀ (i : Nat) (x : V) (k : NestedKey), xs[i]? = some x → ks[i]? = some k → NK K B x k ∧ k.depth ≤ 8 ∧ ∃ a, x = .ref a) (hw : ∀ x, wipe ((wipe σ vs).set j (some x)) vs = wipe σ vs) (hj : j < σ.length) :
    EvR (tDcG (fun a => DnO P w a []) (putNk K P w) wi (gName j) tYes (tVar j) (tC (.bl true)) vs) σ B fun z B' => ∃ (a : Addr) (kvs : List (NestedKey × Addr × V)), z = .ref a ∧ B' a = some (DnO P w a kvs) ∧ kvs.map (·.1) = ks ∧ (kvs.map fun p => V.ref p.2.1) = xs := fun H1 e Q q => by
  refine hi H1 e _ fun J H2 B1 ys e2 g e3 px ft => fun Dl hD => ?_
  subst px
  have hD1 : B1 Dl = none := none_of e3 hD
  refine ⟨fun i m H' => m = ys.length - i ∧ i ≤ ys.length ∧ ∃ kvs, H' Dl = some (DnO P w Dl kvs) ∧ Ex H2 H' ∧ DnKeys K B1 kvs ∧ kvs.map (·.1) = ks.take i ∧ (kvs.map fun p => V.ref p.2.1) = ys.take i, ⟨ys.length, by simp, Nat.zero_le _, [], upd_same, Ex.new hD, (fun p h => nomatch h), rfl, rfl⟩, ?_⟩
  rintro i m H' ⟨rfl, hi', kvs, hDl, e4, hkv, hk1, hk2⟩
  have eF : Ex B1 H' := e3.trans e4
  by_cases hlt : i < ys.length
  · refine .inr ⟨ft.go i H' eF hlt, fun H'' => (ys.length - (i + 1)) = ys.length - (i + 1) ∧ i + 1 ≤ ys.length ∧ ∃ kvs, H'' Dl = some (DnO P w Dl kvs) ∧ Ex H2 H'' ∧ DnKeys K B1 kvs ∧ kvs.map (·.1) = ks.take (i + 1) ∧ (kvs.map fun p => V.ref p.2.1) = ys.take (i + 1), fun H'' h => ⟨_, by omega, h⟩, fun x H3 y => ?_⟩
    obtain ⟨r, hx⟩ := ft.yld i H' x H3 eF y hlt
    subst r
    refine ⟨hw x, ?_⟩
    unfold tYes
    refine Eq.mpr (if_pos rfl) ?_
    have hkk : ks[i]? = some ks[i] := List.getElem?_eq_getElem (by omega)
    obtain ⟨nk, hd8, a, rfl⟩ := hk i x _ hx hkk
    have hnew : ks[i] ∉ kvs.map (·.1) := by
      rw [hk1]
      have := nodup_take (f := fun (z : NestedKey) => z) (by rw [List.map_id']; exact hn) hkk
      rw [List.map_id'] at this
      exact this
    have hlen : kvs.length ≤ i := by
      have := congrArg List.length hk1
      rw [List.length_map, List.length_take] at this
      omega
    refine ⟨.ref a, by rw [List.getElem?_set_self (by rw [wipe_length]; exact hj)], ⟨a, ks[i], kvs, rfl, nk_ex ((g.ex.trans e3).trans e4) nk, hd8, hDl, fun p hp => ⟨nk_ex eF (hkv p hp).1, (hkv p hp).2⟩, ?_, rfl, hlt, _, upd_same, fun b o hb => ?_, ?_, ?_, ?_⟩⟩
    · rw [putN_new hnew, List.length_append, List.length_singleton]
      exact sz_of (by omega)
    · have c : b ≠ Dl := fun c => by subst c; rw [hD] at hb; exact nomatch hb
      rw [upd_ne c]; exact e4 b o hb
    · rw [putN_new hnew]
      intro p hp
      rcases List.mem_append.mp hp with c | c
      · exact hkv p c
      · rw [List.mem_singleton] at c
        subst c
        exact ⟨nk_ex g.ex nk, hd8⟩
    · rw [putN_new hnew, List.map_append, hk1, take_snoc hkk]
      rfl
    · rw [putN_new hnew, List.map_append, hk2, take_snoc hx]
      rfl
  · have c : i = ys.length := by omega
    subst c
    refine .inl ⟨ft.stop H' eF, q (.ref Dl) H' (upd B1 Dl (DnO P w Dl kvs)) (e2.trans e4) ⟨g.ex.trans (Ex.new hD1), fun a ha hx => ?_⟩ (ex_upd eF hDl) ⟨Dl, kvs, rfl, upd_same, ?_, ?_⟩⟩
    · have c : a ≠ Dl := fun c => by subst c; exact ex_ne e2 hx hD
      rw [upd_ne c]
      exact g.av a ha hx
    · rw [hk1, hl, List.take_length]
    · rw [hk2, List.take_length]
end
end RX
/-! instances that are being filled; worlds -/
namespace LX
open PySem PySem.Spec PyProof.Rows L2
theorem k_sfld {X : Cx} {K : PySem.W.Frag} {o value : Expr} {f : Str} {pos pos' : Pos} {ta tv : TE} (ha : PE X o ta) (hv : PE X value tv) (hs : swapsWith value (some (.Attribute o f pos')) pos.line X.env = pure false) (h : X.K = K := by rfl) : PS X (.Assign [.Attribute o f pos'] value pos) (sFld K ta tv f) := by subst h; exact ps_fld ha hv hs
end LX
namespace RX
open PySem PySem.Spec PyProof.Rows L2 Evl LX XV WS
theorem k_pit {X : Cx} {K : PySem.W.Frag} {tg l : Expr} {tl : TE} (hl : PE X l tl) (h : X.K = K := by rfl) : PI X tg l (iTup K tl) := by subst h; exact pi_tup hl
theorem k_pil {X : Cx} {K : PySem.W.Frag} {tg l : Expr} {tl : TE} (hl : PE X l tl) (h : X.K = K := by rfl) : PI X tg l (iList K tl) := by subst h; exact pi_list hl
/-- all but instances stands as before -/
def ExN (H H' : Hp) : Prop := ∀ a o, H a = some o → (∀ C dx fs, o ≠ .ins C dx fs) → H' a = some o
theorem Ex.n {H H' : Hp} (e : Ex H H') : ExN H H' := fun a o h _ => e a o h
theorem exn_upd {H : Hp} {x C dx : Addr} {fs : List (Str × V)} {o : HO} (h : H x = some (.ins C dx fs)) : ExN H (upd H x o) := fun a u ha hu => by
  have c : a ≠ x := fun c => by
    subst c
    rw [h] at ha
    cases ha
    exact hu _ _ _ rfl
  rw [upd_ne c]; exact ha
theorem exn_rd {H H' : Hp} {a : Addr} {u : HO} (e : ExN H H') (hu : ∀ C dx fs, u ≠ .ins C dx fs) (h : Rd H a u) : Rd H' a u := by
  rcases h with h | ⟨o, h⟩
  · exact .inl (e _ _ h hu)
  · exact .inr ⟨o, e _ _ h fun C dx fs c => nomatch c⟩
theorem exn_l {K : PySem.W.Frag} {H H' : Hp} {a : Addr} {xs : List V} (e : ExN H H') (h : SqL K H a xs) : SqL K H' a xs := h.imp (exn_rd e fun _ _ _ c => nomatch c) id
theorem exn_t {K : PySem.W.Frag} {H H' : Hp} {a : Addr} {xs : List V} (e : ExN H H') (h : SqT K H a xs) : SqT K H' a xs := h.imp (exn_rd e fun _ _ _ c => nomatch c) id
class MoN (P : V → Hp → Prop) : Prop where
  mo : ∀ {z H H'}, ExN H H' → P z H → P z H'
class MoAN (P : List V → Hp → Prop) : Prop where
  mo : ∀ {z H H'}, ExN H H' → P z H → P z H'
instance {v : V} : MoN (IsV v) := ⟨fun _ h => h⟩
instance {K : PySem.W.Frag} {Py : List V → Hp → Prop} [m : MoAN Py] : MoN (TpP K Py) := ⟨fun e ⟨p, ys, h, s, q⟩ => ⟨p, ys, h, exn_t e s, m.mo e q⟩⟩
instance {xs : List V} : MoAN (fun ys _ => ys = xs) := ⟨fun _ h => h⟩
instance {K : PySem.W.Frag} {k : List Int} : MoN (IsTI K k) := ⟨fun e ⟨p, h, s⟩ => ⟨p, h, exn_t e s⟩⟩
instance {K : PySem.W.Frag} {R : List (List Int)} : MoAN (RowsAt K R) := ⟨fun e ⟨l, h⟩ => ⟨l, fun i y r a b => MoN.mo e (h i y r a b)⟩⟩
instance {δ : Type} {Pd : δ → V → Hp → Prop} {ds : List δ} [mo : ∀ d, MoN (Pd d)] : MoAN (A2 Pd ds) := ⟨fun e ⟨l, h⟩ => ⟨l, fun i y d a b => (mo d).mo e (h i y d a b)⟩⟩
instance {K : PySem.W.Frag} {r : Rel} : MoN (EntAt K r) := ⟨fun e ⟨t, q, ys, h, a, b, c⟩ => ⟨t, q, ys, h, exn_t e a, exn_t e b, MoAN.mo e c⟩⟩
theorem TabAt.monoN {K : PySem.W.Frag} {rels : List Rel} {kvs : List (Key × V)} {B B' : Hp} (e : ExN B B') (h : TabAt K rels kvs B) : TabAt K rels kvs B' := ⟨h.1, fun i p r a b => MoN.mo e (h.2 i p r a b)⟩
section
variable {K : PySem.W.Frag} {σ : L2.St} {B B' X : Hp} {te ta tb : TE} {D : Ends} {tz : TS} {v : V}
/-- x.f = e -/
theorem x_fld {x C dx : Addr} {f : Str} {fs : List (Str × V)} {Pe : V → Hp → Prop} (hl : B x = some (.ins C dx fs)) (hX : X x = none) (ha : Ev ta σ B (.ref x)) (h : EvR te σ B Pe) (hC : Cls K C) (hn : NoAttr K C f) (hf : fs.length < 1000)
    (k : ∀ z B', Gr X B B' → Pe z B' → B' x = some (.ins C dx fs) → ExN B' (upd B' x (.ins C dx (putF f z fs))) → Sx X tz D σ (upd B' x (.ins C dx (putF f z fs)))) : Sx X (tSeq (sFld K ta te f) tz) D σ B := fun H e eX =>
  h H e _ fun z H2 B' e2 g e3 p => ha H2 (e.trans e2) _ fun H3 e4 => by
    have hx : H3 x = some (.ins C dx fs) := e4 _ _ (e2 _ _ (e _ _ hl))
    refine ⟨x, C, dx, fs, rfl, hx, hC, hn, hf, k z B' (g.back eX) p (g.ex _ _ hl) (exn_upd (g.ex _ _ hl)) _ (fun a u q => ?_) (fun a u q => ?_)⟩
    · by_cases c : a = x
      · subst c; rw [upd_same] at q ⊢; exact q
      · rw [upd_ne c] at q ⊢; exact e4 _ _ (e3 a u q)
    · have c : a ≠ x := fun c => by subst c; rw [hX] at q; exact nomatch q
      rw [upd_ne c]
      exact e4 _ _ (e2 a u (eX a u q))
/-- x.f -/
theorem ev_fldI {x C dx : Addr} {f : Str} {fs : List (Str × V)} (h : Ev te σ B (.ref x)) (hl : B x = some (.ins C dx fs)) (hC : Cls K C) (hn : NoAttr K C f) (hv : fs.lookup f = some v) : Ev (tFld K te f) σ B v := fun H1 e Q q =>
  h H1 e _ fun H2 e2 => ⟨x, C, dx, fs, v, rfl, (e.trans e2) _ _ hl, hC, hn, hv, q H2 e2⟩
def rSortD : List V → Hp → VK → Prop := fun xs H Q => ∃ (a : Addr) (kvs : List (Key × V)) (ks : List Str), xs = [.ref a] ∧ Rd H a (.dK kvs) ∧ kvs.map (·.1) = ks.map Sum.inr ∧ ks.length < 64 ∧ ∀ ys p, ys.Perm ks → sortedS ys = true → H p = none → Q (.ref p) (upd H p (.lst (ys.map V.str)))
theorem k_sortD {Y : Cx} (hc : Y.calm = true) : CallR Y (.builtin "sorted") rSortD := call_sortedD hc
theorem er_sortD {a : Addr} {kvs : List (Key × V)} {ks : List Str} (h : Ev te σ B (.ref a)) (ha : B a = some (.dK kvs)) (hk : kvs.map (·.1) = ks.map Sum.inr) (hz : ks.length < 64) :
    EvR (tCB rSortD (tCons te tNil)) σ B (LsP K fun ys _ => ∃ ns : List Str, ys = ns.map V.str ∧ ns.Perm ks ∧ sortedS ns = true) := fun H1 e Q q =>
  h H1 e _ fun H2 e2 => ⟨a, kvs, ks, rfl, .inl ((e.trans e2) _ _ ha), hk, hz, fun ns p hp hs hn => by
    have hB : B p = none := none_of (e.trans e2) hn
    refine q _ _ (upd B p (.lst (ns.map V.str))) (e2.trans (Ex.new hn)) (gr_new hB (none_of e2 hn)) (fun x o hx => ?_) ⟨p, _, rfl, sq_of upd_same, ns, rfl, hp, hs⟩
    by_cases c : x = p
    · subst c; rw [upd_same] at hx ⊢; exact hx
    · rw [upd_ne c] at hx ⊢; exact (e.trans e2) x o hx⟩
end
/-! ### worlds -/
def rowsIn (rels : List Rel) (n : Str) : List (List Int) := match rels.find? (fun r => decide (r.name = n)) with
  | some r => r.rows
  | none => []
def arIn (rels : List Rel) (n : Str) : Int := match rels.find? (fun r => decide (r.name = n)) with
  | some r => r.ar
  | none => 0
def factsOf (rels : List Rel) (ns : List Str) : List (Str × List Int) := ns.flatMap fun n => (rowsIn rels n).map fun r => (n, r)
def FactAt (K : PySem.W.Frag) (f : Str × List Int) : V → Hp → Prop := fun y B => ∃ a r, y = .ref a ∧ SqT K B a [.str f.1, .ref r] ∧ SqT K B r (f.2.map V.int)
instance {K : PySem.W.Frag} {f : Str × List Int} : Mo (FactAt K f) := ⟨fun e ⟨a, r, h, x, y⟩ => ⟨a, r, h, ex_t e x, ex_t e y⟩⟩
instance {K : PySem.W.Frag} {f : Str × List Int} : MoN (FactAt K f) := ⟨fun e ⟨a, r, h, x, y⟩ => ⟨a, r, h, exn_t e x, exn_t e y⟩⟩
def keyOf (f : Str × List Int) : NestedKey := .tup [.text f.1, .tup (f.2.map NestedKey.num)]
theorem nums_depth : ∀ ns : List Int, NestedKey.depthAll (ns.map NestedKey.num) = 0
  | [] => rfl
  | n :: r => by
    show max (NestedKey.depth (.num n)) (NestedKey.depthAll (r.map NestedKey.num)) = 0
    rw [nums_depth r]
    rfl
theorem keyOf_depth (f : Str × List Int) : (keyOf f).depth ≤ 8 := by
  show max (NestedKey.depth (.text f.1)) (max (NestedKey.depthAll (f.2.map NestedKey.num) + 1) 0) + 1 ≤ 8
  rw [nums_depth]
  show max 0 (max (0 + 1) 0) + 1 ≤ 8
  decide
theorem nums_inj : ∀ {a b : List Int}, a.map NestedKey.num = b.map NestedKey.num → a = b
  | [], [], _ => rfl
  | [], _ :: _, h => nomatch h
  | _ :: _, [], h => nomatch h
  | x :: a, y :: b, h => by
    rw [List.map_cons, List.map_cons] at h
    obtain ⟨h1, h2⟩ := List.cons.inj h
    cases h1
    rw [nums_inj h2]
theorem keyOf_inj {f g : Str × List Int} (h : keyOf f = keyOf g) : f = g := by
  unfold keyOf at h
  obtain ⟨h1, h2⟩ := List.cons.inj (NestedKey.tup.inj h)
  obtain ⟨h3, _⟩ := List.cons.inj h2
  exact Prod.ext (NestedKey.text.inj h1) (nums_inj (NestedKey.tup.inj h3))
theorem fact_key {K : PySem.W.Frag} {B : Hp} {f : Str × List Int} {y : V} (h : FactAt K f y B) : NK K B y (keyOf f) := by
  obtain ⟨a, r, rfl, h1, h2⟩ := h
  exact .tup h1 (.cons (.text _) (.cons (.tup h2 (nks_ints _)) .nil))
theorem facts_nodup {rels : List Rel} (hr : ∀ n, (rowsIn rels n).Nodup) : ∀ {ns : List Str}, ns.Nodup → (factsOf rels ns).Nodup
  | [], _ => List.nodup_nil
  | n :: ns, h => by
    obtain ⟨h1, h2⟩ := List.nodup_cons.mp h
    show ((rowsIn rels n).map (fun r => (n, r)) ++ factsOf rels ns).Nodup
    refine List.nodup_append.mpr ⟨?_, facts_nodup hr h2, fun a ha b hb c => ?_⟩
    · exact List.pairwise_map.mpr (List.Pairwise.imp (fun {x y} hxy c => hxy (Prod.mk.inj c).2) (hr n))
    · obtain ⟨r, _, rfl⟩ := List.mem_map.mp ha
      subst c
      obtain ⟨m, hm, hb⟩ := List.mem_flatMap.mp hb
      obtain ⟨r', _, e⟩ := List.mem_map.mp hb
      have := (Prod.mk.inj e).1
      subst this
      exact h1 hm
theorem flat_len {α β : Type} {f : α → List β} {c : Nat} : ∀ {l : List α}, (∀ x ∈ l, (f x).length ≤ c) → (l.flatMap f).length ≤ l.length * c
  | [], _ => Nat.zero_le _
  | x :: l, h => by
    rw [List.flatMap_cons, List.length_append, List.length_cons, Nat.succ_mul]
    have := h x List.mem_cons_self
    have := flat_len (l := l) fun y hy => h y (List.mem_cons_of_mem _ hy)
    omega
end RX
namespace RX
open PySem PySem.Spec PyProof.Rows L2 Evl LX XV WS
theorem gr_keep {X B B' : Hp} {x : Addr} {o : HO} (g : Gr X B B') (hb : B x = none) (hx : X x = none) : Gr X B (upd B' x o) := ⟨fun a u h => by
    have c : a ≠ x := fun c => by subst c; rw [hb] at h; exact nomatch h
    rw [upd_ne c]; exact g.ex a u h, fun a h h2 => by
    have c : a ≠ x := fun c => by subst c; exact h2 hx
    rw [upd_ne c]; exact g.av a h h2⟩
theorem flat_range {α β : Type} {l : List α} {z : α} {f : α → List β} : (List.range l.length).flatMap (fun i => f (l.getD i z)) = l.flatMap f := by
  have h : l = (List.range l.length).map fun i => l.getD i z := list_range rfl fun k y hy => by
    rw [List.getD_eq_getElem?_getD, hy]
    rfl
  conv => rhs; rw [h]
  rw [List.flatMap_map]
theorem len_ins {B : Int} {r : List Int} : ∀ {L : List (List Int)}, (AS.ins B r L).length ≤ L.length + 1
  | [] => Nat.le_refl _
  | x :: t => by
    unfold AS.ins
    split
    · exact Nat.le_refl _
    · split
      · exact Nat.le_succ _
      · rw [List.length_cons, List.length_cons]
        have := len_ins (B := B) (r := r) (L := t)
        omega
theorem len_ascR {B : Int} : ∀ {L : List (List Int)}, (AS.ascR B L).length ≤ L.length
  | [] => Nat.le_refl _
  | x :: t => by
    have h := len_ins (B := B) (r := x) (L := AS.ascR B t)
    have h2 := len_ascR (B := B) (L := t)
    show (AS.ins B x (AS.ascR B t)).length ≤ t.length + 1
    omega
theorem asc_nodup {B : Int} {L : List (List Int)} (h : AS.Asc B L) : L.Nodup := List.Pairwise.imp (fun {a b} hab c => by subst c; exact Int.lt_irrefl _ hab) h
theorem A2.vals {δ : Type} {B : Hp} {f : δ → V} : ∀ {ds : List δ} {ys : List V}, A2 (fun d => IsV (f d)) ds ys B → ys = ds.map f
  | [], ys, h => List.length_eq_zero_iff.mp h.1
  | d :: ds, [], h => by have := h.1; simp at this
  | d :: ds, y :: ys, h => by
    have h0 : y = f d := h.2 0 y d rfl rfl
    have ht : A2 (fun d => IsV (f d)) ds ys B := ⟨by have := h.1; simpa using this, fun k y' d' a b => h.2 (k + 1) y' d' a b⟩
    rw [h0, A2.vals ht]
    rfl
end RX
/-! methods by contract -/
namespace RX
open PySem PySem.Spec PyProof.Rows L2 Evl LX XV WS
/-- the method m of the class at C that lets nothing out -/
structure OkM (P : Program) (w : World) (K : PySem.W.Frag) (mg : Str → Option Value) (base : Heap) (k : Nat) (C : Addr) (m : Str) (ps : List Str) (sp : Sp) : Prop where
  ex : ∃ (f : Addr) (fd : FuncData), Meth K C m f ∧ FnOk P w K mg base CX0 k f fd ps sp ∧ Binds K fd ps []
theorem pe_m {X : Cx} {C : Addr} {m : Str} {o e : Expr} {es : List Expr} {apos pos : Pos} {k j : Nat} {ps : List Str} {sp : Sp} {ta : TE} {t : TA} {pl : Sem Bool} (O : OkM X.prog X.w X.K X.mg X.base k C m ps sp) (c : Cls X.K C) (hr : Room j X.A) (hj : k ≤ j) (he : PE X o ta) (ha : PA X (e :: es) t)
    (hst : starEach (e :: es) X.env = (false, eval e X.env) :: starEach es X.env := by rfl) (hpl : (backTo pos (starEach es X.env)).any (·.1) = false := by rfl)
    (ht : eval (.Call (.Attribute o m apos) (e :: es) [] pos) X.env = (do
      let ov ← eval o X.env
      standAt apos.atName
      let (f, first) ← holding [ov] (getMethod ov m pl)
      callWith pos f first (backTo pos (starEach (e :: es) X.env)) (backToKw pos (keywordEach [] X.env))) := by rfl) : PE X (.Call (.Attribute o m apos) (e :: es) [] pos) (tMeth C m sp [] E0 ta t) := by
  obtain ⟨f, fd, hm, F, b⟩ := O.ex
  exact pe_meth (pl := pl) he c hm F (hr.mono hj) b .nil pass0 ha hst hpl ht
section
variable {K : PySem.W.Frag} {σ : L2.St} {B X : Hp} {te ta : TE} {tr : TA} {P : V → Hp → Prop}
theorem er_meth {C x dx : Addr} {m : Str} {fs : List (Str × V)} {vs : List V} {Dd : List V → Hp → (V → Hp → Prop) → Prop} {E : XK} (ho : Ev ta σ B (.ref x)) (hx : B x = some (.ins C dx fs)) (hl : fs.lookup m = none) (h : EvA tr σ B vs) (hs : ∀ B', Ex B B' → Dd (.ref x :: vs) B' P) : EvR (tMeth C m (spR Dd) [] E ta tr) σ B P := fun H1 e Q q =>
  ho H1 e _ fun H2 e2 => ⟨x, dx, fs, rfl, (e.trans e2) _ _ hx, hl, h H2 (e.trans e2) _ fun H3 e3 => by
    rw [List.append_nil]
    exact ⟨B, P, (e.trans e2).trans e3, hs B (Ex.refl _), fun z H4 B' e4 g e5 p => q z H4 B' ((e2.trans e3).trans e4) (g.back (e2.trans e3)) e5 p⟩⟩
end
end RX
/-! sorted lists of rows -/
namespace RX
open PySem PySem.Spec PyProof.Rows L2 Evl LX XV WS
section
variable {δ : Type} {Pd : δ → V → Hp → Prop} {B : Hp}
theorem A2.cons {d : δ} {y : V} {ds : List δ} {ys : List V} (h : Pd d y B) (t : A2 Pd ds ys B) : A2 Pd (d :: ds) (y :: ys) B := ⟨by rw [List.length_cons, List.length_cons, t.1], fun k u e hu he => by
  cases k with
  | zero => cases hu; cases he; exact h
  | succ k => exact t.2 k u e hu he⟩
theorem A2.uncons {d : δ} {y : V} {ds : List δ} {ys : List V} (h : A2 Pd (d :: ds) (y :: ys) B) : Pd d y B ∧ A2 Pd ds ys B := ⟨h.2 0 y d rfl rfl, by have := h.1; simpa using this, fun k u e hu he => h.2 (k + 1) u e hu he⟩
theorem a2_perm {xs ys : List V} (hp : xs.Perm ys) : ∀ {R : List δ}, A2 Pd R xs B → ∃ S, S.Perm R ∧ A2 Pd S ys B := by
  induction hp with
  | nil => intro R h; exact ⟨R, List.Perm.refl _, h⟩
  | @cons x l1 l2 _ ih =>
    intro R h
    cases R with
    | nil => have := h.1; simp at this
    | cons d R =>
      obtain ⟨h1, h2⟩ := h.uncons
      obtain ⟨S, p, q⟩ := ih h2
      exact ⟨d :: S, p.cons d, q.cons h1⟩
  | @swap x y l =>
    intro R h
    cases R with
    | nil => have := h.1; simp at this
    | cons d R =>
      cases R with
      | nil => have := h.1; simp at this
      | cons e R =>
        obtain ⟨h1, h2⟩ := h.uncons
        obtain ⟨h3, h4⟩ := h2.uncons
        exact ⟨e :: d :: R, List.Perm.swap _ _ _, (h4.cons h1).cons h3⟩
  | trans _ _ ih1 ih2 =>
    intro R h
    obtain ⟨S, p, q⟩ := ih1 h
    obtain ⟨S2, p2, q2⟩ := ih2 q
    exact ⟨S2, p2.trans p, q2⟩
end
def rSortR (K : PySem.W.Frag) (Bn : Int) : List V → Hp → VK → Prop := fun vs H Q => rSortU K 1 Bn vs H Q ∨ rSortU K 2 Bn vs H Q ∨ rSortU K 3 Bn vs H Q
theorem k_sortR {X : Cx} {K : PySem.W.Frag} {Bn : Int} (h : X.K = K := by rfl) : CallR X (.builtin "sorted") (rSortR K Bn) := by
  subst h
  exact (cr_sortT (by decide)).or ((cr_sortT (by decide)).or (cr_sortT (by decide)))
section
variable {K : PySem.W.Frag} {σ : L2.St} {B X : Hp} {te : TE}
theorem sortU_at {Bn : Int} {d : Nat} {a : Addr} {xs : List V} {R : List (List Int)} {H1 H2 : Hp} (e : Ex B H1) (e2 : Ex H1 H2) (ha : SqL K B a xs) (hR : A2 (IsTI K) R xs B) (hok : ∀ r ∈ R, AS.Ok Bn d r) (hz : xs.length < 64) {Q : VK}
    (q : ∀ z H2 B', Ex H1 H2 → Gr H1 B B' → Ex B' H2 → (∃ (p : Addr) (ys : List V) (S : List (List Int)), z = .ref p ∧ B' p = some (.lst ys) ∧ A2 (IsTI K) S ys B' ∧ S.Perm R ∧ S.Pairwise fun q r => TS.code Bn q ≤ TS.code Bn r) → Q z H2) : rSortU K d Bn [.ref a] H2 Q :=
  ⟨a, xs, rfl, ex_l (e.trans e2) ha, hz, fun x hx => by
    obtain ⟨i, hi, rfl⟩ := List.mem_iff_getElem.mp hx
    have hr : R[i]? = some (R[i]'(by rw [← hR.1]; exact hi)) := List.getElem?_eq_getElem _
    exact ⟨_, Mo.mo (e.trans e2) (hR.2 i _ _ (List.getElem?_eq_getElem hi) hr), hok _ (List.mem_of_getElem? hr)⟩, fun ys p hp hpw hn => by
    have hB : B p = none := none_of (e.trans e2) hn
    obtain ⟨S, hS, hA⟩ := a2_perm hp.symm hR
    refine q _ _ (upd B p (.lst ys)) (e2.trans (Ex.new hn)) (gr_new hB (none_of e2 hn)) (fun x o hx => ?_) ⟨p, ys, S, rfl, upd_same, A2.mono (fun _ => inferInstance) (Ex.new hB) hA, hS, ?_⟩
    · by_cases c : x = p
      · subst c; rw [upd_same] at hx ⊢; exact hx
      · rw [upd_ne c] at hx ⊢; exact (e.trans e2) x o hx
    · rw [List.pairwise_iff_getElem] at hpw ⊢
      intro i j hi hj hij
      have h1 : ys[i]? = some (ys[i]'(by rw [hA.1]; exact hi)) := List.getElem?_eq_getElem _
      have h2 : ys[j]? = some (ys[j]'(by rw [hA.1]; exact hj)) := List.getElem?_eq_getElem _
      exact hpw i j _ _ hij _ _ (Mo.mo (e.trans e2) (hA.2 i _ _ h1 (List.getElem?_eq_getElem hi))) (Mo.mo (e.trans e2) (hA.2 j _ _ h2 (List.getElem?_eq_getElem hj)))⟩
theorem er_sortR {Bn : Int} {d : Nat} {a : Addr} {xs : List V} {R : List (List Int)} (h : Ev te σ B (.ref a)) (ha : SqL K B a xs) (hR : A2 (IsTI K) R xs B) (hok : ∀ r ∈ R, AS.Ok Bn d r) (hz : xs.length < 64) (h1 : 1 ≤ d) (h3 : d ≤ 3) :
    EvR (tCB (rSortR K Bn) (tCons te tNil)) σ B fun z B' => ∃ (p : Addr) (ys : List V) (S : List (List Int)), z = .ref p ∧ B' p = some (.lst ys) ∧ A2 (IsTI K) S ys B' ∧ S.Perm R ∧ S.Pairwise fun q r => TS.code Bn q ≤ TS.code Bn r := fun H1 e Q q =>
  h H1 e _ fun H2 e2 => by
    have hd : d = 1 ∨ d = 2 ∨ d = 3 := by omega
    rcases hd with c | c | c
    · subst c; exact .inl (sortU_at e e2 ha hR hok hz q)
    · subst c; exact .inr (.inl (sortU_at e e2 ha hR hok hz q))
    · subst c; exact .inr (.inr (sortU_at e e2 ha hR hok hz q))
/-- two rows by != -/
theorem rv_neT {a b : Addr} {r q : List Int} (ha : SqT K B a (r.map V.int)) (hb : SqT K B b (q.map V.int)) : RV (rNeD K) (.ref a) (.ref b) B (.bl (!decide (r = q))) := fun H1 e Q k => by
  refine ⟨.tuple (r.map PyData.int), .tuple (q.map PyData.int), .tup (ex_t e ha) (dp_ints r), .tup (ex_t e hb) (dp_ints q), shaped_intsT r, shaped_intsT q, ?_⟩
  have : PyData.eqv (.tuple (r.map PyData.int)) (.tuple (q.map PyData.int)) = decide (r = q) := eqv_ints r q
  rw [this]
  exact k H1 (Ex.refl _)
end
end RX
/-! comprehensions whose list is told to be new; calls whose promise speaks of the heap at the call -/
namespace RX
open PySem PySem.Spec PyProof.Rows L2 Evl LX XV WS
section
variable {K : PySem.W.Frag} {σ : L2.St} {B B' H X : Hp} {ta tb te : TE} {t : TT} {tr : TA} {x y z v : V} {D : Ends} {tz tu tw : TS} {P : V → Hp → Prop} {xs : List V}
/-- [e for x in it if ..]: f which of them, Pe what each is -/
theorem er_lcN {wi : TI} {j : Nat} {vs : List Nat} {Pxs : List V → Hp → Prop} (f : List V → Nat → Bool) (Pe : List V → Nat → V → Hp → Prop) (mo : ∀ xs i, Mo (Pe xs i)) (mp : MoA Pxs) (hi : EvI wi σ B Pxs) (hw : ∀ x, wipe ((wipe σ vs).set j (some x)) vs = wipe σ vs)
    (hz : ∀ xs B', Pxs xs B' → xs.length ≤ 40000)
    (ht : ∀ xs i x B', Ex B B' → Pxs xs B' → xs[i]? = some x → EvT t ((wipe σ vs).set j (some x)) B' (f xs i)) (he : ∀ xs i x B', Ex B B' → Pxs xs B' → xs[i]? = some x → f xs i = true → EvR te ((wipe σ vs).set j (some x)) B' (Pe xs i)) :
    EvR (tLc wi (gName j) t te vs) σ B fun z B' => ∃ (xs : List V) (p : Addr) (ys : List V), Pxs xs B' ∧ z = .ref p ∧ B' p = some (.lst ys) ∧ Told (f xs) (Pe xs) xs.length ys B' ∧ B p = none := fun H1 e Q q => by
  refine hi H1 e _ fun J H2 B1 xs e2 g e3 px ft => fun Dl hD => ?_
  have hD1 : B1 Dl = none := none_of e3 hD
  refine ⟨fun i m H' => m = xs.length - i ∧ i ≤ xs.length ∧ ∃ Bs ys, Gr H2 B1 Bs ∧ Bs Dl = none ∧ Ex Bs H' ∧ H' Dl = some (.lst ys) ∧ Told (f xs) (Pe xs) i ys Bs ∧ Ex H2 H', ⟨xs.length, by simp, Nat.zero_le _, B1, [], Gr.refl _ _, hD1, e3.trans (Ex.new hD), upd_same, told_nil, Ex.new hD⟩, ?_⟩
  rintro i m H' ⟨rfl, hi', Bs, ys, gs, hDs, es, hDl, td, e2'⟩
  have eF : Ex B1 H' := gs.ex.trans es
  by_cases hlt : i < xs.length
  · refine .inr ⟨ft.go i H' eF hlt, fun H'' => (xs.length - (i + 1)) = xs.length - (i + 1) ∧ i + 1 ≤ xs.length ∧ ∃ Bs ys, Gr H2 B1 Bs ∧ Bs Dl = none ∧ Ex Bs H'' ∧ H'' Dl = some (.lst ys) ∧ Told (f xs) (Pe xs) (i + 1) ys Bs ∧ Ex H2 H'', fun H'' h => ⟨_, by omega, h⟩, fun x H3 y => ?_⟩
    obtain ⟨r, hx⟩ := ft.yld i H' x H3 eF y hlt
    subst r
    refine ⟨hw x, ht xs i x B1 g.ex px hx H3 eF _ fun H4 e4 => ?_⟩
    cases hf : f xs i with
    | false => exact ⟨rfl, hlt, Bs, ys, gs, hDs, es.trans e4, e4 _ _ hDl, told_no td hf, e2'.trans e4⟩
    | true =>
      refine he xs i x B1 g.ex px hx hf H4 (eF.trans e4) _ fun z H5 B' e5 g5 e6 pz => ⟨ys, e5 _ _ (e4 _ _ hDl), sz_lt (by have := td.len; have := hz xs B1 px; omega), rfl, hlt, mrg Bs B', ys ++ [z], ?_⟩
      have hB' : B' Dl = none := g5.av Dl hD1 (by rw [e4 _ _ hDl]; exact Option.some_ne_none _)
      have hM : mrg Bs B' Dl = none := by rw [mrg_none hDs]; exact hB'
      have eM : Ex (mrg Bs B') H5 := mrg_le ((es.trans e4).trans e5) e6
      refine ⟨⟨gs.ex.trans mrg_l, mrg_av gs.av (g5.av.back (e2'.trans e4))⟩, hM, fun a o ha => ?_, upd_same, told_yes (td.mono (mo xs) mrg_l) hf ((mo xs i).mo (mrg_r ((es.trans e4).trans e5) e6) pz), fun a o ha => ?_⟩
      · have c : a ≠ Dl := fun c => by subst c; rw [hM] at ha; exact nomatch ha
        rw [upd_ne c]; exact eM a o ha
      · have c : a ≠ Dl := fun c => by subst c; rw [hD] at ha; exact nomatch ha
        rw [upd_ne c]; exact e5 a o (e4 a o (e2' a o ha))
  · have c : i = xs.length := by omega
    subst c
    refine .inl ⟨ft.stop H' eF, q (.ref Dl) H' (upd Bs Dl (.lst ys)) (e2.trans e2') ⟨(g.ex.trans gs.ex).trans (Ex.new hDs), fun a ha hx => ?_⟩ (ex_upd es hDl) ⟨xs, Dl, ys, mp.mo (gs.ex.trans (Ex.new hDs)) px, rfl, upd_same, td.mono (mo xs) (Ex.new hDs), none_of (e.trans e2) hD⟩⟩
    have c : a ≠ Dl := fun c => by subst c; exact ex_ne e2 hx hD
    rw [upd_ne c]
    exact gs.av a (g.av a ha hx) (ex_ne e2 hx)
end
section
variable {δ : Type} {Pd : δ → V → Hp → Prop} {K : PySem.W.Frag} {σ : L2.St} {B B' X : Hp} {te : TE} {wi : TI} {xs : List V} {j : Nat} {vs : List Nat}
theorem er_lc0N {Pe : Nat → V → Hp → Prop} (mo : ∀ i, Mo (Pe i)) (hi : EvI wi σ B fun ys _ => ys = xs) (hz : xs.length ≤ 40000) (hw : ∀ x, wipe ((wipe σ vs).set j (some x)) vs = wipe σ vs)
    (he : ∀ i x B', Ex B B' → xs[i]? = some x → EvR te ((wipe σ vs).set j (some x)) B' (Pe i)) :
    EvR (tLc wi (gName j) tYes te vs) σ B fun z B' => ∃ (p : Addr) (ys : List V), z = .ref p ∧ B' p = some (.lst ys) ∧ B p = none ∧ ys.length = xs.length ∧ ∀ (k : Nat) (y : V), ys[k]? = some y → Pe k y B' :=
  (er_lcN (fun _ _ => true) (fun _ => Pe) (fun _ => mo) moA_eq hi hw (fun ys B' h => by rw [h]; exact hz) (fun _ _ _ _ _ _ _ => et_yes) (fun ys i x B' e h hx _ => he i x B' e (by rw [← h]; exact hx))).imp fun z B' _ ⟨ys, p, zs, h1, h2, h3, h4, h5⟩ => by
    subst h1
    obtain ⟨l, q⟩ := h4.all
    exact ⟨p, zs, h2, h3, h5, l, q⟩
theorem er_lc1N (mo : ∀ d, Mo (Pd d)) {ds : List δ} (hi : EvI wi σ B fun ys _ => ys = xs) (hz : xs.length ≤ 40000) (hl : xs.length = ds.length) (hw : ∀ x, wipe ((wipe σ vs).set j (some x)) vs = wipe σ vs)
    (he : ∀ (i : Nat) (x : V) (B' : Hp) (d : δ), Ex B B' → xs[i]? = some x → ds[i]? = some d → EvR te ((wipe σ vs).set j (some x)) B' (Pd d)) :
    EvR (tLc wi (gName j) tYes te vs) σ B fun z B' => ∃ (p : Addr) (ys : List V), z = .ref p ∧ B' p = some (.lst ys) ∧ B p = none ∧ A2 Pd ds ys B' :=
  EvR.imp (er_lc0N (Pe := fun i z B' => ∀ d, ds[i]? = some d → Pd d z B') (fun i => ⟨fun e h d hd => (mo d).mo e (h d hd)⟩) hi hz hw (fun i x B' e hx => by
    have hi' := (List.getElem?_eq_some_iff.mp hx).1
    have hd : ds[i]? = some ds[i] := List.getElem?_eq_getElem (by omega)
    exact EvR.imp (he i x B' _ e hx hd) fun z B'' _ p d hd' => by
      rw [hd] at hd'
      cases hd'
      exact p)) fun z B' _ ⟨p, ys, h1, h2, h5, h3, h4⟩ => ⟨p, ys, h1, h2, h5, h3.trans hl, fun k y d hk hd => h4 k y hk d hd⟩
end
/-! ### sorted rows, whatever their bound -/
def rSortRE (K : PySem.W.Frag) : List V → Hp → VK → Prop := fun vs H Q => ∃ Bn, rSortR K Bn vs H Q
theorem k_sortRE {X : Cx} {K : PySem.W.Frag} (h : X.K = K := by rfl) : CallR X (.builtin "sorted") (rSortRE K) := fun pins s σ H xs us Q I r ⟨Bn, q⟩ => (k_sortR (Bn := Bn) h) pins s σ H xs us Q I r q
theorem er_sortRE {K : PySem.W.Frag} {σ : L2.St} {B : Hp} {te : TE} {Bn : Int} {d : Nat} {a : Addr} {xs : List V} {R : List (List Int)} (h : Ev te σ B (.ref a)) (ha : SqL K B a xs) (hR : A2 (IsTI K) R xs B) (hok : ∀ r ∈ R, AS.Ok Bn d r) (hz : xs.length < 64) (h1 : 1 ≤ d) (h3 : d ≤ 3) :
    EvR (tCB (rSortRE K) (tCons te tNil)) σ B fun z B' => ∃ (p : Addr) (ys : List V) (S : List (List Int)), z = .ref p ∧ B' p = some (.lst ys) ∧ A2 (IsTI K) S ys B' ∧ S.Perm R ∧ S.Pairwise fun q r => TS.code Bn q ≤ TS.code Bn r := fun H1 e Q q =>
  h H1 e _ fun H2 e2 => by
    refine ⟨Bn, ?_⟩
    have hd : d = 1 ∨ d = 2 ∨ d = 3 := by omega
    rcases hd with c | c | c
    · subst c; exact .inl (sortU_at e e2 ha hR hok hz q)
    · subst c; exact .inr (.inl (sortU_at e e2 ha hR hok hz q))
    · subst c; exact .inr (.inr (sortU_at e e2 ha hR hok hz q))
/-! ### an object of the def's own, kept apart -/
section
variable {K : PySem.W.Frag} {σ : L2.St} {B X : Hp} {ta te : TE} {tz : TS} {D : Ends} {P : V → Hp → Prop}
theorem x_asgO {i : Nat} {p : Addr} {o : HO} (hp : B p = none) (h : EvR te σ B P) (k : ∀ z B', Gr X B B' → B' p = none → P z B' → Sx X tz D (σ.set i (some z)) (upd B' p o)) : Sx X (tSeq (tAsg te (gName i)) tz) D σ (upd B p o) := fun H e eX =>
  h H ((Ex.new hp).trans e) _ fun z H2 B' e2 g e3 pz => by
    have ho : H p = some o := e p o upd_same
    exact k z B' (g.back eX) (g.av p hp (by rw [ho]; exact Option.some_ne_none _)) pz H2 (ex_upd e3 (e2 _ _ ho)) (eX.trans e2)
theorem x_appO {p : Addr} {xs : List V} (m : Mo P) (hp : B p = none) (hX : X p = none) (ha : Ev ta σ (upd B p (.lst xs)) (.ref p)) (h : EvR te σ B P) (hz : xs.length < 100000)
    (k : ∀ z B', Gr X B B' → B' p = none → P z B' → Sx X tz D σ (upd B' p (.lst (xs ++ [z])))) : Sx X (tSeq (tDrop (tBM K "list" rAppend ta (tCons te tNil))) tz) D σ (upd B p (.lst xs)) :=
  x_app m upd_same hX ha (by rw [del_upd hp]; exact h) hz fun z B' g h1 h2 => k z B' (by rw [del_upd hp] at g; exact g) h1 h2
end
section
variable {K : PySem.W.Frag} {σ : L2.St} {B X : Hp} {ta tb te : TE} {tz : TS} {D : Ends} {v : V} {xs : List V}
/-- xs[k] = e, the list not known to X -/
theorem x_setL {l : Addr} {k : Int} {j : Nat} (hl : B l = some (.lst xs)) (hX : X l = none) (h : Ev te σ B v) (ho : Ev ta σ B (.ref l)) (hi : Ev tb σ B (.int k)) (hj : ixN xs.length k = some j) (c : Sx X tz D σ (upd B l (.lst (xs.set j v)))) : Sx X (tSeq (tAsg te (gSub ta tb rSetL)) tz) D σ B := fun H e eX =>
  h H e _ fun H1 e1 => ho H1 (e.trans e1) _ fun H2 e2 => hi H2 ((e.trans e1).trans e2) _ fun H3 e3 => by
    have eB := ((e.trans e1).trans e2).trans e3
    refine ⟨l, xs, k, j, rfl, rfl, eB _ _ hl, hj, c _ (fun a u q => ?_) (fun a u q => ?_)⟩
    · by_cases c : a = l
      · subst c; rw [upd_same] at q ⊢; exact q
      · rw [upd_ne c] at q ⊢; exact eB a u q
    · have c : a ≠ l := fun c => by subst c; rw [hX] at q; exact nomatch q
      rw [upd_ne c]
      exact (((eX.trans e1).trans e2).trans e3) a u q
theorem x_clear {l : Addr} (hl : B l = some (.lst xs)) (hX : X l = none) (ho : Ev ta σ B (.ref l)) (c : Sx X tz D σ (upd B l (.lst []))) : Sx X (tSeq (tDrop (tBM0 K "list" rClear ta)) tz) D σ B := fun H e eX =>
  ho H e _ fun H1 e1 => ⟨Or.inl ⟨rfl, xs, sq_of ((e.trans e1) l _ hl)⟩, l, xs, rfl, rfl, (e.trans e1) _ _ hl, c _ (fun a u q => by
    by_cases c : a = l
    · subst c; rw [upd_same] at q ⊢; exact q
    · rw [upd_ne c] at q ⊢; exact (e.trans e1) a u q) (fun a u q => by
    have c : a ≠ l := fun c => by subst c; rw [hX] at q; exact nomatch q
    rw [upd_ne c]
    exact (eX.trans e1) a u q)⟩
theorem ev_isL {a : Addr} (h : Ev te σ B (.ref a)) (hx : B a = some (.lst xs)) : Ev (tCB (rIsi K) (tCons te (tCons (tC (.ty "list")) tNil))) σ B (.bl true) :=
  ev_isi h (.ty "list") (fun H1 e => sql_ty (sq_of (e _ _ hx))) (kit_ty (show kitB "list" "list" = _ by decide +kernel))
theorem ev_isLt {a : Addr} (h : Ev te σ B (.ref a)) (hx : SqT K B a xs) : Ev (tCB (rIsi K) (tCons te (tCons (tC (.ty "list")) tNil))) σ B (.bl false) :=
  ev_isi h (.ty "list") (fun H1 e => sqt_ty (ex_t e hx)) (kit_ty (show kitB "tuple" "list" = _ by decide +kernel))
theorem ev_min2 {i j : Int} (ha : Ev ta σ B (.int i)) (hb : Ev tb σ B (.int j)) : Ev (tCB (fun xs H Q => ∃ i j, xs = [.int i, .int j] ∧ Q (.int (if j < i then j else i)) H) (tCons ta (tCons tb tNil))) σ B (.int (if j < i then j else i)) :=
  ev_cb (ea_cons ha (ea_cons hb ea_nil)) fun H1 _ Q q => ⟨i, j, rfl, q H1 (Ex.refl H1)⟩
end
/-- a list described by its items -/
def IsLA (Pa : List V → Hp → Prop) : V → Hp → Prop := fun z B => ∃ p vs, z = .ref p ∧ B p = some (.lst vs) ∧ Pa vs B
instance {Pa : List V → Hp → Prop} [m : MoA Pa] : Mo (IsLA Pa) := ⟨fun e ⟨p, vs, h, a, b⟩ => ⟨p, vs, h, e _ _ a, m.mo e b⟩⟩
theorem er_lstA {σ : L2.St} {B : Hp} {tr : TA} {Pa : List V → Hp → Prop} (m : MoA Pa) (h : EvAR tr σ B Pa) (hl : ∀ vs B', Pa vs B' → vs.length ≤ 100000) : EvR (tLst tr) σ B (IsLA Pa) := er_lstN m h hl
theorem EvAR.imp {σ : L2.St} {B : Hp} {ta : TA} {Pa Pb : List V → Hp → Prop} (h : EvAR ta σ B Pa) (i : ∀ z B', Ex B B' → Pa z B' → Pb z B') : EvAR ta σ B Pb := fun H1 e Q q => h H1 e Q fun z H2 B2 e2 g g2 p => q z H2 B2 e2 g g2 (i z B2 g.ex p)
/-! ### calls -/
section
variable {σ : L2.St} {B : Hp} {tr : TA} {Pz : V → Hp → Prop} {Dd : List V → Hp → (V → Hp → Prop) → Prop} {E : XK}
theorem er_callB {vs : List V} (h : EvA tr σ B vs) (hs : Dd vs B Pz) : EvR (tCall (spR Dd) [] E tr) σ B Pz := fun H1 e Q q =>
  h H1 e _ fun H2 e2 => by
    show spR Dd (vs ++ []) H2 Q E
    rw [List.append_nil]
    exact ⟨B, Pz, e.trans e2, hs, fun z H3 B' e4 g e5 p => q z H3 B' (e2.trans e4) (g.back e2) e5 p⟩
theorem er_callP {Pa : List V → Hp → Prop} (h : EvAR tr σ B Pa) (hs : ∀ vs B', Ex B B' → Pa vs B' → ∃ P', Dd vs B' P' ∧ ∀ z B'', Ex B' B'' → P' z B'' → Pz z B'') : EvR (tCall (spR Dd) [] E tr) σ B Pz := fun H1 e Q q =>
  h H1 e _ fun vs H2 B1 e2 g1 e3 pa => by
    show spR Dd (vs ++ []) H2 Q E
    rw [List.append_nil]
    obtain ⟨P', hd, hi⟩ := hs vs B1 g1.ex pa
    exact ⟨B1, P', e3, hd, fun z H3 B' e4 g2 e5 p => q z H3 B' (e2.trans e4) (g1.trans (g2.back e2)) e5 (hi z B' g2.ex p)⟩
end
end RX
/-! methods that raise, called within a try; the exception that a suite holds, with its dict -/
namespace RX
open PySem PySem.Spec PyProof.Rows L2 Evl LX XV WS
/-- the method m of the class at C, which may raise -/
structure OkMX (P : Program) (w : World) (K : PySem.W.Frag) (mg : Str → Option Value) (base : Heap) (k : Nat) (C : Addr) (m : Str) (ps : List Str) (sp : Sp) : Prop where
  ex : ∃ (f : Addr) (fd : FuncData), Meth K C m f ∧ FnOk P w K mg base (L2.CX P w) k f fd ps sp ∧ Binds K fd ps []
/-- o.m(..), what is raised wished for at the caller's slots -/
def tMethE (C : Addr) (m : Str) (sp : Sp) (E : L2.St → XK) (ta : TE) (t : TA) : TE := fun σ H Q => ta σ H fun x H1 => ∃ a dx fs, x = .ref a ∧ H1 a = some (.ins C dx fs) ∧ fs.lookup m = none ∧ t σ H1 fun vs H2 => sp (x :: vs) H2 Q (E σ)
theorem pe_methE {X : Cx} {C : Addr} {m : Str} {o e : Expr} {es : List Expr} {apos pos : Pos} {k j : Nat} {ps : List Str} {sp : Sp} {E : L2.St → XK} {ta : TE} {t : TA} {pl : Sem Bool} (O : OkMX X.prog X.w X.K X.mg X.base k C m ps sp) (c : Cls X.K C) (hr : Room j X.A) (hj : k ≤ j) (hx : ∀ σ, PassesAt (L2.CX X.prog X.w) X σ (E σ)) (he : PE X o ta) (ha : PA X (e :: es) t)
    (hst : starEach (e :: es) X.env = (false, eval e X.env) :: starEach es X.env := by rfl) (hpl : (backTo pos (starEach es X.env)).any (·.1) = false := by rfl)
    (ht : eval (.Call (.Attribute o m apos) (e :: es) [] pos) X.env = (do
      let ov ← eval o X.env
      standAt apos.atName
      let (f, first) ← holding [ov] (getMethod ov m pl)
      callWith pos f first (backTo pos (starEach (e :: es) X.env)) (backToKw pos (keywordEach [] X.env))) := by rfl) : PE X (.Call (.Attribute o m apos) (e :: es) [] pos) (tMethE C m sp E ta t) := by
  obtain ⟨f, fd, hm, F, hb⟩ := O.ex
  refine ⟨fun pins s σ H Q I h => ?_⟩
  refine PySem.W.methodCall_KW (pl := pl) (thn (he.run pins s σ H _ I h) fun u s1 ⟨x, H1, I1, rx, a, dx, fs, ex, ea, l, q⟩ => ?_) ht
  subst ex
  obtain rfl : u = Value.ref a := rx
  refine getmeth_ok I1 ea c hm l ?_
  refine PySem.W.callWith_K (first := [.ref a]) (h₀ := X.base) I.ok.mod.kin hm.kp (thn (ha.run pos pins s1 σ H1 _ I1 q) fun us s2 ⟨vs, H2, I2, r, q2⟩ => ⟨I2.kIn, ?_⟩) hst hpl
  exact run_fnS (us := .ref a :: us) (vs := .ref a :: vs) F (hr.mono hj) hb (hx σ) I2 (.cons rfl r) q2
/-- isinstance(e, c), e the exception that the suite holds, with its dict -/
def rIsED (K : PySem.W.Frag) (a : Addr) (cls : Value) (d : Option Addr) : List V → Hp → VK → Prop := fun xs H Q => ∃ (D dd : Addr) (fs : List (Str × V)) (c : V) (cv : Value) (b : Bool), cls = .ref D ∧ d = some dd ∧ H dd = some (.xd fs) ∧ ExK K D ∧ xs = [.ref a, c] ∧ ClsV c cv ∧ PySem.W.kitOne K (.ref D) cv = some b ∧ Q (.bl b) H
theorem call_isED {X : Cx} {K : PySem.W.Frag} {a : Addr} {cls : Value} {d : Option Addr} {oe : Obj} {pn : List (Addr × Obj)} (hz : Zc cls d oe) (hf : ∃ vs, oe.data = .fields vs) (hK : X.K = K := by rfl) : CallR (X.suite a ((a, oe) :: pn)) (.builtin "isinstance") (rIsED K a cls d) := by
  subst hK
  intro pins s σ H xs us Q I r h
  obtain ⟨D, dd, fs, c, cv, b, rfl, rfl, hdd, C, rfl, hc, e, q⟩ := h
  obtain ⟨u1, u2, rfl, r1, r2⟩ := vals2 r
  cases (show u1 = Value.ref a from r1)
  have e2 := hc.eq r2
  subst e2
  obtain ⟨hget, _⟩ := I.pin (a, oe) (List.mem_append.mpr (.inl List.mem_cons_self))
  have hx : ObjOk X.prog X.w H s.heap dd (.xd fs) := I.hok dd _ hdd
  obtain ⟨mA, hns, _⟩ := hx
  obtain ⟨od, ho, _⟩ := lookIn_ns hns
  obtain ⟨vs, hv⟩ := hf
  have J : PySem.W.InstAt s.heap a oe D (some od) := ⟨hget, hz.1, by unfold PySem.W.notCls; rw [hv] <;> rfl, by rw [hz.2]; exact ho⟩
  exact PySem.W.kia_one (PySem.W.kitx_exc C.clsv C.e.hg C.e.hk C.e.hs C.e.ha C.e.hn C.e.ht C.e.hm) I.kIn J e (fun z => nomatch z) fun tk => ⟨.bl b, H, I.kept (t' := tk) fun _ _ z => z, rfl, q⟩
/-- C(e, ..) raised, C's own __init__ by contract -/
theorem pmk_c {X : Cx} {x : Str} {e : Expr} {es : List Expr} {p pos : Pos} {k j : Nat} {ps : List Str} {sp : Sp} {t : TA} (O : OkC X.prog X.w X.K X.mg X.base k x ps sp) (hr : Room j X.A) (hj : k + 1 ≤ j) (ha : PA X (e :: es) t) (hg : Gl X x := by rfl)
    (hdb : (x == ("__debug__" : Str)) = false := by decide) (he : starEach (e :: es) X.env = (false, eval e X.env) :: starEach es X.env := by rfl) (hpl : (backTo pos (starEach es X.env)).any (·.1) = false := by rfl) :
    L2.PMk X (.Call (.Name x p) (e :: es) [] pos) (tMkO (He.ga X.K x) sp [] t) := by
  obtain ⟨fI, fd, iC, tI, F, b⟩ := O.ex
  exact pmk_oex O.o iC tI F (hr.mono hj) b .nil pass0 hg O.g ha hdb he hpl
section
variable {K : PySem.W.Frag} {σ : L2.St} {B X : Hp} {te : TE} {ta : TA} {D : Ends} {tz : TS}
/-- raise C(e), C's __init__ storing one field f -/
theorem x_raise {C : Addr} {f : Str} {y : V} {E : XK} (h : EvA ta σ B [y]) (q : ∀ d H, Ex X H → H d = some (.xd [(f, y)]) → E (.ref C) (some d) H) : Sx X (fun _ σ H => tMkO C (spInit K C f fun _ _ => True) [] ta σ H fun cls d H' => E cls d H') D σ B := fun H e eX =>
  h H e _ fun H1 e1 => ⟨by show 1 ≤ 1000; decide, fun a ha => ⟨a, y, rfl, trivial, upd_same, fun dx hdx hne => ⟨rfl, dx, [(f, y)], upd_same, by rw [upd_ne hne, upd_same], by rw [upd_ne hne] at hdx; exact hdx, q dx _ (fun b o hb => by
    have h1 := (eX.trans e1) b o hb
    have hdx1 : H1 dx = none := by rw [upd_ne hne] at hdx; exact hdx
    have c1 : b ≠ a := fun c => by subst c; rw [ha] at h1; exact nomatch h1
    have c2 : b ≠ dx := fun c => by subst c; rw [hdx1] at h1; exact nomatch h1
    rw [upd_ne c2, L2.del_ne c1, upd_ne c1, upd_ne c2, upd_ne c1]
    exact h1) upd_same⟩⟩⟩
end
end RX
/-! an operator over a promised value -/
namespace RX
open PySem PySem.Spec PyProof.Rows L2 Evl LX XV WS
theorem er_opL {σ : L2.St} {B : Hp} {r : R2} {ta tb : TE} {y : V} {P0 P1 : V → Hp → Prop} (h1 : EvR ta σ B P0) (h2 : Ev tb σ B y) (hv : ∀ z B', Ex B B' → P0 z B' → ∃ v, RV r z y B' v ∧ P1 v B') : EvR (tOp r ta tb) σ B P1 := fun H1 e Q q =>
  h1 H1 e _ fun z H2 B' e2 g e3 p => h2 H2 (e.trans e2) _ fun H3 e4 => by
    obtain ⟨v, hr, hp⟩ := hv z B' g.ex p
    exact hr H3 (e3.trans e4) Q fun H4 e5 => q v H4 B' ((e2.trans e4).trans e5) g ((e3.trans e4).trans e5) hp
end RX
/-! what every state bears: no object of the fixed part is known anew; in over a list of data -/
namespace RX
open PySem PySem.Spec PyProof.Rows L2 Evl LX XV
theorem pss_know {X : Cx} {K : PySem.W.Frag} {ss : List Stmt} {t : TS} (h : PSs X ss t) (hK : X.K = K := by rfl) : PSs X ss (fun D σ H => (∀ a o, K.lookup a = some o → H a = none) → t D σ H) := by
  subst hK
  exact ⟨fun pins s σ H D I q => h.run pins s σ H D I (q fun a o e => (I.bs a o (I.ok.mod.kin a o e)).2)⟩
theorem u65 {k : Nat} {A : Around} (r : Room k A) : A.units + 65 < cLine := by have := r.un; omega
theorem k_inD {X : Cx} {K : PySem.W.Frag} (hu : X.A.units + 65 < cLine) (h : X.K = K := by rfl) : OpR X (compareOp .In) (rInD K) := by subst h; exact op_inD hu
theorem rv_inD {K : PySem.W.Frag} {B : Hp} {x y : V} {d : PyData} {ds : List PyData} {b : Bool} (h1 : Dp K B x d) (h2 : Dp K B y (.list ds)) (s1 : SeqAt.shaped d = true) (s2 : SeqAt.shaped (.list ds) = true) (hb : (ds.any fun z => PyData.eqv z d) = b) : RV (rInD K) x y B (.bl b) := fun H1 e Q k =>
  ⟨d, ds, dp_ex e h1, dp_ex e h2, s1, s2, by rw [hb]; exact k H1 (Ex.refl _)⟩
/-- SqT and a list at one place can't be -/
theorem sqt_no {K : PySem.W.Frag} {H B : Hp} (hk : ∀ a o, K.lookup a = some o → H a = none) (e : Ex B H) {a : Addr} {xs : List V} {o : HO} (h : SqT K B a xs) (ho : B a = some o) (h1 : ∀ ys, o ≠ .tup ys) (h2 : ∀ u ys, o ≠ .frz u (.tup ys)) : False := by
  rcases h with h | ⟨u, its, n, hl, _⟩
  · rcases h with h | ⟨u, h⟩
    · rw [ho] at h
      cases h
      exact h1 _ rfl
    · rw [ho] at h
      cases h
      exact h2 _ _ rfl
  · have := e _ _ ho
    rw [hk _ _ hl] at this
    exact nomatch this
end RX
/-! in, len and == by a class's own methods -/
namespace RX
open PySem PySem.Spec PyProof.Rows L2 Evl LX XV WS
section
variable {X : Cx} {C : Addr} {k j : Nat} {ps : List Str} {sp : Sp}
def rInO (C : Addr) (sp : Sp) : R2 := fun x y H Q => ∃ a dx fs, y = .ref a ∧ H a = some (.ins C dx fs) ∧ sp [.ref a, x] H (fun z H' => ∃ b, z = .bl b ∧ Q (.bl b) H') E0
theorem op_inO (O : OkM X.prog X.w X.K X.mg X.base k C "__contains__" ps sp) (hr : Room j X.A) (hj : k ≤ j) : OpR X (compareOp .In) (rInO C sp) := by
  intro pins s σ H x y v u Q I rx ry h
  obtain ⟨a, dx, fs, rfl, ha, hsp⟩ := h
  cases ry
  obtain ⟨f, fd, hm, F, hb⟩ := O.ex
  obtain ⟨mA, J, _⟩ := ins_get I.hok ha
  obtain ⟨od, J, _⟩ := J.look
  obtain ⟨m, hF⟩ := I.fr
  refine PySem.W.in_K hF I.ok.mod.kin J hm.at_ hm.fn ?_
  refine wpAny_mono (run_fn (us := [.ref a, v]) (vs := [.ref a, x]) (dvs := []) (ds := []) F (hr.mono hj) hb .nil pass0 I (.cons rfl (.cons rx .nil)) hsp) (fun r s' hq => ?_) fun _ _ z => z
  obtain ⟨z, H', I', rz, b, ez, q⟩ := hq
  subst ez
  cases rz
  exact wpAny_truthy_bool ⟨.bl b, H', I', rfl, q⟩
def rEqO (C : Addr) (sp : Sp) : R2 := fun x y H Q => ∃ a dx fs b dy gs, x = .ref a ∧ y = .ref b ∧ H a = some (.ins C dx fs) ∧ H b = some (.ins C dy gs) ∧ sp [.ref a, .ref b] H (fun z H' => ∃ b, z = .bl b ∧ Q (.bl b) H') E0
theorem op_eqO (O : OkM X.prog X.w X.K X.mg X.base k C "__eq__" ps sp) (hr : Room j X.A) (hj : k ≤ j) (hu : X.A.units < cLine) : OpR X (compareOp .Eq) (rEqO C sp) := by
  intro pins s σ H x y v u Q I rx ry h
  obtain ⟨a, dx, fs, b, dy, gs, rfl, rfl, ha, hb', hsp⟩ := h
  cases rx
  cases ry
  obtain ⟨f, fd, hm, F, hb⟩ := O.ex
  obtain ⟨mA, J, _⟩ := ins_get I.hok ha
  obtain ⟨mB, J', _⟩ := ins_get I.hok hb'
  obtain ⟨od, J, _⟩ := J.look
  obtain ⟨od', J', _⟩ := J'.look
  obtain ⟨m, hF⟩ := I.fr
  show wpAny (model X.prog X.w) X.A (richCompare .Eq (.ref a) (.ref b)) _ _ _
  refine PySem.W.cmp_K (op := .Eq) (tb := .ref C) hu hF I.ok.mod.kin J J'.type (by simp [PySem.W.notFirst]) hm.at_ hm.fn ?_
  refine wpAny_mono (run_fn (us := [.ref a, .ref b]) (vs := [.ref a, .ref b]) (dvs := []) (ds := []) F (hr.mono hj) hb .nil pass0 I (.cons rfl (.cons rfl .nil)) hsp) (fun r s' hq => ?_) fun _ _ z => z
  obtain ⟨z, H', I', rz, b, ez, q⟩ := hq
  subst ez
  cases rz
  exact ⟨.bl b, H', I', rfl, q⟩
/-- a def run one builtin deeper -/
theorem run_fn1 {f : Addr} {fd : FuncData} {pins : List (Addr × Obj)} {σ : L2.St} {H : Hp} {s : Shared} {Q : VK} {us : List Value} {vs : List V} (F : FnOk X.prog X.w X.K X.mg X.base CX0 k f fd ps sp) (hr : Room (k + 1) X.A) (hb : Binds X.K fd ps [])
    (I : Inv X pins σ H s) (r : Vals vs us) (h : sp vs H Q E0) : wpAny (model X.prog X.w) X.A.in1 (call (.ref f) us) (EP X pins σ Q) X.xe s := by
  have hl : (us ++ []).length = ps.length := by rw [List.append_nil, ← r.length]; exact F.len _ _ _ _ h
  have b := hb s us I.kIn hl
  rw [List.append_nil] at b
  refine wpAny_call (codeAny_mono (F.run X.A.in1 X.stack s H ⟨us, []⟩ us vs Q E0 hr.in1 I.env0.in1 b r h) fun r s' hq => ?_)
  cases r with
  | error e => exact pass0 pins σ H s e s' I hq
  | ok fl =>
    cases fl with
    | ret u => exact I.after hq
    | next => exact False.elim hq
    | brk => exact False.elim hq
    | cont => exact False.elim hq
def rLenO (C : Addr) (sp : Sp) : List V → Hp → VK → Prop := fun xs H Q => ∃ a dx fs, xs = [.ref a] ∧ H a = some (.ins C dx fs) ∧ sp [.ref a] H (fun z H' => ∃ n : Int, z = .int n ∧ 0 ≤ n ∧ n < 2 ^ 60 ∧ Q (.int n) H') E0
theorem call_lenO (O : OkM X.prog X.w X.K X.mg X.base k C "__len__" ps sp) (hr : Room j X.A) (hj : k + 1 ≤ j) : CallR X (.builtin "len") (rLenO C sp) := by
  intro pins s σ H xs us Q I r h
  obtain ⟨a, dx, fs, rfl, ha, hsp⟩ := h
  obtain ⟨u, rfl, ru⟩ := vals1 r
  cases ru
  obtain ⟨f, fd, hm, F, hb⟩ := O.ex
  obtain ⟨mA, J, _⟩ := ins_get I.hok ha
  obtain ⟨od, J, _⟩ := J.look
  obtain ⟨m, hF⟩ := I.fr
  refine PySem.W.len_K hF I.ok.mod.kin J hm.at_ hm.fn ?_
  refine wpAny_mono (run_fn1 (us := [.ref a]) (vs := [.ref a]) F (hr.mono hj) hb I (.cons rfl .nil) hsp) (fun r s' hq => ?_) fun _ _ z => z
  obtain ⟨z, H', I', rz, n, ez, h0, h1, q⟩ := hq
  subst ez
  obtain ⟨t, rfl⟩ := rz
  exact ⟨⟨h0, by omega⟩, .int n, H', I'.tok _, ⟨_, rfl⟩, q⟩
end
end RX
/-! for over an instance whose __iter__ gives iter(of a tuple field) -/
namespace RX
open PySem PySem.Spec PyProof.Rows L2 Evl LX XV WS
open PySem.Calls (call_function_entry)
/-- a tuple's iterator -/
def ItT (l it : Addr) (i : Nat) : HO := .ext fun h => h.IsTupleIter it l i
theorem itT_ok {P : Program} {w : World} {H : Hp} {h : Heap} {l it : Addr} {i : Nat} (st : h.IsTupleIter it l i) : ObjOk P w H h it (ItT l it i) :=
  ⟨st, (let ⟨o, ho, _⟩ := st; ⟨o, ho⟩), fun h1 h2 z k => z.at k⟩
def rIterT (K : PySem.W.Frag) (n : Nat) : List V → Hp → VK → Prop := fun xs H Q => ∃ (l : Addr) (zs : List V), xs = [.ref l] ∧ SqT K H l zs ∧ ∀ it, H it = none → n ≤ it → Q (.ref it) (upd H it (ItT l it 0))
theorem call_iter_tup {prog : Program} {w : World} {A : Around} {E : Value → Shared → Prop} {s : Shared} {l : Addr} {items : Array Value} {Q : Value → Shared → Prop} (hl : s.heap.IsTuple l items) (h : Q (.ref s.heap.objs.size) { s with heap := s.heap.push { cls := .type "tuple_iterator", data := .fields #[.ref l, .int 0 0] } }) : wpAny (model prog w) A (call (.builtin "iter") [.ref l]) Q E s := by
  refine Calls.call_function_entry (by decide +kernel) (by decide +kernel) PySem.W.kdk_entry_iter (PySem.W.kdk_args_iter _) ?_
  unfold Builtin.«iter»
  refine wpAny_bind (m := someArgs "iter" 1 2 _) (wpAny_of_eq (a := [Value.ref l]) (by first | rfl | kernel_rfl!) ?_)
  show wpAny _ _ (pyIter (.ref l) >>= _) _ _ _
  refine wpAny_bind (wpAny_pyIter_tuple hl ?_)
  exact wpAny_pure ⟨_, rfl, h⟩
section
variable {X : Cx} {K : PySem.W.Frag}
theorem call_iterT (hK : X.K = K := by rfl) : CallR X (.builtin "iter") (rIterT K X.s_0.heap.objs.size) := by
  subst hK
  intro pins s σ H xs us Q I r h
  obtain ⟨l, zs, rfl, hq, q⟩ := h
  obtain ⟨u, rfl, ru⟩ := vals1 r
  cases ru
  obtain ⟨its, rv, p, hz⟩ := I.tuple hq
  refine call_iter_tup (show s.heap.IsTuple l its.toArray from p) ?_
  exact ⟨.ref s.heap.objs.size, _, I.laid (t' := s.toks) (fun b u e => Heap.get?_push_of_some _ e) (Nat.le_refl _) (itT_ok ⟨_, Heap.get?_push_size _ rfl, rfl, rfl⟩), rfl, q _ (I.hok.fresh (Nat.le_refl _)) I.sz⟩
end
/-- as FnOk, at heaps of n objects and more -/
structure FnOkN (n : Nat) (P : Program) (w : World) (K : PySem.W.Frag) (mg : Str → Option Value) (base : Heap) (CX : CXT) (k : Nat) (f : Addr) (fd : FuncData) (ps : List Str) (sp : Sp) : Prop where
  len : ∀ vs H Q E, sp vs H Q E → vs.length = ps.length
  run : ∀ (A : Around) (outer : List Env) (s : Shared) (H : Hp) (args : Args) (us : List Value) (vs : List V) (Q : VK) (E : XK), n ≤ s.heap.objs.size → Room k A → Env0 P w K mg base A outer s H → BindsTo s fd args (ps.zip us) → Vals vs us → sp vs H Q E →
    codeAny (model P w) A (.call (.ref f) args) (CR CX outer P w H s Q E) s
theorem fn_ofN {n : Nat} {CX : CXT} {P : Program} {w : World} {K : PySem.W.Frag} {mg : Str → Option Value} {base : Heap} {k : Nat} {f : Addr} {name qual : Str} {params : Arguments} {body : List Stmt} {scope : Scope} {dV kV doc pm cdv ct oc : Value} {an od : Option Addr}
    {osl : Array (Option Value)} {N ps : List Str} {sp : Sp} (lk : K.lookup f = some ⟨oc, od, .func (PySem.W.fnOf name qual params body scope dV kV doc pm an cdv ct), osl⟩) (hcd : PySem.W.codeIn K cdv qual = true) (S : FnScope N ps scope)
    (len : ∀ vs H Q E, sp vs H Q E → vs.length = ps.length)
    (hbody : ∀ (A : Around) (outer : List Env) (s : Shared) (H : Hp) (vs : List V) (Q : VK) (E : XK), n ≤ s.heap.objs.size → Room k (A.deeper (envOfC qual scope s.heap.objs.size f cdv)) → sp vs H Q E →
      ∃ t, PSs (cxOf CX P w K mg base N qual scope f cdv A outer s H E) body t ∧ t { nx := fun _ H' => Q .non H', rt := Q } (start N vs) H) :
    FnOkN n P w K mg base CX (k + 1) f (PySem.W.fnOf name qual params body scope dV kV doc pm an cdv ct) ps sp := by
  refine ⟨len, fun A outer s H args us vs Q E hn hr e0 hb r hsp => ?_⟩
  have hl := len _ _ _ _ hsp
  have KX : K.In s.heap := e0.mod.kin.keeps fun b o e => (e0.bs b o e).1
  have lim : s.heap.NoLimit := e0.mod.nolimit.keeps fun b o e => (e0.bs b o e).1
  have hkind : ∀ y ∈ ps.zip us, scope.names.lookup y.1 = some .local ∨ (scope.names.lookup y.1 = some .cell ∧ ((cellsFrom (s.heap.objs.size + 1) scope.names []).lookup y.1).isSome = true) := fun ⟨n, v⟩ hy => by
    rcases S.par n (List.of_mem_zip hy).1 with q | q
    · exact .inl q
    · exact .inr ⟨q, PySem.W.cellsFrom_some _ _ _ (.inl q)⟩
  refine codeAny_call_function hr.depth (KX _ _ lk) rfl S.co S.gen rfl (PySem.W.codeRec_of KX hcd) (hb _ _ _ _ ?_)
  refine wpAny_newFunctionEnv_cells S.kind hkind fun env he s1 x => ?_
  subst he
  refine ⟨lim.keeps x.toInCall.keep, codeAny_func ?_⟩
  obtain ⟨t, ht, hq⟩ := hbody A outer s H vs Q E hn (hr.deeper _) hsp
  have I : Inv (cxOf CX P w K mg base N qual scope f cdv A outer s H E) [] (start N vs) H s1 := inv_start S hr.hd e0 hl r x
  refine wpAny_mono (ht.run [] s1 (start N vs) H _ I hq) (fun fl s' hs => ?_) fun e s' hs => hs
  have fin : ∀ {σ' : L2.St} {H' : Hp} {v : V} {u : Value}, Inv (cxOf CX P w K mg base N qual scope f cdv A outer s H E) [] σ' H' s' → RelV v u → Q v H' → CE outer P w H s Q u s' :=
    fun {σ' H' v u} J rv q => ⟨v, H', J.os, J.bare, J.base, J.hok, rv, q⟩
  cases fl with
  | ret u =>
    obtain ⟨v, σ', H', J, rv, q⟩ := hs
    exact fin J rv q
  | next =>
    obtain ⟨σ', H', J, q⟩ := hs
    exact fin (v := V.non) (u := Value.none) J rfl q
  | brk =>
    obtain ⟨_, _, _, q⟩ := hs
    exact False.elim q
  | cont =>
    obtain ⟨_, _, _, q⟩ := hs
    exact False.elim q
/-- what __iter__ promises: a new iterator of the tuple at the field fld -/
def spIterN (K : PySem.W.Frag) (n : Nat) (C : Addr) (fld : Str) : Sp := fun vs H Q _ => ∃ (x dx l : Addr) (fs : List (Str × V)) (ys : List V), vs = [.ref x] ∧ H x = some (.ins C dx fs) ∧ fs.lookup fld = some (.ref l) ∧ SqT K H l ys ∧ ∀ it H', Ex H H' → H it = none → n ≤ it → H' it = some (ItT l it 0) → Q (.ref it) H'
structure OkIter (P : Program) (w : World) (K : PySem.W.Frag) (mg : Str → Option Value) (base : Heap) (k : Nat) (C : Addr) (fld : Str) : Prop where
  ex : ∃ (f : Addr) (fd : FuncData), Meth K C "__iter__" f ∧ (∀ n, FnOkN n P w K mg base CX0 k f fd ["self"] (spIterN K n C fld)) ∧ Binds K fd ["self"] []
/-- for x in o -/
def iOwn (K : PySem.W.Frag) (C : Addr) (fld : Str) (te : TE) : TI := fun σ H R => te σ H fun x H1 => ∃ a dx fs l ys, x = .ref a ∧ H1 a = some (.ins C dx fs) ∧ fs.lookup fld = some (.ref l) ∧ SqT K H1 l ys ∧ ∀ H2, Ex H1 H2 → R (Itt K l) H2
theorem unlessBound_K {M : Model} {A : Around} {E : Value → Shared → Prop} {s : Shared} {K : PySem.W.Frag} {x C f : Addr} {ox : Obj} {od : Option Obj} {name : Str} {refuse : Sem Value} {Q : Option Value → Shared → Prop} (X : K.In s.heap) (I : PySem.W.InstAt s.heap x ox C od) (hs : PySem.W.findIn K (.ref C) name = some (some (.ref f))) (hf : PySem.W.isFn K (.ref f) = true)
    (h : wpAny M A (call (.ref f) [.ref x]) (fun v => Q (some v)) E s) : wpAny M A (callSpecialIfBoundUnlessNone? (.ref x) name refuse) Q E s := by
  simp only [callSpecialIfBoundUnlessNone?, bindSpecialIfBound?]
  refine wpAny_holding (wpAny_bind (wpAny_bind (wpAny_bind (I.type.here ((PySem.W.looks_findIn X hs).here ?_)))))
  refine wpAny_bind (wpAny_askSetting (wpAny_ite ?_))
  have fin : wpAny M A (if (Value.ref f == Value.none) = true then (refuse >>= fun v => pure (some v)) else (call (.ref f) [.ref x] >>= fun v => pure (some v))) Q E s := by
    rw [if_neg (by simp)]
    exact wpAny_bind (wpAny_mono h (fun v s' h' => wpAny_pure h') fun _ _ h' => h')
  split
  · exact wpAny_bind ((PySem.W.bind_fn X _ (beq_iff_eq.mp hf)).here (wpAny_pure (by exact fin)))
  · exact wpAny_tryCatch (wpAny_bind ((PySem.W.bind_fn X _ (beq_iff_eq.mp hf)).here (wpAny_pure (by exact fin))))
theorem pi_own {X : Cx} {K : PySem.W.Frag} {C : Addr} {fld : Str} {k j : Nat} {tg e : Expr} {te : TE} (O : OkIter X.prog X.w X.K X.mg X.base k C fld) (hr : Room j X.A) (hj : k ≤ j) (he : PE X e te) (hK : X.K = K := by rfl) : PI X tg e (iOwn K C fld te) := by
  subst hK
  refine ⟨fun pins s σ H R I h => ?_⟩
  refine thn (he.run pins s σ H _ I h) fun v s1 ⟨x, H1, I1, r1, q1⟩ => ?_
  obtain ⟨a, dx, fs, l, ys, rfl, ha, hl, hs, q⟩ := q1
  cases r1
  obtain ⟨f, fd, hm, F, hb⟩ := O.ex
  obtain ⟨mA, J, _⟩ := ins_get I1.hok ha
  obtain ⟨od, J, _⟩ := J.look
  obtain ⟨m, hF⟩ := I1.fr
  unfold pyIter
  refine wpAny_bind (wpAny_bind (J.type.here ((PySem.W.looks_findIn I1.kIn hm.at_).here ?_)))
  dsimp only
  refine wpAny_bind (unlessBound_K I1.kIn J hm.at_ hm.fn ?_)
  have hn : X.s_0.heap.objs.size ≤ s1.heap.objs.size := I1.sz
  have hl' : ([Value.ref a] ++ []).length = (["self"] : List Str).length := rfl
  have b := hb s1 [.ref a] I1.kIn hl'
  have hsp : spIterN X.K X.s_0.heap.objs.size C fld [.ref a] H1 (fun z H' => ∃ it, z = .ref it ∧ Ex H1 H' ∧ H1 it = none ∧ X.s_0.heap.objs.size ≤ it ∧ H' it = some (ItT l it 0)) E0 := ⟨a, dx, l, fs, ys, rfl, ha, hl, hs, fun it H' e1 e2 e3 e4 => ⟨it, rfl, e1, e2, e3, e4⟩⟩
  refine wpAny_call (codeAny_mono ((F _).run X.A X.stack s1 H1 ⟨[.ref a], []⟩ [.ref a] [.ref a] _ E0 hn (hr.mono hj) I1.env0 b (.cons rfl .nil) hsp) fun r s' hq => ?_)
  cases r with
  | error er => exact pass0 pins σ H1 s1 er s' I1 hq
  | ok fl =>
    cases fl with
    | ret u =>
      obtain ⟨z, H', I', rz, it, ez, e1, e2, e3, e4⟩ := I1.after hq
      subst ez
      cases rz
      have st : s'.heap.IsTupleIter it l 0 := (I'.hok it _ e4).1
      obtain ⟨oi, ho, hc, hd⟩ := id st
      have I2 := ItX.inv_drop I' e4
      have fp := ItX.inv_fp I' e4 e3
      have hT : s'.TypeIs (.ref it) "tuple_iterator" := ⟨oi, ho, hc⟩
      refine wpAny_bind (wpAny_specialOf (name := Str.ofString "__next__") hT PySem.F.slot_tuple_iterator_next.lookup (wpAny_pure ?_))
      refine ⟨it, [it], _, _, _, rfl, I2, turn_tuple l it, st, fun b hb => ?_, q _ fun b o hb => ?_⟩
      · have e : b = it := by simpa using hb
        subst e
        exact fp
      · have c : b ≠ it := fun c => by subst c; rw [e2] at hb; exact nomatch hb
        rw [ItX.dropH_ne c]
        exact e1 b o hb
    | next => exact False.elim hq
    | brk => exact False.elim hq
    | cont => exact False.elim hq
end RX
/-! in over a dict with nested keys -/
namespace RX
open PySem PySem.Spec PyProof.Rows L2 Evl LX XV WS
def rInNk (neg : Bool) (K : PySem.W.Frag) (P : Program) (w : World) : R2 := fun x y H Q => ∃ (a D : Addr) (k : NestedKey) (kvs : List (NestedKey × Addr × V)), x = .ref a ∧ y = .ref D ∧ NK K H x k ∧ k.depth ≤ 8 ∧ H D = some (DnO P w D kvs) ∧ DnKeys K H kvs ∧ Q (.bl (xor neg (kvs.find? fun p => decide (p.1 = k)).isSome)) H
section
variable {X : Cx} {K : PySem.W.Frag} {P : Program} {w : World}
theorem op_inNk (hu : X.A.units + 64 < cLine) (hK : X.K = K := by rfl) (hP : X.prog = P := by rfl) (hw : X.w = w := by rfl) : OpR X (compareOp .In) (rInNk false K P w) := by
  subst hK hP hw
  intro pins s σ H x y v u Q I rx ry h
  obtain ⟨a, D, k, kvs, rfl, rfl, hk, hd, hD, hks, q⟩ := h
  cases rx
  cases ry
  have R0 : DnAt X.prog X.w D kvs s.heap := (I.hok D _ hD).1
  obtain ⟨xs, rel, dd, hz, hsm⟩ := R0.full I hks
  have hn : nestedKind X.prog X.w |>.room X.A.in1 := by
    show X.A.units + 1 + 8 < cLine
    omega
  refine wpAny_in_heap (knd := nestedKind X.prog X.w) (k := k) hn ⟨NK.at I hk rfl, hd⟩ hsm dd ?_
  rw [rel.find]
  exact ⟨.bl _, H, I.tok _, rfl, by rw [Bool.false_xor] at q; exact q⟩
theorem op_notInNk (hu : X.A.units + 64 < cLine) (hK : X.K = K := by rfl) (hP : X.prog = P := by rfl) (hw : X.w = w := by rfl) : OpR X (compareOp .NotIn) (rInNk true K P w) := by
  subst hK hP hw
  intro pins s σ H x y v u Q I rx ry h
  obtain ⟨a, D, k, kvs, rfl, rfl, hk, hd, hD, hks, q⟩ := h
  cases rx
  cases ry
  have R0 : DnAt X.prog X.w D kvs s.heap := (I.hok D _ hD).1
  obtain ⟨xs, rel, dd, hz, hsm⟩ := R0.full I hks
  have hn : nestedKind X.prog X.w |>.room X.A.in1 := by
    show X.A.units + 1 + 8 < cLine
    omega
  refine wpAny_notIn_heap (knd := nestedKind X.prog X.w) (k := k) hn ⟨NK.at I hk rfl, hd⟩ hsm dd ?_
  rw [rel.find]
  exact ⟨.bl _, H, I.tok _, rfl, by rw [Bool.true_xor] at q; exact q⟩
end
section
variable {K : PySem.W.Frag} {P : Program} {w : World} {B : Hp}
theorem rv_inNk {neg : Bool} {a D : Addr} {k : NestedKey} {kvs : List (NestedKey × Addr × V)} (h1 : NK K B (.ref a) k) (h2 : k.depth ≤ 8) (h3 : B D = some (DnO P w D kvs)) (h4 : DnKeys K B kvs) : RV (rInNk neg K P w) (.ref a) (.ref D) B (.bl (xor neg (kvs.find? fun p => decide (p.1 = k)).isSome)) := fun H1 e Q q =>
  ⟨a, D, k, kvs, rfl, rfl, nk_ex e h1, h2, e _ _ h3, fun p hp => ⟨nk_ex e (h4 p hp).1, (h4 p hp).2⟩, q H1 (Ex.refl _)⟩
end
end RX
/-! for over a dict that stays within the loop -/
namespace RX
open PySem PySem.Spec PyProof.Rows L2 Evl LX XV WS
section
variable {σ : L2.St} {B X : Hp} {te ta : TE} {tz t : TS} {D : Ends} {v : V}
theorem fit_k {d : Addr} {o : Obj} {kvs : List (Key × V)} (h : B d = some (.frz o (.dK kvs))) : FIt (Itk d o kvs) (kvs.map fun p => kV p.1) B :=
  ⟨fun i H e hi => ⟨e _ _ h, by rw [List.length_map] at hi; exact hi⟩, fun H e => ⟨e _ _ h, by rw [List.length_map]; exact Nat.le_refl _⟩, fun i H x H' e ⟨e1, k, v, hk, hx⟩ _ => ⟨e1, by rw [List.getElem?_map, hk, hx]; rfl⟩⟩
theorem ei_keys {d : Addr} {o : Obj} {kvs : List (Key × V)} (h : Ev te σ B (.ref d)) (hd : B d = some (.frz o (.dK kvs))) : EvI (iKeys te) σ B fun ys _ => ys = kvs.map fun p => kV p.1 := fun H1 e R q =>
  h H1 e _ fun H2 e2 => ⟨d, o, rfl, .inl ⟨kvs, (e.trans e2) _ _ hd, q _ H2 B _ e2 (Gr.refl _ _) (e.trans e2) rfl (fit_k hd)⟩⟩
def lockE (D : Ends) (d : Addr) (u : HO) (od : Obj) (nx : L2.St → Hp → Prop) : Ends :=
  { nx := fun σ' H' => H' d = some (.frz od u) ∧ nx σ' (upd H' d u), rt := fun v H' => H' d = some (.frz od u) ∧ D.rt v (upd H' d u), bk := fun σ' H' => H' d = some (.frz od u) ∧ D.bk σ' (upd H' d u), ct := fun σ' H' => H' d = some (.frz od u) ∧ D.ct σ' (upd H' d u) }
theorem ex_both {B H : Hp} {d : Addr} {o : HO} (e : Ex B H) : Ex (upd B d o) (upd H d o) := fun a u h => by
  by_cases c : a = d
  · subst c; rw [upd_same] at h ⊢; exact h
  · rw [upd_ne c] at h ⊢; exact e a u h
theorem ex_delU {H : Hp} {d : Addr} {o : HO} (e : Ex X H) : Ex (del X d) (upd H d o) := fun a u h => by
  by_cases c : a = d
  · subst c; rw [del_same] at h; exact nomatch h
  · rw [del_ne c] at h
    rw [upd_ne c]
    exact e a u h
theorem x_lock {d : Addr} {u : HO} (hd : B d = some u) (hm : Mut (some u)) (h : ∀ od, Sx (del X d) t (lockE D d u od (tz D)) σ (upd B d (.frz od u))) : Sx X (tSeq (tLock t) tz) D σ B := fun H e eX =>
  ⟨d, u, e _ _ hd, hm, fun od => h od (upd H d (.frz od u)) (ex_both e) (ex_delU eX)⟩
theorem x_unlock {d : Addr} {u : HO} {od : Obj} {σ' : L2.St} {B' : Hp} (hd : B' d = some (.frz od u)) (hX : X d = none ∨ X d = some u) (h : Sx X tz D σ' (upd B' d u)) : Sx (del X d) tNext (lockE D d u od (tz D)) σ' B' := fun H e eX =>
  ⟨e _ _ hd, h (upd H d u) (ex_both e) fun a o ha => by
    by_cases c : a = d
    · subst c
      rw [upd_same]
      rcases hX with q | q
      · rw [q] at ha; exact nomatch ha
      · rw [q] at ha; exact ha
    · rw [upd_ne c]
      exact eX a o (by rw [del_ne c]; exact ha)⟩
theorem ev_dgetF {a : Addr} {s : Str} {o : Obj} {kvs : List (Key × V)} (hd : Ev ta σ B (.ref a)) (h : Ev te σ B (.str s)) (ha : B a = some (.frz o (.dK kvs))) (hv : valV kvs (Sum.inr s) = some v) : Ev (tDGet ta te) σ B v := fun H1 e Q q =>
  hd H1 e _ fun H2 e2 => h H2 (e.trans e2) _ fun H3 e3 => ⟨a, v, rfl, .inl ⟨kvs, Sum.inr s, .inr ⟨o, ((e.trans e2).trans e3) _ _ ha⟩, rfl, hv.symm⟩, q H3 (e2.trans e3)⟩
theorem upd_comm {B : Hp} {a b : Addr} {o u : HO} (h : a ≠ b) : upd (upd B a o) b u = upd (upd B b u) a o := by
  funext z
  by_cases c : z = a
  · subst c
    rw [upd_ne h, upd_same, upd_same]
  · by_cases c2 : z = b
    · subst c2
      rw [upd_same, upd_ne c, upd_same]
    · rw [upd_ne c2, upd_ne c, upd_ne c, upd_ne c2]
end
end RX
/-! == of two dicts whose values are data -/
namespace RX
open PySem PySem.Spec PyProof.Rows L2 Evl LX XV WS
theorem kv_len {ks : List (Key × V)} {vs : List (Key × Value)} (h : KV ks vs) : ks.length = vs.length := by
  induction h with
  | nil => rfl
  | cons _ _ ih => rw [List.length_cons, List.length_cons, ih]
theorem kv_all {F : Key → Bool} {ks : List (Key × V)} {vs : List (Key × Value)} (h : KV ks vs) : (vs.all fun p => F p.1) = ks.all fun p => F p.1 := by
  induction h with
  | nil => rfl
  | cons h _ ih => rw [List.all_cons, List.all_cons, ih, h.1]
theorem kv_mem {ks : List (Key × V)} {vs : List (Key × Value)} (h : KV ks vs) {k : Key} {v : Value} (hm : (k, v) ∈ vs) : ∃ p ∈ ks, p.1 = k ∧ L2.RelV p.2 v := by
  induction h with
  | nil => exact nomatch hm
  | cons h _ ih =>
    rcases List.mem_cons.mp hm with e | e
    · subst e
      exact ⟨_, List.mem_cons_self, h.1, h.2⟩
    · obtain ⟨p, hp, q⟩ := ih e
      exact ⟨p, List.mem_cons_of_mem _ hp, q⟩
theorem kv_at {ks : List (Key × V)} {vs : List (Key × Value)} (h : KV ks vs) (k : Key) : (∀ y, valueAt vs k = some y → ∃ p ∈ ks, p.1 = k ∧ L2.RelV p.2 y) ∧ (valueAt vs k).isSome = (valV ks k).isSome := by
  induction h with
  | nil => exact ⟨fun y h => by simp [valueAt] at h, rfl⟩
  | @cons p q ks vs h _ ih =>
    obtain ⟨pk, pv⟩ := p
    obtain ⟨qk, qv⟩ := q
    obtain ⟨h1, h2⟩ := h
    have h1 : pk = qk := h1
    subst h1
    by_cases c : pk = k
    · have e1 : valueAt ((pk, qv) :: vs) k = some qv := by simp [valueAt, c]
      have e2 : valV ((pk, pv) :: ks) k = some pv := valV_pos c
      exact ⟨fun y hy => by
        rw [e1] at hy
        have hy := Option.some.inj hy
        subst hy
        exact ⟨_, List.mem_cons_self, c, h2⟩, by rw [e1, e2]; rfl⟩
    · have e1 : valueAt ((pk, qv) :: vs) k = valueAt vs k := by simp [valueAt, c]
      have e2 : valV ((pk, pv) :: ks) k = valV ks k := valV_neg c
      exact ⟨fun y hy => by
        rw [e1] at hy
        obtain ⟨p, hp, q⟩ := ih.1 y hy
        exact ⟨p, List.mem_cons_of_mem _ hp, q⟩, by rw [e1, e2]; exact ih.2⟩
def DatD (K : PySem.W.Frag) (H : Hp) (kvs : List (Key × V)) (fd : Key → PyData) : Prop := ∀ p ∈ kvs, Dp K H p.2 (fd p.1) ∧ (fd p.1).canLay0 = true ∧ (fd p.1).depth ≤ 60
def rEqKd (K : PySem.W.Frag) : R2 := fun x y H Q => ∃ (a b : Addr) (ks ls : List (Key × V)) (fd gd : Key → PyData), x = .ref a ∧ y = .ref b ∧ H a = some (.dK ks) ∧ H b = some (.dK ls) ∧ DatD K H ks fd ∧ DatD K H ls gd ∧
  Q (.bl (ks.length == ls.length && ks.all fun p => (valV ls p.1).isSome && PyData.eqv (fd p.1) (gd p.1))) H
section
variable {X : Cx} {K : PySem.W.Frag}
theorem op_eqKd (hu : X.A.units + 64 < cLine) (hK : X.K = K := by rfl) : OpR X (compareOp .Eq) (rEqKd K) := by
  subst hK
  intro pins s σ H x y v u Q I rx ry h
  obtain ⟨a, b, ks, ls, fd, gd, rfl, rfl, ha, hb, hf, hg, q⟩ := h
  cases rx
  cases ry
  have oa := I.hok a _ ha
  have ob := I.hok b _ hb
  unfold ObjOk at oa ob
  obtain ⟨_, sa, vs, kva, da⟩ := oa
  obtain ⟨_, sb, ws, kvb, db⟩ := ob
  refine PySem.W.eq_dictsT (n := 63) (e := fun k => PyData.eqv (fd k) (gd k)) sa sb da db (fun k v y hm hv => ?_) (by omega) ?_
  · obtain ⟨p, hp, hk, rv⟩ := kv_mem kva hm
    obtain ⟨p', hp', hk', rv'⟩ := (kv_at kvb k).1 y hv
    subst hk
    obtain ⟨d1, l1, dp1⟩ := hf p hp
    obtain ⟨d2, l2, dp2⟩ := hg p' hp'
    obtain ⟨as, r1⟩ := Dp.reads I _ _ _ d1 rv
    obtain ⟨bs, r2⟩ := Dp.reads I _ _ _ d2 rv'
    rw [hk'] at r2 l2 dp2
    exact .leaf fun A hA => SeqAt.eqAt_reads _ _ A s v y as bs r1 r2 l1 l2 (by omega)
  · refine ⟨.bl _, H, I, rfl, ?_⟩
    have e : (vs.length == ws.length && vs.all fun p => (valueAt ws p.1).isSome && PyData.eqv (fd p.1) (gd p.1)) = (ks.length == ls.length && ks.all fun p => (valV ls p.1).isSome && PyData.eqv (fd p.1) (gd p.1)) := by
      rw [← kv_len kva, ← kv_len kvb, kv_all (F := fun k => (valueAt ws k).isSome && PyData.eqv (fd k) (gd k)) kva]
      congr 1
      congr 1
      funext p
      rw [(kv_at kvb p.1).2]
    rw [e]
    exact q
end
theorem rv_eqKd {K : PySem.W.Frag} {B : Hp} {a b : Addr} {ks ls : List (Key × V)} {fd gd : Key → PyData} (ha : B a = some (.dK ks)) (hb : B b = some (.dK ls)) (hf : DatD K B ks fd) (hg : DatD K B ls gd) : RV (rEqKd K) (.ref a) (.ref b) B (.bl (ks.length == ls.length && ks.all fun p => (valV ls p.1).isSome && PyData.eqv (fd p.1) (gd p.1))) := fun H1 e Q q =>
  ⟨a, b, ks, ls, fd, gd, rfl, rfl, e _ _ ha, e _ _ hb, fun p hp => ⟨dp_ex e (hf p hp).1, (hf p hp).2⟩, fun p hp => ⟨dp_ex e (hg p hp).1, (hg p hp).2⟩, q H1 (Ex.refl _)⟩
end RX
/-! raise C(), an own class without __init__ -/
namespace RX
open PySem PySem.Spec PyProof.Rows L2 Evl LX XV WS
open PySem.Calls
theorem raises_of {X : Cx} {C : Addr} (T : OexC X.K C) : Raises X (.ref C) := fun M h i => ⟨PySem.W.looks_subIn i T.exC, PySem.W.looks_typeIn i T.tyC⟩
theorem pmk_ex0 {X : Cx} {x : Str} {C : Addr} {p pos : Pos} (T : OexC X.K C) (q : PySem.W.excIn X.K C veB "ValueError.__new__" = true) (hm : X.mg x = some (.ref C)) (hg : Gl X x := by rfl) (hdb : (x == ("__debug__" : Str)) = false := by decide) :
    L2.PMk X (.Call (.Name x p) [] [] pos) (fun _ H Q => Q (.ref C) none H) := by
  intro pins s σ H Q I h
  refine wpAny_Call_Name_kw (ld_glob I hg hm ?_ hdb)
  refine PySem.W.callWith_K0 I.kIn T.kC ?_
  show wpAny _ _ (call (.ref C) []) _ _ _
  obtain ⟨bm, N, nm, qn, bs, hdct, sn, sub, ab, col, dd, k0, k1, k2, k3, k5, mN, hC, hN, hni, T2⟩ := exc_obj I.kIn q
  refine wpAny_call_exc_subT F.excBase_ValueError T2 hC hN hni (fun h' a hm => ?_) (by show 0 ≤ sizeLine; omega)
  have hn : H a = none := I.hok.gone hm.new
  obtain ⟨t, ht, _, _⟩ := hm.there
  exact ⟨a, _, _, s, H, .ref C, none, rfl, I, hm.keeps, hm.new, ht, ⟨rfl, rfl⟩, rfl, rfl, hn, rfl, I.bare, raises_of T, h⟩
end RX
/-! len(set(numbers)) -/
namespace RX
open PySem PySem.Spec PyProof.Rows L2 Evl LX XV WS
def SetN (p : Addr) (n : Nat) : HO := .ext fun h => ∃ (o : Obj) (es : Array (Int × Value)) (ep : Nat) (t : SetTable), h.get? p = some o ∧ o.ExactSet ∧ o.data = Data.set es ep t ∧ t.fits es.size = true ∧ (es.size : Int) < 2 ^ 63 ∧ es.size = n
theorem setN_ok {P : Program} {w : World} {H : Hp} {h : Heap} {p : Addr} {n : Nat} (z : ∃ (o : Obj) (es : Array (Int × Value)) (ep : Nat) (t : SetTable), h.get? p = some o ∧ o.ExactSet ∧ o.data = Data.set es ep t ∧ t.fits es.size = true ∧ (es.size : Int) < 2 ^ 63 ∧ es.size = n) : ObjOk P w H h p (SetN p n) :=
  ⟨z, (let ⟨o, _, _, _, ho, _⟩ := z; ⟨o, ho⟩), fun h1 h2 ⟨o, es, ep, t, ho, r⟩ k => ⟨o, es, ep, t, k _ ho, r⟩⟩
theorem dd_foldl : ∀ (l acc : List Int), acc.Nodup → (l.foldl step_dedup acc).Nodup ∧ ∀ k, k ∈ l.foldl step_dedup acc ↔ k ∈ acc ∨ k ∈ l
  | [], acc, h => ⟨h, fun k => by simp⟩
  | x :: l, acc, h => by
    rw [List.foldl_cons]
    unfold step_dedup
    by_cases c : (acc.any fun y => y == x) = true
    · rw [if_pos c]
      obtain ⟨h1, h2⟩ := dd_foldl l acc h
      unfold step_dedup at h1 h2
      refine ⟨h1, fun k => (h2 k).trans ?_⟩
      have hx : x ∈ acc := by
        obtain ⟨y, hy, e⟩ := List.any_eq_true.mp c
        rw [← eq_of_beq e]; exact hy
      rw [List.mem_cons]
      constructor
      · rintro (q | q)
        · exact .inl q
        · exact .inr (.inr q)
      · rintro (q | q | q)
        · exact .inl q
        · exact .inl (q ▸ hx)
        · exact .inr q
    · rw [if_neg c]
      have hx : x ∉ acc := fun q => c (List.any_eq_true.mpr ⟨x, q, by simp⟩)
      have hn : (acc ++ [x]).Nodup := List.nodup_append.mpr ⟨h, List.nodup_cons.mpr ⟨(fun q => nomatch q), List.nodup_nil⟩, fun a ha b hb e => hx (by rw [List.mem_singleton.mp hb] at e; exact e ▸ ha)⟩
      obtain ⟨h1, h2⟩ := dd_foldl l (acc ++ [x]) hn
      unfold step_dedup at h1 h2
      refine ⟨h1, fun k => (h2 k).trans ?_⟩
      rw [List.mem_append, List.mem_singleton, List.mem_cons]
      constructor
      · rintro ((q | q) | q)
        · exact .inl q
        · exact .inr (.inl q)
        · exact .inr (.inr q)
      · rintro (q | q | q)
        · exact .inl (.inl q)
        · exact .inl (.inr q)
        · exact .inr q
theorem vals_ints : ∀ {ns : List Int} {us : List Value}, Vals (ns.map V.int) us → IntsAre us ns
  | [], us, h => by cases h; exact .nil
  | n :: ns, us, h => by
    cases h with
    | cons hx hr =>
      obtain ⟨t, rfl⟩ := hx
      exact .cons n t (vals_ints hr)
def rSetI (K : PySem.W.Frag) : List V → Hp → VK → Prop := fun xs H Q => ∃ (l : Addr) (ns : List Int), xs = [.ref l] ∧ SqA K H l (ns.map V.int) ∧ ns.length ≤ 1000 ∧ ∀ p n, H p = none → (∃ out : List Int, out.Nodup ∧ (∀ k, k ∈ out ↔ k ∈ ns) ∧ out.length = n) → Q (.ref p) (upd H p (SetN p n))
theorem call_setI {X : Cx} {K : PySem.W.Frag} (hc : X.calm = true) (hK : X.K = K := by rfl) : CallR X (.type "set") (rSetI K) := by
  subst hK
  intro pins s σ H xs us Q I r h
  obtain ⟨l, ns, rfl, hs, hz, q⟩ := h
  obtain ⟨u, rfl, ru⟩ := vals1 r
  cases ru
  rcases hs with hs | hs
  · obtain ⟨its, rv, p, _⟩ := I.list hs
    have hi := vals_ints rv
    have hlen : its.toArray.size = ns.length := by
      have := rv.length
      rw [List.length_map] at this
      simpa using this.symm
    refine call_set_list (ns := ns) (I.ok.hd hc) (let ⟨o, n, h1, h2, _, h3⟩ := p; (⟨o, h1, h2, n, h3⟩ : s.heap.IsList l its.toArray)) (by simpa using hi) (by rw [hlen]; unfold scanBound; omega) fun h' tk hset hk => ?_
    obtain ⟨o, es, ep, t, ho, hx, hd, _, _, hb, hf, hn⟩ := hset
    obtain ⟨d1, d2⟩ := dd_foldl ((List.range its.toArray.size).map fun i => ns.getD i 0) [] List.nodup_nil
    refine ⟨.ref s.heap.objs.size, _, I.laid (t' := tk) (fun b u e => hk b u (Heap.lt_size e) e) (Nat.le_refl _) (setN_ok ⟨o, es, ep, t, ho, hx, hd, hf, by unfold scanBound at hb; omega, hn⟩), rfl, q _ _ (I.hok.fresh (Nat.le_refl _)) ⟨_, d1, fun k => (d2 k).trans ?_, rfl⟩⟩
    rw [hlen]
    constructor
    · rintro (c | c)
      · exact nomatch c
      · obtain ⟨i, hi, rfl⟩ := List.mem_map.mp c
        have hi := List.mem_range.mp hi
        rw [List.getD_eq_getElem?_getD, List.getElem?_eq_getElem hi]
        exact List.getElem_mem _
    · intro c
      obtain ⟨i, hi, rfl⟩ := List.mem_iff_getElem.mp c
      exact .inr (List.mem_map.mpr ⟨i, List.mem_range.mpr hi, by rw [List.getD_eq_getElem?_getD, List.getElem?_eq_getElem hi]; rfl⟩)
  · obtain ⟨its, rv, p, _⟩ := I.tuple hs
    have hi := vals_ints rv
    refine call_set_tupI ns (I.ok.hd hc) (show s.heap.IsTuple l its.toArray from p) (by simpa using hi) (by unfold scanBound; omega) fun h' tk c hset hc' hk => ?_
    obtain ⟨o, es, ep, t, ho, hx, hd, hg, hnd, hS, hb, hf, hn, _⟩ := hset
    refine ⟨.ref s.heap.objs.size, _, I.laid (t' := tk) hk (Nat.le_refl _) (setN_ok ⟨o, es, ep, t, ho, hx, hd, hf, by unfold scanBound at hb; omega, hn⟩), rfl, q _ _ (I.hok.fresh (Nat.le_refl _)) ⟨_, hnd, fun k => ((hS k).symm.trans decide_eq_true_iff), by rw [List.length_map]; simpa using hn⟩⟩
def rLenN : List V → Hp → VK → Prop := fun xs H Q => ∃ (p : Addr) (n : Nat), xs = [.ref p] ∧ H p = some (SetN p n) ∧ Q (.int (n : Int)) H
theorem call_lenN {X : Cx} : CallR X (.builtin "len") rLenN := by
  intro pins s σ H xs us Q I r h
  obtain ⟨p, n, rfl, hp, q⟩ := h
  obtain ⟨u, rfl, ru⟩ := vals1 r
  cases ru
  obtain ⟨o, es, ep, t, ho, hx, hd, hf, hb, hn⟩ := (I.hok p _ hp).1
  refine call_len_set ho hx hd hf hb ?_
  exact ⟨.int (n : Int), H, I.tok _, ⟨_, by rw [hn]⟩, q⟩
end RX
/-! texts of small letters and figures -/
namespace NM
open PySem PySem.Spec PyProof.Rows L2 Evl LX XV RX
def isLD (c : Nat) : Prop := (97 ≤ c ∧ c ≤ 122) ∨ (48 ≤ c ∧ c ≤ 57)
def isL (c : Nat) : Prop := 97 ≤ c ∧ c ≤ 122
/-- a name by its signs -/
structure Nam (s : Str) : Prop where
  pos : 1 ≤ s.cps.toList.length
  few : s.cps.toList.length ≤ 12
  hd : isL (s.cps.toList.getD 0 0)
  all : ∀ c ∈ s.cps.toList, isLD c
theorem tab : ∀ c ∈ List.range 123, (48 ≤ c → c ≤ 57 → (Unicode.isAlnum c = true ∧ Unicode.isUpper c = false ∧ Unicode.isTitle c = false)) ∧ (97 ≤ c → (Unicode.isAlnum c = true ∧ Unicode.isUpper c = false ∧ Unicode.isTitle c = false ∧ Unicode.isLower c = true ∧ Unicode.isDigit c = false)) := by decide +kernel
theorem ld {c : Nat} (h : isLD c) : Unicode.isAlnum c = true ∧ Unicode.isUpper c = false ∧ Unicode.isTitle c = false := by
  rcases h with ⟨h1, h2⟩ | ⟨h1, h2⟩
  · obtain ⟨a, b, c, _⟩ := (tab c (List.mem_range.mpr (by omega))).2 h1
    exact ⟨a, b, c⟩
  · exact (tab c (List.mem_range.mpr (by omega))).1 h1 h2
theorem lt {c : Nat} (h : isL c) : Unicode.isLower c = true ∧ Unicode.isDigit c = false := by
  obtain ⟨h1, h2⟩ := h
  obtain ⟨_, _, _, a, b⟩ := (tab c (List.mem_range.mpr (by omega))).2 h1
  exact ⟨a, b⟩
theorem Nam.ascii {s : Str} (h : Nam s) : Txt.isascii s = true := by
  unfold Txt.isascii
  rw [← Array.all_toList]
  refine List.all_eq_true.mpr fun c hc => decide_eq_true ?_
  rcases h.all c hc with ⟨_, q⟩ | ⟨_, q⟩ <;> omega
theorem Nam.len {s : Str} (h : Nam s) : s.length = s.cps.toList.length := Array.length_toList.symm
theorem Nam.alnum {s : Str} (h : Nam s) : Txt.isalnum s = true := by
  unfold Txt.isalnum
  rw [Bool.and_eq_true]
  refine ⟨decide_eq_true (by have := h.pos; rw [h.len]; omega), ?_⟩
  rw [← Array.all_toList]
  exact List.all_eq_true.mpr fun c hc => (ld (h.all c hc)).1
theorem Nam.lower {s : Str} (h : Nam s) : Txt.islower s = true := by
  unfold Txt.islower
  rw [← Array.any_toList, ← Array.any_toList, Bool.and_eq_true]
  have hp := h.pos
  have h0 : s.cps.toList.getD 0 0 ∈ s.cps.toList := by
    rw [List.getD_eq_getElem?_getD, List.getElem?_eq_getElem (by omega)]
    exact List.getElem_mem _
  refine ⟨List.any_eq_true.mpr ⟨_, h0, (lt h.hd).1⟩, ?_⟩
  rw [Bool.not_eq_true', List.any_eq_false]
  intro c hc q
  obtain ⟨_, a, b⟩ := ld (h.all c hc)
  rw [a, b] at q
  exact nomatch q
theorem Nam.nodigit {s : Str} (h : Nam s) : Txt.isdigit ⟨#[s.cps.toList.getD 0 0]⟩ = false := by
  unfold Txt.isdigit
  rw [← Array.all_toList]
  show (decide ((1 : Nat) > 0) && (Unicode.isDigit (s.cps.toList.getD 0 0) && true)) = false
  rw [(lt h.hd).2]
  rfl
/-- the last sign cut off, another one in its place -/
def cutL (s : Str) : Str := cutS s none (some (-1))
theorem cutL_list {s : Str} (h : 1 ≤ s.cps.toList.length) : (cutL s).cps.toList = s.cps.toList.take (s.cps.toList.length - 1) := by
  unfold cutL cutS
  have hl : s.length = s.cps.toList.length := Array.length_toList.symm
  have e1 : HT.sIx s.length 0 none = 0 := rfl
  have e2 : HT.sIx s.length s.length (some (-1)) = s.length - 1 := by
    have : HT.sIx s.length s.length (some (-1)) = ((-1 : Int) + (s.length : Int)).toNat := by
      show (if ((-1 : Int) < 0) then ((-1 : Int) + (s.length : Int)).toNat else min ((-1 : Int)).toNat s.length) = _
      rw [if_pos (by decide)]
    rw [this]
    omega
  rw [e1, e2, List.drop_zero, Nat.sub_zero, hl]
def withL (s : Str) (c : Nat) : Str := cutL s ++ (⟨#[c]⟩ : Str)
theorem app_list (a b : Str) : (a ++ b).cps.toList = a.cps.toList ++ b.cps.toList := by
  show (a.cps ++ b.cps).toList = _
  rw [Array.toList_append]
theorem withL_list {s : Str} {c : Nat} (h : 1 ≤ s.cps.toList.length) : (withL s c).cps.toList = s.cps.toList.take (s.cps.toList.length - 1) ++ [c] := by
  unfold withL
  rw [app_list, cutL_list h]
theorem nam_withL {s : Str} {c : Nat} (h : Nam s) (hc : isL c) : Nam (withL s c) := by
  have hp := h.pos
  have hl := withL_list (c := c) hp
  refine ⟨by rw [hl, List.length_append]; exact Nat.le_add_left _ _, ?_, ?_, fun d hd => ?_⟩
  · rw [hl, List.length_append, List.length_take, List.length_singleton]
    have := h.few
    omega
  · rw [hl]
    by_cases q : s.cps.toList.length = 1
    · rw [q]
      exact hc
    · have : (s.cps.toList.take (s.cps.toList.length - 1) ++ [c]).getD 0 0 = s.cps.toList.getD 0 0 := by
        rw [List.getD_eq_getElem?_getD, List.getD_eq_getElem?_getD, List.getElem?_append_left (by rw [List.length_take]; omega), List.getElem?_take_of_lt (by omega)]
      rw [this]
      exact h.hd
  · rw [hl] at hd
    rcases List.mem_append.mp hd with q | q
    · exact h.all d (List.mem_of_mem_take q)
    · rw [List.mem_singleton] at q
      rw [q]
      exact .inl hc
theorem withL_inj {s : Str} {c d : Nat} (h : 1 ≤ s.cps.toList.length) (e : withL s c = withL s d) : c = d := by
  have := congrArg (fun z : Str => z.cps.toList) e
  have this : (withL s c).cps.toList = (withL s d).cps.toList := this
  rw [withL_list h, withL_list h] at this
  exact (List.cons.inj (List.append_cancel_left this)).1
def letL : List Nat := (List.range 26).map (97 + ·)
theorem letL_is {c : Nat} (h : c ∈ letL) : isL c := by
  obtain ⟨i, hi, rfl⟩ := List.mem_map.mp h
  have := List.mem_range.mp hi
  exact ⟨by omega, by omega⟩
def unlike (s : Str) (barred : List Str) : Str := if s ∈ barred then (match letL.find? (fun c => decide (withL s c ∉ barred)) with
  | some c => withL s c
  | none => s) else s
theorem pigeon {α : Type} [DecidableEq α] : ∀ {l m : List α}, l.Nodup → (∀ x ∈ l, x ∈ m) → l.length ≤ m.length
  | [], _, _, _ => Nat.zero_le _
  | x :: l, m, h, hs => by
    obtain ⟨h1, h2⟩ := List.nodup_cons.mp h
    have hx := hs x List.mem_cons_self
    have hl : l.length ≤ (m.erase x).length := pigeon h2 fun y hy => by
      have hne : y ≠ x := fun e => h1 (e ▸ hy)
      exact (List.mem_erase_of_ne hne).mpr (hs y (List.mem_cons_of_mem _ hy))
    rw [List.length_erase_of_mem hx] at hl
    have := List.length_pos_of_mem hx
    rw [List.length_cons]
    omega
theorem unlike_ok {s : Str} {barred : List Str} (h : Nam s) (hb : barred.length < 26) : Nam (unlike s barred) ∧ unlike s barred ∉ barred := by
  unfold unlike
  split
  · cases hf : letL.find? (fun c => decide (withL s c ∉ barred)) with
    | some c =>
      have hz := List.find?_some hf
      exact ⟨nam_withL h (letL_is (List.mem_of_find?_eq_some hf)), of_decide_eq_true hz⟩
    | none =>
      exfalso
      have hall := List.find?_eq_none.mp hf
      have hn : (letL.map (withL s)).Nodup := by
        refine List.pairwise_map.mpr (List.Pairwise.imp (fun {a b} hab e => hab (withL_inj h.pos e)) (show letL.Nodup by decide))
      have := pigeon hn (m := barred) fun x hx => by
        obtain ⟨c, hc, rfl⟩ := List.mem_map.mp hx
        have := hall c hc
        rw [decide_eq_true_eq] at this
        exact Decidable.not_not.mp this
      rw [List.length_map] at this
      have e : letL.length = 26 := rfl
      omega
  · rename_i hn
    exact ⟨h, hn⟩
theorem inV_str {s : Str} {L : List Str} : inV (.str s) (L.map V.str) = decide (s ∈ L) := by
  unfold inV
  rw [List.any_map]
  induction L with
  | nil => rfl
  | cons a r ih =>
    rw [List.any_cons, ih]
    show (eqV (.str a) (.str s) || _) = _
    have : eqV (.str a) (.str s) = (a == s) := rfl
    rw [this]
    by_cases c : a = s
    · subst c; simp
    · have c' : ¬ s = a := fun e => c e.symm
      simp [c, c']
/-! ### readings -/
section
variable {K : PySem.W.Frag} {σ : L2.St} {B X : Hp} {te ta tb : TE} {tl th : TO} {lo hi : Option Int} {s : Str}
theorem ev_slS (h : Ev te σ B (.str s)) (h1 : EvO tl σ B lo) (h2 : EvO th σ B hi) (hz : s.length ≤ 100000) : Ev (tSl rSlS te tl th) σ B (.str (cutS s lo hi)) := fun H1 e Q q =>
  h H1 e _ fun H2 e2 => h1 H2 (e.trans e2) _ fun H3 e3 => h2 H3 ((e.trans e2).trans e3) _ fun H4 e4 => ⟨s, rfl, sz_of hz, q H4 ((e2.trans e3).trans e4)⟩
def chV (s : Str) : List V := s.cps.toList.map fun c => V.str ⟨#[c]⟩
theorem fit_s : FIt (Its s) (chV s) B := by
  have hl : (chV s).length = s.cps.size := by unfold chV; rw [List.length_map, Array.length_toList]
  refine ⟨fun i H e hi => by rw [hl] at hi; exact hi, fun H e => by show s.cps.size ≤ _; rw [hl]; exact Nat.le_refl _, fun i H x H' e ⟨e1, c, hc, y⟩ hi => ⟨e1, ?_⟩⟩
  unfold chV
  rw [List.getElem?_map, Array.getElem?_toList, hc, y]
  rfl
theorem ei_str (h : Ev te σ B (.str s)) : EvI (iStr te) σ B fun ys _ => ys = chV s := fun H1 e R q =>
  h H1 e _ fun H2 e2 => ⟨s, rfl, q _ H2 B _ e2 (Gr.refl _ _) (e.trans e2) rfl fit_s⟩
theorem el_catV {b : Addr} {xs ys : List V} (ha : EvL ta σ B xs) (hb : Ev tb σ B (.ref b)) (hy : B b = some (.lst ys)) (hz : xs.length + ys.length ≤ 100000) : EvL (tOp rCat ta tb) σ B (xs ++ ys) := fun H1 e Q q =>
  ha H1 e _ fun l H2 hl0 e2 hl => hb H2 (e.trans e2) _ fun H3 e3 => ⟨l, b, xs, ys, rfl, rfl, e3 _ _ hl, ((e.trans e2).trans e3) _ _ hy, sz_of hz, fun p hp => q p _ (fresh_back (e2.trans e3) hp) ((e2.trans e3).trans (Ex.new hp)) upd_same⟩
end
theorem mrg_self {F B : Hp} (e : Ex B F) : mrg F B = F := by
  funext a
  cases q : F a with
  | none => rw [mrg_none q]; exact none_of e q
  | some u => exact mrg_some q
theorem find_at {α : Type} {p : α → Bool} : ∀ {l : List α} {i : Nat} {c : α}, l[i]? = some c → p c = true → (∀ j d, j < i → l[j]? = some d → p d = false) → l.find? p = some c
  | [], i, c, h, _, _ => nomatch h
  | a :: l, 0, c, h, hp, _ => by
    have h := Option.some.inj h
    subst h
    rw [List.find?_cons, hp]
  | a :: l, i + 1, c, h, hp, hb => by
    rw [List.find?_cons, hb 0 a (Nat.succ_pos _) rfl]
    exact find_at (i := i) h hp fun j d hj hd => hb (j + 1) d (Nat.succ_lt_succ hj) hd
end NM
/-! texts put together out of signs -/
namespace NM
open PySem PySem.Spec PyProof.Rows L2 Evl LX XV RX
def mk (l : List Nat) : Str := ⟨l.toArray⟩
theorem mk_list {l : List Nat} : (mk l).cps.toList = l := by unfold mk; simp
theorem mk_len {l : List Nat} : (mk l).length = l.length := by
  show (mk l).cps.size = _
  unfold mk
  simp
theorem mk_of (s : Str) : mk s.cps.toList = s := by
  unfold mk
  rw [Array.toArray_toList]
def letS : Str := "abcdefghijklmnopqrstuvwxyz0123456789"
def lets : List Nat := (List.range 26).map (97 + ·) ++ (List.range 10).map (48 + ·)
theorem letS_list : letS.cps.toList = lets := by decide +kernel
theorem letS_len : letS.length = 36 := by decide +kernel
theorem lets_all : ∀ i ∈ List.range 36, ((97 ≤ lets.getD i 0 ∧ lets.getD i 0 ≤ 122) ∨ (48 ≤ lets.getD i 0 ∧ lets.getD i 0 ≤ 57)) ∧ (i < 26 → 97 ≤ lets.getD i 0 ∧ lets.getD i 0 ≤ 122) := by decide +kernel
theorem lets_ld {i : Nat} (h : i < 36) : isLD (lets.getD i 0) := (lets_all i (List.mem_range.mpr h)).1
theorem lets_l {i : Nat} (h : i < 26) : isL (lets.getD i 0) := (lets_all i (List.mem_range.mpr (by omega))).2 h
theorem nam_mk {c : Nat} {r : List Nat} (hc : isL c) (hr : ∀ d ∈ r, isLD d) (hl : r.length ≤ 11) : Nam (mk (c :: r)) := by
  refine ⟨?_, ?_, ?_, ?_⟩
  · rw [mk_list, List.length_cons]; omega
  · rw [mk_list, List.length_cons]; omega
  · rw [mk_list]; exact hc
  · rw [mk_list]
    intro d hd
    rcases List.mem_cons.mp hd with e | e
    · rw [e]; exact .inl hc
    · exact hr d e
/-- a beginning of a name is one -/
theorem nam_take {l : List Nat} {k : Nat} (h : Nam (mk l)) (hk : 1 ≤ k) : Nam (mk (l.take k)) := by
  have h1 := h.pos
  have h2 := h.few
  have h3 := h.hd
  have h4 := h.all
  rw [mk_list] at h1 h2 h3 h4
  refine ⟨?_, ?_, ?_, ?_⟩
  · rw [mk_list, List.length_take]; omega
  · rw [mk_list, List.length_take]; omega
  · rw [mk_list, List.getD_eq_getElem?_getD, List.getElem?_take_of_lt (by omega), ← List.getD_eq_getElem?_getD]; exact h3
  · rw [mk_list]; exact fun c hc => h4 c (List.mem_of_mem_take hc)
/-- a letter in a sign's place -/
theorem nam_set {l : List Nat} {k c : Nat} (h : Nam (mk l)) (hk : k < l.length) (hc : isL c) : Nam (mk (l.take k ++ [c] ++ l.drop (k + 1))) := by
  have h1 := h.pos
  have h2 := h.few
  have h3 := h.hd
  have h4 := h.all
  rw [mk_list] at h1 h2 h3 h4
  refine ⟨?_, ?_, ?_, ?_⟩
  · rw [mk_list, List.length_append, List.length_append, List.length_singleton]; omega
  · rw [mk_list, List.length_append, List.length_append, List.length_singleton, List.length_take, List.length_drop]; omega
  · rw [mk_list]
    by_cases q : k = 0
    · subst q; exact hc
    · rw [List.append_assoc, List.getD_eq_getElem?_getD, List.getElem?_append_left (by rw [List.length_take]; omega), List.getElem?_take_of_lt (by omega), ← List.getD_eq_getElem?_getD]
      exact h3
  · rw [mk_list]
    intro d hd
    rcases List.mem_append.mp hd with e | e
    · rcases List.mem_append.mp e with e | e
      · exact h4 d (List.mem_of_mem_take e)
      · rw [List.mem_singleton] at e; rw [e]; exact .inl hc
    · exact h4 d (List.mem_of_mem_drop e)
theorem app_mk {a b : List Nat} : mk a ++ mk b = mk (a ++ b) := by
  have : (mk a ++ mk b).cps.toList = (mk (a ++ b)).cps.toList := by rw [app_list, mk_list, mk_list, mk_list]
  rw [← mk_of (mk a ++ mk b), this, mk_of]
theorem cut_to {l : List Nat} {k : Int} (h0 : 0 ≤ k) : cutS (mk l) none (some k) = mk (l.take k.toNat) := by
  obtain ⟨n, rfl⟩ : ∃ n : Nat, k = (n : Int) := ⟨k.toNat, by omega⟩
  unfold cutS
  rw [mk_list, mk_len, HT.sIx_none, HT.sIx_nat, List.drop_zero, Nat.sub_zero, Int.toNat_natCast]
  unfold mk
  congr 2
  rcases Nat.le_total n l.length with c | c
  · rw [Nat.min_eq_left c]
  · rw [Nat.min_eq_right c, List.take_length, List.take_of_length_le c]
theorem cut_from {l : List Nat} {k : Int} (h0 : 0 ≤ k) (h1 : k ≤ l.length) : cutS (mk l) (some k) none = mk (l.drop k.toNat) := by
  obtain ⟨n, rfl⟩ : ∃ n : Nat, k = (n : Int) := ⟨k.toNat, by omega⟩
  unfold cutS
  rw [mk_list, mk_len, HT.sIx_none, HT.sIx_nat, Int.toNat_natCast]
  unfold mk
  congr 1
  rw [Nat.min_eq_left (by omega), List.take_of_length_le (by rw [List.length_drop]; omega)]
theorem joinL_ones : ∀ cs : List Nat, TL.joinL [] (cs.map fun c => [c]) = cs
  | [] => rfl
  | [c] => rfl
  | c :: d :: r => by
    show [c] ++ ([] ++ TL.joinL [] ((d :: r).map fun c => [c])) = _
    rw [joinL_ones (d :: r)]
    rfl
theorem join_mk (cs : List Nat) : Txt.join (mk []) (cs.map fun c => mk [c]) = mk cs := by
  have h := SX.join_S [] (cs.map fun c => [c])
  rw [joinL_ones, List.map_map] at h
  exact h
section
variable {K : PySem.W.Frag} {σ : L2.St} {B X : Hp} {te ta tb t1 t2 : TE} {t : TT} {P : V → Hp → Prop} {D : Ends} {tz : TS} {v : V}
theorem ev_letter {i : Int} (ha : Ev ta σ B (.str letS)) (hb : Ev tb σ B (.int i)) (h0 : 0 ≤ i) (h1 : i < 36) : Ev (tOp rIxS ta tb) σ B (.str (mk [lets.getD i.toNat 0])) := by
  obtain ⟨n, rfl⟩ : ∃ n : Nat, i = (n : Int) := ⟨i.toNat, by omega⟩
  refine ev_op ha hb (rv_ixS (by rw [letS_len]; decide) ?_)
  refine atI_nat ?_
  rw [letS_list, Int.toNat_natCast, List.getD_eq_getElem?_getD, List.getElem?_eq_getElem (by show n < 36; omega)]
  rfl
theorem sum_ones : ∀ cs : List Nat, ((cs.map fun c => mk [c]).map (·.length)).sum = cs.length
  | [] => rfl
  | c :: r => by
    rw [List.map_cons, List.map_cons, List.sum_cons, sum_ones r, List.length_cons, Nat.add_comm]
    rfl
theorem ev_mkJoin {K : PySem.W.Frag} {c : Nat} {cs : List Nat} (h1 : Ev t1 σ B (.str (mk [c]))) (h2 : EvL t2 σ B (cs.map fun c => V.str (mk [c]))) (hl : cs.length ≤ 100) :
    Ev (tOp (fun x y H Q => ∃ i j, x = .str i ∧ y = .str j ∧ i.length + j.length ≤ sizeLine ∧ Q (.str (i ++ j)) H) t1 (tM1 (fun x xs H Q => ∃ a p, ∃ ys : List Str, x = .str a ∧ xs = [.ref p] ∧ (SqL K H p (ys.map V.str) ∨ SqT K H p (ys.map V.str)) ∧ (ys.map (·.length)).sum + ys.length * a.length ≤ 16777216 ∧ Q (.str (Txt.join a ys)) H) (tC (.str "")) t2)) σ B (.str (mk (c :: cs))) := by
  have hj := ev_join (K := K) (a := "") (ys := cs.map fun c => mk [c]) (te := t2) (ta := tC (.str "")) ev_c (by rw [List.map_map]; exact h2) (by
    rw [sum_ones]
    show _ + _ * 0 ≤ _
    omega)
  have e : Txt.join "" (cs.map fun c => mk [c]) = mk cs := join_mk cs
  rw [e] at hj
  have := ev_op h1 hj (rv_addS (i := mk [c]) (j := mk cs) (by rw [mk_len, mk_len]; show 1 + cs.length ≤ _; omega))
  rw [app_mk] at this
  exact this
theorem upd_del {B : Hp} {p : Addr} {o : HO} : upd (RX.del B p) p o = upd B p o := by
  funext a
  by_cases c : a = p
  · subst c; rw [upd_same, upd_same]
  · rw [upd_ne c, upd_ne c, RX.del_ne c]
theorem gr_del {X F B : Hp} {p : Addr} (g : Gr X F B) (h : F p = none) : Gr X F (RX.del B p) := ⟨fun a o ha => by
    have c : a ≠ p := fun c => by subst c; rw [h] at ha; exact nomatch ha
    rw [RX.del_ne c]; exact g.ex a o ha, fun a ha hx => by
    by_cases c : a = p
    · subst c; exact RX.del_same
    · rw [RX.del_ne c]; exact g.av a ha hx⟩
theorem x_appV {l : Addr} {xs : List V} (hl : B l = some (.lst xs)) (hX : X l = none) (ha : Ev ta σ B (.ref l)) (h : Ev te σ B v) (hz : xs.length < 100000)
    (k : Sx X tz D σ (upd B l (.lst (xs ++ [v])))) : Sx X (tSeq (tDrop (tBM K "list" rAppend ta (tCons te tNil))) tz) D σ B := fun H e eX => by
  refine ha H e _ fun H1 e1 => ⟨Or.inl ⟨rfl, xs, sq_of (e1 l _ (e l _ hl))⟩, h H1 (e.trans e1) _ fun H2 e2 => ?_⟩
  refine ⟨l, xs, v, rfl, rfl, e2 l _ (e1 l _ (e l _ hl)), sz_lt hz, k _ (fun a u q => ?_) (fun a u q => ?_)⟩
  · by_cases c : a = l
    · subst c; rw [upd_same] at q ⊢; exact q
    · rw [upd_ne c] at q ⊢; exact e2 a u (e1 a u (e a u q))
  · have c : a ≠ l := fun c => by subst c; rw [hX] at q; exact nomatch q
    rw [upd_ne c]
    exact e2 a u (e1 a u (eX a u q))
theorem x_ifAsg {b : Bool} {i : Nat} (h : EvT t σ B b) (h1 : b = true → EvR te σ B P) (h2 : b = false → P v B ∧ σ.set i (some v) = σ) (k : ∀ z B', Gr X B B' → P z B' → Sx X tz D (σ.set i (some z)) B') : Sx X (tSeq (tIfS t (tAsg te (gName i)) tNext) tz) D σ B := fun H e eX => h H e _ fun H2 e2 => by
  cases b with
  | true => exact h1 rfl H2 (e.trans e2) _ fun z H3 B' e3 g e4 p => k z B' (g.back (eX.trans e2)) p H3 e4 ((eX.trans e2).trans e3)
  | false =>
    obtain ⟨p, hs⟩ := h2 rfl
    have := k v B (Gr.refl _ _) p
    rw [hs] at this
    exact this H2 (e.trans e2) (eX.trans e2)
end
end NM
/-! sorted texts: there is one order -/
namespace SS
open PySem PySem.Spec PyProof.Rows
theorem lt_asymm : ∀ {a b : List Nat}, ltCps a b = true → ltCps b a = false
  | [], [], h => nomatch h
  | [], _ :: _, _ => rfl
  | _ :: _, [], h => nomatch h
  | x :: a, y :: b, h => by
    have h : (decide (x < y) || (x == y && ltCps a b)) = true := h
    show (decide (y < x) || (y == x && ltCps b a)) = false
    rw [Bool.or_eq_true] at h
    rcases h with h | h
    · have h := of_decide_eq_true h
      rw [decide_eq_false (by omega), beq_eq_false_iff_ne.mpr (by omega)]
      rfl
    · rw [Bool.and_eq_true] at h
      have e := eq_of_beq h.1
      subst e
      rw [decide_eq_false (by omega), lt_asymm h.2]
      simp
theorem eq_of : ∀ {a b : List Nat}, ltCps a b = false → ltCps b a = false → a = b
  | [], [], _, _ => rfl
  | [], _ :: _, h, _ => nomatch h
  | _ :: _, [], _, h => nomatch h
  | x :: a, y :: b, h, h' => by
    have h : (decide (x < y) || (x == y && ltCps a b)) = false := h
    have h' : (decide (y < x) || (y == x && ltCps b a)) = false := h'
    rw [Bool.or_eq_false_iff] at h h'
    have h1 := of_decide_eq_false h.1
    have h2 := of_decide_eq_false h'.1
    have e : x = y := by omega
    subst e
    have h3 := h.2
    have h4 := h'.2
    rw [beq_self_eq_true, Bool.true_and] at h3 h4
    rw [eq_of h3 h4]
theorem lt_trans : ∀ {a b c : List Nat}, ltCps a b = true → ltCps b c = true → ltCps a c = true
  | [], [], _, h, _ => nomatch h
  | [], _ :: _, [], _, h => nomatch h
  | [], _ :: _, _ :: _, _, _ => rfl
  | _ :: _, [], _, h, _ => nomatch h
  | _ :: _, _ :: _, [], _, h => nomatch h
  | x :: a, y :: b, z :: c, h, h' => by
    have h : (decide (x < y) || (x == y && ltCps a b)) = true := h
    have h' : (decide (y < z) || (y == z && ltCps b c)) = true := h'
    show (decide (x < z) || (x == z && ltCps a c)) = true
    rw [Bool.or_eq_true] at h h' ⊢
    rcases h with h | h
    · have h := of_decide_eq_true h
      rcases h' with h' | h'
      · have h' := of_decide_eq_true h'
        exact .inl (decide_eq_true (by omega))
      · rw [Bool.and_eq_true] at h'
        have e := eq_of_beq h'.1
        exact .inl (decide_eq_true (by omega))
    · rw [Bool.and_eq_true] at h
      have e := eq_of_beq h.1
      subst e
      rcases h' with h' | h'
      · exact .inl h'
      · rw [Bool.and_eq_true] at h'
        exact .inr (by rw [Bool.and_eq_true]; exact ⟨h'.1, lt_trans h.2 h'.2⟩)
def le (p x : Str) : Prop := ltCps x.cps.toList p.cps.toList = false
theorem le_trans {a b c : Str} (h : le a b) (h' : le b c) : le a c := by
  unfold le at *
  cases q : ltCps c.cps.toList a.cps.toList with
  | false => rfl
  | true =>
    cases q2 : ltCps a.cps.toList b.cps.toList with
    | true => rw [lt_trans q q2] at h'; exact nomatch h'
    | false =>
      have e := eq_of q2 h
      rw [e] at q
      rw [q] at h'
      exact nomatch h'
theorem le_antisymm {a b : Str} (h : le a b) (h' : le b a) : a = b := by
  have e : a.cps.toList = b.cps.toList := eq_of h' h
  cases a
  cases b
  exact congrArg Str.mk (Array.toList_inj.mp e)
theorem rising : ∀ {l : List Str} {p : Str}, risingS p l = true → (∀ x ∈ l, le p x) ∧ l.Pairwise le
  | [], p, _ => ⟨fun x h => (nomatch h), List.Pairwise.nil⟩
  | y :: l, p, h => by
    have h : (!ltCps y.cps.toList p.cps.toList && risingS y l) = true := h
    rw [Bool.and_eq_true, Bool.not_eq_true'] at h
    obtain ⟨h1, h2⟩ := rising h.2
    refine ⟨fun x hx => ?_, List.pairwise_cons.mpr ⟨h1, h2⟩⟩
    rcases List.mem_cons.mp hx with e | e
    · rw [e]; exact h.1
    · exact le_trans h.1 (h1 x e)
theorem sorted_pw : ∀ {l : List Str}, sortedS l = true → l.Pairwise le
  | [], _ => List.Pairwise.nil
  | x :: l, h => by
    obtain ⟨h1, h2⟩ := rising (p := x) (l := l) h
    exact List.pairwise_cons.mpr ⟨h1, h2⟩
theorem pw_uniq : ∀ {L M : List Str}, L.Pairwise le → M.Pairwise le → L.Perm M → L = M
  | [], M, _, _, h => by rw [List.nil_perm.mp h]
  | l :: L, [], _, _, h => by have := h.length_eq; simp at this
  | l :: L, m :: M, h1, h2, h => by
    obtain ⟨a1, a2⟩ := List.pairwise_cons.mp h1
    obtain ⟨b1, b2⟩ := List.pairwise_cons.mp h2
    have e : l = m := by
      rcases List.mem_cons.mp (h.mem_iff.mp List.mem_cons_self) with c | c
      · exact c
      · rcases List.mem_cons.mp (h.mem_iff.mpr List.mem_cons_self) with c' | c'
        · exact c'.symm
        · exact le_antisymm (a1 m c') (b1 l c)
    subst e
    rw [pw_uniq a2 b2 (List.Perm.cons_inv h)]
/-- one order -/
theorem sorted_uniq {L M : List Str} (h1 : sortedS L = true) (h2 : sortedS M = true) (h : L.Perm M) : L = M := pw_uniq (sorted_pw h1) (sorted_pw h2) h
end SS
/-! ranges with two ends; list(range(n)); xs.append(ys.pop(k)) -/
namespace RX
open PySem PySem.Spec PyProof.Rows L2 Evl LX XV
section
variable {K : PySem.W.Frag} {σ : L2.St} {B X H : Hp} {te ta tb ti : TE} {t : TT} {D : Ends} {tz : TS} {v : V}
theorem ei_rng2 {tr : TA} {i j : Int} (h : EvA tr σ B [.int i, .int j]) (hi : 0 ≤ i ∧ i ≤ 1000000000) (hj : 0 ≤ j ∧ j ≤ 1000000000) : EvI (iRng2 tr) σ B fun ys _ => ys = rngV i (j - i).toNat := fun H1 e R q =>
  h H1 e _ fun H2 e2 => ⟨i, j, rfl, by omega, q _ H2 B _ e2 (Gr.refl _ _) (e.trans e2) rfl fit_r⟩
theorem el_lcR2 {tr : TA} {j : Nat} {vs : List Nat} {lo hi : Int} (f : Nat → Bool) (v : Nat → V) (h : EvA tr σ H [.int lo, .int hi]) (hl : 0 ≤ lo ∧ lo ≤ 40000) (hh : 0 ≤ hi ∧ hi ≤ 40000) (hw : ∀ x, wipe ((wipe σ vs).set j (some x)) vs = wipe σ vs)
    (ht : ∀ (i : Nat) H1, Ex H H1 → (i : Int) < hi - lo → EvT t ((wipe σ vs).set j (some (.int (lo + (i : Int))))) H1 (f i)) (he : ∀ (i : Nat) H1, Ex H H1 → (i : Int) < hi - lo → f i = true → Ev te ((wipe σ vs).set j (some (.int (lo + (i : Int))))) H1 (v i)) :
    EvL (tLc (iRng2 tr) (gName j) t te vs) σ H (given (hi - lo).toNat f v) := fun H0 e Q q => h H0 e _ fun H1 e1 => ⟨lo, hi, rfl, by omega, fun Dl hD =>
  lc_range (lo := lo) (n := (hi - lo).toNat) (Cw H1 f v Dl) ⟨hD, Ex.new hD, upd_same⟩ (fun i H' hi' p => by
    show wipe ((wipe σ vs).set j (some (.int (lo + (i : Int))))) vs = wipe σ vs ∧ t ((wipe σ vs).set j (some (.int (lo + (i : Int))))) H' fun b H3 => if b = true then te ((wipe σ vs).set j (some (.int (lo + (i : Int))))) H3 fun y H4 => ∃ acc, H4 Dl = some (.lst acc) ∧ acc.length < sizeLine ∧ Cw H1 f v Dl (i + 1) (upd H4 Dl (.lst (acc ++ [y]))) else Cw H1 f v Dl (i + 1) H3
    exact ⟨hw _, cw_turn p (by omega) (ht i H1 (e.trans e1) (by omega)) (fun hf => he i H1 (e.trans e1) (by omega) hf)⟩) (fun H' p => q Dl H' (fresh_back e1 p.1) (e1.trans p.2.1) p.2.2)⟩
theorem el_rg1 {n : Int} (h : Ev te σ B (.int n)) (hn : 0 ≤ n ∧ n ≤ 100000) : EvL (tLstRg (tRg1 te)) σ B (rngV 0 n.toNat) := fun H1 e Q q =>
  h H1 e _ fun H2 e2 => ⟨n, rfl, RgOk.of_le (by omega) (by omega) (by omega) (by omega), fun p hp => q p _ (fresh_back e2 hp) (e2.trans (Ex.new hp)) (by
    rw [upd_same]
    unfold rgV rngV
    rw [Int.sub_zero])⟩
theorem x_appPop {l1 l2 : Addr} {xs ys : List V} {k : Nat} {y : V} (hl1 : B l1 = some (.lst xs)) (hX1 : X l1 = none) (hl2 : B l2 = some (.lst ys)) (hX2 : X l2 = none) (hne : l1 ≠ l2) (ha : Ev ta σ B (.ref l1)) (hb : Ev tb σ B (.ref l2)) (hi : Ev ti σ B (.int (k : Int))) (hk : ys[k]? = some y) (hz : xs.length < 100000) (hzy : ys.length < 100000)
    (c : Sx X tz D σ (upd (upd B l2 (.lst (ys.eraseIdx k))) l1 (.lst (xs ++ [y])))) : Sx X (tSeq (tDrop (tBM K "list" rAppend ta (tCons (tBM K "list" rPopAt tb (tCons ti tNil)) tNil))) tz) D σ B := fun H e eX =>
  ha H e _ fun H1 e1 => ⟨Or.inl ⟨rfl, xs, sq_of (e1 l1 _ (e l1 _ hl1))⟩, hb H1 (e.trans e1) _ fun H2 e2 => ⟨Or.inl ⟨rfl, ys, sq_of ((e1.trans e2) l2 _ (e l2 _ hl2))⟩, (ea_cons hi ea_nil) H2 ((e.trans e1).trans e2) _ fun H3 e3 => by
    have eA := (e1.trans e2).trans e3
    refine ⟨l2, ys, (k : Int), k, y, rfl, rfl, eA l2 _ (e l2 _ hl2), by omega, by have := (List.getElem?_eq_some_iff.mp hk).1; omega, ?_, hk, l1, xs, y, rfl, rfl, by rw [upd_ne hne]; exact eA l1 _ (e l1 _ hl1), sz_lt hz, c _ (fun a u q => ?_) (fun a u q => ?_)⟩
    · have hlt := (List.getElem?_eq_some_iff.mp hk).1
      unfold seqIndex?
      rw [if_neg (by omega : ¬ ((k : Int) < 0))]
      show (if (decide ((0 : Int) ≤ (k : Int)) && decide ((k : Int) < (ys.length : Int))) = true then some (k : Int).toNat else none) = some k
      rw [decide_eq_true (by omega : (0 : Int) ≤ (k : Int)), decide_eq_true (by omega : (k : Int) < (ys.length : Int))]
      rfl
    · by_cases c1 : a = l1
      · subst c1; rw [upd_same] at q ⊢; exact q
      · rw [upd_ne c1] at q ⊢
        by_cases c2 : a = l2
        · subst c2; rw [upd_same] at q ⊢; exact q
        · rw [upd_ne c2] at q ⊢; exact eA a u (e a u q)
    · have c1 : a ≠ l1 := fun c => by subst c; rw [hX1] at q; exact nomatch q
      have c2 : a ≠ l2 := fun c => by subst c; rw [hX2] at q; exact nomatch q
      rw [upd_ne c1, upd_ne c2]
      exact eA a u (eX a u q)⟩⟩
end
end RX
namespace T
open PySem PySem.Spec PyProof.Rows L2 Evl LX
def top (i : Nat) : Stmt := PySem.Challenge.pw_onceread_k03_moved_whole.main.body.getD i (.Pass ⟨0, 0, 0, 0⟩)
abbrev s_NoSuchRelation_init : Stmt := inClass (top 3) 0
abbrev s_BadRow_init : Stmt := inClass (top 4) 0
abbrev s_is_whole : Stmt := top 10
abbrev s_is_between : Stmt := top 11
abbrev s_is_sequence : Stmt := top 12
abbrev s_is_name : Stmt := top 13
abbrev s_is_thing : Stmt := top 14
abbrev s_is_row : Stmt := top 15
abbrev s_is_relation : Stmt := top 20
abbrev s_checked_relations : Stmt := top 21
abbrev s_World_init : Stmt := inClass (top 22) 0
abbrev s_World_arity : Stmt := inClass (top 22) 1
abbrev s_World_rows : Stmt := inClass (top 22) 2
abbrev s_World_put : Stmt := inClass (top 22) 3
abbrev s_World_drop : Stmt := inClass (top 22) 4
abbrev s_World_moved : Stmt := inClass (top 22) 5
abbrev s_World__table : Stmt := inClass (top 22) 6
abbrev s_World__checked_row : Stmt := inClass (top 22) 7
abbrev s_World__with_rows : Stmt := inClass (top 22) 8
abbrev s_World___contains : Stmt := inClass (top 22) 9
abbrev s_World___len : Stmt := inClass (top 22) 10
abbrev s_World___iter : Stmt := inClass (top 22) 11
abbrev s_World___eq : Stmt := inClass (top 22) 12
abbrev s_law_whole : Stmt := top 24
abbrev s_law_cell : Stmt := top 25
abbrev s_law_digits : Stmt := top 26
abbrev s_law_unlike : Stmt := top 27
abbrev s_law_names : Stmt := top 28
abbrev s_law_given : Stmt := top 29
abbrev s_law_form : Stmt := top 30
abbrev s_law_handed : Stmt := top 31
abbrev s_law_model : Stmt := top 32
abbrev s_law_is_row : Stmt := top 33
abbrev s_law_is_fact : Stmt := top 34
abbrev s_law_is_world : Stmt := top 35
abbrev s_law_is_truth : Stmt := top 36
abbrev s_law_with_row : Stmt := top 37
abbrev s_law_is_gone_over : Stmt := top 38
abbrev s_law_goes_on : Stmt := top 39
abbrev s_law_order : Stmt := top 40
abbrev s_law_image : Stmt := top 41
abbrev s_law_spoilt : Stmt := top 42
abbrev s_law_refuses : Stmt := top 43
abbrev s_law_facts_meet : Stmt := top 44
abbrev s_law : Stmt := top 45
def fnD : List He.DefD := ([KH.dat ("NoSuchRelation", some "__init__") "NoSuchRelation.__init__" s_NoSuchRelation_init, KH.dat ("BadRow", some "__init__") "BadRow.__init__" s_BadRow_init, KH.dat ("is_whole", none) "is_whole" s_is_whole, KH.dat ("is_between", none) "is_between" s_is_between, KH.dat ("is_sequence", none) "is_sequence" s_is_sequence, KH.dat ("is_name", none) "is_name" s_is_name, KH.dat ("is_thing", none) "is_thing" s_is_thing, KH.dat ("is_row", none) "is_row" s_is_row, KH.dat ("is_relation", none) "is_relation" s_is_relation, KH.dat ("checked_relations", none) "checked_relations" s_checked_relations, KH.dat ("World", some "__init__") "World.__init__" s_World_init [.adr (He.dflAt ("World", some "__init__") 0)], KH.dat ("World", some "arity") "World.arity" s_World_arity, KH.dat ("World", some "rows") "World.rows" s_World_rows, KH.dat ("World", some "put") "World.put" s_World_put, KH.dat ("World", some "drop") "World.drop" s_World_drop, KH.dat ("World", some "moved") "World.moved" s_World_moved] : List He.DefD) ++ ([KH.dat ("World", some "_table") "World._table" s_World__table, KH.dat ("World", some "_checked_row") "World._checked_row" s_World__checked_row, KH.dat ("World", some "_with_rows") "World._with_rows" s_World__with_rows, KH.dat ("World", some "__contains__") "World.__contains__" s_World___contains, KH.dat ("World", some "__len__") "World.__len__" s_World___len, KH.dat ("World", some "__iter__") "World.__iter__" s_World___iter, KH.dat ("World", some "__eq__") "World.__eq__" s_World___eq, KH.dat ("_law_whole", none) "_law_whole" s_law_whole, KH.dat ("_law_cell", none) "_law_cell" s_law_cell, KH.dat ("_law_digits", none) "_law_digits" s_law_digits, KH.dat ("_law_unlike", none) "_law_unlike" s_law_unlike, KH.dat ("_law_names", none) "_law_names" s_law_names, KH.dat ("_law_given", none) "_law_given" s_law_given, KH.dat ("_law_form", none) "_law_form" s_law_form, KH.dat ("_law_handed", none) "_law_handed" s_law_handed, KH.dat ("_law_model", none) "_law_model" s_law_model] : List He.DefD) ++ ([KH.dat ("_law_is_row", none) "_law_is_row" s_law_is_row, KH.dat ("_law_is_fact", none) "_law_is_fact" s_law_is_fact, KH.dat ("_law_is_world", none) "_law_is_world" s_law_is_world, KH.dat ("_law_is_truth", none) "_law_is_truth" s_law_is_truth, KH.dat ("_law_with_row", none) "_law_with_row" s_law_with_row, KH.dat ("_law_is_gone_over", none) "_law_is_gone_over" s_law_is_gone_over, KH.dat ("_law_goes_on", none) "_law_goes_on" s_law_goes_on, KH.dat ("_law_order", none) "_law_order" s_law_order, KH.dat ("_law_image", none) "_law_image" s_law_image, KH.dat ("_law_spoilt", none) "_law_spoilt" s_law_spoilt, KH.dat ("_law_refuses", none) "_law_refuses" s_law_refuses, KH.dat ("_law_facts_meet", none) "_law_facts_meet" s_law_facts_meet, KH.dat ("law", none) "law" s_law] : List He.DefD)
def gloN : List Str := (["OnceError", "BadWorld", "NoSuchRelation", "BadRow", "BadOrder", "is_whole", "is_between", "is_sequence", "is_name", "is_thing", "is_row", "is_relation", "checked_relations", "World", "_law_whole", "_law_cell"] : List Str) ++ (["_law_digits", "_law_unlike", "_law_names", "_law_given", "_law_form", "_law_handed", "_law_model", "_law_is_row", "_law_is_fact", "_law_is_world", "_law_is_truth", "_law_with_row", "_law_is_gone_over", "_law_goes_on", "_law_order", "_law_image"] : List Str) ++ (["_law_spoilt", "_law_refuses", "_law_facts_meet", "law", "RESERVED"] : List Str)
def freeN : List Str := (["ValueError", "all", "bool", "int", "isinstance", "iter", "len", "list", "max", "min", "range", "set", "sorted", "str", "tuple"] : List Str)
def intN : List (Str × Int) := [("LONGEST_NAME", 12), ("LARGEST_ARITY", 3), ("SMALLEST_WORLD", 2), ("LARGEST_WORLD", 400), ("MOST_RELATIONS", 12)]
def tup_RESERVED : List He.Dv := [.str "some", .str "every", .str "not", .str "and", .str "or", .str "walk", .str "more", .str "than", .str "first", .str "last", .str "next"]
def tupN : List (Str × List He.Dv) := [("RESERVED", tup_RESERVED)]
def fa : List He.Fa := gloN.map He.Fa.glo ++ freeN.map He.Fa.free
abbrev R : PySem.W.OpenRow := PySem.W.OpenLaw.row PySem.Challenge.rw_onceread_k03_moved_whole
abbrev lawAt : Nat := 45
abbrev lawIx : Nat := 44
def loose : List Str := (["OnceError", "BadWorld", "NoSuchRelation", "BadRow", "BadOrder", "is_whole", "is_between", "is_sequence", "is_name", "is_thing", "is_row", "is_relation", "checked_relations", "World", "_law_whole", "_law_cell"] : List Str) ++ (["_law_digits", "_law_unlike", "_law_names", "_law_given", "_law_form", "_law_handed", "_law_model", "_law_is_row", "_law_is_fact", "_law_is_world", "_law_is_truth", "_law_with_row", "_law_is_gone_over", "_law_goes_on", "_law_order", "_law_image"] : List Str) ++ (["_law_spoilt", "_law_refuses", "_law_facts_meet", "RESERVED", "RESERVED", "LONGEST_NAME", "LARGEST_ARITY", "SMALLEST_WORLD", "LARGEST_WORLD", "MOST_RELATIONS"] : List Str)
def worldF : List Str := ["size", "names", "facts", "_tables", "_arities", "_stands"]
def dfl0 (K : PySem.W.Frag) : Addr := He.dflAt ("World", some "__init__") 0 K
def emptyB (K : PySem.W.Frag) (a : Addr) : Bool := match K.lookup a with
  | some ⟨.type "tuple", _, .seq its _, _⟩ => its.isEmpty
  | _ => false
def wmeth : List Str := ["arity", "rows", "_table", "put", "drop", "_checked_row", "_with_rows", "__contains__", "__len__", "__iter__", "__eq__", "moved"]
def kitW (K : PySem.W.Frag) (C : Addr) : Bool := decide (PySem.W.kitOne K (.ref C) (.ref C) = some true) && (decide (PySem.W.findIn K (.ref C) "__class__" = some (some (.builtin "object.__class__"))) && (decide (PySem.W.specialIn K (.builtin "object.__class__") "__get__" = some (some (.builtin "getset_descriptor.__get__"))) && (decide (PySem.W.takesIn K (.builtin "object.__class__") = some true) && decide (PySem.W.mroIn K C (.type "object") = some true))))
def exW (K : PySem.W.Frag) : Bool := (He.Fa.cls "World").ok K && ((He.Fa.mkr "World").ok K && ((worldF.all fun f => (He.Fa.noat "World" f).ok K) && (wmeth.all fun m => (He.Fa.meth "World" m).ok K) && emptyB K (dfl0 K) && kitW K (He.ga K "World")))
/-- what is asked of the class BadOrder -/
def bo (K : PySem.W.Frag) : Addr := He.ga K "BadOrder"
def kitN : List (Str × Bool) := [("BadOrder", true), ("BadWorld", false), ("BadRow", false), ("NoSuchRelation", false)]
def exX (K : PySem.W.Frag) : Bool := XV.exB K (bo K) && (PySem.W.excIn K (bo K) XV.veB "ValueError.__new__" && ((kitN.all fun p => decide (PySem.W.kitOne K (.ref (bo K)) (.ref (He.ga K p.1)) = some p.2)) && (decide (PySem.W.kitOne K (.ref (bo K)) (.type "ValueError") = some true) && decide (PySem.W.exmOne K (.ref (bo K)) (.ref (He.ga K "OnceError")) = some true))))
def ex (K : PySem.W.Frag) : Bool := exW K && exX K
abbrev TX (K : PySem.W.Frag) (mg : Str → Option Value) : Prop := RX.TxC gloN freeN fnD intN tupN ex K mg
end T
namespace Kx
open PySem PySem.Spec PyProof.Rows L2 Evl LX T XV RX
variable {P : Program} {w : World} {K : PySem.W.Frag} {mg : Str → Option Value} {base : Heap}
/-! ### is_whole -/
def dWholeK (K : PySem.W.Frag) : List V → Hp → (V → Hp → Prop) → Prop := fun vs B Pz => ∃ v d, vs = [v] ∧ Dp K B v d ∧ Pz = IsV (.bl (wholeD d))
theorem kit_whole {K : PySem.W.Frag} {H : Hp} {v : V} {d : PyData} (h : Dp K H v d) : ∃ a b, kitB (tyD d) "int" = some a ∧ kitB (tyD d) "bool" = some b ∧ (a && !b) = wholeD d := by
  cases h with
  | non => exact ⟨false, false, (show kitB "NoneType" "int" = _ by decide +kernel), (show kitB "NoneType" "bool" = _ by decide +kernel), rfl⟩
  | bl b => exact ⟨true, true, (show kitB "bool" "int" = _ by decide +kernel), (show kitB "bool" "bool" = _ by decide +kernel), rfl⟩
  | int i => exact ⟨true, false, (show kitB "int" "int" = _ by decide +kernel), (show kitB "int" "bool" = _ by decide +kernel), rfl⟩
  | str x => exact ⟨false, false, (show kitB "str" "int" = _ by decide +kernel), (show kitB "str" "bool" = _ by decide +kernel), rfl⟩
  | lst _ _ => exact ⟨false, false, (show kitB "list" "int" = _ by decide +kernel), (show kitB "list" "bool" = _ by decide +kernel), rfl⟩
  | tup _ _ => exact ⟨false, false, (show kitB "tuple" "int" = _ by decide +kernel), (show kitB "tuple" "bool" = _ by decide +kernel), rfl⟩
abbrev is_whole_N : List Str := ["value"]
abbrev is_whole_P : List Str := ["value"]
theorem sc_is_whole : FnScope ["value"] ["value"] (defScope s_is_whole) := ⟨rfl, rfl, rfl, by decide +kernel, rfl, by decide +kernel, by decide +kernel⟩
theorem ok_is_whole (T : TX K mg) : OkF P w K mg base 1 "is_whole" ["value"] (spR (dWholeK K)) := by
  have n_isinstance := T.n "isinstance" (by decide +kernel)
  have n_bool := T.n "bool" (by decide +kernel)
  have n_int := T.n "int" (by decide +kernel)
  refine T.okF 2 rfl (by decide +kernel) (fun f fd F => ?_) (fun _ _ _ _ _ _ us hl => match us, hl with | [_], _ => rfl)
  refine F.ok sc_is_whole (fun vs H Q E h => spR_len h (by rintro B Pz ⟨v, d, rfl, _⟩; rfl)) (fun cdv A outer s H vs Q E hr ⟨B, Pz, e, ⟨v, d, hvs, hd, hP⟩, q⟩ => ?_)
  subst hvs hP
  refine ⟨_, (pss_one (ps_ret (pe_and (pe_callB (LX.k_isi (K := K)) (by rfl) n_isinstance (by decide +kernel) (pa_cons (pv 0) (pa_cons (pe_bltn (v := .ty "int") (u := .type "int") (by rfl) n_int (by decide +kernel) rfl) pa_nil))) (pe_one (pe_not (pe_callB (LX.k_isi (K := K)) (by rfl) n_isinstance (by decide +kernel) (pa_cons (pv 0) (pa_cons (pe_bltn (v := .ty "bool") (u := .type "bool") (by rfl) n_bool (by decide +kernel) rfl) pa_nil)))))))), ?_⟩
  obtain ⟨a, b, ka, kb, hab⟩ := kit_whole hd
  exact x_ret (X := H) (B := B) (eR_v (ev_is (ev_andV (ev_isiD (ev_var rfl) hd ka) fun _ => (ev_notV (ev_isiD (ev_var rfl) hd kb))) (congrArg V.bl hab))) (fun z B' H' g p e1 e2 => q z H' B' e2 g e1 p) H e (Ex.refl H)
/-! ### is_between -/
def dBetween (K : PySem.W.Frag) : List V → Hp → (V → Hp → Prop) → Prop := fun vs B Pz => ∃ v d lo hi, vs = [v, .int lo, .int hi] ∧ Dp K B v d ∧ Pz = IsV (.bl (betweenD d lo hi))
abbrev is_between_N : List Str := ["value", "low", "high"]
abbrev is_between_P : List Str := ["value", "low", "high"]
theorem sc_is_between : FnScope ["value", "low", "high"] ["value", "low", "high"] (defScope s_is_between) := ⟨rfl, rfl, rfl, by decide +kernel, rfl, by decide +kernel, by decide +kernel⟩
theorem ok_is_between (T : TX K mg) : OkF P w K mg base 2 "is_between" ["value", "low", "high"] (spR (dBetween K)) := by
  refine T.okF 3 rfl (by decide +kernel) (fun f fd F => ?_) (fun _ _ _ _ _ _ us hl => match us, hl with | [_, _, _], _ => rfl)
  have O_is_whole := ok_is_whole (P := P) (w := w) (base := base) T
  refine F.ok sc_is_between (fun vs H Q E h => spR_len h (by rintro B Pz ⟨v, d, lo, hi, rfl, _⟩; rfl)) (fun cdv A outer s H vs Q E hr ⟨B, Pz, e, ⟨v, d, lo, hi, hvs, hd, hP⟩, q⟩ => ?_)
  subst hvs hP
  refine ⟨_, (pss_one (ps_ret (pe_and (LX.pe_f O_is_whole hr (by decide) (pa_cons (pv 0) pa_nil)) (pe_one (pe_chain op_le op_le (pv 1) (pv 0) (pv 2)))))), ?_⟩
  refine x_ret (X := H) (B := B) (eR_v (v := .bl (betweenD d lo hi)) ?_) (fun z B' H' g p e1 e2 => q z H' B' e2 g e1 p) H e (Ex.refl H)
  have hc : Ev (tCall (spR (dWholeK K)) [] E0 (tCons (tVar 0) tNil)) (start is_between_N [v, .int lo, .int hi]) B (.bl (wholeD d)) := (er_callV (P := IsV _) (ea_cons (ev_var rfl) ea_nil) ⟨v, d, rfl, hd, rfl⟩ fun B' e => ⟨v, d, rfl, dp_ex e hd, rfl⟩).val
  cases hd with
  | int i => exact ev_andV (a := true) (b := decide (lo ≤ i) && decide (i ≤ hi)) hc fun _ => ev_chain (f := fun i j => decide (i ≤ j)) (g := fun i j => decide (i ≤ j)) (ev_var rfl) (ev_var rfl) (ev_var rfl)
  | _ => exact ev_andV (a := false) (b := true) hc fun h => nomatch h
/-! ### is_sequence -/
def dSequence (K : PySem.W.Frag) : List V → Hp → (V → Hp → Prop) → Prop := fun vs B Pz => ∃ v d, vs = [v] ∧ Dp K B v d ∧ Pz = IsV (.bl (seqD d).isSome)
abbrev is_sequence_N : List Str := ["value"]
abbrev is_sequence_P : List Str := ["value"]
theorem sc_is_sequence : FnScope ["value"] ["value"] (defScope s_is_sequence) := ⟨rfl, rfl, rfl, by decide +kernel, rfl, by decide +kernel, by decide +kernel⟩
theorem kit_seq {K : PySem.W.Frag} {H : Hp} {v : V} {d : PyData} (h : Dp K H v d) : ∃ a b, kitB (tyD d) "tuple" = some a ∧ kitB (tyD d) "list" = some b ∧ (a || b) = (seqD d).isSome := by
  cases h with
  | non => exact ⟨false, false, (show kitB "NoneType" "tuple" = _ by decide +kernel), (show kitB "NoneType" "list" = _ by decide +kernel), rfl⟩
  | bl b => exact ⟨false, false, (show kitB "bool" "tuple" = _ by decide +kernel), (show kitB "bool" "list" = _ by decide +kernel), rfl⟩
  | int i => exact ⟨false, false, (show kitB "int" "tuple" = _ by decide +kernel), (show kitB "int" "list" = _ by decide +kernel), rfl⟩
  | str x => exact ⟨false, false, (show kitB "str" "tuple" = _ by decide +kernel), (show kitB "str" "list" = _ by decide +kernel), rfl⟩
  | lst _ _ => exact ⟨false, true, (show kitB "list" "tuple" = _ by decide +kernel), (show kitB "list" "list" = _ by decide +kernel), rfl⟩
  | tup _ _ => exact ⟨true, false, (show kitB "tuple" "tuple" = _ by decide +kernel), (show kitB "tuple" "list" = _ by decide +kernel), rfl⟩
theorem ok_is_sequence (T : TX K mg) : OkF P w K mg base 1 "is_sequence" ["value"] (spR (dSequence K)) := by
  have n_isinstance := T.n "isinstance" (by decide +kernel)
  have n_list := T.n "list" (by decide +kernel)
  have n_tuple := T.n "tuple" (by decide +kernel)
  refine T.okF 4 rfl (by decide +kernel) (fun f fd F => ?_) (fun _ _ _ _ _ _ us hl => match us, hl with | [_], _ => rfl)
  refine F.ok sc_is_sequence (fun vs H Q E h => spR_len h (by rintro B Pz ⟨v, d, rfl, _⟩; rfl)) (fun cdv A outer s H vs Q E hr ⟨B, Pz, e, ⟨v, d, hvs, hd, hP⟩, q⟩ => ?_)
  subst hvs hP
  refine ⟨_, (pss_one (ps_ret (pe_callB (RX.k_isiT (K := K)) (by rfl) n_isinstance (by decide +kernel) (pa_cons (pv 0) (pa_cons (pe_tup (pa_cons (pe_bltn (v := .ty "tuple") (u := .type "tuple") (by rfl) n_tuple (by decide +kernel) rfl) (pa_cons (pe_bltn (v := .ty "list") (u := .type "list") (by rfl) n_list (by decide +kernel) rfl) pa_nil))) pa_nil))))), ?_⟩
  obtain ⟨a, b, ka, kb, hab⟩ := kit_seq hd
  exact x_ret (X := H) (B := B) (eR_v (ev_is (ev_isiT2 (ev_var rfl) hd ka kb) (congrArg V.bl hab))) (fun z B' H' g p e1 e2 => q z H' B' e2 g e1 p) H e (Ex.refl H)
theorem ev_sequence {σ : L2.St} {B : Hp} {te : TE} {v : V} {d : PyData} (h : Ev te σ B v) (hd : Dp K B v d) : Ev (tCall (spR (dSequence K)) [] E0 (tCons te tNil)) σ B (.bl (seqD d).isSome) := (er_callV (P := IsV _) (ea_cons h ea_nil) ⟨v, d, rfl, hd, rfl⟩ fun B' e => ⟨v, d, rfl, dp_ex e hd, rfl⟩).val
theorem ev_between {σ : L2.St} {B : Hp} {te ta tb : TE} {v : V} {d : PyData} {lo hi : Int} (h : Ev te σ B v) (ha : Ev ta σ B (.int lo)) (hb : Ev tb σ B (.int hi)) (hd : Dp K B v d) : Ev (tCall (spR (dBetween K)) [] E0 (tCons te (tCons ta (tCons tb tNil)))) σ B (.bl (betweenD d lo hi)) :=
  (er_callV (P := IsV _) (ea_cons h (ea_cons ha (ea_cons hb ea_nil))) ⟨v, d, lo, hi, rfl, hd, rfl⟩ fun B' e => ⟨v, d, lo, hi, rfl, dp_ex e hd, rfl⟩).val
/-! ### is_thing -/
def dThing (K : PySem.W.Frag) : List V → Hp → (V → Hp → Prop) → Prop := fun vs B Pz => ∃ v d size, vs = [v, .int size] ∧ Dp K B v d ∧ Pz = IsV (.bl (betweenD d 0 (size - 1)))
abbrev is_thing_N : List Str := ["value", "size"]
abbrev is_thing_P : List Str := ["value", "size"]
theorem sc_is_thing : FnScope ["value", "size"] ["value", "size"] (defScope s_is_thing) := ⟨rfl, rfl, rfl, by decide +kernel, rfl, by decide +kernel, by decide +kernel⟩
theorem ok_is_thing (T : TX K mg) : OkF P w K mg base 3 "is_thing" ["value", "size"] (spR (dThing K)) := by
  refine T.okF 6 rfl (by decide +kernel) (fun f fd F => ?_) (fun _ _ _ _ _ _ us hl => match us, hl with | [_, _], _ => rfl)
  have O_is_between := ok_is_between (P := P) (w := w) (base := base) T
  refine F.ok sc_is_thing (fun vs H Q E h => spR_len h (by rintro B Pz ⟨v, d, s, rfl, _⟩; rfl)) (fun cdv A outer s H vs Q E hr ⟨B, Pz, e, ⟨v, d, size, hvs, hd, hP⟩, q⟩ => ?_)
  subst hvs hP
  refine ⟨_, (pss_one (ps_ret (LX.pe_f O_is_between hr (by decide) (pa_cons (pv 0) (pa_cons pe_int (pa_cons (pe_op op_sub (pv 1) pe_int) pa_nil)))))), ?_⟩
  exact x_ret (X := H) (B := B) (eR_v (ev_between (ev_var rfl) ev_c (ev_op (ev_var rfl) ev_c rv_I0) hd)) (fun z B' H' g p e1 e2 => q z H' B' e2 g e1 p) H e (Ex.refl H)
theorem ev_thing {σ : L2.St} {B : Hp} {te ta : TE} {v : V} {d : PyData} {size : Int} (h : Ev te σ B v) (ha : Ev ta σ B (.int size)) (hd : Dp K B v d) : Ev (tCall (spR (dThing K)) [] E0 (tCons te (tCons ta tNil))) σ B (.bl (betweenD d 0 (size - 1))) :=
  (er_callV (P := IsV _) (ea_cons h (ea_cons ha ea_nil)) ⟨v, d, size, rfl, hd, rfl⟩ fun B' e => ⟨v, d, size, rfl, dp_ex e hd, rfl⟩).val
/-! ### is_name -/
def resS : List Str := ["some", "every", "not", "and", "or", "walk", "more", "than", "first", "last", "next"]
def nameOkS (s : Str) : Bool := decide (1 ≤ (s.length : Int)) && decide ((s.length : Int) ≤ 12) && (Txt.isascii s && (Txt.isalnum s && Txt.islower s)) && (!Txt.isdigit ⟨#[s.cps.toList.getD 0 0]⟩ && !inV (.str s) (resS.map V.str))
def nameD : PyData → Bool
  | .str s => nameOkS s
  | _ => false
def dName (K : PySem.W.Frag) : List V → Hp → (V → Hp → Prop) → Prop := fun vs B Pz => ∃ v d, vs = [v] ∧ Dp K B v d ∧ smD d = true ∧ Pz = IsV (.bl (nameD d))
theorem kit_str {K : PySem.W.Frag} {H : Hp} {v : V} {d : PyData} (h : Dp K H v d) : (∃ s, v = .str s ∧ d = .str s ∧ kitB (tyD d) "str" = some true) ∨ (nameD d = false ∧ kitB (tyD d) "str" = some false) := by
  cases h with
  | non => exact .inr ⟨rfl, (show kitB "NoneType" "str" = _ by decide +kernel)⟩
  | bl b => exact .inr ⟨rfl, (show kitB "bool" "str" = _ by decide +kernel)⟩
  | int i => exact .inr ⟨rfl, (show kitB "int" "str" = _ by decide +kernel)⟩
  | str x => exact .inl ⟨x, rfl, rfl, (show kitB "str" "str" = _ by decide +kernel)⟩
  | lst _ _ => exact .inr ⟨rfl, (show kitB "list" "str" = _ by decide +kernel)⟩
  | tup _ _ => exact .inr ⟨rfl, (show kitB "tuple" "str" = _ by decide +kernel)⟩
abbrev is_name_N : List Str := ["value"]
abbrev is_name_P : List Str := ["value"]
theorem sc_is_name : FnScope ["value"] ["value"] (defScope s_is_name) := ⟨rfl, rfl, rfl, by decide +kernel, rfl, by decide +kernel, by decide +kernel⟩
theorem ok_is_name (T : TX K mg) : OkF P w K mg base 1 "is_name" ["value"] (spR (dName K)) := by
  have n_isinstance := T.n "isinstance" (by decide +kernel)
  have n_str := T.n "str" (by decide +kernel)
  have n_len := T.n "len" (by decide +kernel)
  obtain ⟨_, g_LONGEST_NAME⟩ := T.i ("LONGEST_NAME", 12) (by decide +kernel)
  have g_RESERVED := T.g "RESERVED" (by decide +kernel)
  refine T.okF 5 rfl (by decide +kernel) (fun f fd F => ?_) (fun _ _ _ _ _ _ us hl => match us, hl with | [_], _ => rfl)
  refine F.ok sc_is_name (fun vs H Q E h => spR_len h (by rintro B Pz ⟨v, d, rfl, _⟩; rfl)) (fun cdv A outer s H vs Q E hr ⟨B, Pz, e, ⟨v, d, hvs, hd, hsm, hP⟩, q⟩ => ?_)
  subst hvs hP
  refine ⟨_, (pss_cons (ps_if (pw_or (pt_not (pt_val (pe_callB (LX.k_isi (K := K)) (by rfl) n_isinstance (by decide +kernel) (pa_cons (pv 0) (pa_cons (pe_bltn (v := .ty "str") (u := .type "str") (by rfl) n_str (by decide +kernel) rfl) pa_nil))))) (pw_or1 (pt_not (pt_chain op_le op_le pe_int (pe_callB call_len_str (by rfl) n_len (by decide +kernel) (pa_cons (pv 0) pa_nil)) (pe_glob (v := .int 12) (by rfl) g_LONGEST_NAME ⟨_, rfl⟩))))).pt (pss_one (ps_ret pe_bl)) pss_nil)
        (pss_cons (ps_if (pw_or (pt_not (pt_val (pe_m0 PySem.F.slot_str_isascii PySem.F.type_str_isascii mt_isascii (pv 0)))) (pw_or (pt_not (pt_val (pe_m0 PySem.F.slot_str_isalnum PySem.F.type_str_isalnum mt_isalnum (pv 0)))) (pw_or1 (pt_not (pt_val (pe_m0 PySem.F.slot_str_islower PySem.F.type_str_islower mt_islower (pv 0))))))).pt (pss_one (ps_ret pe_bl)) pss_nil)
        (pss_one (ps_ret (pe_and (pe_not (pe_m0 PySem.F.slot_str_isdigit PySem.F.type_str_isdigit mt_isdigit (pe_ix ix_str (pv 0) pe_int (fun _ _ => rfl)))) (pe_one (pe_cmpR (LX.k_notIn (K := K)) (pv 0) (pe_glob (v := .ref (He.ga K "RESERVED")) (by rfl) g_RESERVED rfl) (by rfl)))))))), ?_⟩
  rcases kit_str hd with ⟨s, rfl, rfl, kt⟩ | ⟨hn, kt⟩
  · have hsl : s.length ≤ 40000 := of_decide_eq_true hsm
    refine x_when (X := H) (B := B) (b := !(decide (1 ≤ (s.length : Int)) && decide ((s.length : Int) ≤ 12))) (et_is (et_or (a := false) (b := !(decide (1 ≤ (s.length : Int)) && decide ((s.length : Int) ≤ 12))) (et_not (a := true) (et_B (ev_isiD (ev_var rfl) hd kt))) (fun _ => et_not (et_test (ev_chain (f := fun i j => decide (i ≤ j)) (g := fun i j => decide (i ≤ j)) ev_c (ev_lenS (ev_var rfl) (by omega)) ev_c)))) (Bool.false_or _)) (fun h => ?_) (fun h => ?_) H e (Ex.refl H)
    · have h : (decide (1 ≤ (s.length : Int)) && decide ((s.length : Int) ≤ 12)) = false := by
        cases c : (decide (1 ≤ (s.length : Int)) && decide ((s.length : Int) ≤ 12)) with
        | false => rfl
        | true => rw [c] at h; exact nomatch h
      refine x_ret (eR_v (v := .bl (nameOkS s)) (ev_is ev_c ?_)) (fun z B' H' g p e1 e2 => q z H' B' e2 g e1 p)
      unfold nameOkS
      rw [h]
      rfl
    · have h : (decide (1 ≤ (s.length : Int)) && decide ((s.length : Int) ≤ 12)) = true := by
        cases c : (decide (1 ≤ (s.length : Int)) && decide ((s.length : Int) ≤ 12)) with
        | true => rfl
        | false => rw [c] at h; exact nomatch h
      have h1 : 1 ≤ (s.length : Int) := of_decide_eq_true (Bool.and_eq_true_iff.mp h).1
      have hat : atI s.cps.toList 0 = some (s.cps.toList.getD 0 0) := by
        have hp : 0 < s.cps.toList.length := by
          have : s.cps.toList.length = s.length := Array.length_toList
          omega
        refine atI_nat (j := 0) ?_
        rw [List.getD_eq_getElem?_getD, List.getElem?_eq_getElem hp]
        rfl
      refine x_when (b := !(Txt.isascii s && (Txt.isalnum s && Txt.islower s))) (et_is (et_or (a := !Txt.isascii s) (b := !(Txt.isalnum s && Txt.islower s)) (et_not (et_B (ev_m0 (ev_var rfl) fun H Q q => ⟨s, rfl, rfl, trivial, q⟩))) (fun _ => et_is (et_or (a := !Txt.isalnum s) (b := !Txt.islower s) (et_not (et_B (ev_m0 (ev_var rfl) fun H Q q => ⟨s, rfl, rfl, trivial, q⟩))) (fun _ => et_not (et_B (ev_m0 (ev_var rfl) fun H Q q => ⟨s, rfl, rfl, trivial, q⟩)))) (by cases Txt.isalnum s <;> rfl))) (by cases Txt.isascii s <;> rfl)) (fun h' => ?_) (fun h' => ?_)
      · refine x_ret (eR_v (v := .bl (nameOkS s)) (ev_is ev_c ?_)) (fun z B' H' g p e1 e2 => q z H' B' e2 g e1 p)
        have h' : (Txt.isascii s && (Txt.isalnum s && Txt.islower s)) = false := by
          cases c : (Txt.isascii s && (Txt.isalnum s && Txt.islower s)) with
          | false => rfl
          | true => rw [c] at h'; exact nomatch h'
        unfold nameOkS
        rw [h, h']
        rfl
      · refine x_ret (eR_v (v := .bl (nameOkS s)) (ev_is (ev_andV (a := !Txt.isdigit ⟨#[s.cps.toList.getD 0 0]⟩) (b := !inV (.str s) (resS.map V.str)) (ev_notV (ev_m0 (ev_op (ev_var rfl) ev_c (rv_ixS (by omega) hat)) fun H Q q => ⟨_, rfl, rfl, trivial, q⟩)) fun _ => ev_op (ev_var rfl) ev_c (rv_niT (T.u ("RESERVED", tup_RESERVED) List.mem_cons_self B) rfl rfl)) ?_)) (fun z B' H' g p e1 e2 => q z H' B' e2 g e1 p)
        have h' : (Txt.isascii s && (Txt.isalnum s && Txt.islower s)) = true := by
          cases c : (Txt.isascii s && (Txt.isalnum s && Txt.islower s)) with
          | true => rfl
          | false => rw [c] at h'; exact nomatch h'
        unfold nameOkS
        rw [h, h']
        rfl
  · refine x_when (X := H) (B := B) (b := true) (et_or (a := true) (b := true) (et_not (a := false) (et_B (ev_isiD (ev_var rfl) hd kt))) (fun h => nomatch h)) (fun _ => ?_) (fun h => nomatch h) H e (Ex.refl H)
    exact x_ret (eR_v (v := .bl (nameD d)) (ev_is ev_c (by rw [hn]))) (fun z B' H' g p e1 e2 => q z H' B' e2 g e1 p)
theorem ev_name {σ : L2.St} {B : Hp} {te : TE} {v : V} {d : PyData} (h : Ev te σ B v) (hd : Dp K B v d) (hs : smD d = true) : Ev (tCall (spR (dName K)) [] E0 (tCons te tNil)) σ B (.bl (nameD d)) := (er_callV (P := IsV _) (ea_cons h ea_nil) ⟨v, d, rfl, hd, hs, rfl⟩ fun B' e => ⟨v, d, rfl, dp_ex e hd, hs, rfl⟩).val
/-! ### is_row -/
def rowD (d : PyData) (len size : Int) : Bool := match seqD d with
  | some ds => decide ((ds.length : Int) = len) && ds.all fun x => betweenD x 0 (size - 1)
  | none => false
theorem rowD_none {d : PyData} {len size : Int} (h : seqD d = none) : rowD d len size = false := by unfold rowD; rw [h]
theorem rowD_some {d : PyData} {ds : List PyData} {len size : Int} (h : seqD d = some ds) : rowD d len size = (decide ((ds.length : Int) = len) && ds.all fun x => betweenD x 0 (size - 1)) := by unfold rowD; rw [h]
def dRow (K : PySem.W.Frag) : List V → Hp → (V → Hp → Prop) → Prop := fun vs B Pz => ∃ v d len size, vs = [v, .int len, .int size] ∧ Dp K B v d ∧ len ≤ 40000 ∧ Pz = IsV (.bl (rowD d len size))
abbrev is_row_N : List Str := ["value", "length", "size", "member"]
abbrev is_row_P : List Str := ["value", "length", "size"]
theorem sc_is_row : FnScope ["value", "length", "size", "member"] ["value", "length", "size"] (defScope s_is_row) := ⟨rfl, rfl, rfl, by decide +kernel, rfl, by decide +kernel, by decide +kernel⟩
theorem ok_is_row (T : TX K mg) : OkF P w K mg base 4 "is_row" ["value", "length", "size"] (spR (dRow K)) := by
  have n_len := T.n "len" (by decide +kernel)
  have n_all := T.n "all" (by decide +kernel)
  refine T.okF 7 rfl (by decide +kernel) (fun f fd F => ?_) (fun _ _ _ _ _ _ us hl => match us, hl with | [_, _, _], _ => rfl)
  have O_is_sequence := ok_is_sequence (P := P) (w := w) (base := base) T
  have O_is_thing := ok_is_thing (P := P) (w := w) (base := base) T
  refine F.ok sc_is_row (fun vs H Q E h => spR_len h (by rintro B Pz ⟨v, d, l, s, rfl, _⟩; rfl)) (fun cdv A outer s H vs Q E hr ⟨B, Pz, e, ⟨v, d, len, size, hvs, hd, hlen, hP⟩, q⟩ => ?_)
  subst hvs hP
  refine ⟨_, (pss_cons (ps_if (pw_or (pt_not (pt_val (LX.pe_f O_is_sequence hr (by decide) (pa_cons (pv 0) pa_nil)))) (pw_or1 (pt_cmpR op_ne (pe_callB (LX.k_len (K := K)) (by rfl) n_len (by decide +kernel) (pa_cons (pv 0) pa_nil)) (pv 1) (nomark _)))).pt (pss_one (ps_ret pe_bl)) pss_nil)
        (pss_one (ps_ret (pe_callB (RX.k_all (K := K) rfl) (by rfl) n_all (by decide +kernel) (pa_cons (pe_lc (own := [("member", 3)]) (g := gName 3) (tt := tYes) rfl sc_is_row.nd (RX.pi_seq (K := K) (pv 0)) (blkOk_by (N := is_row_N) (sc := defScope s_is_row) (by decide +kernel)) (fun _ _ _ _ _ => pg_name (i := 3) sc_is_row.nd rfl (Or.inl rfl)) (fun _ _ _ _ _ => pts_nil) (fun _ _ _ _ _ => (LX.pe_f O_is_thing hr (by decide) (pa_cons (pv 3) (pa_cons (pv 2) pa_nil))))) pa_nil))))), ?_⟩
  cases hs : seqD d with
  | none =>
    refine x_when (X := H) (B := B) (b := true) (et_or (a := true) (b := true) (et_not (a := false) (et_B (ev_is (ev_sequence (ev_var rfl) hd) (by rw [hs]; rfl)))) (fun h => nomatch h)) (fun _ => ?_) (fun h => nomatch h) H e (Ex.refl H)
    exact x_ret (eR_v (v := .bl (rowD d len size)) (ev_is ev_c (by rw [rowD_none hs]))) (fun z B' H' g p e1 e2 => q z H' B' e2 g e1 p)
  | some ds =>
    obtain ⟨a, xs, rfl, hx, hxs⟩ := dp_seq hd hs
    have hl := dps_len hxs
    refine x_when (X := H) (B := B) (b := !decide ((xs.length : Int) = len)) (et_is (et_or (a := false) (b := !decide ((xs.length : Int) = len)) (et_not (a := true) (et_B (ev_is (ev_sequence (ev_var rfl) hd) (by rw [hs]; rfl)))) (fun _ => et_test (ev_is (ev_op (ev_lenA (ev_var rfl) hx) (ev_var rfl) (rv_ne rfl)) (by simp)))) (Bool.false_or _)) (fun h => ?_) (fun h => ?_) H e (Ex.refl H)
    · have h : ¬ ((xs.length : Int) = len) := by simpa using h
      refine x_ret (eR_v (v := .bl (rowD d len size)) (ev_is ev_c ?_)) (fun z B' H' g p e1 e2 => q z H' B' e2 g e1 p)
      rw [rowD_some hs, ← hl, decide_eq_false h]
      rfl
    · have h : (xs.length : Int) = len := by simpa using h
      refine x_ret (eR_v (v := .bl (rowD d len size)) (ev_is (ev_allLc (xs := xs) (b := fun i => betweenD (ds.getD i .none) 0 (size - 1)) (ei_seq (ev_var rfl) hx) (by omega) (fun _ => rfl) (fun i x B' e1 hi => ?_)) ?_)) (fun z B' H' g p e1 e2 => q z H' B' e2 g e1 p)
      · obtain ⟨dx, hdx, hdp⟩ := dps_get hxs hi
        have : ds.getD i .none = dx := by rw [List.getD_eq_getElem?_getD, hdx]; rfl
        rw [this]
        exact ev_thing (ev_var rfl) (ev_var rfl) (dp_ex e1 hdp)
      · rw [rowD_some hs, all_range _ PyData.none ds, ← hl, decide_eq_true h]
        rfl
theorem ev_row {σ : L2.St} {B : Hp} {te ta tb : TE} {v : V} {d : PyData} {len size : Int} (h : Ev te σ B v) (ha : Ev ta σ B (.int len)) (hb : Ev tb σ B (.int size)) (hl : len ≤ 40000) (hd : Dp K B v d) : Ev (tCall (spR (dRow K)) [] E0 (tCons te (tCons ta (tCons tb tNil)))) σ B (.bl (rowD d len size)) :=
  (er_callV (P := IsV _) (ea_cons h (ea_cons ha (ea_cons hb ea_nil))) ⟨v, d, len, size, rfl, hd, hl, rfl⟩ fun B' e => ⟨v, d, len, size, rfl, dp_ex e hd, hl, rfl⟩).val
end Kx
namespace Kx
open PySem PySem.Spec PyProof.Rows L2 Evl LX T XV RX
variable {P : Program} {w : World} {K : PySem.W.Frag} {mg : Str → Option Value} {base : Heap}
/-! ### is_relation -/
def intD : PyData → Int
  | .int i => i
  | _ => 0
def rowsD (r : PyData) (ar size : Int) : Bool := match seqD r with
  | some rs => rs.all fun x => rowD x ar size
  | none => false
def relL (ds : List PyData) (size : Int) : Bool := match ds with
  | [n, a, r] => nameD n && (betweenD a 1 3 && rowsD r (intD a) size)
  | _ => false
def relD (d : PyData) (size : Int) : Bool := match seqD d with
  | some ds => relL ds size
  | none => false
theorem relD_some {d : PyData} {ds : List PyData} {size : Int} (h : seqD d = some ds) : relD d size = relL ds size := by unfold relD; rw [h]
theorem relD_none {d : PyData} {size : Int} (h : seqD d = none) : relD d size = false := by unfold relD; rw [h]
theorem rowsD_some {d : PyData} {ds : List PyData} {ar size : Int} (h : seqD d = some ds) : rowsD d ar size = ds.all fun x => rowD x ar size := by unfold rowsD; rw [h]
theorem rowsD_none {d : PyData} {ar size : Int} (h : seqD d = none) : rowsD d ar size = false := by unfold rowsD; rw [h]
theorem between_int {a : PyData} {lo hi : Int} (h : betweenD a lo hi = true) : ∃ i, a = .int i ∧ lo ≤ i ∧ i ≤ hi := by
  cases a with
  | int i =>
    have h : (decide (lo ≤ i) && decide (i ≤ hi)) = true := h
    exact ⟨i, rfl, of_decide_eq_true (Bool.and_eq_true_iff.mp h).1, of_decide_eq_true (Bool.and_eq_true_iff.mp h).2⟩
  | _ => exact nomatch h
def dRelation (K : PySem.W.Frag) : List V → Hp → (V → Hp → Prop) → Prop := fun vs B Pz => ∃ v d size, vs = [v, .int size] ∧ Dp K B v d ∧ smD d = true ∧ Pz = IsV (.bl (relD d size))
abbrev is_relation_N : List Str := ["entry", "size", "name", "arity", "rows", "row"]
abbrev is_relation_P : List Str := ["entry", "size"]
theorem sc_is_relation : FnScope ["entry", "size", "name", "arity", "rows", "row"] ["entry", "size"] (defScope s_is_relation) := ⟨rfl, rfl, rfl, by decide +kernel, rfl, by decide +kernel, by decide +kernel⟩
theorem ok_is_relation (T : TX K mg) : OkF P w K mg base 5 "is_relation" ["entry", "size"] (spR (dRelation K)) := by
  have n_len := T.n "len" (by decide +kernel)
  have n_all := T.n "all" (by decide +kernel)
  obtain ⟨_, g_LARGEST_ARITY⟩ := T.i ("LARGEST_ARITY", 3) (by decide +kernel)
  refine T.okF 8 rfl (by decide +kernel) (fun f fd F => ?_) (fun _ _ _ _ _ _ us hl => match us, hl with | [_, _], _ => rfl)
  have O_is_sequence := ok_is_sequence (P := P) (w := w) (base := base) T
  have O_is_name := ok_is_name (P := P) (w := w) (base := base) T
  have O_is_between := ok_is_between (P := P) (w := w) (base := base) T
  have O_is_row := ok_is_row (P := P) (w := w) (base := base) T
  refine F.ok sc_is_relation (fun vs H Q E h => spR_len h (by rintro B Pz ⟨v, d, s, rfl, _⟩; rfl)) (fun cdv A outer s H vs Q E hr ⟨B, Pz, e, ⟨v, d, size, hvs, hd, hsm, hP⟩, q⟩ => ?_)
  subst hvs hP
  refine ⟨_, (pss_cons (ps_if (pw_or (pt_not (pt_val (LX.pe_f O_is_sequence hr (by decide) (pa_cons (pv 0) pa_nil)))) (pw_or1 (pt_cmpR op_ne (pe_callB (LX.k_len (K := K)) (by rfl) n_len (by decide +kernel) (pa_cons (pv 0) pa_nil)) pe_int (nomark _)))).pt (pss_one (ps_ret pe_bl)) pss_nil)
        (pss_cons (ps_asg (pv 0) (RX.pg_seq (K := K) rfl (pgs_cons (pg_name (i := 2) sc_is_relation.nd rfl (.inl rfl)) (pgs_cons (pg_name (i := 3) sc_is_relation.nd rfl (.inr rfl)) (pgs_cons (pg_name (i := 4) sc_is_relation.nd rfl (.inl rfl)) pgs_nil)))))
        (pss_cons (ps_if (pw_or (pt_not (pt_val (LX.pe_f O_is_name hr (by decide) (pa_cons (pv 2) pa_nil)))) (pw_or (pt_not (pt_val (LX.pe_f O_is_between hr (by decide) (pa_cons (pv 3) (pa_cons pe_int (pa_cons (pe_glob (v := .int 3) (by rfl) g_LARGEST_ARITY ⟨_, rfl⟩) pa_nil)))))) (pw_or1 (pt_not (pt_val (LX.pe_f O_is_sequence hr (by decide) (pa_cons (pv 4) pa_nil))))))).pt (pss_one (ps_ret pe_bl)) pss_nil)
        (pss_one (ps_ret (pe_callB (RX.k_all (K := K) rfl) (by rfl) n_all (by decide +kernel) (pa_cons (pe_lc (own := [("row", 5)]) (g := gName 5) (tt := tYes) rfl sc_is_relation.nd (RX.pi_seq (K := K) (pv 4)) (blkOk_by (N := is_relation_N) (sc := defScope s_is_relation) (by decide +kernel)) (fun _ _ _ _ _ => pg_name (i := 5) sc_is_relation.nd rfl (Or.inl rfl)) (fun _ _ _ _ _ => pts_nil) (fun _ _ _ _ _ => (LX.pe_f O_is_row hr (by decide) (pa_cons (pv 5) (pa_cons (pv 3) (pa_cons (pv 1) pa_nil)))))) pa_nil))))))), ?_⟩
  have fin : ∀ {σ : L2.St} {te : TE} {D : Ends}, D.rt = Q → Ev te σ B (.bl (relD d size)) → Sx H (tRet te) D σ B := fun {σ te D} hD h => by
    subst hD
    exact x_ret (eR_v h) (fun z B' H' g p e1 e2 => q z H' B' e2 g e1 p)
  cases hs : seqD d with
  | none =>
    refine x_when (X := H) (B := B) (b := true) (et_or (a := true) (b := true) (et_not (a := false) (et_B (ev_is (ev_sequence (ev_var rfl) hd) (by rw [hs]; rfl)))) (fun h => nomatch h)) (fun _ => ?_) (fun h => nomatch h) H e (Ex.refl H)
    exact fin rfl (ev_is ev_c (by rw [relD_none hs]))
  | some ds =>
    obtain ⟨a, xs, rfl, hx, hxs⟩ := dp_seq hd hs
    have hl := dps_len hxs
    refine x_when (X := H) (B := B) (b := !decide ((xs.length : Int) = 3)) (et_is (et_or (a := false) (b := !decide ((xs.length : Int) = 3)) (et_not (a := true) (et_B (ev_is (ev_sequence (ev_var rfl) hd) (by rw [hs]; rfl)))) (fun _ => et_test (ev_is (ev_op (ev_lenA (ev_var rfl) hx) ev_c (rv_ne rfl)) (by simp)))) (Bool.false_or _)) (fun h => ?_) (fun h => ?_) H e (Ex.refl H)
    · have h : ¬ ((xs.length : Int) = 3) := by simpa using h
      refine fin rfl (ev_is ev_c ?_)
      rw [relD_some hs]
      match ds, hl with
      | [], _ => rfl
      | [_], _ => rfl
      | [_, _], _ => rfl
      | [_, _, _], hl => exact absurd (show (xs.length : Int) = 3 by rw [hl]; rfl) h
      | _ :: _ :: _ :: _ :: _, _ => rfl
    · have h : (xs.length : Int) = 3 := by simpa using h
      obtain ⟨x1, x2, x3, n, ar, r, rfl, rfl, d1, d2, d3⟩ := dps3 hxs (by omega)
      · obtain ⟨hsz, hmem⟩ := sm_seq hsm hs
        have s1 := hmem n List.mem_cons_self
        have s3 := hmem r (List.mem_cons_of_mem _ (List.mem_cons_of_mem _ List.mem_cons_self))
        refine x_unp3 (ev_var rfl) hx ?_
        refine x_when (b := !(nameD n && (betweenD ar 1 3 && (seqD r).isSome))) (et_is (et_or (a := !nameD n) (b := !(betweenD ar 1 3 && (seqD r).isSome)) (et_not (et_B (ev_name (ev_var rfl) d1 s1))) (fun _ => et_is (et_or (a := !betweenD ar 1 3) (b := !(seqD r).isSome) (et_not (et_B (ev_between (ev_var rfl) ev_c ev_c d2))) (fun _ => et_not (et_B (ev_sequence (ev_var rfl) d3)))) (by cases betweenD ar 1 3 <;> rfl))) (by cases nameD n <;> rfl)) (fun h => ?_) (fun h => ?_)
        · refine fin rfl (ev_is ev_c ?_)
          rw [relD_some hs]
          show V.bl false = .bl (nameD n && (betweenD ar 1 3 && rowsD r (intD ar) size))
          cases c1 : nameD n with
          | false => rfl
          | true =>
            cases c2 : betweenD ar 1 3 with
            | false => rfl
            | true =>
              cases c3 : seqD r with
              | none => rw [rowsD_none c3]; rfl
              | some rs => rw [c1, c2, c3] at h; exact nomatch h
        · cases c1 : nameD n with
          | false => rw [c1] at h; exact nomatch h
          | true =>
            cases c2 : betweenD ar 1 3 with
            | false => rw [c1, c2] at h; exact nomatch h
            | true =>
              cases c3 : seqD r with
              | none => rw [c1, c2, c3] at h; exact nomatch h
              | some rs =>
                obtain ⟨i, rfl, hi1, hi3⟩ := between_int c2
                obtain ⟨b, ys, rfl, hy, hys⟩ := dp_seq d3 c3
                have hyl := dps_len hys
                have hrs := sm_seq s3 c3
                have hx2 : x2 = .int i := by cases d2; rfl
                subst hx2
                refine fin rfl (ev_is (ev_allLc (xs := ys) (b := fun k => rowD (rs.getD k .none) i size) (ei_seq (ev_var rfl) hy) (by omega) (fun _ => rfl) (fun k x B' e1 hk => ?_)) ?_)
                · obtain ⟨dx, hdx, hdp⟩ := dps_get hys hk
                  have : rs.getD k .none = dx := by rw [List.getD_eq_getElem?_getD, hdx]; rfl
                  rw [this]
                  exact ev_row (ev_var rfl) (ev_var rfl) (ev_var rfl) (by omega) (dp_ex e1 hdp)
                · rw [relD_some hs]
                  show _ = V.bl (nameD n && (betweenD (.int i) 1 3 && rowsD r i size))
                  rw [c1, c2, rowsD_some c3, all_range _ PyData.none rs, ← hyl]
                  rfl
theorem ev_relation {σ : L2.St} {B : Hp} {te ta : TE} {v : V} {d : PyData} {size : Int} (h : Ev te σ B v) (ha : Ev ta σ B (.int size)) (hd : Dp K B v d) (hs : smD d = true) : Ev (tCall (spR (dRelation K)) [] E0 (tCons te (tCons ta tNil))) σ B (.bl (relD d size)) :=
  (er_callV (P := IsV _) (ea_cons h (ea_cons ha ea_nil)) ⟨v, d, size, rfl, hd, hs, rfl⟩ fun B' e => ⟨v, d, size, rfl, dp_ex e hd, hs, rfl⟩).val
end Kx
namespace Kx
open PySem PySem.Spec PyProof.Rows L2 Evl LX T XV RX WS
variable {P : Program} {w : World} {K : PySem.W.Frag} {mg : Str → Option Value} {base : Heap}
/-! ### relations as data -/
def rowOf (d : PyData) : List Int := match seqD d with
  | some ds => ds.map intD
  | none => []
def strD : PyData → Str
  | .str s => s
  | _ => ""
def relOf (size : Int) (d : PyData) : Rel := match seqD d with
  | some [n, a, r] => ⟨strD n, intD a, AS.ascR size (((seqD r).getD []).map rowOf)⟩
  | _ => ⟨"", 0, []⟩
theorem relOf_some {size : Int} {d n a r : PyData} (h : seqD d = some [n, a, r]) : relOf size d = ⟨strD n, intD a, AS.ascR size (((seqD r).getD []).map rowOf)⟩ := by unfold relOf; rw [h]
theorem ints_of : ∀ {ds : List PyData} {size : Int}, (ds.all fun x => betweenD x 0 (size - 1)) = true → ds = (ds.map intD).map PyData.int ∧ TS.Bd size (ds.map intD)
  | [], _, _ => ⟨rfl, fun m h => nomatch h⟩
  | d :: r, size, h => by
    rw [List.all_cons, Bool.and_eq_true] at h
    obtain ⟨i, rfl, h0, h1⟩ := between_int h.1
    obtain ⟨e, b⟩ := ints_of h.2
    refine ⟨?_, fun m hm => ?_⟩
    · rw [List.map_cons, List.map_cons, ← e]
      rfl
    · rcases List.mem_cons.mp hm with c | c
      · rw [c]; exact ⟨h0, by show i < size; omega⟩
      · exact b m c
theorem rowD_inv {d : PyData} {len size : Int} (h : rowD d len size = true) : seqD d = some ((rowOf d).map PyData.int) ∧ ((rowOf d).length : Int) = len ∧ TS.Bd size (rowOf d) := by
  cases hs : seqD d with
  | none => rw [rowD_none hs] at h; exact nomatch h
  | some ds =>
    rw [rowD_some hs, Bool.and_eq_true] at h
    obtain ⟨e, b⟩ := ints_of h.2
    have hr : rowOf d = ds.map intD := by unfold rowOf; rw [hs]
    rw [hr, ← e]
    exact ⟨rfl, by rw [List.length_map]; exact of_decide_eq_true h.1, b⟩
theorem relD_inv {d : PyData} {size : Int} (h : relD d size = true) : ∃ n ar r rs, seqD d = some [.str n, .int ar, r] ∧ nameOkS n = true ∧ 1 ≤ ar ∧ ar ≤ 3 ∧ seqD r = some rs ∧ ∀ x ∈ rs, rowD x ar size = true := by
  cases hs : seqD d with
  | none => rw [relD_none hs] at h; exact nomatch h
  | some ds =>
    rw [relD_some hs] at h
    match ds, h with
    | [n, a, r], h =>
      have h : (nameD n && (betweenD a 1 3 && rowsD r (intD a) size)) = true := h
      rw [Bool.and_eq_true, Bool.and_eq_true] at h
      obtain ⟨h1, h2, h3⟩ := h
      obtain ⟨i, rfl, i1, i3⟩ := between_int h2
      cases n with
      | str s =>
        cases hr : seqD r with
        | none => rw [rowsD_none hr] at h3; exact nomatch h3
        | some rs =>
          rw [rowsD_some hr] at h3
          exact ⟨s, i, r, rs, rfl, h1, i1, i3, hr, fun x hx => List.all_eq_true.mp h3 x hx⟩
      | _ => exact nomatch h1
    | [], h => exact nomatch h
    | [_], h => exact nomatch h
    | [_, _], h => exact nomatch h
    | _ :: _ :: _ :: _ :: _, h => exact nomatch h
/-- the rows of an entry are few -/
def fewD (d : PyData) : Bool := match seqD d with
  | some [_, _, r] => decide (((seqD r).getD []).length < 63)
  | _ => false
theorem fewD_some {d n a r : PyData} {rs : List PyData} (h : seqD d = some [n, a, r]) (hr : seqD r = some rs) (hf : fewD d = true) : rs.length < 63 := by
  unfold fewD at hf
  rw [h] at hf
  have hf := of_decide_eq_true hf
  rw [hr] at hf
  exact hf
/-- what World takes -/
structure RelsOk (size : Int) (ds : List PyData) : Prop where
  few : ds.length ≤ 12
  ok : ∀ x ∈ ds, relD x size = true
  sm : ∀ x ∈ ds, smD x = true
  rows : ∀ x ∈ ds, fewD x = true
  nd : (ds.map fun x => (relOf size x).name).Nodup
def dChecked (K : PySem.W.Frag) : List V → Hp → (V → Hp → Prop) → Prop := fun vs B Pz => ∃ v d ds size, vs = [.int size, v] ∧ Dp K B v d ∧ seqD d = some ds ∧ RelsOk size ds ∧ Pz = fun z B' => ∃ a kvs, z = .ref a ∧ B' a = some (.dK kvs) ∧ TabAt K (ds.map (relOf size)) kvs B'
theorem at3 {x y z : V} : atI [x, y, z] 0 = some x ∧ atI [x, y, z] 1 = some y ∧ atI [x, y, z] 2 = some z := ⟨atI_nat (j := 0) rfl, atI_nat (j := 1) rfl, atI_nat (j := 2) rfl⟩
theorem find_none {s : Str} : ∀ {rels : List Rel}, s ∉ rels.map (·.name) → rels.find? (fun r => decide (r.name = s)) = none
  | [], _ => rfl
  | r :: t, h => by
    rw [List.map_cons, List.mem_cons] at h
    rw [List.find?_cons, decide_eq_false fun c => h (.inl c.symm)]
    exact find_none fun c => h (.inr c)
abbrev checked_relations_N : List Str := ["size", "relations", "tables", "entry", "row"]
abbrev checked_relations_P : List Str := ["size", "relations"]
theorem sc_checked_relations : FnScope ["size", "relations", "tables", "entry", "row"] ["size", "relations"] (defScope s_checked_relations) := ⟨rfl, rfl, rfl, by decide +kernel, rfl, by decide +kernel, by decide +kernel⟩
theorem ok_checked (T : TX K mg) : OkF P w K mg base 6 "checked_relations" ["size", "relations"] (spR (dChecked K)) := by
  have n_len := T.n "len" (by decide +kernel)
  have n_tuple := T.n "tuple" (by decide +kernel)
  have n_sorted := T.n "sorted" (by decide +kernel)
  obtain ⟨_, g_MOST_RELATIONS⟩ := T.i ("MOST_RELATIONS", 12) (by decide +kernel)
  refine T.okF 9 rfl (by decide +kernel) (fun f fd F => ?_) (fun _ _ _ _ _ _ us hl => match us, hl with | [_, _], _ => rfl)
  have O_is_sequence := ok_is_sequence (P := P) (w := w) (base := base) T
  have O_is_relation := ok_is_relation (P := P) (w := w) (base := base) T
  refine F.ok sc_checked_relations (fun vs H Q E h => spR_len h (by rintro B Pz ⟨v, d, ds, s, rfl, _⟩; rfl)) (fun cdv A outer s H vs Q E hr ⟨B, Pz, e, ⟨v, d, ds, size, hvs, hd, hs, hok, hP⟩, q⟩ => ?_)
  subst hvs hP
  refine ⟨_, (pss_cons (ps_if (pw_or (pt_not (pt_val (LX.pe_f O_is_sequence hr (by decide) (pa_cons (pv 1) pa_nil)))) (pw_or1 (pt_cmpR op_gt (pe_callB (LX.k_len (K := K)) (by rfl) n_len (by decide +kernel) (pa_cons (pv 1) pa_nil)) (pe_glob (v := .int 12) (by rfl) g_MOST_RELATIONS ⟨_, rfl⟩) (nomark _)))).pt (pss_one ps_never) pss_nil)
        (pss_cons (ps_set (i := 2) sc_checked_relations.nd rfl (.inl rfl) pe_dnewK)
        (pss_cons (ps_for PassesOwn.never rfl (RX.pi_seq (K := K) (pv 1)) (pg_name (i := 3) sc_checked_relations.nd rfl (.inl rfl)) (pss_cons (ps_if (pw_or (pt_not (pt_val (LX.pe_f O_is_relation hr (by decide) (pa_cons (pv 3) (pa_cons (pv 0) pa_nil))))) (pw_or1 (pt_cmp (pc_din (LX.u1 hr) (pe_ix (RX.k_ixa (K := K)) (pv 3) pe_int (fun _ _ => rfl)) (pv 2))))).pt (pss_one ps_never) pss_nil)
        (pss_one (ps_dput (LX.u1 hr) (pv 2) (pe_ix (RX.k_ixa (K := K)) (pv 3) pe_int (fun _ _ => rfl)) (pe_tup (pa_cons (pe_ix (RX.k_ixa (K := K)) (pv 3) pe_int (fun _ _ => rfl)) (pa_cons (pe_callTy (LX.k_tupOf (K := K)) (by rfl) n_tuple (by decide +kernel) (pa_cons (pe_callB (RX.k_sortedT (K := K) (P := P) (w := w) rfl) (by rfl) n_sorted (by decide +kernel) (pa_cons (WS.pe_scG (O0 := fun a => SetTO P w a []) (add := WS.addTup K P w) (own := [("row", 4)]) (g := gName 4) (tt := tYes) (RX.k_addTup hr.units) RX.k_newTup rfl sc_checked_relations.nd (RX.pi_seq (K := K) (pe_ix (RX.k_ixa (K := K)) (pv 3) pe_int (fun _ _ => rfl))) (blkOk_by (N := checked_relations_N) (sc := defScope s_checked_relations) (by decide +kernel)) (fun _ _ _ _ _ => pg_name (i := 4) sc_checked_relations.nd rfl (Or.inl rfl)) (fun _ _ _ _ _ => pts_nil) (fun _ _ _ _ _ => (pe_callTy (LX.k_tupOf (K := K)) (by rfl) n_tuple (by decide +kernel) (pa_cons (pv 4) pa_nil)))) pa_nil)) pa_nil)) pa_nil))) rfl))))
        (pss_one (ps_ret (pv 2)))))), ?_⟩
  obtain ⟨a, xs, rfl, hx, hxs⟩ := dp_seq hd hs
  have hl := dps_len hxs
  have hfew := hok.few
  refine x_when (X := H) (B := B) (b := false) (et_is (et_or (a := false) (b := decide (((12 : Int)) < (xs.length : Int))) (et_not (a := true) (et_B (ev_is (ev_sequence (ev_var rfl) hd) (by rw [hs]; rfl)))) (fun _ => et_test (ev_op (ev_lenA (ev_var rfl) hx) ev_c rv_I0))) (by rw [Bool.false_or]; exact decide_eq_false (by omega))) (fun h => nomatch h) (fun _ => ?_) H e (Ex.refl H)
  refine x_asgD fun p hpB hpH => ?_
  have hsub : ∀ (ys : List V), ys = xs → ∀ i x, ys[i]? = some x → ∃ dx, ds[i]? = some dx ∧ Dp K B x dx := fun ys hy i x hx' => by subst hy; exact dps_get hxs hx'
  refine x_for (F := B) (Ex.new hpB) (ei_seq (ev_var rfl) hx) (fun F' ys i σ' B' => ∃ y z Bs kvs, σ' = [some (V.int size), some (.ref a), some (.ref p), y, z] ∧ B' = upd Bs p (.dK kvs) ∧ Bs p = none ∧ Gr H F' Bs ∧ TabAt K ((ds.map (relOf size)).take i) kvs Bs) (fun F' ys g hy av => ?_) (fun F' ys i σ' B' h => ?_) (fun F' ys i x σ' B' g hy hxi h => ?_) (fun F' ys σ' B' g hy h => ?_)
  · have hF : F' p = none := av p hpB (by rw [upd_same]; exact Option.some_ne_none _)
    exact ⟨none, none, F', [], rfl, mrg_upd g.ex hF, hF, Gr.refl _ _, rfl, fun i p r h => nomatch h⟩
  · obtain ⟨y, z, Bs, kvs, rfl, rfl, hp, gs, tb⟩ := h
    exact gs.ex.trans (Ex.new hp)
  · obtain ⟨y, z, Bs, kvs, rfl, rfl, hp, gs, tb⟩ := h
    obtain ⟨dx, hdx, hdp⟩ := hsub ys hy i x hxi
    have hmem : dx ∈ ds := List.mem_of_getElem? hdx
    have eB : Ex B Bs := g.ex.trans gs.ex
    have hrel := hok.ok dx hmem
    obtain ⟨n, ar, rd, rs, hsd, hn, ha1, ha3, hrd, hrows⟩ := relD_inv hrel
    have hrlen := fewD_some hsd hrd (hok.rows dx hmem)
    obtain ⟨b, zs, rfl, hb, hzs⟩ := dp_seq (dp_ex eB hdp) hsd
    obtain ⟨x1, x2, x3, _, _, _, rfl, hh, d1, d2, d3⟩ := dps3 hzs (by rw [dps_len hzs]; rfl)
    cases hh
    cases d1
    cases d2
    have hro : relOf size dx = ⟨n, ar, AS.ascR size (rs.map rowOf)⟩ := by rw [relOf_some hsd, hrd]; rfl
    have hti : ((ds.map (relOf size)).take (i + 1)) = (ds.map (relOf size)).take i ++ [relOf size dx] := take_snoc (by rw [List.getElem?_map, hdx]; rfl)
    have hnone : valV kvs (Sum.inr n) = none := by
      have := TabAt.find (s := n) tb
      rw [find_none (by
        have h := nodup_take hok.nd hdx
        rw [hro] at h
        rw [← List.map_take, List.map_map]
        exact h)] at this
      exact this
    have hb' : SqA K (upd Bs p (.dK kvs)) b [V.str n, .int ar, x3] := ex_a (Ex.new hp) hb
    refine x_when (b := false) (et_is (et_or (a := false) (b := false) (et_not (a := true) (et_B (ev_is (ev_relation (ev_var rfl) (ev_var rfl) (dp_ex (eB.trans (Ex.new hp)) hdp) (hok.sm dx hmem)) (by rw [hrel])))) (fun _ => et_B (ev_is (et_din (ev_op (ev_var rfl) ev_c (rv_ixA hb' at3.1)) (ev_var rfl) upd_same) (by rw [hnone]; rfl)))) rfl) (fun h => nomatch h) (fun _ => ?_)
    refine x_last (x_dput (l := p) (Pe := EntAt K (relOf size dx)) upd_same hpH (ev_var rfl) (ev_op (ev_var rfl) ev_c (rv_ixA hb' at3.1)) ?_ ?_ (fun z' B'' g2 hp2 hz' => ?_))
    · rw [del_upd hp]
      obtain ⟨c, us, rfl, hc, hus⟩ := dp_seq d3 hrd
      have hul := dps_len hus
      have hrow : ∀ r ∈ rs, seqD r = some ((rowOf r).map PyData.int) ∧ ((rowOf r).length : Int) = ar ∧ TS.Bd size (rowOf r) := fun r hr => rowD_inv (hrows r hr)
      refine EvR.imp (er_tupN (Pa := fun vs B' => ∃ z r, vs = z :: r ∧ IsV (.int ar) z B' ∧ ∃ z2 r2, r = z2 :: r2 ∧ TpP K (RowsAt K (AS.ascR size (rs.map rowOf))) z2 B' ∧ r2 = []) inferInstance (ear inferInstance (eR_v (ev_op (ev_var rfl) ev_c (rv_ixA hb at3.2.1))) (ear inferInstance (er_tup (Py := RowsAt K (AS.ascR size (rs.map rowOf))) inferInstance (EvR.imp (er_sortedT (Bn := size) (d := ar.toNat) (M := rs.map rowOf) (by omega) (fun x hx => ?_) (EvR.imp (er_sc (K := K) (P := P) (w := w) (xs := us) (k := fun i => rowOf (rs.getD i .none)) (ei_seq (ev_op (ev_var rfl) ev_c (rv_ixA hb at3.2.2)) hc) (by omega) ?_ (fun i x B' e1 hi => ?_)) ?_)) ?_)) ear_nil)) ?_) ?_
      · obtain ⟨r, hr, rfl⟩ := List.mem_map.mp hx
        obtain ⟨_, h2, h3⟩ := hrow r hr
        exact ⟨by omega, h3⟩
      · exact fun _ => rfl
      · obtain ⟨dr, hdr, hdpr⟩ := dps_get hus hi
        have hg : rs.getD i .none = dr := by rw [List.getD_eq_getElem?_getD, hdr]; rfl
        rw [hg]
        obtain ⟨h1, _, _⟩ := hrow dr (List.mem_of_getElem? hdr)
        obtain ⟨q1, ws, rfl, hw, hws⟩ := dp_seq hdpr h1
        have := dps_ints hws
        subst this
        exact EvR.imp (er_tup (Py := fun ys _ => ys = (rowOf dr).map V.int) inferInstance (rVp (ev_var rfl) ⟨q1, _, rfl, ex_a e1 hw, rfl⟩)) fun z B'' _ ⟨p', ys, h1, h2, h3⟩ => ⟨p', h1, h3 ▸ h2⟩
      · rintro z B' _ ⟨a', L, h1, h2, h3, _, h5⟩
        refine ⟨a', L, h1, h2, h3, fun r => (h5 r).trans ⟨?_, fun hr => ?_⟩⟩
        · rintro ⟨i, hi, rfl⟩
          rw [List.getD_eq_getElem?_getD, List.getElem?_eq_getElem (by omega)]
          exact List.mem_map_of_mem (List.getElem_mem _)
        · obtain ⟨r', hr', rfl⟩ := List.mem_map.mp hr
          obtain ⟨i, hi, rfl⟩ := List.mem_iff_getElem.mp hr'
          refine ⟨i, by omega, ?_⟩
          rw [List.getD_eq_getElem?_getD, List.getElem?_eq_getElem hi]
          rfl
      · rintro z B' _ ⟨p', ys, h1, h2, h3⟩
        exact ⟨p', ys, h1, .inl h2, h3⟩
      · rintro vs B' ⟨z, r, rfl, _, z2, r2, rfl, _, rfl⟩
        show (2 : Nat) ≤ 100000
        decide
      · rintro z B' _ ⟨t, vs, rfl, ht, z1, r, rfl, hz1, z2, r2, rfl, ⟨q2, ys, rfl, hq2, hys⟩, rfl⟩
        have hz1 : z1 = .int ar := hz1
        subst hz1
        rw [hro]
        exact ⟨t, q2, ys, rfl, st_of ht, hq2, hys⟩
    · have := tb.len
      rw [List.length_take, List.length_map] at this
      omega
    · rw [del_upd hp] at g2
      refine x_nx rfl ⟨_, _, B'', _, rfl, rfl, hp2, gs.trans g2, ?_⟩
      rw [putK_new _ hnone, hti]
      have := (tb.mono g2.ex).snoc hz'
      rw [hro] at this ⊢
      exact this
  · obtain ⟨y, z, Bs, kvs, rfl, rfl, hp, gs, tb⟩ := h
    have hlen : ys.length = (ds.map (relOf size)).length := by rw [hy, List.length_map, hl]
    rw [hlen, List.take_length] at tb
    exact x_ret (rVp (P := fun z B' => ∃ a kvs, z = .ref a ∧ B' a = some (.dK kvs) ∧ TabAt K (ds.map (relOf size)) kvs B') (ev_var rfl) ⟨p, kvs, rfl, upd_same, tb.mono (Ex.new hp)⟩) (fun z' B' H' g2 hz e1 e2 => q z' H' B' e2 (((g.trans gs).trans (gr_new hp hpH)).trans g2) e1 hz)
end Kx
namespace Kx
open PySem PySem.Spec PyProof.Rows L2 Evl LX T XV RX WS
variable {P : Program} {w : World} {K : PySem.W.Frag} {mg : Str → Option Value} {base : Heap}
/-! ### World.__init__ -/
def fieldsN : List Str := ["size", "names", "facts", "_tables", "_arities", "_stands"]
structure WorldAt (K : PySem.W.Frag) (P : Program) (w : World) (C : Addr) (size : Int) (rels : List Rel) (x : Addr) (B : Hp) : Prop where
  ex : ∃ (dx : Addr) (zn : V) (pf t : Addr) (za : V) (ps : Addr) (kvs : List (Key × V)) (ys : List V) (st : List (NestedKey × Addr × V)) (ns : List Str),
    B x = some (.ins C dx [("size", .int size), ("names", zn), ("facts", .ref pf), ("_tables", .ref t), ("_arities", za), ("_stands", .ref ps)]) ∧
    TpP K (fun ys _ => ys = ns.map V.str) zn B ∧ SqT K B pf ys ∧ A2 (FactAt K) (factsOf rels ns) ys B ∧ B t = some (.dK kvs) ∧ TabAt K rels kvs B ∧ TpP K (fun ys _ => ys = ns.map fun n => V.int (arIn rels n)) za B ∧
    B ps = some (DnO P w ps st) ∧ st.map (·.1) = (factsOf rels ns).map RX.keyOf ∧ (st.map fun p => V.ref p.2.1) = ys ∧ ns.Perm (rels.map (·.name)) ∧ sortedS ns = true
def spInitW (K : PySem.W.Frag) (P : Program) (w : World) (C : Addr) : Sp := fun vs H Q _ => ∃ (x dx : Addr) (B : Hp) (v : V) (d : PyData) (ds : List PyData) (size : Int), vs = [.ref x, .int size, v] ∧ H x = some (.ins C dx []) ∧ B x = none ∧ Ex B H ∧ Dp K B v d ∧ seqD d = some ds ∧ RelsOk size ds ∧ 2 ≤ size ∧ size ≤ 400 ∧
  ∀ H2 B', Ex (RX.del H x) H2 → Gr (RX.del H x) B B' → Ex B' H2 → WorldAt K P w C size (ds.map (relOf size)) x B' → Q .non H2
theorem er_checked {σ : L2.St} {B : Hp} {ta tb : TE} {v : V} {d : PyData} {ds : List PyData} {size : Int} (ha : Ev ta σ B (.int size)) (hb : Ev tb σ B v) (hd : Dp K B v d) (hs : seqD d = some ds) (hok : RelsOk size ds) :
    EvR (tCall (spR (dChecked K)) [] E0 (tCons ta (tCons tb tNil))) σ B (fun z B' => ∃ a kvs, z = .ref a ∧ B' a = some (.dK kvs) ∧ TabAt K (ds.map (relOf size)) kvs B') :=
  er_callV (ea_cons ha (ea_cons hb ea_nil)) ⟨v, d, ds, size, rfl, hd, hs, hok, rfl⟩ fun B' e => ⟨v, d, ds, size, rfl, dp_ex e hd, hs, hok, rfl⟩
theorem relOf_rows {d : PyData} {size : Int} (h : relD d size = true) (hf : fewD d = true) : (relOf size d).rows.Nodup ∧ (relOf size d).rows.length < 63 := by
  obtain ⟨n, ar, rd, rs, hsd, hn, ha1, ha3, hrd, hrows⟩ := relD_inv h
  have hl := fewD_some hsd hrd hf
  have hro : relOf size d = ⟨n, ar, AS.ascR size (rs.map rowOf)⟩ := by rw [relOf_some hsd, hrd]; rfl
  rw [hro]
  refine ⟨asc_nodup (AS.ascR_asc (d := ar.toNat) fun x hx => ?_), ?_⟩
  · obtain ⟨r, hr, rfl⟩ := List.mem_map.mp hx
    obtain ⟨_, h2, h3⟩ := rowD_inv (hrows r hr)
    exact ⟨by omega, h3⟩
  · have := len_ascR (B := size) (L := rs.map rowOf)
    rw [List.length_map] at this
    exact Nat.lt_of_le_of_lt this hl
theorem rowsIn_ok {ds : List PyData} {size : Int} (hok : RelsOk size ds) (n : Str) : (rowsIn (ds.map (relOf size)) n).Nodup ∧ (rowsIn (ds.map (relOf size)) n).length ≤ 63 := by
  unfold rowsIn
  cases hf : (ds.map (relOf size)).find? (fun r => decide (r.name = n)) with
  | none => exact ⟨List.nodup_nil, Nat.zero_le _⟩
  | some r =>
    obtain ⟨d, hd, rfl⟩ := List.mem_map.mp (List.mem_of_find?_eq_some hf)
    have := relOf_rows (hok.ok d hd) (hok.rows d hd)
    exact ⟨this.1, Nat.le_of_lt this.2⟩
theorem find_mem {s : Str} : ∀ {rels : List Rel}, s ∈ rels.map (·.name) → ∃ r, rels.find? (fun r => decide (r.name = s)) = some r
  | [], h => nomatch h
  | r :: t, h => by
    rw [List.find?_cons]
    by_cases c : r.name = s
    · exact ⟨r, by rw [decide_eq_true c]⟩
    · rw [decide_eq_false c]
      rw [List.map_cons, List.mem_cons] at h
      exact find_mem (h.resolve_left fun e => c e.symm)
def NamesP (rels : List Rel) : List V → Hp → Prop := fun ys _ => ∃ ns : List Str, ys = ns.map V.str ∧ ns.Perm (rels.map Rel.name) ∧ sortedS ns = true
instance {rels : List Rel} : MoA (NamesP rels) := ⟨fun _ h => h⟩
instance {rels : List Rel} : MoAN (NamesP rels) := ⟨fun _ h => h⟩
theorem tab_get {rels : List Rel} {kvs : List (Key × V)} {B : Hp} {n : Str} (tb : TabAt K rels kvs B) (hn : n ∈ rels.map Rel.name) : ∃ r v, rels.find? (fun r => decide (r.name = n)) = some r ∧ valV kvs (Sum.inr n) = some v ∧ EntAt K r v B := by
  obtain ⟨r, hr⟩ := find_mem hn
  have := TabAt.find (s := n) tb
  rw [hr] at this
  obtain ⟨v, h1, h2⟩ := this
  exact ⟨r, v, hr, h1, h2⟩
theorem rowsIn_some {rels : List Rel} {n : Str} {r : Rel} (h : rels.find? (fun r => decide (r.name = n)) = some r) : rowsIn rels n = r.rows := by unfold rowsIn; rw [h]
theorem arIn_some {rels : List Rel} {n : Str} {r : Rel} (h : rels.find? (fun r => decide (r.name = n)) = some r) : arIn rels n = r.ar := by unfold arIn; rw [h]
theorem at2 {x y : V} : atI [x, y] 0 = some x ∧ atI [x, y] 1 = some y := ⟨atI_nat (j := 0) rfl, atI_nat (j := 1) rfl⟩
abbrev World_init_N : List Str := ["self", "size", "relations", "tables", "name", "row", "fact"]
abbrev World_init_P : List Str := ["self", "size", "relations"]
theorem sc_World_init : FnScope ["self", "size", "relations", "tables", "name", "row", "fact"] ["self", "size", "relations"] (defScope s_World_init) := ⟨rfl, rfl, rfl, by decide +kernel, rfl, by decide +kernel, by decide +kernel⟩
theorem ok_init (T : TX K mg) {C : Addr} {dvs : List V} {f : Addr} {fd : FuncData} (F : FunD K "__init__" "World.__init__" (defArgs s_World_init) (defBody s_World_init) (defScope s_World_init) dvs [] f fd) (hC : Cls K C) (hN : ∀ f ∈ fieldsN, NoAttr K C f) : FnOk P w K mg base CX0 7 f fd ["self", "size", "relations"] (spInitW K P w C) := by
  have n_tuple := T.n "tuple" (by decide +kernel)
  have n_sorted := T.n "sorted" (by decide +kernel)
  obtain ⟨_, g_SMALLEST_WORLD⟩ := T.i ("SMALLEST_WORLD", 2) (by decide +kernel)
  obtain ⟨_, g_LARGEST_WORLD⟩ := T.i ("LARGEST_WORLD", 400) (by decide +kernel)
  have O_is_between := ok_is_between (P := P) (w := w) (base := base) T
  have O_checked_relations := ok_checked (P := P) (w := w) (base := base) T
  refine F.ok sc_World_init (fun vs H Q E h => ?_) (fun cdv A outer s H vs Q E hr ⟨x, dx, B, v, d, ds, size, hvs, hx, hBx, e, hd, hs, hok, hs2, hs4, q⟩ => ?_)
  · obtain ⟨x, dx, B, v, d, ds, size, rfl, _⟩ := h
    rfl
  subst hvs
  refine ⟨_, PSs.nox (pss_cons (ps_if (pt_not (pt_val (LX.pe_f O_is_between hr (by decide) (pa_cons (pv 1) (pa_cons (pe_glob (v := .int 2) (by rfl) g_SMALLEST_WORLD ⟨_, rfl⟩) (pa_cons (pe_glob (v := .int 400) (by rfl) g_LARGEST_WORLD ⟨_, rfl⟩) pa_nil)))))) (pss_one ps_never) pss_nil)
        (pss_cons (ps_set (i := 3) sc_World_init.nd rfl (.inr rfl) (LX.pe_f O_checked_relations hr (by decide) (pa_cons (pv 1) (pa_cons (pv 2) pa_nil))))
        (pss_cons (LX.k_sfld (K := K) (pv 0) (pv 1) (by rfl))
        (pss_cons (LX.k_sfld (K := K) (pv 0) (pe_callTy (LX.k_tupOf (K := K)) (by rfl) n_tuple (by decide +kernel) (pa_cons (pe_callB (RX.k_sortD rfl) (by rfl) n_sorted (by decide +kernel) (pa_cons (pv 3) pa_nil)) pa_nil)) (by rfl))
        (pss_cons (LX.k_sfld (K := K) (pv 0) (pe_callTy (LX.k_tupOf (K := K)) (by rfl) n_tuple (by decide +kernel) (pa_cons (pe_lc2 (own := [("name", 4), ("row", 5)]) (vs1 := [5]) (g := gName 4) (g1 := gName 5) (tt := tYes) (tt1 := tYes) rfl sc_World_init.nd (RX.k_pit (K := K) (LX.k_fld (K := K) (pv 0) (by rfl))) (blkOk_by (N := World_init_N) (sc := defScope s_World_init) (by decide +kernel)) (by decide) (fun _ _ _ _ _ => pg_name (i := 4) sc_World_init.nd rfl (Or.inl rfl)) (fun _ _ _ _ _ => pts_nil) (fun _ _ _ _ _ => (RX.k_pit (K := K) (pe_ix (LX.k_ixt (K := K)) (pe_dget (LX.u1 hr) (pv 3) (pv 4) (fun _ _ => rfl)) pe_int (fun _ _ => rfl)))) (fun _ _ _ _ _ => pg_name (i := 5) sc_World_init.nd rfl (Or.inl rfl)) (fun _ _ _ _ _ => pts_nil) (fun _ _ _ _ _ => (pe_tup (pa_cons (pv 4) (pa_cons (pv 5) pa_nil))))) pa_nil)) (by rfl))
        (pss_cons (LX.k_sfld (K := K) (pv 0) (pv 3) (by rfl))
        (pss_cons (LX.k_sfld (K := K) (pv 0) (pe_callTy (LX.k_tupOf (K := K)) (by rfl) n_tuple (by decide +kernel) (pa_cons (pe_lc (own := [("name", 4)]) (g := gName 4) (tt := tYes) rfl sc_World_init.nd (RX.k_pit (K := K) (LX.k_fld (K := K) (pv 0) (by rfl))) (blkOk_by (N := World_init_N) (sc := defScope s_World_init) (by decide +kernel)) (fun _ _ _ _ _ => pg_name (i := 4) sc_World_init.nd rfl (Or.inl rfl)) (fun _ _ _ _ _ => pts_nil) (fun _ _ _ _ _ => (pe_ix (LX.k_ixt (K := K)) (pe_dget (LX.u1 hr) (pv 3) (pv 4) (fun _ _ => rfl)) pe_int (fun _ _ => rfl)))) pa_nil)) (by rfl))
        (pss_one (LX.k_sfld (K := K) (pv 0) (WS.pe_dcG (O0 := fun a => WS.DnO P w a []) (put := WS.putNk K P w) (own := [("fact", 6)]) (g := gName 6) (tt := tYes) (RX.k_putNk hr.units) RX.k_newNk rfl sc_World_init.nd (RX.k_pit (K := K) (LX.k_fld (K := K) (pv 0) (by rfl))) (blkOk_by (N := World_init_N) (sc := defScope s_World_init) (by decide +kernel)) (fun _ _ _ _ _ => pg_name (i := 6) sc_World_init.nd rfl (Or.inl rfl)) (fun _ _ _ _ _ => pts_nil) (fun _ _ _ _ _ => (pv 6)) (fun _ _ _ _ _ => pe_bl)) (by rfl)))))))))), ?_⟩
  have eB : Ex (upd B x (.ins C dx [])) H := ex_upd e hx
  have eX : Ex (RX.del H x) H := RX.del_ex
  have hXx : RX.del H x x = none := RX.del_same
  refine x_when (X := RX.del H x) (B := upd B x (.ins C dx [])) (b := false) (et_not (a := true) (et_B (ev_is (ev_between (ev_var rfl) ev_c ev_c (.int size)) (by show V.bl (decide (2 ≤ size) && decide (size ≤ 400)) = _; rw [decide_eq_true hs2, decide_eq_true hs4]; rfl)))) (fun h => nomatch h) (fun _ => ?_) H eB eX
  refine x_asg (er_checked (ev_var rfl) (ev_var rfl) (dp_ex (Ex.new hBx) hd) hs hok) fun z B1 g1 ⟨t, kvs, hz, ht, tb⟩ => ?_
  subst hz
  generalize hrels : ds.map (relOf size) = rels at tb q
  have hrl : rels.length ≤ 12 := by rw [← hrels, List.length_map]; exact hok.few
  have hnd : (rels.map (·.name)).Nodup := by rw [← hrels, List.map_map]; exact hok.nd
  have hrow : ∀ n, (rowsIn rels n).Nodup ∧ (rowsIn rels n).length ≤ 63 := fun n => by rw [← hrels]; exact rowsIn_ok hok n
  have gB : Gr (RX.del H x) B B1 := (gr_new hBx hXx).trans g1
  -- size
  refine x_fld (fs := []) (g1.ex _ _ upd_same) hXx (ev_var rfl) (eR_v (v := .int size) (ev_var rfl)) hC (hN "size" (by decide)) (by decide) fun z B2 g2 hz _ n2 => ?_
  have hz : z = .int size := hz
  subst hz
  have gB2 := gr_keep (o := .ins C dx (putF "size" (.int size) [])) (gB.trans g2) hBx hXx
  have ht2 := n2 _ _ (g2.ex _ _ ht) (fun _ _ _ c => nomatch c)
  have tb2 := (tb.mono g2.ex).monoN n2
  clear ht tb
  generalize hB3 : upd B2 x (.ins C dx (putF "size" (.int size) [])) = B3 at *
  have hx3 : B3 x = some (.ins C dx [("size", .int size)]) := by rw [← hB3, upd_same]; rfl
  clear hB3 n2 g2
  -- names
  refine x_fld (Pe := TpP K (NamesP rels)) hx3 hXx (ev_var rfl) (er_tup inferInstance (EvR.imp (er_sortD (ks := rels.map Rel.name) (ev_var rfl) ht2 (by rw [tb2.1, List.map_map]; rfl) (by rw [List.length_map]; omega)) fun z B' _ ⟨p', ys, h1, h2, h3⟩ => ⟨p', ys, h1, .inl h2, h3⟩)) hC (hN "names" (by decide)) (show (1 : Nat) < 1000 by decide) fun z B4 g4 hz _ n4 => ?_
  obtain ⟨pn, _, rfl, hpn, ns, rfl, hperm, hsort⟩ := hz
  have gB4 := gr_keep (o := .ins C dx (putF "names" (.ref pn) [("size", .int size)])) (gB2.trans g4) hBx hXx
  have ht4 := n4 _ _ (g4.ex _ _ ht2) (fun _ _ _ c => nomatch c)
  have tb4 := (tb2.mono g4.ex).monoN n4
  have hpn4 := exn_t n4 hpn
  generalize hB5 : upd B4 x (.ins C dx (putF "names" (.ref pn) [("size", .int size)])) = B5 at *
  have hx5 : B5 x = some (.ins C dx [("size", .int size), ("names", .ref pn)]) := by rw [← hB5, upd_same]; rfl
  clear hB5 n4 g4 ht2 tb2 hpn
  have hnl : ns.length ≤ 12 := by rw [hperm.length_eq, List.length_map]; exact hrl
  have hnn : ns.Nodup := hperm.nodup_iff.mpr hnd
  have hmem : ∀ n ∈ ns, n ∈ rels.map Rel.name := fun n hn => hperm.mem_iff.mp hn
  have hns : ∀ {i : Nat} {y : V}, (ns.map V.str)[i]? = some y → ∃ n, ns[i]? = some n ∧ y = .str n := fun {i y} h => by
    rw [List.getElem?_map] at h
    cases hq : ns[i]? with
    | none => rw [hq] at h; exact nomatch h
    | some n => rw [hq] at h; exact ⟨n, rfl, (Option.some.inj h).symm⟩
  have hgd : ∀ {i : Nat} {n : Str}, ns[i]? = some n → ns.getD i "" = n := fun {i n} h => by rw [List.getD_eq_getElem?_getD, h]; rfl
  -- facts
  refine x_fld (Pe := TpP K (A2 (FactAt K) (factsOf rels ns))) hx5 hXx (ev_var rfl) (er_tup inferInstance (EvR.imp (er_lc2 (Pd := FactAt K) (xs := ns.map V.str) (fun _ => inferInstance) (fun i => (rowsIn rels (ns.getD i "")).map fun r => (ns.getD i "", r)) (ei_tup (ev_fldI (ev_var rfl) hx5 hC (hN "names" (by decide)) rfl) hpn4) (fun _ => rfl) (fun _ _ => rfl) ?_ ?_) ?_)) hC (hN "facts" (by decide)) (show (2 : Nat) < 1000 by decide) fun z B6 g6 hz _ n6 => ?_
  · intro i k _
    rw [List.length_append]
    have h1 : ((List.range i).flatMap fun i => (rowsIn rels (ns.getD i "")).map fun r => (ns.getD i "", r)).length ≤ (List.range i).length * 63 := flat_len fun j _ => by rw [List.length_map]; exact (hrow _).2
    rw [List.length_range] at h1
    have h2 : (((rowsIn rels (ns.getD i "")).map fun r => (ns.getD i "", r)).take k).length ≤ 63 := by rw [List.length_take, List.length_map]; have := (hrow (ns.getD i "")).2; omega
    rename_i hi
    rw [List.length_map] at hi
    omega
  · intro i y B' e1 hy
    obtain ⟨n, hn, rfl⟩ := hns hy
    rw [hgd hn]
    obtain ⟨r, v', hf, hv, t', q', zs, rfl, ha1, ha2, ha3⟩ := tab_get tb4 (hmem n (List.mem_of_getElem? hn))
    refine ⟨zs, ei_tup (ev_op (ev_dget (ev_var rfl) (ev_var rfl) (e1 _ _ ht4) hv) ev_c (rv_ixT (ex_t e1 ha1) at2.2)) (ex_t e1 ha2), by rw [ha3.1, List.length_map, rowsIn_some hf], fun k y2 B'' d e2 hy2 hd2 => ?_⟩
    rw [List.getElem?_map, rowsIn_some hf] at hd2
    cases hq : r.rows[k]? with
    | none => rw [hq] at hd2; exact nomatch hd2
    | some row =>
      rw [hq] at hd2
      cases hd2
      obtain ⟨b, rfl, hb⟩ := ha3.2 k y2 row hy2 hq
      exact EvR.imp (er_tupN (Pa := fun vs _ => vs = [V.str n, .ref b]) inferInstance (rA (ea_cons (ev_var rfl) (ea_cons (ev_var rfl) ea_nil))) (fun vs _ h => by rw [h]; show (2 : Nat) ≤ 100000; decide)) fun z B3 e3 ⟨p', vs, h1, h2, h3⟩ => by
        subst h3
        exact ⟨p', b, h1, st_of h2, ex_t ((e1.trans e2).trans e3) hb⟩
  · rintro z B' _ ⟨p', ys, h1, h2, h3⟩
    rw [List.length_map] at h3
    rw [flat_range (f := fun n => (rowsIn rels n).map fun r => (n, r))] at h3
    exact ⟨p', ys, h1, .inl (sq_of h2), h3⟩
  obtain ⟨pf, ys, rfl, hpf, hys⟩ := hz
  have gB6 := gr_keep (o := .ins C dx (putF "facts" (.ref pf) [("size", .int size), ("names", .ref pn)])) (gB4.trans g6) hBx hXx
  have ht6 := n6 _ _ (g6.ex _ _ ht4) (fun _ _ _ c => nomatch c)
  have tb6 := (tb4.mono g6.ex).monoN n6
  have hpn6 := exn_t n6 (ex_t g6.ex hpn4)
  have hpf6 := exn_t n6 hpf
  have hys6 : A2 (FactAt K) (factsOf rels ns) ys _ := MoAN.mo n6 hys
  generalize hB7 : upd B6 x (.ins C dx (putF "facts" (.ref pf) [("size", .int size), ("names", .ref pn)])) = B7 at *
  have hx7 : B7 x = some (.ins C dx [("size", .int size), ("names", .ref pn), ("facts", .ref pf)]) := by rw [← hB7, upd_same]; rfl
  clear hB7 n6 g6 ht4 tb4 hpn4 hpf hys
  -- _tables
  refine x_fld hx7 hXx (ev_var rfl) (eR_v (v := .ref t) (ev_var rfl)) hC (hN "_tables" (by decide)) (show (3 : Nat) < 1000 by decide) fun z B8 g8 hz _ n8 => ?_
  have hz : z = .ref t := hz
  subst hz
  have gB8 := gr_keep (o := .ins C dx (putF "_tables" (.ref t) [("size", .int size), ("names", .ref pn), ("facts", .ref pf)])) (gB6.trans g8) hBx hXx
  have ht8 := n8 _ _ (g8.ex _ _ ht6) (fun _ _ _ c => nomatch c)
  have tb8 := (tb6.mono g8.ex).monoN n8
  have hpn8 := exn_t n8 (ex_t g8.ex hpn6)
  have hpf8 := exn_t n8 (ex_t g8.ex hpf6)
  have hys8 : A2 (FactAt K) (factsOf rels ns) ys _ := MoAN.mo n8 (MoA.mo g8.ex hys6)
  generalize hB9 : upd B8 x (.ins C dx (putF "_tables" (.ref t) [("size", .int size), ("names", .ref pn), ("facts", .ref pf)])) = B9 at *
  have hx9 : B9 x = some (.ins C dx [("size", .int size), ("names", .ref pn), ("facts", .ref pf), ("_tables", .ref t)]) := by rw [← hB9, upd_same]; rfl
  clear hB9 n8 g8 ht6 tb6 hpn6 hpf6 hys6
  -- _arities
  refine x_fld (Pe := TpP K fun ys _ => ys = ns.map fun n => V.int (arIn rels n)) hx9 hXx (ev_var rfl) (er_tup inferInstance (EvR.imp (er_lc1 (Pd := fun n => IsV (.int (arIn rels n))) (xs := ns.map V.str) (ds := ns) (fun _ => inferInstance) (ei_tup (ev_fldI (ev_var rfl) hx9 hC (hN "names" (by decide)) rfl) hpn8) (by rw [List.length_map]; omega) (List.length_map ..) (fun _ => rfl) ?_) ?_)) hC (hN "_arities" (by decide)) (show (4 : Nat) < 1000 by decide) fun z BA gA hz _ nA => ?_
  · intro i y B' d e1 hy hd'
    obtain ⟨n, hn, rfl⟩ := hns hy
    rw [hn] at hd'
    have hd' := Option.some.inj hd'
    subst hd'
    obtain ⟨r, v', hf, hv, t', q', zs, rfl, ha1, ha2, ha3⟩ := tab_get tb8 (hmem n (List.mem_of_getElem? hn))
    rw [arIn_some hf]
    exact eR_v (ev_op (ev_dget (ev_var rfl) (ev_var rfl) (e1 _ _ ht8) hv) ev_c (rv_ixT (ex_t e1 ha1) at2.1))
  · rintro z B' _ ⟨p', ys, h1, h2, h3⟩
    exact ⟨p', ys, h1, .inl (sq_of h2), h3.vals⟩
  have gBA := gr_keep (o := .ins C dx (putF "_arities" z [("size", .int size), ("names", .ref pn), ("facts", .ref pf), ("_tables", .ref t)])) (gB8.trans gA) hBx hXx
  have htA := nA _ _ (gA.ex _ _ ht8) (fun _ _ _ c => nomatch c)
  have tbA := (tb8.mono gA.ex).monoN nA
  have hpnA := exn_t nA (ex_t gA.ex hpn8)
  have hpfA := exn_t nA (ex_t gA.ex hpf8)
  have hysA : A2 (FactAt K) (factsOf rels ns) ys _ := MoAN.mo nA (MoA.mo gA.ex hys8)
  have hzA : TpP K (fun ys _ => ys = ns.map fun n => V.int (arIn rels n)) z _ := MoN.mo nA hz
  generalize hBB : upd BA x (.ins C dx (putF "_arities" z [("size", .int size), ("names", .ref pn), ("facts", .ref pf), ("_tables", .ref t)])) = BB at *
  have hxB : BB x = some (.ins C dx [("size", .int size), ("names", .ref pn), ("facts", .ref pf), ("_tables", .ref t), ("_arities", z)]) := by rw [← hBB, upd_same]; rfl
  clear hBB nA gA ht8 tb8 hpn8 hpf8 hys8 hz
  -- _stands
  have hfl : (factsOf rels ns).length ≤ 40000 := by
    have : (factsOf rels ns).length ≤ ns.length * 63 := flat_len fun n _ => by rw [List.length_map]; exact (hrow n).2
    omega
  refine x_last (x_fld hxB hXx (ev_var rfl) (er_dcTrue (K := K) (P := P) (w := w) (xs := ys) (ks := (factsOf rels ns).map RX.keyOf) (ei_tup (ev_fldI (ev_var rfl) hxB hC (hN "facts" (by decide)) rfl) hpfA) (by rw [hysA.1, List.length_map]) (by rw [hysA.1]; exact hfl) ?_ ?_ (fun _ => rfl) (show (6 : Nat) < 7 by decide)) hC (hN "_stands" (by decide)) (show (5 : Nat) < 1000 by decide) fun z2 BC gC hz2 _ nC => ?_)
  · exact List.pairwise_map.mpr (List.Pairwise.imp (fun {a b} hab c => hab (keyOf_inj c)) (facts_nodup (fun n => (hrow n).1) hnn))
  · intro i y k hy hk
    rw [List.getElem?_map] at hk
    cases hq : (factsOf rels ns)[i]? with
    | none => rw [hq] at hk; exact nomatch hk
    | some fct =>
      rw [hq] at hk
      cases hk
      have hfa := hysA.2 i y fct hy hq
      obtain ⟨a, r, hyr, _⟩ := id hfa
      exact ⟨fact_key hfa, keyOf_depth _, a, hyr⟩
  obtain ⟨ps, st, rfl, hps, hst1, hst2⟩ := hz2
  have gBC := gr_keep (o := .ins C dx (putF "_stands" (.ref ps) [("size", .int size), ("names", .ref pn), ("facts", .ref pf), ("_tables", .ref t), ("_arities", z)])) (gBA.trans gC) hBx hXx
  refine fun H' e1 e2 => q H' _ e2 gBC e1 ⟨dx, .ref pn, pf, t, z, ps, kvs, ys, st, ns, by rw [upd_same]; rfl, ⟨pn, _, rfl, exn_t nC (ex_t gC.ex hpnA), rfl⟩, exn_t nC (ex_t gC.ex hpfA), MoAN.mo nC (MoA.mo gC.ex hysA), nC _ _ (gC.ex _ _ htA) (fun _ _ _ c => nomatch c), (tbA.mono gC.ex).monoN nC, MoN.mo nC (Mo.mo gC.ex hzA), nC _ _ hps (fun _ _ _ c => nomatch c), hst1, hst2, hperm, hsort⟩
end Kx
namespace Kx
open PySem PySem.Spec PyProof.Rows L2 Evl LX T XV RX WS
variable {P : Program} {w : World} {K : PySem.W.Frag} {mg : Str → Option Value} {base : Heap}
theorem WorldAt.mono {C : Addr} {size : Int} {rels : List Rel} {x : Addr} {B B' : Hp} (e : Ex B B') (h : WorldAt K P w C size rels x B) : WorldAt K P w C size rels x B' := by
  obtain ⟨dx, zn, pf, t, za, ps, kvs, ys, st, ns, h1, h2, h3, h4, h5, h6, h7, h8, h9, h10, h11, h12⟩ := h
  exact ⟨dx, zn, pf, t, za, ps, kvs, ys, st, ns, e _ _ h1, Mo.mo e h2, ex_t e h3, MoA.mo e h4, e _ _ h5, h6.mono e, Mo.mo e h7, e _ _ h8, h9, h10, h11, h12⟩
/-! ### arity and rows of a name that is there -/
def dArity (K : PySem.W.Frag) (P : Program) (w : World) (C : Addr) : List V → Hp → (V → Hp → Prop) → Prop := fun vs B Pz => ∃ (x : Addr) (size : Int) (rels : List Rel) (n : Str), vs = [.ref x, .str n] ∧ WorldAt K P w C size rels x B ∧ n ∈ rels.map Rel.name ∧ Pz = IsV (.int (arIn rels n))
def dRows (K : PySem.W.Frag) (P : Program) (w : World) (C : Addr) : List V → Hp → (V → Hp → Prop) → Prop := fun vs B Pz => ∃ (x : Addr) (size : Int) (rels : List Rel) (n : Str), vs = [.ref x, .str n] ∧ WorldAt K P w C size rels x B ∧ n ∈ rels.map Rel.name ∧ Pz = TpP K (RowsAt K (rowsIn rels n))
/-- what _table gives -/
def TabP (K : PySem.W.Frag) (rels : List Rel) (n : Str) : V → Hp → Prop := fun z B => ∃ t q zs, z = .ref t ∧ SqT K B t [.int (arIn rels n), .ref q] ∧ SqT K B q zs ∧ RowsAt K (rowsIn rels n) zs B
def dTable (K : PySem.W.Frag) (P : Program) (w : World) (C : Addr) : List V → Hp → (V → Hp → Prop) → Prop := fun vs B Pz => ∃ (x : Addr) (size : Int) (rels : List Rel) (n : Str), vs = [.ref x, .str n] ∧ WorldAt K P w C size rels x B ∧ n ∈ rels.map Rel.name ∧ Pz = TabP K rels n
abbrev World__table_N : List Str := ["self", "name"]
abbrev World__table_P : List Str := ["self", "name"]
theorem sc_World__table : FnScope ["self", "name"] ["self", "name"] (defScope s_World__table) := ⟨rfl, rfl, rfl, by decide +kernel, rfl, by decide +kernel, by decide +kernel⟩
abbrev World_arity_N : List Str := ["self", "name"]
abbrev World_arity_P : List Str := ["self", "name"]
theorem sc_World_arity : FnScope ["self", "name"] ["self", "name"] (defScope s_World_arity) := ⟨rfl, rfl, rfl, by decide +kernel, rfl, by decide +kernel, by decide +kernel⟩
abbrev World_rows_N : List Str := ["self", "name"]
abbrev World_rows_P : List Str := ["self", "name"]
theorem sc_World_rows : FnScope ["self", "name"] ["self", "name"] (defScope s_World_rows) := ⟨rfl, rfl, rfl, by decide +kernel, rfl, by decide +kernel, by decide +kernel⟩
theorem fn_table (T : TX K mg) {C f : Addr} {fd : FuncData} (F : Fun K "_table" "World._table" s_World__table f fd) (hC : Cls K C) (hN : NoAttr K C "_tables") : FnOk P w K mg base CX0 1 f fd ["self", "name"] (spR (dTable K P w C)) := by
  have n_isinstance := T.n "isinstance" (by decide +kernel)
  have n_str := T.n "str" (by decide +kernel)
  refine F.ok sc_World__table (fun vs H Q E h => spR_len h (by rintro B Pz ⟨x, s, r, n, rfl, _⟩; rfl)) (fun cdv A outer s H vs Q E hr ⟨B, Pz, e, ⟨x, size, rels, n, hvs, hW, hn, hP⟩, q⟩ => ?_)
  subst hvs hP
  refine ⟨_, (pss_cons (ps_if (pw_or (pt_not (pt_val (pe_callB (LX.k_isi (K := K)) (by rfl) n_isinstance (by decide +kernel) (pa_cons (pv 1) (pa_cons (pe_bltn (v := .ty "str") (u := .type "str") (by rfl) n_str (by decide +kernel) rfl) pa_nil))))) (pw_or1 (pt_cmp (pc_dnotin (LX.u1 hr) (pv 1) (LX.k_fld (K := K) (pv 0) (by rfl)))))).pt (pss_one ps_never) pss_nil)
        (pss_one (ps_ret (pe_dget (LX.u1 hr) (LX.k_fld (K := K) (pv 0) (by rfl)) (pv 1) (fun _ _ => rfl))))), ?_⟩
  obtain ⟨dx, zn, pf, t, za, ps, kvs, ys, st, ns, h1, h2, h3, h4, h5, h6, _⟩ := hW
  obtain ⟨r, v, hf, hv, t', q', zs, rfl, ha1, ha2, ha3⟩ := tab_get h6 hn
  refine x_when (X := H) (B := B) (b := false) (et_is (et_or (a := false) (b := false) (et_not (a := true) (et_B (ev_isi_str (ev_var rfl) (show kitB "str" "str" = _ by decide +kernel)))) fun _ => et_B (ev_is (et_dnin (ev_var rfl) (ev_fldI (ev_var rfl) h1 hC hN rfl) h5) (by rw [hv]; rfl))) rfl) (fun h => nomatch h) (fun _ => ?_) H e (Ex.refl H)
  refine x_ret (rVp (P := TabP K rels n) (ev_dget (ev_fldI (ev_var rfl) h1 hC hN rfl) (ev_var rfl) h5 hv) ⟨t', q', zs, rfl, by rw [arIn_some hf]; exact ha1, ha2, by rw [rowsIn_some hf]; exact ha3⟩) (fun z B' H' g p e1 e2 => q z H' B' e2 g e1 p)
theorem fn_arity (T : TX K mg) {C f : Addr} {fd : FuncData} (F : Fun K "arity" "World.arity" s_World_arity f fd) (hC : Cls K C) (M__table : OkM P w K mg base 1 C "_table" ["self", "name"] (spR (dTable K P w C))) : FnOk P w K mg base CX0 2 f fd ["self", "name"] (spR (dArity K P w C)) := by
  
  refine F.ok sc_World_arity (fun vs H Q E h => spR_len h (by rintro B Pz ⟨x, s, r, n, rfl, _⟩; rfl)) (fun cdv A outer s H vs Q E hr ⟨B, Pz, e, ⟨x, size, rels, n, hvs, hW, hn, hP⟩, q⟩ => ?_)
  subst hvs hP
  refine ⟨_, (pss_one (ps_ret (pe_ix (LX.k_ixt (K := K)) (RX.pe_m M__table hC hr (by decide) (pv 0) (pa_cons (pv 1) pa_nil)) pe_int (fun _ _ => rfl)))), ?_⟩
  have hW0 := hW
  obtain ⟨dx, zn, pf, t, za, ps, kvs, ys, st, ns, h1, _⟩ := hW
  refine x_ret (X := H) (B := B) (er_opL (P1 := IsV (.int (arIn rels n))) (er_meth (P := TabP K rels n) (ev_var rfl) h1 rfl (ea_cons (ev_var rfl) ea_nil) fun B'' e2 => ⟨x, size, rels, n, rfl, hW0.mono e2, hn, rfl⟩) ev_c ?_) (fun z B' H' g p e1 e2 => q z H' B' e2 g e1 p) H e (Ex.refl H)
  rintro z B' e1 ⟨t', q', zs, rfl, ha1, _⟩
  exact ⟨_, rv_ixT ha1 at2.1, rfl⟩
theorem fn_rows (T : TX K mg) {C f : Addr} {fd : FuncData} (F : Fun K "rows" "World.rows" s_World_rows f fd) (hC : Cls K C) (M__table : OkM P w K mg base 1 C "_table" ["self", "name"] (spR (dTable K P w C))) : FnOk P w K mg base CX0 2 f fd ["self", "name"] (spR (dRows K P w C)) := by
  
  refine F.ok sc_World_rows (fun vs H Q E h => spR_len h (by rintro B Pz ⟨x, s, r, n, rfl, _⟩; rfl)) (fun cdv A outer s H vs Q E hr ⟨B, Pz, e, ⟨x, size, rels, n, hvs, hW, hn, hP⟩, q⟩ => ?_)
  subst hvs hP
  refine ⟨_, (pss_one (ps_ret (pe_ix (LX.k_ixt (K := K)) (RX.pe_m M__table hC hr (by decide) (pv 0) (pa_cons (pv 1) pa_nil)) pe_int (fun _ _ => rfl)))), ?_⟩
  have hW0 := hW
  obtain ⟨dx, zn, pf, t, za, ps, kvs, ys, st, ns, h1, _⟩ := hW
  refine x_ret (X := H) (B := B) (er_opL (P1 := TpP K (RowsAt K (rowsIn rels n))) (er_meth (P := TabP K rels n) (ev_var rfl) h1 rfl (ea_cons (ev_var rfl) ea_nil) fun B'' e2 => ⟨x, size, rels, n, rfl, hW0.mono e2, hn, rfl⟩) ev_c ?_) (fun z B' H' g p e1 e2 => q z H' B' e2 g e1 p) H e (Ex.refl H)
  rintro z B' e1 ⟨t', q', zs, rfl, ha1, ha2, ha3⟩
  exact ⟨_, rv_ixT ha1 at2.2, q', zs, rfl, ha2, ha3⟩
end Kx
namespace Kx
open PySem PySem.Spec PyProof.Rows L2 Evl LX T XV RX WS
variable {P : Program} {w : World} {K : PySem.W.Frag} {mg : Str → Option Value} {base : Heap}
/-! ### World(..) -/
structure OkI (P : Program) (w : World) (K : PySem.W.Frag) (mg : Str → Option Value) (base : Heap) (k : Nat) (x : Str) (C : Addr) (ps : List Str) (sp : Sp) (dvs : List V) : Prop where
  g : mg x = some (.ref C)
  ex : ∃ (f : Addr) (fd : FuncData) (ds : List Value), Mk K C f ∧ FnOk P w K mg base CX0 k f fd ps sp ∧ Binds K fd ps ds ∧ Vals dvs ds
theorem pe_i {X : Cx} {x : Str} {C : Addr} {e : Expr} {es : List Expr} {p pos : Pos} {k j : Nat} {ps : List Str} {sp : Sp} {dvs : List V} {t : TA} (O : OkI X.prog X.w X.K X.mg X.base k x C ps sp dvs) (hr : Room j X.A) (hj : k + 1 ≤ j) (ha : PA X (e :: es) t) (hg : Gl X x := by rfl)
    (hdb : (x == ("__debug__" : Str)) = false := by decide) (he : starEach (e :: es) X.env = (false, eval e X.env) :: starEach es X.env := by rfl) (hpl : (backTo pos (starEach es X.env)).any (·.1) = false := by rfl) :
    PE X (.Call (.Name x p) (e :: es) [] pos) (tMake C sp dvs E0 t) := by
  obtain ⟨f, fd, ds, M, F, b, hd⟩ := O.ex
  exact pe_make M F (hr.mono hj) hg O.g b hd pass0 ha hdb he hpl
theorem er_make {σ : L2.St} {B : Hp} {tr : TA} {C : Addr} {E : XK} {dvs : List V} {size : Int} {d : PyData} {ds : List PyData} (h : EvAR tr σ B fun vs B' => ∃ v, vs ++ dvs = [.int size, v] ∧ Dp K B' v d) (hs : seqD d = some ds) (hok : RelsOk size ds) (h2 : 2 ≤ size) (h4 : size ≤ 400) :
    EvR (tMake C (spInitW K P w C) dvs E tr) σ B fun z B' => ∃ x, z = .ref x ∧ WorldAt K P w C size (ds.map (relOf size)) x B' := fun H1 e Q q =>
  h H1 e _ fun vs H2 B1 e2 g e3 ⟨v, hv, hd⟩ => fun x dx hx hdx hne => by
    have hB1x : B1 x = none := none_of e3 hx
    have hB1d : B1 dx = none := none_of e3 hdx
    have eD : Ex H2 (RX.del (upd (upd H2 dx (.own x)) x (.ins C dx [])) x) := fun a o ha => by
      have c1 : a ≠ x := fun c => by subst c; rw [hx] at ha; exact nomatch ha
      have c2 : a ≠ dx := fun c => by subst c; rw [hdx] at ha; exact nomatch ha
      rw [RX.del_ne c1, upd_ne c1, upd_ne c2]; exact ha
    refine ⟨x, dx, B1, v, d, ds, size, by rw [hv], upd_same, hB1x, fun a o ha => ?_, hd, hs, hok, h2, h4, fun H3 B' e4 g2 e5 hW => ⟨rfl, q _ H3 B' ((e2.trans eD).trans e4) (g.trans (g2.back (e2.trans eD))) e5 ⟨x, rfl, hW⟩⟩⟩
    have c1 : a ≠ x := fun c => by subst c; rw [hB1x] at ha; exact nomatch ha
    have c2 : a ≠ dx := fun c => by subst c; rw [hB1d] at ha; exact nomatch ha
    rw [upd_ne c1, upd_ne c2]
    exact e3 a o ha
end Kx
namespace Kx
open PySem PySem.Spec PyProof.Rows L2 Evl LX T
variable {P : Program} {w : World} {K : PySem.W.Frag} {mg : Str → Option Value} {base : Heap} {ex : PySem.W.Frag → Bool}
/-- a def that hands back one value, whatever stands besides -/
def spV (D : List V → Hp → V → Prop) : Sp := fun vs H Q _ => ∃ z, D vs H z ∧ ∀ H', Ex H H' → Q z H'
theorem spV_at {D : List V → Hp → V → Prop} {vs : List V} {H : Hp} {z : V} (h : ∀ H', Ex H H' → D vs H' z) : SpV (spV D) vs H z := fun H1 e Q q _ => ⟨z, h H1 e, q⟩
theorem atI_int {ns : List Int} {k : Int} (h0 : 0 ≤ k) (h : k < ns.length) : atI (ns.map V.int) k = some (V.int (ns.getD k.toNat 0)) := by
  obtain ⟨j, rfl⟩ : ∃ j : Nat, k = (j : Int) := ⟨k.toNat, by omega⟩
  refine atI_nat ?_
  have hj : j < ns.length := by omega
  rw [List.getElem?_map, List.getElem?_eq_getElem hj, Int.toNat_natCast, List.getD_eq_getElem?_getD, List.getElem?_eq_getElem hj]
  rfl
/-! ### whole -/
def dWhole : List V → Hp → V → Prop := fun vs _ z => ∃ i : Int, vs = [.int i] ∧ z = .bl true
abbrev law_whole_N : List Str := ["value"]
abbrev law_whole_P : List Str := ["value"]
theorem sc_law_whole : FnScope ["value"] ["value"] (defScope s_law_whole) := ⟨rfl, rfl, rfl, by decide +kernel, rfl, by decide +kernel, by decide +kernel⟩
theorem ok_whole (T : TX K mg) : OkF P w K mg base 1 "_law_whole" ["value"] (spV dWhole) := by
  have n_isinstance := T.n "isinstance" (by decide +kernel)
  have n_bool := T.n "bool" (by decide +kernel)
  have n_int := T.n "int" (by decide +kernel)
  refine T.okF 23 rfl (by decide +kernel) (fun f fd F => ?_) (fun _ _ _ _ _ _ us hl => match us, hl with | [_], _ => rfl)
  refine F.ok sc_law_whole (fun vs H Q E h => ?_) (fun cdv A outer s H vs Q E hr h => ?_)
  · obtain ⟨_, ⟨i, rfl, _⟩, _⟩ := h
    rfl
  · obtain ⟨_, ⟨i, rfl, rfl⟩, q⟩ := h
    refine ⟨_, (pss_one (ps_ret (pe_and (pe_callB (LX.k_isi (K := K)) (by rfl) n_isinstance (by decide +kernel) (pa_cons (pv 0) (pa_cons (pe_bltn (v := .ty "int") (u := .type "int") (by rfl) n_int (by decide +kernel) rfl) pa_nil))) (pe_one (pe_not (pe_callB (LX.k_isi (K := K)) (by rfl) n_isinstance (by decide +kernel) (pa_cons (pv 0) (pa_cons (pe_bltn (v := .ty "bool") (u := .type "bool") (by rfl) n_bool (by decide +kernel) rfl) pa_nil)))))))), ?_⟩
    exact g_ret (ev_is (ev_andV (ev_isi_int (b := true) (ev_var rfl) (by decide +kernel)) fun _ => (ev_notV (ev_isi_int (b := false) (ev_var rfl) (by decide +kernel)))) rfl) q H (Ex.refl H)
/-! ### cell -/
theorem take_more {α : Type} : ∀ {l : List α} {i : Nat} {x : α}, l[i]? = some x → l.take (i + 1) = l.take i ++ [x]
  | [], i, x, h => by simp at h
  | a :: l, 0, x, h => by
    have e : a = x := Option.some.inj h
    subst e
    rfl
  | a :: l, i + 1, x, h => by
    have ih := take_more (l := l) (i := i) (x := x) h
    show a :: l.take (i + 1) = a :: l.take i ++ [x]
    rw [ih]
    rfl
def cellOf (ns : List Int) (k : Int) : Int := if k < ns.length then ns.getD k.toNat 0 else ((ns.foldl (fun s c => (s * 31 + c % 1000003) % 1000003) 17 + 7) * (k + 3) * 69621) % 2147483647
def dCell (K : PySem.W.Frag) : List V → Hp → V → Prop := fun vs H z => ∃ (a : Addr) (ns : List Int) (k : Int), vs = [.ref a, .int k] ∧ SqL K H a (ns.map V.int) ∧ 0 ≤ k ∧ k < 100000 ∧ ns.length < 100000 ∧ z = .int (cellOf ns k)
abbrev law_cell_N : List Str := ["script", "k", "seed", "cell"]
abbrev law_cell_P : List Str := ["script", "k"]
theorem sc_law_cell : FnScope ["script", "k", "seed", "cell"] ["script", "k"] (defScope s_law_cell) := ⟨rfl, rfl, rfl, by decide +kernel, rfl, by decide +kernel, by decide +kernel⟩
theorem seed_bound : ∀ (ns : List Int) (s : Int), 0 ≤ s ∧ s < 1000003 → 0 ≤ ns.foldl (fun s c => (s * 31 + c % 1000003) % 1000003) s ∧ ns.foldl (fun s c => (s * 31 + c % 1000003) % 1000003) s < 1000003
  | [], _, h => h
  | c :: r, s, h => seed_bound r _ ⟨Int.emod_nonneg _ (by decide), Int.emod_lt_of_pos _ (by decide)⟩
theorem ok_cell (T : TX K mg) : OkF P w K mg base 1 "_law_cell" ["script", "k"] (spV (dCell K)) := by
  have n_len := T.n "len" (by decide +kernel)
  have n_int := T.n "int" (by decide +kernel)
  refine T.okF 24 rfl (by decide +kernel) (fun f fd F => ?_) (fun _ _ _ _ _ _ us hl => match us, hl with | [_, _], _ => rfl)
  refine F.ok sc_law_cell (fun vs H Q E h => ?_) (fun cdv A outer s H vs Q E hr h => ?_)
  · obtain ⟨_, ⟨a, ns, k, rfl, _⟩, _⟩ := h
    rfl
  · obtain ⟨_, ⟨a, ns, k, rfl, hS, h0, hk, hl, rfl⟩, q⟩ := h
    refine ⟨_, (pss_cons (ps_if (pt_cmpR op_lt (pv 1) (pe_callB (LX.k_len (K := K)) (by rfl) n_len (by decide +kernel) (pa_cons (pv 0) pa_nil)) (nomark _)) (pss_one (ps_ret (pe_ix (LX.k_ixl (K := K)) (pv 0) (pv 1) (fun _ _ => rfl)))) pss_nil)
        (pss_cons (ps_set (i := 2) sc_law_cell.nd rfl (.inl rfl) pe_int)
        (pss_cons (ps_for PassesOwn.never rfl (RX.k_pil (K := K) (pv 0)) (pg_name (i := 3) sc_law_cell.nd rfl (.inl rfl)) (pss_one (ps_set (i := 2) sc_law_cell.nd rfl (.inl rfl) (pe_op op_mod (pe_callTy call_int1 (by rfl) n_int (by decide +kernel) (pa_cons (pe_op op_add (pe_op op_mul (pv 2) pe_int) (pe_op op_mod (pe_callTy call_int1 (by rfl) n_int (by decide +kernel) (pa_cons (pv 3) pa_nil)) pe_int)) pa_nil)) pe_int))))
        (pss_one (ps_ret (pe_op op_mod (pe_callTy call_int1 (by rfl) n_int (by decide +kernel) (pa_cons (pe_op op_mul (pe_op op_mul (pe_op op_add (pv 2) pe_int) (pe_op op_add (pv 1) pe_int)) pe_int) pa_nil)) pe_int)))))), ?_⟩
    have hn : (ns.map V.int).length = ns.length := List.length_map ..
    refine g_when (et_test (ev_op (ev_var rfl) (ev_len (ev_var rfl) hS) rv_I0)) (fun hb => ?_) (fun hb => ?_) H (Ex.refl H)
    · have hb := of_decide_eq_true hb
      rw [hn] at hb
      have hat : atI (ns.map V.int) k = some (V.int (ns.getD k.toNat 0)) := atI_int h0 (by omega)
      refine g_ret (ev_op (ev_var rfl) (ev_var rfl) (rv_ixL hS hat)) fun H1 e => ?_
      have := q H1 e
      unfold cellOf at this
      rw [if_pos hb] at this
      exact this
    · have hb : ¬ (k < ((ns.map V.int).length : Int)) := of_decide_eq_false hb
      rw [hn] at hb
      refine g_asg ev_c ?_
      refine fun H1 e1 => q_forLn (ev_var rfl) (ex_l e1 hS) (fun i σ' H' => ∃ y, σ' = [some (.ref a), some (.int k), some (.int ((ns.take i).foldl (fun s c => (s * 31 + c % 1000003) % 1000003) 17)), y] ∧ Ex H H') (fun H2 e2 => ⟨none, rfl, e1.trans e2⟩) (fun i σ' H' _ h => ?_) (fun i x σ' H' hx h => ?_) fun σ' H' h => ?_
      · obtain ⟨y, rfl, e⟩ := h
        exact ex_l e hS
      · obtain ⟨y, rfl, e⟩ := h
        rw [List.getElem?_map] at hx
        obtain ⟨c, hc, rfl⟩ : ∃ c, ns[i]? = some c ∧ x = V.int c := by
          cases q : ns[i]? with
          | none =>
            rw [q] at hx
            cases hx
          | some c =>
            rw [q] at hx
            exact ⟨c, rfl, (Option.some.inj hx).symm⟩
        refine g1_asg (H := H') (ev_op (ev_int (ev_op (ev_op (ev_var rfl) ev_c (rv_I ?_)) (ev_op (ev_int (ev_var rfl)) ev_c (rv_I ?_)) rv_I0)) ev_c (rv_I ?_)) ?_ H' (Ex.refl H')
        · exact .inr ⟨by decide, by decide⟩
        · show (0 : Int) < 1000003
          decide
        · show (0 : Int) < 1000003
          decide
        · intro H1 e1
          refine ⟨some (V.int c), ?_, e.trans e1⟩
          rw [take_more hc, List.foldl_append]
          rfl
      · obtain ⟨y, rfl, e⟩ := h
        rw [hn, List.take_length]
        have hs := seed_bound ns 17 ⟨by decide, by decide⟩
        refine g_ret (H := H') (ev_op (ev_int (ev_op (ev_op (ev_op (ev_var rfl) ev_c rv_I0) (ev_op (ev_var rfl) ev_c rv_I0) (rv_I ?_)) ev_c (rv_I ?_))) ev_c (rv_I ?_)) (fun H1 e1 => ?_) H' (Ex.refl H')
        · exact .inl ⟨by omega, by omega⟩
        · exact .inr ⟨by decide, by decide⟩
        · show (0 : Int) < 2147483647
          decide
        · have := q H1 (e.trans e1)
          unfold cellOf at this
          rw [if_neg hb] at this
          exact this
/-! ### digits -/
section
variable {τ : Type} (g : τ → Int → Int) (h : τ → Int → τ)
def runD : τ → List Int → List Int
  | _, [] => []
  | st, s :: r => g st s :: runD (h st s) r
theorem runD_len : ∀ (st : τ) (l : List Int), (runD g h st l).length = l.length
  | _, [] => rfl
  | st, s :: r => congrArg Nat.succ (runD_len (h st s) r)
theorem runD_more : ∀ (l : List Int) (st : τ) (i : Nat) (s : Int), l[i]? = some s → (runD g h st l).take (i + 1) = (runD g h st l).take i ++ [g ((l.take i).foldl h st) s]
  | [], _, _, _, e => by simp at e
  | s0 :: r, st, 0, s, e => by
    have e : s0 = s := Option.some.inj e
    subst e
    rfl
  | s0 :: r, st, i + 1, s, e => by
    show g st s0 :: (runD g h (h st s0) r).take (i + 1) = g st s0 :: (runD g h (h st s0) r).take i ++ [_]
    rw [runD_more r (h st s0) i s e]
    rfl
theorem runD_bd : ∀ (l : List Int) (st : τ), (∀ st s, s ∈ l → 0 ≤ g st s ∧ g st s < s) → ∀ (i : Nat) (d : Int), (runD g h st l)[i]? = some d → ∃ s, l[i]? = some s ∧ 0 ≤ d ∧ d < s
  | [], _, _, _, _, e => by simp [runD] at e
  | s :: r, st, hb, 0, d, e => by
    have e : g st s = d := Option.some.inj e
    subst e
    exact ⟨s, rfl, hb st s (List.mem_cons_self ..)⟩
  | s :: r, st, hb, i + 1, d, e => runD_bd r (h st s) (fun st s hs => hb st s (List.mem_cons_of_mem _ hs)) i d e
end
def seedB (p : Int × Int) : Int := (p.1 * 48271 + 974711 * p.2 + 12345) % 2147483647
def gB (p : Int × Int) (s : Int) : Int := ((seedB p * (seedB p / 65537 + 3)) % 2147483629) / 19 % s
def hB (p : Int × Int) (_ : Int) : Int × Int := (seedB p, p.2 + 1)
def gA (r s : Int) : Int := r % s
def hA (r s : Int) : Int := r / s
def digitsOf (c : Int) (sizes : List Int) : List Int := if c ≥ 10 ^ 18 then runD gA hA (c - 10 ^ 18) sizes else runD gB hB (c % 2147483629, 0) sizes
theorem digits_len (c : Int) (l : List Int) : (digitsOf c l).length = l.length := by
  unfold digitsOf
  split
  · exact runD_len ..
  · exact runD_len ..
theorem digits_bd {c : Int} {l : List Int} (hl : ∀ s ∈ l, 0 < s) {i : Nat} {d : Int} (e : (digitsOf c l)[i]? = some d) : ∃ s, l[i]? = some s ∧ 0 ≤ d ∧ d < s := by
  unfold digitsOf at e
  split at e
  · exact runD_bd _ _ l _ (fun st s hs => ⟨Int.emod_nonneg _ (by have := hl s hs; omega), Int.emod_lt_of_pos _ (hl s hs)⟩) i d e
  · exact runD_bd _ _ l _ (fun st s hs => ⟨Int.emod_nonneg _ (by have := hl s hs; omega), Int.emod_lt_of_pos _ (hl s hs)⟩) i d e
theorem foldB (l : List Int) : ∀ p : Int × Int, (l.foldl hB p).2 = p.2 + l.length := by
  induction l with
  | nil => intro p; simp
  | cons s r ih =>
    intro p
    rw [List.foldl_cons, ih]
    show p.2 + 1 + _ = _
    rw [List.length_cons]
    omega
theorem seedB_bd (p : Int × Int) : 0 ≤ seedB p ∧ seedB p < 2147483647 := ⟨Int.emod_nonneg _ (by decide), Int.emod_lt_of_pos _ (by decide)⟩
theorem foldB_bd (l : List Int) : ∀ p : Int × Int, 0 ≤ p.1 ∧ p.1 < 2147483647 → 0 ≤ (l.foldl hB p).1 ∧ (l.foldl hB p).1 < 2147483647 := by
  induction l with
  | nil => intro p h; exact h
  | cons s r ih =>
    intro p _
    exact ih _ (seedB_bd p)
def spL (D : List V → Hp → List V → Prop) : Sp := fun vs H Q _ => ∃ xs, D vs H xs ∧ RetL xs H Q
theorem spL_at {D : List V → Hp → List V → Prop} {vs : List V} {H : Hp} {xs : List V} (h : ∀ H', Ex H H' → D vs H' xs) : SpL (spL D) vs H xs := fun H1 e Q q _ => ⟨xs, h H1 e, q⟩
def dDigits (K : PySem.W.Frag) : List V → Hp → List V → Prop := fun vs H xs => ∃ (c : Int) (a : Addr) (sizes : List Int), vs = [.int c, .ref a] ∧ SqL K H a (sizes.map V.int) ∧ (∀ s ∈ sizes, 0 < s ∧ s < 1073741824) ∧ sizes.length ≤ 1000 ∧ xs = (digitsOf c sizes).map V.int
theorem map_int_get {ns : List Int} {i : Nat} {x : V} (hx : (ns.map V.int)[i]? = some x) : ∃ c, ns[i]? = some c ∧ x = V.int c := by
  rw [List.getElem?_map] at hx
  cases q : ns[i]? with
  | none =>
    rw [q] at hx
    cases hx
  | some c =>
    rw [q] at hx
    exact ⟨c, rfl, (Option.some.inj hx).symm⟩
abbrev law_digits_N : List Str := ["cell", "sizes", "found", "rest", "size", "seed", "k", "twice"]
abbrev law_digits_P : List Str := ["cell", "sizes"]
theorem sc_law_digits : FnScope ["cell", "sizes", "found", "rest", "size", "seed", "k", "twice"] ["cell", "sizes"] (defScope s_law_digits) := ⟨rfl, rfl, rfl, by decide +kernel, rfl, by decide +kernel, by decide +kernel⟩
theorem ok_digits (T : TX K mg) : OkF P w K mg base 1 "_law_digits" ["cell", "sizes"] (spL (dDigits K)) := by
  have n_int := T.n "int" (by decide +kernel)
  have n_range := T.n "range" (by decide +kernel)
  have n_len := T.n "len" (by decide +kernel)
  refine T.okF 25 rfl (by decide +kernel) (fun f fd F => ?_) (fun _ _ _ _ _ _ us hl => match us, hl with | [_, _], _ => rfl)
  refine F.ok sc_law_digits (fun vs H Q E h => ?_) (fun cdv A outer s H vs Q E hr h => ?_)
  · obtain ⟨_, ⟨c, a, sizes, rfl, _⟩, _⟩ := h
    rfl
  · obtain ⟨_, ⟨c, a, sizes, rfl, hS, hz, hl, rfl⟩, q⟩ := h
    refine ⟨_, (pss_cons (ps_set (i := 2) sc_law_digits.nd rfl (.inl rfl) (pe_lst pa_nil))
        (pss_cons (ps_set (i := 3) sc_law_digits.nd rfl (.inl rfl) (pe_callTy call_int1 (by rfl) n_int (by decide +kernel) (pa_cons (pv 0) pa_nil)))
        (pss_cons (ps_if (pt_cmpR op_ge (pv 3) (pe_op op_pow pe_int pe_int) (nomark _)) (pss_cons (ps_set (i := 3) sc_law_digits.nd rfl (.inl rfl) (pe_op op_sub (pv 3) (pe_op op_pow pe_int pe_int)))
        (pss_cons (ps_for PassesOwn.never rfl (RX.k_pil (K := K) (pv 1)) (pg_name (i := 4) sc_law_digits.nd rfl (.inl rfl)) (pss_cons (ps_expr (pe_bm PySem.F.plainAttrs_list PySem.F.slot_list_append PySem.F.type_list_append mt_append (pv 2) (pa_cons (pe_op op_mod (pe_callTy call_int1 (by rfl) n_int (by decide +kernel) (pa_cons (pv 3) pa_nil)) (pv 4)) pa_nil)))
        (pss_one (ps_set (i := 3) sc_law_digits.nd rfl (.inl rfl) (pe_op op_fdiv (pe_callTy call_int1 (by rfl) n_int (by decide +kernel) (pa_cons (pv 3) pa_nil)) (pv 4))))))
        (pss_one (ps_ret (pv 2))))) pss_nil)
        (pss_cons (ps_set (i := 5) sc_law_digits.nd rfl (.inl rfl) (pe_op op_mod (pe_callTy call_int1 (by rfl) n_int (by decide +kernel) (pa_cons (pv 3) pa_nil)) pe_int))
        (pss_cons (ps_for PassesOwn.never rfl (pi_range1 (by rfl) n_range (pa_cons (pe_callB (LX.k_len (K := K)) (by rfl) n_len (by decide +kernel) (pa_cons (pv 1) pa_nil)) pa_nil)) (pg_name (i := 6) sc_law_digits.nd rfl (.inl rfl)) (pss_cons (ps_set (i := 5) sc_law_digits.nd rfl (.inl rfl) (pe_op op_mod (pe_callTy call_int1 (by rfl) n_int (by decide +kernel) (pa_cons (pe_op op_add (pe_op op_add (pe_op op_mul (pv 5) pe_int) (pe_op op_mul pe_int (pv 6))) pe_int) pa_nil)) pe_int))
        (pss_cons (ps_set (i := 7) sc_law_digits.nd rfl (.inl rfl) (pe_op op_mod (pe_callTy call_int1 (by rfl) n_int (by decide +kernel) (pa_cons (pe_op op_mul (pv 5) (pe_op op_add (pe_op op_fdiv (pv 5) pe_int) pe_int)) pa_nil)) pe_int))
        (pss_one (ps_expr (pe_bm PySem.F.plainAttrs_list PySem.F.slot_list_append PySem.F.type_list_append mt_append (pv 2) (pa_cons (pe_op op_mod (pe_op op_fdiv (pv 7) pe_int) (pe_ix (LX.k_ixl (K := K)) (pv 1) (pv 6) (fun _ _ => rfl))) pa_nil)))))))
        (pss_one (ps_ret (pv 2)))))))), ?_⟩
    have hn : (sizes.map V.int).length = sizes.length := List.length_map ..
    refine g_asgL (el_lst ea_nil (by decide)) (fun l H1 hl0 e1 hl1 => ?_) H (Ex.refl H)
    refine g_asg (ev_int (ev_var rfl)) ?_
    refine g_when (et_test (ev_op (ev_var rfl) (ev_op ev_c ev_c (rv_I ⟨by decide, by decide, by decide⟩)) rv_I0)) (fun hb => ?_) (fun hb => ?_)
    · have hb : (10 : Int) ^ 18 ≤ c := of_decide_eq_true hb
      have hd : digitsOf c sizes = runD gA hA (c - 10 ^ 18) sizes := if_pos hb
      rw [hd] at q
      refine g_asg (ev_op (ev_var rfl) (ev_op ev_c ev_c (rv_I ⟨by decide, by decide, by decide⟩)) rv_I0) ?_
      refine fun H2 e2 => q_forLn (ev_var rfl) (ex_l (e1.trans e2) hS) (fun i σ' H' => ∃ y, σ' = [some (.int c), some (.ref a), some (.ref l), some (.int ((sizes.take i).foldl hA (c - 10 ^ 18))), y, none, none, none] ∧ Ex H H' ∧ H' l = some (.lst (((runD gA hA (c - 10 ^ 18) sizes).take i).map V.int)))
        (fun H3 e3 => ⟨none, rfl, (e1.trans e2).trans e3, e3 _ _ (e2 _ _ hl1)⟩) (fun i σ' H' _ h => ?_) (fun i x σ' H' hx h => ?_) fun σ' H' h => ?_
      · obtain ⟨y, rfl, e, _⟩ := h
        exact ex_l e hS
      · obtain ⟨y, rfl, e, hf⟩ := h
        obtain ⟨z, hc, rfl⟩ := map_int_get hx
        have hm := hz z (List.mem_of_getElem? hc)
        have hlen : (((runD gA hA (c - 10 ^ 18) sizes).take i).map V.int).length < 100000 := by
          rw [List.length_map, List.length_take, runD_len]
          omega
        refine q_app hf (ev_var rfl) (ev_op (ev_int (ev_var rfl)) (ev_var rfl) (rv_mod hm.1)) hlen fun H3 e3 => ?_
        refine s_asg (ev_op (ev_int (ev_var rfl)) (ev_var rfl) (rv_I ⟨hm.1, hm.2⟩)) fun H4 e4 => ?_
        refine ⟨some (.int z), ?_, ((Ex.mut (e.trans e3) hl0).trans e4), ?_⟩
        · rw [take_more hc, List.foldl_append]
          rfl
        · refine e4 _ _ ?_
          rw [upd_same, runD_more _ _ _ _ _ _ hc, List.map_append]
          rfl
      · obtain ⟨y, rfl, e, hf⟩ := h
        rw [hn] at hf
        rw [List.take_of_length_le (by rw [runD_len]; exact Nat.le_refl _)] at hf
        exact s_ret (ev_var rfl) fun H3 e3 => q l H3 hl0 (e.trans e3) (e3 _ _ hf)
    · have hb : ¬ (10 : Int) ^ 18 ≤ c := of_decide_eq_false hb
      have hd : digitsOf c sizes = runD gB hB (c % 2147483629, 0) sizes := if_neg hb
      rw [hd] at q
      refine g_asg (ev_op (ev_int (ev_var rfl)) ev_c (rv_mod (by decide))) ?_
      have hs0 : 0 ≤ c % 2147483629 ∧ c % 2147483629 < 2147483647 := by omega
      refine fun H2 e2 => q_forR1 (n := (sizes.length : Int)) (ea_cons (ev_is (ev_len (ev_var rfl) (ex_l (e1.trans e2) hS)) (by rw [hn])) ea_nil) (by omega)
        (fun i σ' H' => ∃ y z, σ' = [some (.int c), some (.ref a), some (.ref l), some (.int c), none, some (.int ((sizes.take i).foldl hB (c % 2147483629, 0)).1), y, z] ∧ Ex H H' ∧ H' l = some (.lst (((runD gB hB (c % 2147483629, 0) sizes).take i).map V.int)))
        (fun H3 e3 => ⟨none, none, rfl, (e1.trans e2).trans e3, e3 _ _ (e2 _ _ hl1)⟩) (fun i σ' H' hi h => ?_) fun σ' H' h => ?_
      · obtain ⟨y, z, rfl, e, hf⟩ := h
        have hi : i < sizes.length := by omega
        have hc : sizes[i]? = some sizes[i] := List.getElem?_eq_getElem hi
        have hm := hz sizes[i] (List.getElem_mem hi)
        have hlen : (((runD gB hB (c % 2147483629, 0) sizes).take i).map V.int).length < 100000 := by
          rw [List.length_map, List.length_take, runD_len]
          omega
        have hp := foldB_bd (sizes.take i) (c % 2147483629, 0) hs0
        have hk := foldB (sizes.take i) (c % 2147483629, 0)
        rw [List.length_take, Nat.min_eq_left (by omega)] at hk
        have hk : ((sizes.take i).foldl hB (c % 2147483629, 0)).2 = (i : Int) := by
          rw [hk]
          show (0 : Int) + _ = _
          omega
        generalize hpe : (sizes.take i).foldl hB (c % 2147483629, 0) = p at hp hk
        have hsb := seedB_bd p
        have hseed : (p.1 * 48271 + 974711 * (i : Int) + 12345) % 2147483647 = seedB p := by
          unfold seedB
          rw [hk]
        have hget : atI (sizes.map V.int) (i : Int) = some (V.int sizes[i]) := atI_nat (by rw [List.getElem?_map, hc]; rfl)
        refine g_asg (H := H') (ev_is (v := V.int ((p.1 * 48271 + 974711 * (i : Int) + 12345) % 2147483647)) (ev_op (ev_int (ev_op (ev_op (ev_op (ev_var rfl) ev_c (rv_mulR (by decide))) (ev_op ev_c (ev_var rfl) (rv_mulL (by decide))) rv_I0) ev_c rv_I0)) ev_c (rv_mod (by decide))) (congrArg V.int hseed)) ?_ H' (Ex.refl H')
        refine g_asg (ev_op (ev_int (ev_op (ev_var rfl) (ev_op (ev_op (ev_var rfl) ev_c (rv_div (by decide))) ev_c rv_I0) (rv_mulL (by omega)))) ev_c (rv_mod (by decide))) ?_
        refine fun H3 e3 => s_app (e3 _ _ hf) (ev_var rfl) (ev_op (ev_op (ev_var rfl) ev_c (rv_div (by decide))) (ev_op (ev_var rfl) (ev_var rfl) (rv_ixL (ex_l (e.trans e3) hS) hget)) (rv_mod hm.1)) hlen fun H4 e4 => ?_
        refine ⟨some (V.int (i : Int)), some (V.int ((seedB p * (seedB p / 65537 + 3)) % 2147483629)), ?_, Ex.mut ((e.trans e3).trans e4) hl0, ?_⟩
        · rw [take_more hc, List.foldl_append, hpe]
          rfl
        · rw [upd_same, runD_more _ _ _ _ _ _ hc, List.map_append, hpe]
          rfl
      · obtain ⟨y, z, rfl, e, hf⟩ := h
        rw [Int.toNat_natCast, List.take_of_length_le (by rw [runD_len]; exact Nat.le_refl _)] at hf
        exact s_ret (ev_var rfl) fun H3 e3 => q l H3 hl0 (e.trans e3) (e3 _ _ hf)
end Kx
namespace Kx
open PySem PySem.Spec PyProof.Rows L2 Evl LX T XV RX WS
variable {P : Program} {w : World} {K : PySem.W.Frag} {mg : Str → Option Value} {base : Heap}
/-! ### unlike -/
def dUnlike (K : PySem.W.Frag) : List V → Hp → (V → Hp → Prop) → Prop := fun vs B Pz => ∃ (s : Str) (a : Addr) (L : List Str), vs = [.str s, .ref a] ∧ B a = some (.lst (L.map V.str)) ∧ NM.Nam s ∧ L.length ≤ 11 ∧ Pz = IsV (.str (NM.unlike s (resS ++ L)))
abbrev law_unlike_N : List Str := ["text", "taken", "barred", "sign"]
abbrev law_unlike_P : List Str := ["text", "taken"]
theorem sc_law_unlike : FnScope ["text", "taken", "barred", "sign"] ["text", "taken"] (defScope s_law_unlike) := ⟨rfl, rfl, rfl, by decide +kernel, rfl, by decide +kernel, by decide +kernel⟩
theorem nam_ok {s : Str} (h : NM.Nam s) (hr : s ∉ resS) : nameOkS s = true := by
  unfold nameOkS
  rw [h.ascii, h.alnum, h.lower, h.nodigit, NM.inV_str, decide_eq_false hr, h.len]
  have h1 := h.pos
  have h2 := h.few
  rw [decide_eq_true (by omega : (1 : Int) ≤ (s.cps.toList.length : Int)), decide_eq_true (by omega : ((s.cps.toList.length : Nat) : Int) ≤ 12)]
  rfl
theorem ok_unlike (T : TX K mg) : OkF P w K mg base 1 "_law_unlike" ["text", "taken"] (spR (dUnlike K)) := by
  refine T.okF 26 rfl (by decide +kernel) (fun f fd F => ?_) (fun _ _ _ _ _ _ us hl => match us, hl with | [_, _], _ => rfl)
  refine F.ok sc_law_unlike (fun vs H Q E h => spR_len h (by rintro B Pz ⟨s, a, L, rfl, _⟩; rfl)) (fun cdv A outer s H vs Q E hr ⟨B, Pz, e, ⟨st, a, L, hvs, hL, hst, hlen, hP⟩, q⟩ => ?_)
  subst hvs hP
  refine ⟨_, (pss_cons (ps_set (i := 2) sc_law_unlike.nd rfl (.inl rfl) (pe_op op_cat (pe_lst (pa_cons pe_str (pa_cons pe_str (pa_cons pe_str (pa_cons pe_str (pa_cons pe_str (pa_cons pe_str (pa_cons pe_str (pa_cons pe_str (pa_cons pe_str (pa_cons pe_str (pa_cons pe_str pa_nil)))))))))))) (pv 1)))
        (pss_cons (ps_if (pt_cmpR (LX.k_notIn (K := K)) (pv 0) (pv 2) (by rfl)) (pss_one (ps_ret (pv 0))) pss_nil)
        (pss_cons (ps_for PassesOwn.never rfl (pi_str pe_str) (pg_name (i := 3) sc_law_unlike.nd rfl (.inl rfl)) (pss_one (ps_if (pt_cmpR (LX.k_notIn (K := K)) (pe_op op_add_str (pe_slice sl_str (pv 0) po_none (po_some (pe_un un_neg pe_int))) (pv 3)) (pv 2) (by rfl)) (pss_one (ps_ret (pe_op op_add_str (pe_slice sl_str (pv 0) po_none (po_some (pe_un un_neg pe_int))) (pv 3)))) pss_nil)))
        (pss_one (ps_ret (pv 0)))))), ?_⟩
  have hsl : st.length ≤ 12 := by rw [hst.len]; exact hst.few
  have fin : ∀ {σ : L2.St} {te : TE} {D : Ends} {B' : Hp}, Gr H B B' → D.rt = Q → Ev te σ B' (.str (NM.unlike st (resS ++ L))) → Sx H (tRet te) D σ B' := fun {σ te D B'} g hD h => by
    subst hD
    exact x_ret (eR_v h) (fun z B'' H' g2 p e1 e2 => q z H' B'' e2 (g.trans g2) e1 p)
  have hbl : (resS.map V.str ++ L.map V.str) = (resS ++ L).map V.str := (List.map_append ..).symm
  refine x_asgL (X := H) (B := B) (xs := (resS ++ L).map V.str) (hbl ▸ NM.el_catV (el_lst (vs := resS.map V.str) (ea_cons ev_c (ea_cons ev_c (ea_cons ev_c (ea_cons ev_c (ea_cons ev_c (ea_cons ev_c (ea_cons ev_c (ea_cons ev_c (ea_cons ev_c (ea_cons ev_c (ea_cons ev_c ea_nil))))))))))) (show (11 : Nat) ≤ 100000 by decide)) (ev_var rfl) hL (by rw [List.length_map, List.length_map]; show 11 + L.length ≤ 100000; omega)) (fun p hpB hpH => ?_) H e (Ex.refl H)
  have g1 : Gr H B (upd B p (.lst ((resS ++ L).map V.str))) := gr_new hpB hpH
  generalize hB1 : upd B p (.lst ((resS ++ L).map V.str)) = B1 at g1
  have hp1 : B1 p = some (.lst ((resS ++ L).map V.str)) := by rw [← hB1]; exact upd_same
  have hfl : ∀ l : List Str, (l.map V.str).all flatV = true := fun l => by
    rw [List.all_map]
    exact List.all_eq_true.mpr fun _ _ => rfl
  refine x_when (b := decide (st ∉ resS ++ L)) (et_test (ev_is (ev_op (ev_var rfl) (ev_var rfl) (rv_niL (sq_of hp1) rfl (hfl _))) (by rw [NM.inV_str]; simp))) (fun hb => ?_) (fun hb => ?_)
  · have hb := of_decide_eq_true hb
    refine fin g1 rfl (ev_is (ev_var rfl) ?_)
    unfold NM.unlike
    rw [if_neg hb]
  · have hb : st ∈ resS ++ L := Decidable.not_not.mp (of_decide_eq_false hb)
    have hun : ∀ {r : Option Nat}, NM.letL.find? (fun c => decide (NM.withL st c ∉ resS ++ L)) = r → NM.unlike st (resS ++ L) = (match r with | some c => NM.withL st c | none => st) := fun {r} hr => by
      unfold NM.unlike
      rw [if_pos hb, hr]
      all_goals (cases r <;> rfl)
    refine x_for (F := B1) (Ex.refl _) (NM.ei_str (s := "abcdefghijklmnopqrstuvwxyz") ev_c) (fun F' ys i σ' B' => B' = F' ∧ (∃ y, σ' = [some (V.str st), some (.ref a), some (.ref p), y]) ∧ ∀ j d, j < i → NM.letL[j]? = some d → decide (NM.withL st d ∉ resS ++ L) = false) (fun F' ys g hy av => ⟨NM.mrg_self g.ex, ⟨none, rfl⟩, fun j d hj => absurd hj (Nat.not_lt_zero _)⟩) (fun F' ys i σ' B' h => h.1 ▸ Ex.refl _) (fun F' ys i x σ' B' g hy hxi h => ?_) (fun F' ys σ' B' g hy h => ?_)
    · obtain ⟨rfl, ⟨y, rfl⟩, hall⟩ := h
      subst hy
      have hxi' : (NM.letL.map fun c => V.str ⟨#[c]⟩)[i]? = some x := by
        have : NM.chV "abcdefghijklmnopqrstuvwxyz" = NM.letL.map fun c => V.str ⟨#[c]⟩ := by
          unfold NM.chV
          rw [show ("abcdefghijklmnopqrstuvwxyz" : Str).cps.toList = NM.letL by decide +kernel]
        rw [← this]
        exact hxi
      rw [List.getElem?_map] at hxi'
      cases hc : NM.letL[i]? with
      | none => rw [hc] at hxi'; exact nomatch hxi'
      | some c =>
        rw [hc] at hxi'
        have hx : V.str ⟨#[c]⟩ = x := Option.some.inj hxi'
        subst hx
        have hcl : (cutS st none (some (-1))).length ≤ 12 := by
          have : (NM.cutL st).cps.toList.length ≤ 12 := by
            rw [NM.cutL_list hst.pos, List.length_take]
            have := hst.few
            omega
          rw [Array.length_toList] at this
          exact this
        have hev : ∀ {te : TE}, True := fun {te} => trivial
        refine x_last (x_when (b := decide (NM.withL st c ∉ resS ++ L)) (et_test (ev_is (ev_op (ev_op (NM.ev_slS (ev_var rfl) eo_none (eo_some (ev_un ev_c ru_neg)) (by omega)) (ev_var rfl) (rv_addS (by show _ + 1 ≤ 100000; omega))) (ev_var rfl) (rv_niL (sq_of (g.ex _ _ hp1)) rfl (hfl _))) (by rw [NM.inV_str]; simp; rfl))) (fun hb2 => ?_) (fun hb2 => ?_))
        · refine fin (g1.trans g) rfl (ev_is (ev_op (NM.ev_slS (ev_var rfl) eo_none (eo_some (ev_un ev_c ru_neg)) (by omega)) (ev_var rfl) (rv_addS (by show _ + 1 ≤ 100000; omega))) ?_)
          rw [hun (NM.find_at (p := fun c => decide (NM.withL st c ∉ resS ++ L)) hc hb2 hall)]
          rfl
        · exact x_nx rfl ⟨rfl, ⟨_, rfl⟩, fun j d hj hd => by
            rcases Nat.lt_or_eq_of_le (Nat.le_of_lt_succ hj) with q | q
            · exact hall j d q hd
            · subst q
              rw [hc] at hd
              cases hd
              exact hb2⟩
    · obtain ⟨rfl, ⟨y, rfl⟩, hall⟩ := h
      refine fin (g1.trans g) rfl (ev_is (ev_var rfl) ?_)
      have hn : NM.letL.find? (fun c => decide (NM.withL st c ∉ resS ++ L)) = none := by
        rw [List.find?_eq_none]
        intro c hc
        obtain ⟨j, hj, rfl⟩ := List.mem_iff_getElem.mp hc
        have := hall j _ (by rw [hy]; show j < _; have : (NM.chV "abcdefghijklmnopqrstuvwxyz").length = 26 := by decide +kernel
                             rw [this]; exact hj) (List.getElem?_eq_getElem hj)
        rw [this]
        exact Bool.false_ne_true
      rw [hun hn]
end Kx
namespace Kx
open PySem PySem.Spec PyProof.Rows L2 Evl LX T XV RX WS
variable {P : Program} {w : World} {K : PySem.W.Frag} {mg : Str → Option Value} {base : Heap}
/-! ### drawn digits, over the readings -/
theorem el_digits {σ : L2.St} {B : Hp} {tc tl : TE} {c : Int} {sizes : List Int} (hc : Ev tc σ B (.int c)) (hl : EvL tl σ B (sizes.map V.int)) (hs : ∀ s ∈ sizes, 0 < s ∧ s < 1073741824) (hz : sizes.length ≤ 1000) : EvL (tCall (spL (dDigits K)) [] E0 (tCons tc (tCons tl tNil))) σ B ((digitsOf c sizes).map V.int) :=
  el_callP (eap_cons hc (eap_consL hl eap_nil)) fun vs H1 e h => spL_at fun H2 e2 => by
    obtain ⟨r, rfl, p, r2, rfl, hp, rfl⟩ := h
    exact ⟨c, p, sizes, rfl, sq_of (e2 _ _ hp), hs, hz, rfl⟩
theorem ev_cell {σ : L2.St} {B : Hp} {ts tk : TE} {a : Addr} {ns : List Int} {k : Int} (hs : Ev ts σ B (.ref a)) (hS : SqL K B a (ns.map V.int)) (hk : Ev tk σ B (.int k)) (h0 : 0 ≤ k) (h1 : k < 100000) (hn : ns.length < 100000) : Ev (tCall (spV (dCell K)) [] E0 (tCons ts (tCons tk tNil))) σ B (.int (cellOf ns k)) := fun H1 e Q q =>
  hs H1 e _ fun H2 e2 => hk H2 (e.trans e2) _ fun H3 e3 => ⟨_, ⟨a, ns, k, rfl, ex_l ((e.trans e2).trans e3) hS, h0, h1, hn, rfl⟩, fun H4 e4 => q H4 ((e2.trans e3).trans e4)⟩
theorem dg_bd {c : Int} {l : List Int} (hl : ∀ s ∈ l, 0 < s) {i : Nat} {s : Int} (e : l[i]? = some s) : 0 ≤ (digitsOf c l).getD i 0 ∧ (digitsOf c l).getD i 0 < s := by
  have h1 : i < (digitsOf c l).length := by
    rw [digits_len]
    exact (List.getElem?_eq_some_iff.mp e).1
  have h2 : (digitsOf c l)[i]? = some ((digitsOf c l).getD i 0) := by
    rw [List.getD_eq_getElem?_getD, List.getElem?_eq_getElem h1]
    rfl
  obtain ⟨s', e', a, b⟩ := digits_bd hl h2
  rw [e] at e'
  cases e'
  exact ⟨a, b⟩
/-! ### names -/
def IsNam : V → Hp → Prop := fun z _ => ∃ s, z = .str s ∧ NM.Nam s
def IsNames (n : Nat) : V → Hp → Prop := fun z B => ∃ (p : Addr) (L : List Str), z = .ref p ∧ B p = some (.lst (L.map V.str)) ∧ L.length = n ∧ L.Nodup ∧ ∀ s ∈ L, NM.Nam s ∧ s ∉ resS
instance {n : Nat} : Mo (IsNames n) := ⟨fun e ⟨p, L, h, q, r⟩ => ⟨p, L, h, e _ _ q, r⟩⟩
def dNames (K : PySem.W.Frag) : List V → Hp → (V → Hp → Prop) → Prop := fun vs B Pz => ∃ (a : Addr) (ns : List Int) (at_ many : Int), vs = [.ref a, .int at_, .int many] ∧ SqL K B a (ns.map V.int) ∧ ns.length < 100000 ∧ 0 ≤ at_ ∧ at_ ≤ 1000 ∧ 0 ≤ many ∧ many ≤ 12 ∧ Pz = IsNames many.toNat
def SZ1 : List Int := [5, 12, 12, 26, 12, 26] ++ List.replicate 11 36
def SZ2 : List Int := [12, 26] ++ List.replicate 11 36
theorem SZ1_ok : ∀ s ∈ SZ1, 0 < s ∧ s < 1073741824 := by decide
theorem SZ2_ok : ∀ s ∈ SZ2, 0 < s ∧ s < 1073741824 := by decide
theorem SZ1_get : ∀ k ∈ List.range 11, SZ1[6 + k]? = some 36 := by decide
theorem SZ2_get : ∀ k ∈ List.range 11, SZ2[2 + k]? = some 36 := by decide
abbrev law_names_N : List Str := ["script", "at", "many", "letters", "shape", "base", "alike", "place", "found", "j", "digits", "text", "k"]
abbrev law_names_P : List Str := ["script", "at", "many"]
theorem sc_law_names : FnScope ["script", "at", "many", "letters", "shape", "base", "alike", "place", "found", "j", "digits", "text", "k"] ["script", "at", "many"] (defScope s_law_names) := ⟨rfl, rfl, rfl, by decide +kernel, rfl, by decide +kernel, by decide +kernel⟩
theorem ok_names (T : TX K mg) : OkF P w K mg base 2 "_law_names" ["script", "at", "many"] (spR (dNames K)) := by
  have n_range := T.n "range" (by decide +kernel)
  have n_int := T.n "int" (by decide +kernel)
  have n_len := T.n "len" (by decide +kernel)
  refine T.okF 27 rfl (by decide +kernel) (fun f fd F => ?_) (fun _ _ _ _ _ _ us hl => match us, hl with | [_, _, _], _ => rfl)
  have O__law_digits := ok_digits (P := P) (w := w) (base := base) T
  have O__law_cell := ok_cell (P := P) (w := w) (base := base) T
  have O__law_unlike := ok_unlike (P := P) (w := w) (base := base) T
  refine F.ok sc_law_names (fun vs H Q E h => spR_len h (by rintro B Pz ⟨a, ns, k, m, rfl, _⟩; rfl)) (fun cdv A outer s H vs Q E hr ⟨B, Pz, e, ⟨a, ns, at_, many, hvs, hS, hn, ha0, ha1, hm0, hm1, hP⟩, q⟩ => ?_)
  subst hvs hP
  refine ⟨_, (pss_cons (ps_set (i := 3) sc_law_names.nd rfl (.inr rfl) pe_str)
        (pss_cons (ps_set (i := 4) sc_law_names.nd rfl (.inr rfl) (LX.pe_f O__law_digits hr (by decide) (pa_cons (LX.pe_f O__law_cell hr (by decide) (pa_cons (pv 0) (pa_cons (pv 1) pa_nil))) (pa_cons (pe_op op_cat (pe_lst (pa_cons pe_int (pa_cons pe_int (pa_cons pe_int (pa_cons pe_int (pa_cons pe_int (pa_cons pe_int pa_nil))))))) (pe_lc (own := [("k", 12)]) (g := gName 12) (tt := tYes) rfl sc_law_names.nd (pi_range1 (by rfl) n_range (pa_cons pe_int pa_nil)) (blkOk_by (N := law_names_N) (sc := defScope s_law_names) (by decide +kernel)) (fun _ _ _ _ _ => pg_name (i := 12) sc_law_names.nd rfl (Or.inl rfl)) (fun _ _ _ _ _ => pts_nil) (fun _ _ _ _ _ => pe_int))) pa_nil))))
        (pss_cons (ps_set (i := 5) sc_law_names.nd rfl (.inl rfl) (pe_op op_add_str (pe_ix ix_str (pv 3) (pe_ix (LX.k_ixl (K := K)) (pv 4) pe_int (fun _ _ => rfl)) (fun _ _ => rfl)) (pe_join pe_str (pe_lc (own := [("k", 12)]) (g := gName 12) (tt := tYes) rfl sc_law_names.nd (pi_range1 (by rfl) n_range (pa_cons pe_int pa_nil)) (blkOk_by (N := law_names_N) (sc := defScope s_law_names) (by decide +kernel)) (fun _ _ _ _ _ => pg_name (i := 12) sc_law_names.nd rfl (Or.inl rfl)) (fun _ _ _ _ _ => pts_nil) (fun _ _ _ _ _ => (pe_ix ix_str (pv 3) (pe_ix (LX.k_ixl (K := K)) (pv 4) (pe_op op_add pe_int (pv 12)) (fun _ _ => rfl)) (fun _ _ => rfl)))))))
        (pss_cons (ps_set (i := 6) sc_law_names.nd rfl (.inl rfl) (pe_slice sl_str (pv 5) po_none (po_some (pe_op op_add pe_int (pe_ix (LX.k_ixl (K := K)) (pv 4) pe_int (fun _ _ => rfl))))))
        (pss_cons (ps_set (i := 7) sc_law_names.nd rfl (.inl rfl) (pe_op op_mod (pe_callTy call_int1 (by rfl) n_int (by decide +kernel) (pa_cons (pe_ix (LX.k_ixl (K := K)) (pv 4) pe_int (fun _ _ => rfl)) pa_nil)) (pe_callB call_len_str (by rfl) n_len (by decide +kernel) (pa_cons (pv 6) pa_nil))))
        (pss_cons (ps_set (i := 8) sc_law_names.nd rfl (.inl rfl) (pe_lst pa_nil))
        (pss_cons (ps_for PassesOwn.never rfl (pi_range1 (by rfl) n_range (pa_cons (pv 2) pa_nil)) (pg_name (i := 9) sc_law_names.nd rfl (.inl rfl)) (pss_cons (ps_set (i := 10) sc_law_names.nd rfl (.inr rfl) (LX.pe_f O__law_digits hr (by decide) (pa_cons (LX.pe_f O__law_cell hr (by decide) (pa_cons (pv 0) (pa_cons (pe_op op_add (pe_op op_add (pv 1) pe_int) (pv 9)) pa_nil))) (pa_cons (pe_op op_cat (pe_lst (pa_cons pe_int (pa_cons pe_int pa_nil))) (pe_lc (own := [("k", 12)]) (g := gName 12) (tt := tYes) rfl sc_law_names.nd (pi_range1 (by rfl) n_range (pa_cons pe_int pa_nil)) (blkOk_by (N := law_names_N) (sc := defScope s_law_names) (by decide +kernel)) (fun _ _ _ _ _ => pg_name (i := 12) sc_law_names.nd rfl (Or.inl rfl)) (fun _ _ _ _ _ => pts_nil) (fun _ _ _ _ _ => pe_int))) pa_nil))))
        (pss_cons (ps_set (i := 11) sc_law_names.nd rfl (.inl rfl) (pe_op op_add_str (pe_ix ix_str (pv 3) (pe_ix (LX.k_ixl (K := K)) (pv 10) pe_int (fun _ _ => rfl)) (fun _ _ => rfl)) (pe_join pe_str (pe_lc (own := [("k", 12)]) (g := gName 12) (tt := tYes) rfl sc_law_names.nd (pi_range1 (by rfl) n_range (pa_cons (pe_ix (LX.k_ixl (K := K)) (pv 10) pe_int (fun _ _ => rfl)) pa_nil)) (blkOk_by (N := law_names_N) (sc := defScope s_law_names) (by decide +kernel)) (fun _ _ _ _ _ => pg_name (i := 12) sc_law_names.nd rfl (Or.inl rfl)) (fun _ _ _ _ _ => pts_nil) (fun _ _ _ _ _ => (pe_ix ix_str (pv 3) (pe_ix (LX.k_ixl (K := K)) (pv 10) (pe_op op_add pe_int (pv 12)) (fun _ _ => rfl)) (fun _ _ => rfl)))))))
        (pss_cons (ps_if (pw_or (pt_cmpR op_eq (pe_ix (LX.k_ixl (K := K)) (pv 4) pe_int (fun _ _ => rfl)) pe_int (nomark _)) (pw_or1 (pt_cmpR op_eq (pe_ix (LX.k_ixl (K := K)) (pv 4) pe_int (fun _ _ => rfl)) pe_int (nomark _)))).pt (pss_one (ps_set (i := 11) sc_law_names.nd rfl (.inl rfl) (pe_op op_add_str (pe_op op_add_str (pe_slice sl_str (pv 6) po_none (po_some (pv 7))) (pe_ix ix_str (pv 3) (pe_op op_mod (pe_callTy call_int1 (by rfl) n_int (by decide +kernel) (pa_cons (pe_op op_add (pe_ix (LX.k_ixl (K := K)) (pv 4) pe_int (fun _ _ => rfl)) (pe_op op_mul (pv 9) (pe_op op_add (pe_op op_mul pe_int (pe_ix (LX.k_ixl (K := K)) (pv 4) pe_int (fun _ _ => rfl))) pe_int))) pa_nil)) pe_int) (fun _ _ => rfl))) (pe_slice sl_str (pv 6) (po_some (pe_op op_add (pv 7) pe_int)) po_none)))) pss_nil)
        (pss_cons (ps_if (pt_cmpR op_eq (pe_ix (LX.k_ixl (K := K)) (pv 4) pe_int (fun _ _ => rfl)) pe_int (nomark _)) (pss_one (ps_set (i := 11) sc_law_names.nd rfl (.inl rfl) (pe_slice sl_str (pv 5) po_none (po_some (pe_op op_add pe_int (pe_op op_mod (pe_callTy call_int1 (by rfl) n_int (by decide +kernel) (pa_cons (pe_op op_add (pe_ix (LX.k_ixl (K := K)) (pv 4) pe_int (fun _ _ => rfl)) (pe_op op_mul pe_int (pv 9))) pa_nil)) pe_int)))))) pss_nil)
        (pss_one (ps_expr (pe_bm PySem.F.plainAttrs_list PySem.F.slot_list_append PySem.F.type_list_append mt_append (pv 8) (pa_cons (LX.pe_f O__law_unlike hr (by decide) (pa_cons (pv 11) (pa_cons (pv 8) pa_nil))) pa_nil)))))))))
        (pss_one (ps_ret (pv 8)))))))))), ?_⟩
  refine x_asgV (X := H) (B := B) (v := .str NM.letS) ev_c ?_ H e (Ex.refl H)
  refine x_asgL (xs := (digitsOf (cellOf ns at_) SZ1).map V.int) (el_digits (ev_cell (ev_var rfl) hS (ev_var rfl) ha0 (by omega) hn) (el_catN (xs := [.int 5, .int 12, .int 12, .int 26, .int 12, .int 26]) (el_lst (ea_cons ev_c (ea_cons ev_c (ea_cons ev_c (ea_cons ev_c (ea_cons ev_c (ea_cons ev_c ea_nil)))))) (show (6 : Nat) ≤ 100000 by decide)) (el_lcR1 (n := 11) (fun _ => true) (fun _ => .int 36) (ea_cons ev_c ea_nil) (by decide) (fun _ => rfl) (fun _ _ _ _ => et_yes) (fun i H1 e hi _ => ev_c)) (show 6 + 11 ≤ 100000 by decide)) SZ1_ok (by decide)) fun p1 h1B h1H => ?_
  have hb1 : ∀ i s, SZ1[i]? = some s → 0 ≤ (digitsOf (cellOf ns at_) SZ1).getD i 0 ∧ (digitsOf (cellOf ns at_) SZ1).getD i 0 < s := fun i s h => dg_bd (fun s hs => (SZ1_ok s hs).1) h
  have hl1 : (digitsOf (cellOf ns at_) SZ1).length = 17 := digits_len _ SZ1
  generalize hds : digitsOf (cellOf ns at_) SZ1 = ds at hb1 hl1
  have g1 : Gr H B (upd B p1 (.lst (ds.map V.int))) := gr_new h1B h1H
  generalize hB1 : upd B p1 (.lst (ds.map V.int)) = B1 at g1
  have hp1 : SqL K B1 p1 (ds.map V.int) := by rw [← hB1]; exact sq_of upd_same
  clear hB1 hds
  have d0 := hb1 0 5 rfl
  have d1 := hb1 1 12 rfl
  have d2 := hb1 2 12 rfl
  have d3 := hb1 3 26 rfl
  have d4 := hb1 4 12 rfl
  have d5 := hb1 5 26 rfl
  have ev_d : ∀ {σ : L2.St} {B' : Hp} {te tk : TE} {p : Addr} {l : List Int} {k : Nat}, Ev te σ B' (.ref p) → SqL K B' p (l.map V.int) → Ev tk σ B' (.int (k : Int)) → k < l.length → Ev (tOp (rIxL K) te tk) σ B' (.int (l.getD k 0)) := fun {σ B' te tk p l k} h1 h2 h3 h4 => by
    have := atI_int (ns := l) (k := (k : Int)) (by omega) (by omega)
    rw [Int.toNat_natCast] at this
    exact ev_op h1 h3 (rv_ixL h2 this)
  -- base
  refine x_asgV (v := .str (NM.mk (NM.lets.getD (ds.getD 5 0).toNat 0 :: (List.range 11).map fun k => NM.lets.getD (ds.getD (6 + k) 0).toNat 0))) (NM.ev_mkJoin (K := K) (NM.ev_letter (ev_var rfl) (ev_d (k := 5) (ev_var rfl) hp1 ev_c (by omega)) (by omega) (by omega)) ?_ (by rw [List.length_map, List.length_range]; decide)) ?_
  · have := el_lcR1 (σ := [some (V.ref a), some (.int at_), some (.int many), some (.str NM.letS), some (.ref p1), none, none, none, none, none, none, none, none]) (H := B1) (t := tYes) (te := tOp rIxS (tVar 3) (tOp (rIxL K) (tVar 4) (tOp (rI0 fun i j => .int (i + j)) (tC (.int 6)) (tVar 12)))) (ta := tCons (tC (.int 11)) tNil) (j := 12) (vs := [12]) (n := 11) (fun _ => true) (fun k => .str (NM.mk [NM.lets.getD (ds.getD (6 + k) 0).toNat 0])) (ea_cons ev_c ea_nil) (by decide) (fun _ => rfl) (fun _ _ _ _ => et_yes) (fun k H1 e1 hk _ => ?_)
    · rw [given_all] at this
      rw [List.map_map]
      exact this
    · have hk' := hb1 (6 + k) 36 (SZ1_get k (List.mem_range.mpr (by omega)))
      have e6 : (6 : Int) + (k : Int) = ((6 + k : Nat) : Int) := by omega
      exact NM.ev_letter (ev_var rfl) (ev_d (k := 6 + k) (ev_var rfl) (ex_l e1 hp1) (ev_is (ev_op ev_c (ev_var rfl) rv_I0) (congrArg V.int e6)) (by omega)) hk'.1 hk'.2
  have hbase : NM.Nam (NM.mk (NM.lets.getD (ds.getD 5 0).toNat 0 :: (List.range 11).map fun k => NM.lets.getD (ds.getD (6 + k) 0).toNat 0)) := NM.nam_mk (NM.lets_l (by omega)) (fun d hd => by
    obtain ⟨k, hk, rfl⟩ := List.mem_map.mp hd
    have hk := List.mem_range.mp hk
    have hk' := hb1 (6 + k) 36 (SZ1_get k (List.mem_range.mpr hk))
    exact NM.lets_ld (by omega)) (by rw [List.length_map, List.length_range]; decide)
  have hbl : (NM.lets.getD (ds.getD 5 0).toNat 0 :: (List.range 11).map fun k => NM.lets.getD (ds.getD (6 + k) 0).toNat 0).length = 12 := by rw [List.length_cons, List.length_map, List.length_range]
  generalize (NM.lets.getD (ds.getD 5 0).toNat 0 :: (List.range 11).map fun k => NM.lets.getD (ds.getD (6 + k) 0).toNat 0) = bl at hbase hbl
  -- alike
  refine x_asgV (v := .str (NM.mk (bl.take (1 + ds.getD 1 0).toNat))) (ev_is (NM.ev_slS (ev_var rfl) eo_none (eo_some (ev_op ev_c (ev_d (k := 1) (ev_var rfl) hp1 ev_c (by omega)) rv_I0)) (by rw [NM.mk_len]; omega)) (congrArg V.str (NM.cut_to (by omega)))) ?_
  have hal : NM.Nam (NM.mk (bl.take (1 + ds.getD 1 0).toNat)) := NM.nam_take hbase (by omega)
  have hall : (bl.take (1 + ds.getD 1 0).toNat).length = (1 + ds.getD 1 0).toNat := by rw [List.length_take]; omega
  have hall2 : (bl.take (1 + ds.getD 1 0).toNat).length ≤ 12 ∧ 1 ≤ (bl.take (1 + ds.getD 1 0).toNat).length := by omega
  generalize bl.take (1 + ds.getD 1 0).toNat = al at hal hall hall2
  -- place
  refine x_asgV (v := .int (ds.getD 2 0 % (al.length : Int))) (ev_is (ev_op (ev_int (ev_d (k := 2) (ev_var rfl) hp1 ev_c (by omega))) (ev_lenS (ev_var rfl) (by rw [NM.mk_len]; omega)) (rv_mod (by rw [NM.mk_len]; omega))) (by rw [NM.mk_len])) ?_
  have hpl : 0 ≤ ds.getD 2 0 % (al.length : Int) ∧ ds.getD 2 0 % (al.length : Int) < (al.length : Int) := ⟨Int.emod_nonneg _ (by omega), Int.emod_lt_of_pos _ (by omega)⟩
  generalize ds.getD 2 0 % (al.length : Int) = pl at hpl
  refine x_asgL (xs := []) (el_lst ea_nil (by decide)) fun p2 h2B h2H => ?_
  refine x_for (F := B1) (Ex.new h2B) (ei_rng1 (n := many) (ea_cons (ev_var rfl) ea_nil) (by omega)) (fun F' ys i σ' B' => ∃ (y1 y2 y3 y4 : Option V) (Bs : Hp) (L : List Str), σ' = [some (V.ref a), some (.int at_), some (.int many), some (.str NM.letS), some (.ref p1), some (.str (NM.mk bl)), some (.str (NM.mk al)), some (.int pl), some (.ref p2), y1, y2, y3, y4] ∧ B' = upd Bs p2 (.lst (L.map V.str)) ∧ Bs p2 = none ∧ Gr H F' Bs ∧ L.length = i ∧ L.Nodup ∧ ∀ s ∈ L, NM.Nam s ∧ s ∉ resS) (fun F' ys g hy av => ?_) (fun F' ys i σ' B' h => ?_) (fun F' ys i x σ' B' g hy hxi h => ?_) (fun F' ys σ' B' g hy h => ?_)
  · have hF : F' p2 = none := av p2 h2B (by rw [upd_same]; exact Option.some_ne_none _)
    exact ⟨none, none, none, none, F', [], rfl, mrg_upd g.ex hF, hF, Gr.refl _ _, rfl, List.nodup_nil, fun s h => nomatch h⟩
  · obtain ⟨y1, y2, y3, y4, Bs, L, rfl, rfl, hp, gs, _⟩ := h
    exact gs.ex.trans (Ex.new hp)
  · obtain ⟨y1, y2, y3, y4, Bs, L, rfl, rfl, hp, gs, hL, hnd, hLn⟩ := h
    have hx : x = .int (i : Int) ∧ i < many.toNat := by
      rw [hy] at hxi
      have hi := (List.getElem?_eq_some_iff.mp hxi).1
      rw [rngV_len] at hi
      unfold rngV at hxi
      rw [List.getElem?_map, List.getElem?_range hi] at hxi
      refine ⟨?_, hi⟩
      have := Option.some.inj hxi
      rw [← this]
      show V.int (0 + (i : Int)) = _
      rw [Int.zero_add]
    obtain ⟨rfl, hi⟩ := hx
    have gB' : Gr H B (upd Bs p2 (.lst (L.map V.str))) := (g1.trans (g.trans gs)).trans (gr_new hp h2H)
    have hS' := ex_l gB'.ex hS
    have hp1' : SqL K (upd Bs p2 (.lst (L.map V.str))) p1 (ds.map V.int) := ex_l ((g.ex.trans gs.ex).trans (Ex.new hp)) hp1
    refine x_asgL (xs := (digitsOf (cellOf ns (at_ + 1 + (i : Int))) SZ2).map V.int) (el_digits (ev_cell (ev_var rfl) hS' (ev_op (ev_op (ev_var rfl) ev_c rv_I0) (ev_var rfl) rv_I0) (by omega) (by omega) hn) (el_catN (xs := [.int 12, .int 26]) (el_lst (ea_cons ev_c (ea_cons ev_c ea_nil)) (show (2 : Nat) ≤ 100000 by decide)) (el_lcR1 (n := 11) (fun _ => true) (fun _ => .int 36) (ea_cons ev_c ea_nil) (by decide) (fun _ => rfl) (fun _ _ _ _ => et_yes) (fun i H1 e hi _ => ev_c)) (show 2 + 11 ≤ 100000 by decide)) SZ2_ok (by decide)) fun p3 h3B h3H => ?_
    have hb2 : ∀ k s, SZ2[k]? = some s → 0 ≤ (digitsOf (cellOf ns (at_ + 1 + (i : Int))) SZ2).getD k 0 ∧ (digitsOf (cellOf ns (at_ + 1 + (i : Int))) SZ2).getD k 0 < s := fun k s h => dg_bd (fun s hs => (SZ2_ok s hs).1) h
    have hl2 : (digitsOf (cellOf ns (at_ + 1 + (i : Int))) SZ2).length = 13 := digits_len _ SZ2
    generalize digitsOf (cellOf ns (at_ + 1 + (i : Int))) SZ2 = dt at hb2 hl2
    have g3 := gr_new (o := .lst (dt.map V.int)) h3B h3H
    have hp3 : SqL K (upd (upd Bs p2 (.lst (L.map V.str))) p3 (.lst (dt.map V.int))) p3 (dt.map V.int) := sq_of upd_same
    have h23 : (upd (upd Bs p2 (.lst (L.map V.str))) p3 (.lst (dt.map V.int))) p2 = some (.lst (L.map V.str)) := g3.ex _ _ upd_same
    have hp13 := ex_l g3.ex hp1'
    have gF3 : Gr H F' (upd (upd Bs p2 (.lst (L.map V.str))) p3 (.lst (dt.map V.int))) := (gs.trans (gr_new hp h2H)).trans g3
    generalize (upd (upd Bs p2 (.lst (L.map V.str))) p3 (.lst (dt.map V.int))) = B3 at hp3 h23 hp13 gF3
    have t0 := hb2 0 12 rfl
    have t1 := hb2 1 26 rfl
    obtain ⟨nn, hnn⟩ : ∃ nn : Nat, dt.getD 0 0 = (nn : Int) := ⟨(dt.getD 0 0).toNat, by omega⟩
    refine x_asgV (v := .str (NM.mk (NM.lets.getD (dt.getD 1 0).toNat 0 :: (List.range nn).map fun k => NM.lets.getD (dt.getD (2 + k) 0).toNat 0))) (NM.ev_mkJoin (K := K) (NM.ev_letter (ev_var rfl) (ev_d (k := 1) (ev_var rfl) hp3 ev_c (by omega)) (by omega) (by omega)) ?_ (by rw [List.length_map, List.length_range]; omega)) ?_
    · have := el_lcR1 (σ := [some (V.ref a), some (.int at_), some (.int many), some (.str NM.letS), some (.ref p1), some (.str (NM.mk bl)), some (.str (NM.mk al)), some (.int pl), some (.ref p2), some (.int (i : Int)), some (.ref p3), y3, y4]) (H := B3) (t := tYes) (te := tOp rIxS (tVar 3) (tOp (rIxL K) (tVar 10) (tOp (rI0 fun i j => .int (i + j)) (tC (.int 2)) (tVar 12)))) (ta := tCons (tOp (rIxL K) (tVar 10) (tC (.int 0))) tNil) (j := 12) (vs := [12]) (n := (nn : Int)) (fun _ => true) (fun k => .str (NM.mk [NM.lets.getD (dt.getD (2 + k) 0).toNat 0])) (ea_cons (hnn ▸ ev_d (k := 0) (ev_var rfl) hp3 ev_c (by omega)) ea_nil) (by omega) (fun _ => rfl) (fun _ _ _ _ => et_yes) (fun k H1 e1 hk _ => ?_)
      · rw [given_all, Int.toNat_natCast] at this
        rw [List.map_map]
        exact this
      · have hk' := hb2 (2 + k) 36 (SZ2_get k (List.mem_range.mpr (by omega)))
        have e6 : (2 : Int) + (k : Int) = ((2 + k : Nat) : Int) := by omega
        exact NM.ev_letter (ev_var rfl) (ev_d (k := 2 + k) (ev_var rfl) (ex_l e1 hp3) (ev_is (ev_op ev_c (ev_var rfl) rv_I0) (congrArg V.int e6)) (by omega)) hk'.1 hk'.2
    have htx : NM.Nam (NM.mk (NM.lets.getD (dt.getD 1 0).toNat 0 :: (List.range nn).map fun k => NM.lets.getD (dt.getD (2 + k) 0).toNat 0)) := NM.nam_mk (NM.lets_l (by omega)) (fun d hd => by
      obtain ⟨k, hk, rfl⟩ := List.mem_map.mp hd
      have hk := List.mem_range.mp hk
      have hk' := hb2 (2 + k) 36 (SZ2_get k (List.mem_range.mpr (by omega)))
      exact NM.lets_ld (by omega)) (by rw [List.length_map, List.length_range]; omega)
    generalize NM.mk (NM.lets.getD (dt.getD 1 0).toNat 0 :: (List.range nn).map fun k => NM.lets.getD (dt.getD (2 + k) 0).toNat 0) = tx at htx
    refine NM.x_ifAsg (P := IsNam) (v := .str tx) (b := decide (ds.getD 0 0 = 1) || decide (ds.getD 0 0 = 2)) (et_or (a := decide (ds.getD 0 0 = 1)) (et_test (ev_is (ev_op (ev_d (k := 0) (ev_var rfl) hp13 ev_c (by omega)) ev_c (rv_eq rfl)) (by simp))) fun _ => et_test (ev_is (ev_op (ev_d (k := 0) (ev_var rfl) hp13 ev_c (by omega)) ev_c (rv_eq rfl)) (by simp))) (fun _ => ?_) (fun _ => ⟨⟨tx, rfl, htx⟩, rfl⟩) fun z B4 g4 hz => ?_
    · have hm : 0 ≤ (ds.getD 3 0 + (i : Int) * (2 * ds.getD 4 0 + 1)) % 26 ∧ (ds.getD 3 0 + (i : Int) * (2 * ds.getD 4 0 + 1)) % 26 < 26 := ⟨Int.emod_nonneg _ (by decide), Int.emod_lt_of_pos _ (by decide)⟩
      refine rVp (v := .str (NM.mk (al.take pl.toNat ++ [NM.lets.getD ((ds.getD 3 0 + (i : Int) * (2 * ds.getD 4 0 + 1)) % 26).toNat 0] ++ al.drop (pl.toNat + 1)))) (ev_is (ev_op (ev_op (ev_is (NM.ev_slS (ev_var rfl) eo_none (eo_some (ev_var rfl)) (by rw [NM.mk_len]; omega)) (congrArg V.str (NM.cut_to hpl.1))) (NM.ev_letter (i := (ds.getD 3 0 + (i : Int) * (2 * ds.getD 4 0 + 1)) % 26) (ev_var rfl) (ev_op (ev_int (ev_op (ev_d (k := 3) (ev_var rfl) hp13 ev_c (by omega)) (ev_op (ev_var rfl) (ev_op (ev_op ev_c (ev_d (k := 4) (ev_var rfl) hp13 ev_c (by omega)) (rv_mulL (by omega))) ev_c rv_I0) (rv_mulL (by omega))) rv_I0)) ev_c (rv_mod (by decide))) hm.1 (by omega)) (rv_addS (by rw [NM.mk_len, NM.mk_len, List.length_take]; show _ + 1 ≤ _; omega))) (ev_is (NM.ev_slS (ev_var rfl) (eo_some (ev_op (ev_var rfl) ev_c rv_I0)) eo_none (by rw [NM.mk_len]; omega)) (congrArg V.str (NM.cut_from (by omega) (by omega)))) (rv_addS (by rw [NM.app_mk, NM.mk_len, NM.mk_len, List.length_append, List.length_take, List.length_drop]; show _ + 1 + _ ≤ _; omega))) ?_) ⟨_, rfl, ?_⟩
      · rw [NM.app_mk, NM.app_mk]
        have : (pl + 1).toNat = pl.toNat + 1 := by omega
        rw [this]
      · exact NM.nam_set hal (by omega) (NM.lets_l (by omega))
    obtain ⟨tx2, rfl, htx2⟩ := hz
    refine NM.x_ifAsg (P := IsNam) (v := .str tx2) (b := decide (ds.getD 0 0 = 3)) (et_test (ev_is (ev_op (ev_d (k := 0) (ev_var rfl) (ex_l g4.ex hp13) ev_c (by omega)) ev_c (rv_eq rfl)) (by simp))) (fun _ => ?_) (fun _ => ⟨⟨tx2, rfl, htx2⟩, rfl⟩) fun z B5 g5 hz => ?_
    · have hm : 0 ≤ (ds.getD 1 0 + 5 * (i : Int)) % 12 := Int.emod_nonneg _ (by decide)
      exact rVp (v := .str (NM.mk (bl.take (1 + (ds.getD 1 0 + 5 * (i : Int)) % 12).toNat))) (ev_is (NM.ev_slS (ev_var rfl) eo_none (eo_some (ev_op ev_c (ev_op (ev_int (ev_op (ev_d (k := 1) (ev_var rfl) (ex_l g4.ex hp13) ev_c (by omega)) (ev_op ev_c (ev_var rfl) (rv_mulL (by omega))) rv_I0)) ev_c (rv_mod (by decide))) rv_I0)) (by rw [NM.mk_len]; omega)) (congrArg V.str (NM.cut_to (by omega)))) ⟨_, rfl, NM.nam_take hbase (by omega)⟩
    obtain ⟨tx3, rfl, htx3⟩ := hz
    have h5 : B5 p2 = some (.lst (L.map V.str)) := g5.ex _ _ (g4.ex _ _ h23)
    have hu := NM.unlike_ok (barred := resS ++ L) htx3 (by rw [List.length_append]; show 11 + L.length < 26; omega)
    refine x_last (NM.x_appV (l := p2) h5 h2H (ev_var rfl) (er_callV (Dd := dUnlike K) (P := IsV (.str (NM.unlike tx3 (resS ++ L)))) (ea_cons (ev_var rfl) (ea_cons (ev_var rfl) ea_nil)) ⟨tx3, p2, L, rfl, h5, htx3, by omega, rfl⟩ fun B' e => ⟨tx3, p2, L, rfl, e _ _ h5, htx3, by omega, rfl⟩).val (by rw [List.length_map]; omega) ?_)
    have hF2 : F' p2 = none := none_of gs.ex hp
    have hgoal : L.map V.str ++ [V.str (NM.unlike tx3 (resS ++ L))] = (L ++ [NM.unlike tx3 (resS ++ L)]).map V.str := by rw [List.map_append]; rfl
    rw [hgoal]
    refine x_nx rfl ⟨_, _, _, _, RX.del B5 p2, L ++ [NM.unlike tx3 (resS ++ L)], rfl, NM.upd_del.symm, RX.del_same, NM.gr_del ((gF3.trans g4).trans g5) hF2, by rw [List.length_append, hL]; rfl, ?_, fun s hs => ?_⟩
    · refine List.nodup_append.mpr ⟨hnd, List.pairwise_singleton _ _, fun a ha b hb c => ?_⟩
      rw [List.mem_singleton] at hb
      subst c
      subst hb
      exact hu.2 (List.mem_append_right _ ha)
    · rcases List.mem_append.mp hs with c | c
      · exact hLn s c
      · rw [List.mem_singleton] at c
        subst c
        exact ⟨hu.1, fun c => hu.2 (List.mem_append_left _ c)⟩
  · obtain ⟨y1, y2, y3, y4, Bs, L, rfl, rfl, hp, gs, hL, hnd, hLn⟩ := h
    have hyl : ys.length = many.toNat := by rw [hy]; exact rngV_len
    exact x_ret (rVp (P := IsNames many.toNat) (ev_var rfl) ⟨p2, L, rfl, upd_same, by rw [hL, hyl], hnd, hLn⟩) (fun z' B' H' g2 hz e1 e2 => q z' H' B' e2 ((g1.trans ((g.trans gs).trans (gr_new hp h2H))).trans g2) e1 hz)
end Kx
namespace Kx
open PySem PySem.Spec PyProof.Rows L2 Evl LX T XV RX WS
variable {P : Program} {w : World} {K : PySem.W.Frag} {mg : Str → Option Value} {base : Heap}
theorem ev_dg {σ : L2.St} {B' : Hp} {te tk : TE} {p : Addr} {l : List Int} {k : Nat} (h1 : Ev te σ B' (.ref p)) (h2 : SqL K B' p (l.map V.int)) (h3 : Ev tk σ B' (.int (k : Int))) (h4 : k < l.length) : Ev (tOp (rIxL K) te tk) σ B' (.int (l.getD k 0)) := by
  have := atI_int (ns := l) (k := (k : Int)) (by omega) (by omega)
  rw [Int.toNat_natCast] at this
  exact ev_op h1 h3 (rv_ixL h2 this)
theorem A2.append {δ : Type} {Pd : δ → V → Hp → Prop} {B : Hp} {d1 d2 : List δ} {y1 y2 : List V} (h1 : A2 Pd d1 y1 B) (h2 : A2 Pd d2 y2 B) : A2 Pd (d1 ++ d2) (y1 ++ y2) B := by
  obtain ⟨l1, p1⟩ := h1
  obtain ⟨l2, p2⟩ := h2
  refine ⟨by rw [List.length_append, List.length_append, l1, l2], fun k y d hy hd => ?_⟩
  by_cases c : k < y1.length
  · rw [List.getElem?_append_left c] at hy
    rw [List.getElem?_append_left (by omega)] at hd
    exact p1 k y d hy hd
  · rw [List.getElem?_append_right (by omega)] at hy
    rw [List.getElem?_append_right (by omega)] at hd
    rw [← l1] at hd
    exact p2 _ y d hy hd
/-! ### form -/
def dForm (K : PySem.W.Frag) : List V → Hp → (V → Hp → Prop) → Prop := fun vs B Pz => ∃ (a : Addr) (flag : Int) (xs : List V), vs = [.ref a, .int flag] ∧ SqA K B a xs ∧ Pz = fun z B' => ∃ p, z = .ref p ∧ if flag = 1 then (B' p = some (.lst xs) ∧ B p = none) else SqT K B' p xs
abbrev law_form_N : List Str := ["parts", "flag"]
abbrev law_form_P : List Str := ["parts", "flag"]
theorem sc_law_form : FnScope ["parts", "flag"] ["parts", "flag"] (defScope s_law_form) := ⟨rfl, rfl, rfl, by decide +kernel, rfl, by decide +kernel, by decide +kernel⟩
theorem ok_form (T : TX K mg) : OkF P w K mg base 1 "_law_form" ["parts", "flag"] (spR (dForm K)) := by
  have n_list := T.n "list" (by decide +kernel)
  have n_tuple := T.n "tuple" (by decide +kernel)
  refine T.okF 29 rfl (by decide +kernel) (fun f fd F => ?_) (fun _ _ _ _ _ _ us hl => match us, hl with | [_, _], _ => rfl)
  refine F.ok sc_law_form (fun vs H Q E h => spR_len h (by rintro B Pz ⟨a, fl, xs, rfl, _⟩; rfl)) (fun cdv A outer s H vs Q E hr ⟨B, Pz, e, ⟨a, fl, xs, hvs, hx, hP⟩, q⟩ => ?_)
  subst hvs hP
  refine ⟨_, (pss_cons (ps_if (pt_cmpR op_eq (pv 1) pe_int (nomark _)) (pss_one (ps_ret (pe_callTy (LX.k_listOf (K := K)) (by rfl) n_list (by decide +kernel) (pa_cons (pv 0) pa_nil)))) pss_nil)
        (pss_one (ps_ret (pe_callTy (LX.k_tupOf (K := K)) (by rfl) n_tuple (by decide +kernel) (pa_cons (pv 0) pa_nil))))), ?_⟩
  have hsq : EvR (tVar 0) [some (V.ref a), some (.int fl)] B (SqP K fun ys _ => ys = xs) := rVp (ev_var rfl) ⟨a, xs, rfl, hx, rfl⟩
  refine x_when (X := H) (B := B) (b := decide (fl = 1)) (et_test (ev_is (ev_op (ev_var rfl) ev_c (rv_eq rfl)) (by simp))) (fun hb => ?_) (fun hb => ?_) H e (Ex.refl H)
  · have hb := of_decide_eq_true hb
    refine x_ret (EvR.imp (er_list (Py := fun ys _ => ys = xs) inferInstance hsq) (P' := fun z B' => ∃ p, z = .ref p ∧ if fl = 1 then (B' p = some (.lst xs) ∧ B p = none) else SqT K B' p xs) fun z B' _ ⟨p, ys, h1, h2, h3, h4⟩ => ?_) (fun z B' H' g p e1 e2 => q z H' B' e2 g e1 p)
    subst h4
    exact ⟨p, h1, by rw [if_pos hb]; exact ⟨h2, h3⟩⟩
  · have hb := of_decide_eq_false hb
    refine x_ret (EvR.imp (er_tup (Py := fun ys _ => ys = xs) inferInstance hsq) (P' := fun z B' => ∃ p, z = .ref p ∧ if fl = 1 then (B' p = some (.lst xs) ∧ B p = none) else SqT K B' p xs) fun z B' _ ⟨p, ys, h1, h2, h3⟩ => ?_) (fun z B' H' g p e1 e2 => q z H' B' e2 g e1 p)
    subst h3
    exact ⟨p, h1, by rw [if_neg hb]; exact h2⟩
/-! ### given -/
theorem a2_map {α δ : Type} {Pd : δ → V → Hp → Prop} {B : Hp} {r : α → δ} {v : α → V} : ∀ {l : List α}, (∀ k ∈ l, Pd (r k) (v k) B) → A2 Pd (l.map r) (l.map v) B
  | [], _ => a2_nil
  | a :: l, h => by
    have ih := a2_map (l := l) fun k hk => h k (List.mem_cons_of_mem _ hk)
    refine ⟨by rw [List.length_map, List.length_map], fun k y d hy hd => ?_⟩
    cases k with
    | zero =>
      cases hy
      cases hd
      exact h a List.mem_cons_self
    | succ k => exact ih.2 k y d hy hd
theorem rng_get {n i : Nat} {x : V} (h : (rngV 0 n)[i]? = some x) : x = .int (i : Int) ∧ i < n := by
  have hi := (List.getElem?_eq_some_iff.mp h).1
  rw [rngV_len] at hi
  unfold rngV at h
  rw [List.getElem?_map, List.getElem?_range hi] at h
  refine ⟨?_, hi⟩
  have := Option.some.inj h
  rw [← this]
  show V.int (0 + (i : Int)) = _
  rw [Int.zero_add]
/-- the scope of the comprehension that a def's statement stores -/
def lcScope (s : Stmt) (i : Nat) : Scope := match (defBody s).getD i (.Pass ⟨0, 0, 0, 0⟩) with
  | .Assign _ (.ListComp _ _ sc _) _ => sc
  | _ => defScope s
structure GivenAt (K : PySem.W.Frag) (big : Int) (z : V) (B : Hp) : Prop where
  ex : ∃ (p l : Addr) (ar : Int) (ys : List V) (R : List (List Int)), z = .ref p ∧ B p = some (.lst [.int ar, .ref l]) ∧ B l = some (.lst ys) ∧ A2 (IsTI K) R ys B ∧ 1 ≤ ar ∧ ar ≤ 3 ∧ (∀ r ∈ R, (r.length : Int) = ar ∧ TS.Bd big r) ∧ R.length ≤ 31
def dGiven (K : PySem.W.Frag) : List V → Hp → (V → Hp → Prop) → Prop := fun vs B Pz => ∃ (c big : Int), vs = [.int c, .int big] ∧ 2 ≤ big ∧ big ≤ 400 ∧ Pz = GivenAt K big
abbrev law_given_N : List Str := ["cell", "big", "digits", "wide", "many", "found", "k", "i"]
abbrev law_given_P : List Str := ["cell", "big"]
theorem sc_law_given : FnScope ["cell", "big", "digits", "wide", "many", "found", "k", "i"] ["cell", "big"] (defScope s_law_given) := ⟨rfl, rfl, rfl, by decide +kernel, rfl, by decide +kernel, by decide +kernel⟩
theorem ok_given (T : TX K mg) : OkF P w K mg base 2 "_law_given" ["cell", "big"] (spR (dGiven K)) := by
  have n_range := T.n "range" (by decide +kernel)
  have n_int := T.n "int" (by decide +kernel)
  have n_max := T.n "max" (by decide +kernel)
  have n_tuple := T.n "tuple" (by decide +kernel)
  refine T.okF 28 rfl (by decide +kernel) (fun f fd F => ?_) (fun _ _ _ _ _ _ us hl => match us, hl with | [_, _], _ => rfl)
  have O__law_digits := ok_digits (P := P) (w := w) (base := base) T
  refine F.ok sc_law_given (fun vs H Q E h => spR_len h (by rintro B Pz ⟨c, b, rfl, _⟩; rfl)) (fun cdv A outer s H vs Q E hr ⟨B, Pz, e, ⟨c, big, hvs, hg2, hg4, hP⟩, q⟩ => ?_)
  subst hvs hP
  refine ⟨_, (pss_cons (ps_set (i := 2) sc_law_given.nd rfl (.inr rfl) (LX.pe_f O__law_digits hr (by decide) (pa_cons (pv 0) (pa_cons (pe_op op_cat (pe_lst (pa_cons pe_int (pa_cons pe_int (pa_cons pe_int (pa_cons pe_int pa_nil))))) (pe_lc (own := [("k", 6)]) (g := gName 6) (tt := tYes) rfl sc_law_given.nd (pi_range1 (by rfl) n_range (pa_cons pe_int pa_nil)) (blkOk_by (N := law_given_N) (sc := defScope s_law_given) (by decide +kernel)) (fun _ _ _ _ _ => pg_name (i := 6) sc_law_given.nd rfl (Or.inl rfl)) (fun _ _ _ _ _ => pts_nil) (fun _ _ _ _ _ => (pv 1)))) pa_nil))))
        (pss_cons (ps_set (i := 3) sc_law_given.nd rfl (.inr rfl) (pe_op op_add pe_int (pe_ix (LX.k_ixl (K := K)) (pv 2) pe_int (fun _ _ => rfl))))
        (pss_cons (ps_set (i := 4) sc_law_given.nd rfl (.inr rfl) (pe_ix (LX.k_ixl (K := K)) (pe_lst (pa_cons (pe_op op_add pe_int (pe_op op_mod (pe_callTy call_int1 (by rfl) n_int (by decide +kernel) (pa_cons (pe_op op_add (pe_ix (LX.k_ixl (K := K)) (pv 2) pe_int (fun _ _ => rfl)) pe_int) pa_nil)) (pe_op op_fdiv pe_int (pv 3)))) (pa_cons pe_int (pa_cons pe_int pa_nil)))) (pe_callB (call_max2 rfl) (by rfl) n_max (by decide +kernel) (pa_cons (pe_op op_sub (pe_ix (LX.k_ixl (K := K)) (pv 2) pe_int (fun _ _ => rfl)) pe_int) (pa_cons pe_int pa_nil))) (fun _ _ => rfl)))
        (pss_cons (ps_set (i := 5) sc_law_given.nd rfl (.inr rfl) (pe_lc (own := [("k", 6)]) (g := gName 6) (tt := tYes) rfl sc_law_given.nd (pi_range1 (by rfl) n_range (pa_cons (pv 4) pa_nil)) (blkOk_by (N := law_given_N) (sc := defScope s_law_given) (by decide +kernel)) (fun _ _ _ _ _ => pg_name (i := 6) sc_law_given.nd rfl (Or.inr rfl)) (fun _ _ _ _ _ => pts_nil) (fun _ _ _ _ _ => (pe_callTy (LX.k_tupOf (K := K)) (by rfl) n_tuple (by decide +kernel) (pa_cons (pe_lc (own := [("i", 7)]) (g := gName 7) (tt := tYes) rfl sc_law_given.nd (pi_range1 (by rfl) n_range (pa_cons (pv 3) pa_nil)) (blkOk_by (N := law_given_N) (sc := { kind := .function, names := [(".0", .local), ("k", .cell), ("tuple", .globalImplicit), ("range", .globalImplicit), ("digits", .cell), ("wide", .cell)], isGenerator := false, isCoroutine := false }) (by decide +kernel)) (fun _ _ _ _ _ => pg_name (i := 7) sc_law_given.nd rfl (Or.inl rfl)) (fun _ _ _ _ _ => pts_nil) (fun _ _ _ _ _ => (pe_ix (LX.k_ixl (K := K)) (pv 2) (pe_op op_add (pe_op op_add pe_int (pe_op op_mul (pv 6) (pv 3))) (pv 7)) (fun _ _ => rfl)))) pa_nil)))))
        (pss_one (ps_ret (pe_lst (pa_cons (pv 3) (pa_cons (pe_op op_cat (pv 5) (pe_lc (own := [("k", 6)]) (g := gName 6) rfl sc_law_given.nd (pi_range1 (by rfl) n_range (pa_cons (pe_ix (LX.k_ixl (K := K)) (pv 2) pe_int (fun _ _ => rfl)) pa_nil)) (blkOk_by (N := law_given_N) (sc := defScope s_law_given) (by decide +kernel)) (fun _ _ _ _ _ => pg_name (i := 6) sc_law_given.nd rfl (Or.inl rfl)) (fun _ _ _ _ _ => pts_one (pt_cmpR op_gt (pv 4) pe_int (nomark _))) (fun _ _ _ _ _ => (pe_ix (LX.k_ixl (K := K)) (pv 5) (pe_op op_mod (pe_callTy call_int1 (by rfl) n_int (by decide +kernel) (pa_cons (pe_op op_add (pe_op op_mul pe_int (pv 6)) (pe_ix (LX.k_ixl (K := K)) (pv 2) pe_int (fun _ _ => rfl))) pa_nil)) (pv 4)) (fun _ _ => rfl))))) pa_nil))))))))), ?_⟩
  have hSZ : ∀ s ∈ ([3, 8, 20, 6] ++ List.replicate 57 big), 0 < s ∧ s < 1073741824 := fun s hs => by
    rcases List.mem_append.mp hs with h | h
    · have : s = 3 ∨ s = 8 ∨ s = 20 ∨ s = 6 := by simpa using h
      omega
    · rw [(List.mem_replicate.mp h).2]
      omega
  refine x_asgL (X := H) (B := B) (xs := (digitsOf c ([3, 8, 20, 6] ++ List.replicate 57 big)).map V.int) (el_digits (ev_var rfl) ?_ hSZ (by rw [List.length_append, List.length_replicate]; decide)) (fun p1 h1B h1H => ?_) H e (Ex.refl H)
  · have := el_catN (σ := [some (.int c), some (.int big), none, none, none, none, none, none]) (H := B) (xs := [.int 3, .int 8, .int 20, .int 6]) (el_lst (ea_cons ev_c (ea_cons ev_c (ea_cons ev_c (ea_cons ev_c ea_nil)))) (show (4 : Nat) ≤ 100000 by decide)) (el_lcR1 (n := 57) (j := 6) (vs := [6]) (t := tYes) (te := tVar 1) (ta := tCons (tC (.int 57)) tNil) (fun _ => true) (fun _ => .int big) (ea_cons ev_c ea_nil) (by decide) (fun _ => rfl) (fun _ _ _ _ => et_yes) (fun i H1 e hi _ => ev_var rfl)) (show 4 + 57 ≤ 100000 by decide)
    rw [given_all] at this
    exact this
  have hb1 : ∀ i s, ([3, 8, 20, 6] ++ List.replicate 57 big)[i]? = some s → 0 ≤ (digitsOf c ([3, 8, 20, 6] ++ List.replicate 57 big)).getD i 0 ∧ (digitsOf c ([3, 8, 20, 6] ++ List.replicate 57 big)).getD i 0 < s := fun i s h => dg_bd (fun s hs => (hSZ s hs).1) h
  have hl1 : (digitsOf c ([3, 8, 20, 6] ++ List.replicate 57 big)).length = 61 := by rw [digits_len, List.length_append, List.length_replicate]; rfl
  have hbig : ∀ k, k < 57 → ([3, 8, 20, 6] ++ List.replicate 57 big)[4 + k]? = some big := fun k hk => by
    rw [List.getElem?_append_right (by show 4 ≤ 4 + k; omega)]
    show (List.replicate 57 big)[4 + k - 4]? = _
    rw [List.getElem?_replicate, if_pos (by omega)]
  have d0 := hb1 0 3 rfl
  have d1 := hb1 1 8 rfl
  have d2 := hb1 2 20 rfl
  have d3 := hb1 3 6 rfl
  have dk : ∀ k, k < 57 → 0 ≤ (digitsOf c ([3, 8, 20, 6] ++ List.replicate 57 big)).getD (4 + k) 0 ∧ (digitsOf c ([3, 8, 20, 6] ++ List.replicate 57 big)).getD (4 + k) 0 < big := fun k hk => hb1 (4 + k) big (hbig k hk)
  generalize digitsOf c ([3, 8, 20, 6] ++ List.replicate 57 big) = ds at d0 d1 d2 d3 dk hl1
  have g1 : Gr H B (upd B p1 (.lst (ds.map V.int))) := gr_new h1B h1H
  have hp1 : SqL K (upd B p1 (.lst (ds.map V.int))) p1 (ds.map V.int) := sq_of upd_same
  generalize upd B p1 (.lst (ds.map V.int)) = B1 at g1 hp1
  obtain ⟨wd, hwd⟩ : ∃ wd : Nat, 1 + ds.getD 0 0 = (wd : Int) := ⟨(1 + ds.getD 0 0).toNat, by omega⟩
  have hw3 : wd = 1 ∨ wd = 2 ∨ wd = 3 := by omega
  refine x_asgV (v := .int (wd : Int)) (ev_is (ev_op ev_c (ev_dg (k := 0) (ev_var rfl) hp1 ev_c (by omega)) rv_I0) (congrArg V.int hwd)) ?_
  have hq : 0 ≤ (ds.getD 2 0 + 5) % (57 / (wd : Int)) ∧ (ds.getD 2 0 + 5) % (57 / (wd : Int)) < 57 / (wd : Int) ∧ (ds.getD 2 0 + 5) % (57 / (wd : Int)) ≤ 24 ∧ 0 < 57 / (wd : Int) := by
    rcases hw3 with h | h | h <;> subst h <;> omega
  obtain ⟨m, hm, hat⟩ : ∃ m : Nat, (m * wd ≤ 57 ∧ m ≤ 25) ∧ atI [V.int (1 + (ds.getD 2 0 + 5) % (57 / (wd : Int))), .int 1, .int 0] (if (0 : Int) > ds.getD 1 0 - 5 then 0 else ds.getD 1 0 - 5) = some (.int (m : Int)) := by
    by_cases h5 : ds.getD 1 0 ≤ 5
    · refine ⟨(1 + (ds.getD 2 0 + 5) % (57 / (wd : Int))).toNat, ?_, ?_⟩
      · rcases hw3 with h | h | h <;> subst h <;> omega
      · have e : (if (0 : Int) > ds.getD 1 0 - 5 then 0 else ds.getD 1 0 - 5) = ((0 : Nat) : Int) := by split <;> omega
        rw [e, Int.toNat_of_nonneg (by omega)]
        exact atI_nat rfl
    · by_cases h6 : ds.getD 1 0 = 6
      · refine ⟨1, by rcases hw3 with h | h | h <;> subst h <;> omega, ?_⟩
        have e : (if (0 : Int) > ds.getD 1 0 - 5 then 0 else ds.getD 1 0 - 5) = ((1 : Nat) : Int) := by split <;> omega
        rw [e]
        exact atI_nat rfl
      · refine ⟨0, by omega, ?_⟩
        have e : (if (0 : Int) > ds.getD 1 0 - 5 then 0 else ds.getD 1 0 - 5) = ((2 : Nat) : Int) := by split <;> omega
        rw [e]
        exact atI_nat rfl
  refine x_asgV (v := .int (m : Int)) (ev_opL1 (xs := [V.int (1 + (ds.getD 2 0 + 5) % (57 / (wd : Int))), .int 1, .int 0]) (el_lst (ea_cons (ev_op ev_c (ev_op (ev_int (ev_op (ev_dg (k := 2) (ev_var rfl) hp1 ev_c (by omega)) ev_c rv_I0)) (ev_op ev_c (ev_var rfl) (rv_div (by omega))) (rv_mod hq.2.2.2)) rv_I0) (ea_cons ev_c (ea_cons ev_c ea_nil))) (show (3 : Nat) ≤ 100000 by decide)) (fun H1 e1 => ev_max2 (ev_op (ev_dg (k := 1) (ev_var rfl) (ex_l e1 hp1) ev_c (by omega)) ev_c rv_I0) ev_c) (fun p H1 hp _ => rv_ixL (sq_of hp) hat)) ?_
  have hix : ∀ k i, k < m → i < wd → 4 + (k * wd + i) < 61 ∧ k * wd + i < 57 := fun k i hk hi => by
    have : k * wd + wd ≤ m * wd := by rw [← Nat.succ_mul]; exact Nat.mul_le_mul_right _ hk
    omega
  have hrow : ∀ k, k < m → (((List.range wd).map fun i => ds.getD (4 + (k * wd + i)) 0).length : Int) = (wd : Int) ∧ TS.Bd big ((List.range wd).map fun i => ds.getD (4 + (k * wd + i)) 0) := fun k hk => ⟨by rw [List.length_map, List.length_range], fun x hx => by
    obtain ⟨i, hi, rfl⟩ := List.mem_map.mp hx
    exact dk _ (hix k i hk (List.mem_range.mp hi)).2⟩
  refine x_asg (P := fun z B' => ∃ (p : Addr) (ys : List V), z = .ref p ∧ B' p = some (.lst ys) ∧ A2 (IsTI K) ((List.range m).map fun k => (List.range wd).map fun i => ds.getD (4 + (k * wd + i)) 0) ys B') (er_lc1 (Pd := IsTI K) (xs := rngV 0 m) (fun _ => inferInstance) (ei_rng1 (n := (m : Int)) (ea_cons (ev_var rfl) ea_nil) (by omega)) (by rw [rngV_len]; omega) (by rw [rngV_len, List.length_map, List.length_range]) (fun _ => rfl) (fun k x B' d e1 hx hd => ?_)) fun z B2 g2 ⟨pf, ys, hz, hpf, hys⟩ => ?_
  · obtain ⟨rfl, hk⟩ := rng_get hx
    rw [List.getElem?_map, List.getElem?_range hk] at hd
    have hd := Option.some.inj hd
    subst hd
    have hin := el_lcR1 (σ := [some (V.int c), some (.int big), some (.ref p1), some (.int (wd : Int)), some (.int (m : Int)), none, some (.int (k : Int)), none]) (H := B') (t := tYes) (te := tOp (rIxL K) (tVar 2) (tOp (rI0 fun i j => .int (i + j)) (tOp (rI0 fun i j => .int (i + j)) (tC (.int 4)) (tOp (rI CMul fun i j => .int (i * j)) (tVar 6) (tVar 3))) (tVar 7))) (ta := tCons (tVar 3) tNil) (j := 7) (vs := [7]) (n := (wd : Int)) (fun _ => true) (fun i => .int (ds.getD (4 + (k * wd + i)) 0)) (ea_cons (ev_var rfl) ea_nil) (by omega) (fun _ => rfl) (fun _ _ _ _ => et_yes) (fun i H1 e2 hi _ => by
      have hik := hix k i hk (by omega)
      have e4 : (4 : Int) + (k : Int) * (wd : Int) + (i : Int) = ((4 + (k * wd + i) : Nat) : Int) := by
        rw [Int.natCast_add, Int.natCast_add, Int.natCast_mul, Int.add_assoc]
        rfl
      exact ev_dg (k := 4 + (k * wd + i)) (ev_var rfl) (ex_l (e1.trans e2) hp1) (ev_is (ev_op (ev_op ev_c (ev_op (ev_var rfl) (ev_var rfl) (rv_mulL (by omega))) rv_I0) (ev_var rfl) rv_I0) (congrArg V.int e4)) (by omega))
    rw [given_all, Int.toNat_natCast] at hin
    exact EvR.imp (er_tup (Py := fun ys _ => ys = ((List.range wd).map fun i => ds.getD (4 + (k * wd + i)) 0).map V.int) inferInstance (EvR.imp (rL hin) fun z B3 _ ⟨p, h1, h2⟩ => ⟨p, _, h1, .inl (sq_of h2), by rw [List.map_map]; rfl⟩)) fun z B3 _ ⟨p, ys, h1, h2, h3⟩ => ⟨p, h1, h3 ▸ h2⟩
  · subst hz
    have hyl : ys.length = m := by rw [hys.1, List.length_map, List.length_range]
    obtain ⟨n3, hn3⟩ : ∃ n3 : Nat, ds.getD 3 0 = (n3 : Int) := ⟨(ds.getD 3 0).toNat, by omega⟩
    have hp1' := ex_l g2.ex hp1
    have hsec := el_lcR1 (σ := [some (V.int c), some (.int big), some (.ref p1), some (.int (wd : Int)), some (.int (m : Int)), some (.ref pf), none, none]) (H := B2) (t := tTest (tOp (rI0 fun i j => .bl (decide (j < i))) (tVar 4) (tC (.int 0)))) (te := tOp (rIxL K) (tVar 5) (tOp (rI (fun _ j => 0 < j) fun i j => .int (i % j)) (tCB (fun xs H Q => (∃ i, xs = [.int i] ∧ Q (.int i) H) ∨ ∃ k, xs = [.bl k] ∧ Q (.int (if k then 1 else 0)) H) (tCons (tOp (rI0 fun i j => .int (i + j)) (tOp (rI CMul fun i j => .int (i * j)) (tC (.int 7)) (tVar 6)) (tOp (rIxL K) (tVar 2) (tC (.int 2)))) tNil)) (tVar 4))) (ta := tCons (tOp (rIxL K) (tVar 2) (tC (.int 3))) tNil) (j := 6) (vs := [6]) (n := (n3 : Int)) (fun _ => decide (0 < m)) (fun k => ys.getD ((7 * (k : Int) + ds.getD 2 0) % (m : Int)).toNat .non) (ea_cons (hn3 ▸ ev_dg (k := 3) (ev_var rfl) hp1' ev_c (by omega)) ea_nil) (by omega) (fun _ => rfl) (fun k H1 e2 hk => et_test (ev_is (ev_op (ev_var rfl) ev_c rv_I0) (by simp))) (fun k H1 e2 hk hm0 => by
      have hm0 : 0 < m := of_decide_eq_true hm0
      have hmod : 0 ≤ (7 * (k : Int) + ds.getD 2 0) % (m : Int) ∧ (7 * (k : Int) + ds.getD 2 0) % (m : Int) < (m : Int) := ⟨Int.emod_nonneg _ (by omega), Int.emod_lt_of_pos _ (by omega)⟩
      refine ev_op (ev_var rfl) (ev_op (ev_int (ev_op (ev_op ev_c (ev_var rfl) (rv_mulL (by omega))) (ev_dg (k := 2) (ev_var rfl) (ex_l e2 hp1') ev_c (by omega)) rv_I0)) (ev_var rfl) (rv_mod (by omega))) (rv_ixL (sq_of (e2 _ _ hpf)) ?_)
      obtain ⟨r, hr⟩ : ∃ r : Nat, (7 * (k : Int) + ds.getD 2 0) % (m : Int) = (r : Int) := ⟨_, (Int.toNat_of_nonneg hmod.1).symm⟩
      rw [hr, Int.toNat_natCast]
      refine atI_nat ?_
      rw [List.getD_eq_getElem?_getD, List.getElem?_eq_getElem (by omega)]
      rfl)
    rw [Int.toNat_natCast] at hsec
    have hcat := el_cat (ta := tVar 5) (σ := [some (V.int c), some (.int big), some (.ref p1), some (.int (wd : Int)), some (.int (m : Int)), some (.ref pf), none, none]) (ev_var rfl) hpf hsec (by have := given_len n3 (fun _ => decide (0 < m)) (fun k => ys.getD ((7 * (k : Int) + ds.getD 2 0) % (m : Int)).toNat .non); omega)
    obtain ⟨cs, hcs⟩ : ∃ cs : List V, cs = ys ++ given n3 (fun _ => decide (0 < m)) (fun k => ys.getD ((7 * (k : Int) + ds.getD 2 0) % (m : Int)).toNat .non) := ⟨_, rfl⟩
    rw [← hcs] at hcat
    refine x_ret (P := GivenAt K big) (EvR.imp (er_lstN (Pa := fun vs B' => ∃ z r, vs = z :: r ∧ IsV (.int (wd : Int)) z B' ∧ ∃ z2 r2, r = z2 :: r2 ∧ IsNL cs z2 B' ∧ r2 = []) inferInstance (ear inferInstance (eR_v (ev_var rfl)) (ear inferInstance (rL hcat) ear_nil)) ?_) ?_) (fun z B' H' g p e1 e2 => q z H' B' e2 ((g1.trans g2).trans g) e1 p)
    · rintro vs B' ⟨z, r, rfl, _, z2, r2, rfl, _, rfl⟩
      show (2 : Nat) ≤ 100000
      decide
    · rintro z B' e3 ⟨p, vs, rfl, hp, z1, r, rfl, hz1, z2, r2, rfl, ⟨p2, rfl, hp2⟩, rfl⟩
      have hz1 : z1 = .int (wd : Int) := hz1
      subst hz1
      subst hcs
      refine ⟨p, p2, (wd : Int), _, ((List.range m).map fun k => (List.range wd).map fun i => ds.getD (4 + (k * wd + i)) 0) ++ ((List.range n3).filter fun _ => decide (0 < m)).map fun (k : Nat) => ((List.range m).map fun k => (List.range wd).map fun i => ds.getD (4 + (k * wd + i)) 0).getD ((7 * (k : Int) + ds.getD 2 0) % (m : Int)).toNat [], rfl, hp, hp2, A2.append (A2.mono (fun _ => inferInstance) e3 hys) (a2_map fun k hk => ?_), by omega, by omega, fun r hr => ?_, ?_⟩
      · have hm0 : 0 < m := of_decide_eq_true (List.mem_filter.mp hk).2
        have hmod : 0 ≤ (7 * (k : Int) + ds.getD 2 0) % (m : Int) ∧ (7 * (k : Int) + ds.getD 2 0) % (m : Int) < (m : Int) := ⟨Int.emod_nonneg _ (by omega), Int.emod_lt_of_pos _ (by omega)⟩
        have hlt : ((7 * (k : Int) + ds.getD 2 0) % (m : Int)).toNat < m := by omega
        generalize ((7 * (k : Int) + ds.getD 2 0) % (m : Int)).toNat = t at hlt
        refine Mo.mo e3 (hys.2 t _ _ ?_ ?_)
        · rw [List.getD_eq_getElem?_getD, List.getElem?_eq_getElem (by omega)]
          rfl
        · rw [List.getD_eq_getElem?_getD, List.getElem?_map, List.getElem?_range hlt]
          rfl
      · rcases List.mem_append.mp hr with h | h
        · obtain ⟨k, hk, rfl⟩ := List.mem_map.mp h
          exact hrow k (List.mem_range.mp hk)
        · obtain ⟨k, hk, rfl⟩ := List.mem_map.mp h
          have hm0 : 0 < m := of_decide_eq_true (List.mem_filter.mp hk).2
          have hmod : 0 ≤ (7 * (k : Int) + ds.getD 2 0) % (m : Int) ∧ (7 * (k : Int) + ds.getD 2 0) % (m : Int) < (m : Int) := ⟨Int.emod_nonneg _ (by omega), Int.emod_lt_of_pos _ (by omega)⟩
          have hlt : ((7 * (k : Int) + ds.getD 2 0) % (m : Int)).toNat < m := by omega
          generalize ((7 * (k : Int) + ds.getD 2 0) % (m : Int)).toNat = t at hlt
          rw [List.getD_eq_getElem?_getD, List.getElem?_map, List.getElem?_range hlt]
          exact hrow t hlt
      · rw [List.length_append, List.length_map, List.length_map, List.length_range]
        have := List.length_filter_le (fun _ => decide (0 < m)) (List.range n3)
        rw [List.length_range] at this
        omega
end Kx
namespace Kx
open PySem PySem.Spec PyProof.Rows L2 Evl LX T XV RX WS
variable {P : Program} {w : World} {K : PySem.W.Frag} {mg : Str → Option Value} {base : Heap}
theorem ev_whole {σ : L2.St} {B : Hp} {te : TE} {i : Int} (h : Ev te σ B (.int i)) : Ev (tCall (spV dWhole) [] E0 (tCons te tNil)) σ B (.bl true) := ev_call (ea_cons h ea_nil) (spV_at fun H' e => ⟨i, rfl, rfl⟩)
theorem ev_lenT {σ : L2.St} {B : Hp} {te : TE} {a : Addr} {xs : List V} (ha : Ev te σ B (.ref a)) (h : SqT K B a xs) : Ev (tCB (rLenS K) (tCons te tNil)) σ B (.int (xs.length : Int)) := ev_lenA ha (.inr h)
theorem atI_get {α : Type} {xs : List α} {k : Nat} {x : α} (h : xs[k]? = some x) : atI xs (k : Int) = some x := atI_nat h
/-! ### is_row -/
def dIsRow (K : PySem.W.Frag) : List V → Hp → (V → Hp → Prop) → Prop := fun vs B Pz => ∃ (a b : Addr) (r : List Int), vs = [.ref a, .ref b] ∧ SqT K B a (r.map V.int) ∧ SqT K B b (r.map V.int) ∧ r.length ≤ 40000 ∧ Pz = IsV (.bl true)
abbrev law_is_row_N : List Str := ["actual", "row", "k"]
abbrev law_is_row_P : List Str := ["actual", "row"]
theorem sc_law_is_row : FnScope ["actual", "row", "k"] ["actual", "row"] (defScope s_law_is_row) := ⟨rfl, rfl, rfl, by decide +kernel, rfl, by decide +kernel, by decide +kernel⟩
theorem ok_lrow (T : TX K mg) : OkF P w K mg base 2 "_law_is_row" ["actual", "row"] (spR (dIsRow K)) := by
  have n_isinstance := T.n "isinstance" (by decide +kernel)
  have n_tuple := T.n "tuple" (by decide +kernel)
  have n_len := T.n "len" (by decide +kernel)
  have n_range := T.n "range" (by decide +kernel)
  refine T.okF 32 rfl (by decide +kernel) (fun f fd F => ?_) (fun _ _ _ _ _ _ us hl => match us, hl with | [_, _], _ => rfl)
  have O__law_whole := ok_whole (P := P) (w := w) (base := base) T
  refine F.ok sc_law_is_row (fun vs H Q E h => spR_len h (by rintro B Pz ⟨a, b, r, rfl, _⟩; rfl)) (fun cdv A outer s H vs Q E hr ⟨B, Pz, e, ⟨a, b, r, hvs, hA, hB, hl, hP⟩, q⟩ => ?_)
  subst hvs hP
  refine ⟨_, (pss_cons (ps_if (pw_or (pt_not (pt_val (pe_callB (LX.k_isi (K := K)) (by rfl) n_isinstance (by decide +kernel) (pa_cons (pv 0) (pa_cons (pe_bltn (v := .ty "tuple") (u := .type "tuple") (by rfl) n_tuple (by decide +kernel) rfl) pa_nil))))) (pw_or1 (pt_cmpR op_ne (pe_callB (LX.k_len (K := K)) (by rfl) n_len (by decide +kernel) (pa_cons (pv 0) pa_nil)) (pe_callB (LX.k_len (K := K)) (by rfl) n_len (by decide +kernel) (pa_cons (pv 1) pa_nil)) (nomark _)))).pt (pss_one (ps_ret pe_bl)) pss_nil)
        (pss_cons (ps_for PassesOwn.never rfl (pi_range1 (by rfl) n_range (pa_cons (pe_callB (LX.k_len (K := K)) (by rfl) n_len (by decide +kernel) (pa_cons (pv 1) pa_nil)) pa_nil)) (pg_name (i := 2) sc_law_is_row.nd rfl (.inl rfl)) (pss_one (ps_if (pw_or (pt_not (pt_val (LX.pe_f O__law_whole hr (by decide) (pa_cons (pe_ix (LX.k_ixt (K := K)) (pv 0) (pv 2) (fun _ _ => rfl)) pa_nil)))) (pw_or1 (pt_cmpR op_ne (pe_ix (LX.k_ixt (K := K)) (pv 0) (pv 2) (fun _ _ => rfl)) (pe_ix (LX.k_ixt (K := K)) (pv 1) (pv 2) (fun _ _ => rfl)) (nomark _)))).pt (pss_one (ps_ret pe_bl)) pss_nil)))
        (pss_one (ps_ret pe_bl)))), ?_⟩
  have ht : ∀ H1, Ex B H1 → TyX K H1 (.ref a) (.type "tuple") := fun H1 e => sqt_ty (ex_t e hA)
  refine x_when (X := H) (B := B) (b := false) (et_is (et_or (a := false) (b := false) (et_not (a := true) (et_B (ev_isi (ev_var rfl) (.ty "tuple") ht (kit_ty (show kitB "tuple" "tuple" = _ by decide +kernel))))) (fun _ => et_test (ev_is (ev_op (ev_lenT (ev_var rfl) hA) (ev_lenT (ev_var rfl) hB) (rv_ne rfl)) (by simp)))) rfl) (fun h => nomatch h) (fun _ => ?_) H e (Ex.refl H)
  refine x_for (F := B) (Ex.refl _) (ei_rng1 (n := (r.length : Int)) (ea_cons (ev_is (ev_lenT (ev_var rfl) hB) (by rw [List.length_map])) ea_nil) (by omega)) (fun F' ys i σ' B' => B' = F' ∧ ∃ y, σ' = [some (V.ref a), some (.ref b), y]) (fun F' ys g hy av => ⟨NM.mrg_self g.ex, none, rfl⟩) (fun F' ys i σ' B' h => h.1 ▸ Ex.refl _) (fun F' ys i x σ' B' g hy hxi h => ?_) (fun F' ys σ' B' g hy h => ?_)
  · obtain ⟨rfl, y, rfl⟩ := h
    rw [hy] at hxi
    obtain ⟨rfl, hi⟩ := rng_get hxi
    rw [Int.toNat_natCast] at hi
    have hg : (r.map V.int)[i]? = some (.int r[i]) := by rw [List.getElem?_map, List.getElem?_eq_getElem hi]; rfl
    have eA := rv_ixT (K := K) (ex_t g.ex hA) (atI_get hg)
    have eB := rv_ixT (K := K) (ex_t g.ex hB) (atI_get hg)
    refine x_last (x_when (b := false) (et_is (et_or (a := false) (b := false) (et_not (a := true) (et_B (ev_whole (ev_op (ev_var rfl) (ev_var rfl) eA)))) (fun _ => et_test (ev_is (ev_op (ev_op (ev_var rfl) (ev_var rfl) eA) (ev_op (ev_var rfl) (ev_var rfl) eB) (rv_ne rfl)) (by simp)))) rfl) (fun h => nomatch h) (fun _ => x_nx rfl ⟨rfl, _, rfl⟩))
  · obtain ⟨rfl, y, rfl⟩ := h
    exact x_ret (eR_v ev_c) (fun z B' H' g2 p e1 e2 => q z H' B' e2 (g.trans g2) e1 p)
theorem ev_lrow {σ : L2.St} {B : Hp} {ta tb : TE} {a b : Addr} {r : List Int} (h1 : Ev ta σ B (.ref a)) (h2 : Ev tb σ B (.ref b)) (hA : SqT K B a (r.map V.int)) (hB : SqT K B b (r.map V.int)) (hl : r.length ≤ 40000) : Ev (tCall (spR (dIsRow K)) [] E0 (tCons ta (tCons tb tNil))) σ B (.bl true) :=
  (er_callV (P := IsV _) (ea_cons h1 (ea_cons h2 ea_nil)) ⟨a, b, r, rfl, hA, hB, hl, rfl⟩ fun B' e => ⟨a, b, r, rfl, ex_t e hA, ex_t e hB, hl, rfl⟩).val
/-! ### is_fact -/
def dIsFact (K : PySem.W.Frag) : List V → Hp → (V → Hp → Prop) → Prop := fun vs B Pz => ∃ (v : V) (b : Addr) (n : Str) (r : List Int), vs = [v, .str n, .ref b] ∧ FactAt K (n, r) v B ∧ SqT K B b (r.map V.int) ∧ r.length ≤ 40000 ∧ Pz = IsV (.bl true)
abbrev law_is_fact_N : List Str := ["actual", "word", "row"]
abbrev law_is_fact_P : List Str := ["actual", "word", "row"]
theorem sc_law_is_fact : FnScope ["actual", "word", "row"] ["actual", "word", "row"] (defScope s_law_is_fact) := ⟨rfl, rfl, rfl, by decide +kernel, rfl, by decide +kernel, by decide +kernel⟩
theorem ok_fact (T : TX K mg) : OkF P w K mg base 3 "_law_is_fact" ["actual", "word", "row"] (spR (dIsFact K)) := by
  have n_isinstance := T.n "isinstance" (by decide +kernel)
  have n_tuple := T.n "tuple" (by decide +kernel)
  have n_len := T.n "len" (by decide +kernel)
  have n_str := T.n "str" (by decide +kernel)
  refine T.okF 33 rfl (by decide +kernel) (fun f fd F => ?_) (fun _ _ _ _ _ _ us hl => match us, hl with | [_, _, _], _ => rfl)
  have O__law_is_row := ok_lrow (P := P) (w := w) (base := base) T
  refine F.ok sc_law_is_fact (fun vs H Q E h => spR_len h (by rintro B Pz ⟨v, b, n, r, rfl, _⟩; rfl)) (fun cdv A outer s H vs Q E hr ⟨B, Pz, e, ⟨v, b, n, r, hvs, hF, hB, hl, hP⟩, q⟩ => ?_)
  subst hvs hP
  refine ⟨_, (pss_cons (ps_if (pw_or (pt_not (pt_val (pe_callB (LX.k_isi (K := K)) (by rfl) n_isinstance (by decide +kernel) (pa_cons (pv 0) (pa_cons (pe_bltn (v := .ty "tuple") (u := .type "tuple") (by rfl) n_tuple (by decide +kernel) rfl) pa_nil))))) (pw_or (pt_cmpR op_ne (pe_callB (LX.k_len (K := K)) (by rfl) n_len (by decide +kernel) (pa_cons (pv 0) pa_nil)) pe_int (nomark _)) (pw_or1 (pt_not (pt_val (pe_callB (LX.k_isi (K := K)) (by rfl) n_isinstance (by decide +kernel) (pa_cons (pe_ix (LX.k_ixt (K := K)) (pv 0) pe_int (fun _ _ => rfl)) (pa_cons (pe_bltn (v := .ty "str") (u := .type "str") (by rfl) n_str (by decide +kernel) rfl) pa_nil)))))))).pt (pss_one (ps_ret pe_bl)) pss_nil)
        (pss_one (ps_ret (pe_and (pe_cmpR op_eq (pe_ix (LX.k_ixt (K := K)) (pv 0) pe_int (fun _ _ => rfl)) (pv 1) (nomark _)) (pe_one (LX.pe_f O__law_is_row hr (by decide) (pa_cons (pe_ix (LX.k_ixt (K := K)) (pv 0) pe_int (fun _ _ => rfl)) (pa_cons (pv 2) pa_nil)))))))), ?_⟩
  obtain ⟨a, c, rfl, hA, hC⟩ := hF
  have ht : ∀ H1, Ex B H1 → TyX K H1 (.ref a) (.type "tuple") := fun H1 e => sqt_ty (ex_t e hA)
  have e0 := rv_ixT (K := K) hA at2.1
  have e1 := rv_ixT (K := K) hA at2.2
  refine x_when (X := H) (B := B) (b := false) (et_is (et_or (a := false) (b := false) (et_not (a := true) (et_B (ev_isi (ev_var rfl) (.ty "tuple") ht (kit_ty (show kitB "tuple" "tuple" = _ by decide +kernel))))) (fun _ => et_is (et_or (a := false) (b := false) (et_test (ev_is (ev_op (ev_lenT (ev_var rfl) hA) ev_c (rv_ne rfl)) (by simp))) (fun _ => et_not (a := true) (et_B (ev_isi_str (ev_op (ev_var rfl) ev_c e0) (show kitB "str" "str" = _ by decide +kernel))))) rfl)) rfl) (fun h => nomatch h) (fun _ => ?_) H e (Ex.refl H)
  exact x_ret (eR_v (v := .bl true) (ev_is (ev_andV (a := true) (b := true) (ev_is (ev_op (ev_op (ev_var rfl) ev_c e0) (ev_var rfl) (rv_eq rfl)) (by simp)) fun _ => ev_lrow (ev_op (ev_var rfl) ev_c e1) (ev_var rfl) hC hB hl) rfl)) (fun z B' H' g2 p e1 e2 => q z H' B' e2 g2 e1 p)
theorem ev_lfact {σ : L2.St} {B : Hp} {ta tn tb : TE} {v : V} {b : Addr} {n : Str} {r : List Int} (h1 : Ev ta σ B v) (hn : Ev tn σ B (.str n)) (h2 : Ev tb σ B (.ref b)) (hF : FactAt K (n, r) v B) (hB : SqT K B b (r.map V.int)) (hl : r.length ≤ 40000) : Ev (tCall (spR (dIsFact K)) [] E0 (tCons ta (tCons tn (tCons tb tNil)))) σ B (.bl true) :=
  (er_callV (P := IsV _) (ea_cons h1 (ea_cons hn (ea_cons h2 ea_nil))) ⟨v, b, n, r, rfl, hF, hB, hl, rfl⟩ fun B' e => ⟨v, b, n, r, rfl, Mo.mo e hF, ex_t e hB, hl, rfl⟩).val
end Kx
namespace Kx
open PySem PySem.Spec PyProof.Rows L2 Evl LX T XV RX WS
variable {P : Program} {w : World} {K : PySem.W.Frag} {mg : Str → Option Value} {base : Heap}
/-! ### the law's model -/
def MEnt (K : PySem.W.Frag) (r : Rel) : V → Hp → Prop := fun v B => ∃ t q ys, v = .ref t ∧ B t = some (.lst [.int r.ar, .ref q]) ∧ B q = some (.lst ys) ∧ RowsAt K r.rows ys B
instance {r : Rel} : Mo (MEnt K r) := ⟨fun e ⟨t, q, ys, h, a, b, c⟩ => ⟨t, q, ys, h, e _ _ a, e _ _ b, MoA.mo e c⟩⟩
def MTab (K : PySem.W.Frag) (rels : List Rel) (kvs : List (Key × V)) (B : Hp) : Prop := kvs.map (·.1) = rels.map (fun r => (Sum.inr r.name : Key)) ∧ ∀ (i : Nat) (p : Key × V) (r : Rel), kvs[i]? = some p → rels[i]? = some r → MEnt K r p.2 B
theorem MTab.mono {rels : List Rel} {kvs : List (Key × V)} {B B' : Hp} (e : Ex B B') (h : MTab K rels kvs B) : MTab K rels kvs B' := ⟨h.1, fun i p r a b => Mo.mo e (h.2 i p r a b)⟩
theorem MTab.get {B : Hp} {s : Str} : ∀ {rels : List Rel} {kvs : List (Key × V)}, MTab K rels kvs B → s ∈ rels.map Rel.name → ∃ r v, rels.find? (fun r => decide (r.name = s)) = some r ∧ valV kvs (Sum.inr s) = some v ∧ MEnt K r v B
  | [], kvs, h, hs => nomatch hs
  | r :: rels, [], h, hs => by
    have := congrArg List.length h.1
    simp at this
  | r :: rels, p :: kvs, h, hs => by
    have h0 := h.1
    rw [List.map_cons, List.map_cons] at h0
    obtain ⟨hk, hk2⟩ := List.cons.inj h0
    have ht : MTab K rels kvs B := ⟨hk2, fun i q r' a b => h.2 (i + 1) q r' a b⟩
    rw [List.find?_cons]
    by_cases c : r.name = s
    · rw [decide_eq_true c]
      exact ⟨r, p.2, rfl, valV_pos (by rw [hk, c]), h.2 0 p r rfl rfl⟩
    · rw [decide_eq_false c]
      have hn : ¬ p.1 = Sum.inr s := fun z => c (by rw [hk] at z; exact Sum.inr.inj z)
      rw [valV_neg hn]
      rw [List.map_cons, List.mem_cons] at hs
      exact MTab.get ht (hs.resolve_left fun e => c e.symm)
theorem find_self : ∀ {l : List Rel} {r : Rel}, (l.map Rel.name).Nodup → r ∈ l → l.find? (fun x => decide (x.name = r.name)) = some r
  | [], _, _, h => nomatch h
  | a :: l, r, nd, h => by
    rw [List.map_cons, List.nodup_cons] at nd
    rw [List.find?_cons]
    rcases List.mem_cons.mp h with e | e
    · subst e; rw [decide_eq_true rfl]
    · rw [decide_eq_false (fun c => nd.1 (by rw [c]; exact List.mem_map_of_mem e))]
      exact find_self nd.2 e
theorem find_perm {a b : List Rel} (p : a.Perm b) (nd : (b.map Rel.name).Nodup) (n : Str) : a.find? (fun r => decide (r.name = n)) = b.find? (fun r => decide (r.name = n)) := by
  have nda : (a.map Rel.name).Nodup := (p.map Rel.name).nodup_iff.mpr nd
  by_cases c : n ∈ b.map Rel.name
  · obtain ⟨r, hr, rfl⟩ := List.mem_map.mp c
    rw [find_self nd hr, find_self nda (p.mem_iff.mpr hr)]
  · rw [find_none c, find_none (fun z => c ((p.map Rel.name).mem_iff.mp z))]
def MTabP (K : PySem.W.Frag) (rels : List Rel) (kvs : List (Key × V)) (B : Hp) : Prop := ∃ relsM, relsM.Perm rels ∧ MTab K relsM kvs B
theorem MTabP.mono {rels : List Rel} {kvs : List (Key × V)} {B B' : Hp} (e : Ex B B') (h : MTabP K rels kvs B) : MTabP K rels kvs B' := h.elim fun r q => ⟨r, q.1, q.2.mono e⟩
theorem MTabP.get {B : Hp} {s : Str} {rels : List Rel} {kvs : List (Key × V)} (nd : (rels.map Rel.name).Nodup) (h : MTabP K rels kvs B) (hs : s ∈ rels.map Rel.name) : ∃ r v, rels.find? (fun r => decide (r.name = s)) = some r ∧ valV kvs (Sum.inr s) = some v ∧ MEnt K r v B := by
  obtain ⟨relsM, hp, hT⟩ := h
  obtain ⟨r, v, h1, h2, h3⟩ := hT.get ((hp.map Rel.name).mem_iff.mpr hs)
  exact ⟨r, v, by rw [← find_perm hp nd]; exact h1, h2, h3⟩
structure RelsFit (rels : List Rel) : Prop where
  few : rels.length ≤ 12
  nd : (rels.map Rel.name).Nodup
  rows : ∀ n, (rowsIn rels n).length ≤ 63
  row : ∀ n, ∀ r ∈ rowsIn rels n, r.length ≤ 3
def dIsWorld (K : PySem.W.Frag) (P : Program) (w : World) (C : Addr) : List V → Hp → (V → Hp → Prop) → Prop := fun vs B Pz => ∃ (x m : Addr) (big : Int) (rels : List Rel) (kvs : List (Key × V)), vs = [.ref x, .int big, .ref m] ∧ WorldAt K P w C big rels x B ∧ B m = some (.dK kvs) ∧ MTabP K rels kvs B ∧ RelsFit rels ∧ Pz = IsV (.bl true)
theorem facts_take {rels : List Rel} {ns : List Str} {i : Nat} {n : Str} (h : ns[i]? = some n) : (factsOf rels (ns.take (i + 1))).length = (factsOf rels (ns.take i)).length + (rowsIn rels n).length := by
  unfold factsOf
  rw [take_snoc h, List.flatMap_append, List.length_append]
  simp
theorem facts_at {rels : List Rel} {ns : List Str} {i j : Nat} {n : Str} {r : List Int} (h : ns[i]? = some n) (hr : (rowsIn rels n)[j]? = some r) : (factsOf rels ns)[(factsOf rels (ns.take i)).length + j]? = some (n, r) := by
  obtain ⟨hi, e⟩ := List.getElem?_eq_some_iff.mp h
  have hl : ns = ns.take i ++ n :: ns.drop (i + 1) := by rw [← e]; simp
  have : factsOf rels ns = factsOf rels (ns.take i) ++ ((rowsIn rels n).map (fun r => (n, r)) ++ factsOf rels (ns.drop (i + 1))) := by
    conv => lhs; rw [hl]
    unfold factsOf
    rw [List.flatMap_append, List.flatMap_cons]
  rw [this, List.getElem?_append_right (Nat.le_add_right _ _), Nat.add_sub_cancel_left]
  have hj := (List.getElem?_eq_some_iff.mp hr).1
  rw [List.getElem?_append_left (by rw [List.length_map]; exact hj), List.getElem?_map, hr]
  rfl
abbrev law_is_world_N : List Str := ["world", "big", "model", "known", "at", "k", "word", "wide", "told", "row", "i"]
abbrev law_is_world_P : List Str := ["world", "big", "model"]
theorem sc_law_is_world : FnScope ["world", "big", "model", "known", "at", "k", "word", "wide", "told", "row", "i"] ["world", "big", "model"] (defScope s_law_is_world) := ⟨rfl, rfl, rfl, by decide +kernel, rfl, by decide +kernel, by decide +kernel⟩
theorem ok_lworld (T : TX K mg) {C : Addr} (hC : Cls K C) (hN : ∀ f ∈ fieldsN, NoAttr K C f) (M_arity : OkM P w K mg base 2 C "arity" ["self", "name"] (spR (dArity K P w C))) (M_rows : OkM P w K mg base 2 C "rows" ["self", "name"] (spR (dRows K P w C))) : OkF P w K mg base 4 "_law_is_world" ["world", "big", "model"] (spR (dIsWorld K P w C)) := by
  have n_sorted := T.n "sorted" (by decide +kernel)
  have n_isinstance := T.n "isinstance" (by decide +kernel)
  have n_tuple := T.n "tuple" (by decide +kernel)
  have n_len := T.n "len" (by decide +kernel)
  have n_range := T.n "range" (by decide +kernel)
  have n_str := T.n "str" (by decide +kernel)
  refine T.okF 34 rfl (by decide +kernel) (fun f fd F => ?_) (fun _ _ _ _ _ _ us hl => match us, hl with | [_, _, _], _ => rfl)
  have O__law_whole := ok_whole (P := P) (w := w) (base := base) T
  have O__law_is_row := ok_lrow (P := P) (w := w) (base := base) T
  have O__law_is_fact := ok_fact (P := P) (w := w) (base := base) T
  refine F.ok sc_law_is_world (fun vs H Q E h => spR_len h (by rintro B Pz ⟨x, m, b, r, k, rfl, _⟩; rfl)) (fun cdv A outer s H vs Q E hr ⟨B, Pz, e, ⟨x, m, big, rels, kvs, hvs, hW, hm, hT, hfit, hP⟩, q⟩ => ?_)
  subst hvs hP
  refine ⟨_, (pss_cons (ps_set (i := 3) sc_law_is_world.nd rfl (.inl rfl) (pe_callB (RX.k_sortD rfl) (by rfl) n_sorted (by decide +kernel) (pa_cons (pv 2) pa_nil)))
        (pss_cons (ps_if (pw_or (pt_not (pt_val (LX.pe_f O__law_whole hr (by decide) (pa_cons (LX.k_fld (K := K) (pv 0) (by rfl)) pa_nil)))) (pw_or1 (pt_cmpR op_ne (LX.k_fld (K := K) (pv 0) (by rfl)) (pv 1) (nomark _)))).pt (pss_one (ps_ret pe_bl)) pss_nil)
        (pss_cons (ps_if (pw_or (pt_not (pt_val (pe_callB (LX.k_isi (K := K)) (by rfl) n_isinstance (by decide +kernel) (pa_cons (LX.k_fld (K := K) (pv 0) (by rfl)) (pa_cons (pe_bltn (v := .ty "tuple") (u := .type "tuple") (by rfl) n_tuple (by decide +kernel) rfl) pa_nil))))) (pw_or (pt_cmpR op_ne (pe_callB (LX.k_len (K := K)) (by rfl) n_len (by decide +kernel) (pa_cons (LX.k_fld (K := K) (pv 0) (by rfl)) pa_nil)) (pe_callB (LX.k_len (K := K)) (by rfl) n_len (by decide +kernel) (pa_cons (pv 3) pa_nil)) (nomark _)) (pw_or1 (pt_not (pt_val (pe_callB (LX.k_isi (K := K)) (by rfl) n_isinstance (by decide +kernel) (pa_cons (LX.k_fld (K := K) (pv 0) (by rfl)) (pa_cons (pe_bltn (v := .ty "tuple") (u := .type "tuple") (by rfl) n_tuple (by decide +kernel) rfl) pa_nil)))))))).pt (pss_one (ps_ret pe_bl)) pss_nil)
        (pss_cons (ps_set (i := 4) sc_law_is_world.nd rfl (.inl rfl) pe_int)
        (pss_cons (ps_for PassesOwn.never rfl (pi_range1 (by rfl) n_range (pa_cons (pe_callB (LX.k_len (K := K)) (by rfl) n_len (by decide +kernel) (pa_cons (pv 3) pa_nil)) pa_nil)) (pg_name (i := 5) sc_law_is_world.nd rfl (.inl rfl)) (pss_cons (ps_set (i := 6) sc_law_is_world.nd rfl (.inl rfl) (pe_ix (LX.k_ixl (K := K)) (pv 3) (pv 5) (fun _ _ => rfl)))
        (pss_cons (ps_if (pw_or (pt_not (pt_val (pe_callB (LX.k_isi (K := K)) (by rfl) n_isinstance (by decide +kernel) (pa_cons (pe_ix (LX.k_ixt (K := K)) (LX.k_fld (K := K) (pv 0) (by rfl)) (pv 5) (fun _ _ => rfl)) (pa_cons (pe_bltn (v := .ty "str") (u := .type "str") (by rfl) n_str (by decide +kernel) rfl) pa_nil))))) (pw_or1 (pt_cmpR op_ne (pe_ix (LX.k_ixt (K := K)) (LX.k_fld (K := K) (pv 0) (by rfl)) (pv 5) (fun _ _ => rfl)) (pv 6) (nomark _)))).pt (pss_one (ps_ret pe_bl)) pss_nil)
        (pss_cons (ps_set (i := 7) sc_law_is_world.nd rfl (.inl rfl) (RX.pe_m M_arity hC hr (by decide) (pv 0) (pa_cons (pv 6) pa_nil)))
        (pss_cons (ps_set (i := 8) sc_law_is_world.nd rfl (.inl rfl) (RX.pe_m M_rows hC hr (by decide) (pv 0) (pa_cons (pv 6) pa_nil)))
        (pss_cons (ps_if (pw_or (pt_not (pt_val (LX.pe_f O__law_whole hr (by decide) (pa_cons (pv 7) pa_nil)))) (pw_or1 (pt_cmpR op_ne (pv 7) (pe_ix (LX.k_ixl (K := K)) (pe_dget (LX.u1 hr) (pv 2) (pv 6) (fun _ _ => rfl)) pe_int (fun _ _ => rfl)) (nomark _)))).pt (pss_one (ps_ret pe_bl)) pss_nil)
        (pss_cons (ps_if (pw_or (pt_not (pt_val (pe_callB (LX.k_isi (K := K)) (by rfl) n_isinstance (by decide +kernel) (pa_cons (pv 8) (pa_cons (pe_bltn (v := .ty "tuple") (u := .type "tuple") (by rfl) n_tuple (by decide +kernel) rfl) pa_nil))))) (pw_or1 (pt_cmpR op_ne (pe_callB (LX.k_len (K := K)) (by rfl) n_len (by decide +kernel) (pa_cons (pv 8) pa_nil)) (pe_callB (LX.k_len (K := K)) (by rfl) n_len (by decide +kernel) (pa_cons (pe_ix (LX.k_ixl (K := K)) (pe_dget (LX.u1 hr) (pv 2) (pv 6) (fun _ _ => rfl)) pe_int (fun _ _ => rfl)) pa_nil)) (nomark _)))).pt (pss_one (ps_ret pe_bl)) pss_nil)
        (pss_cons (ps_for PassesOwn.never rfl (RX.k_pil (K := K) (pe_ix (LX.k_ixl (K := K)) (pe_dget (LX.u1 hr) (pv 2) (pv 6) (fun _ _ => rfl)) pe_int (fun _ _ => rfl))) (pg_name (i := 9) sc_law_is_world.nd rfl (.inl rfl)) (pss_cons (ps_if (pw_or (pt_cmpR op_ge (pv 4) (pe_callB (LX.k_len (K := K)) (by rfl) n_len (by decide +kernel) (pa_cons (LX.k_fld (K := K) (pv 0) (by rfl)) pa_nil)) (nomark _)) (pw_or1 (pt_not (pt_val (LX.pe_f O__law_is_fact hr (by decide) (pa_cons (pe_ix (LX.k_ixt (K := K)) (LX.k_fld (K := K) (pv 0) (by rfl)) (pv 4) (fun _ _ => rfl)) (pa_cons (pv 6) (pa_cons (pv 9) pa_nil)))))))).pt (pss_one (ps_ret pe_bl)) pss_nil)
        (pss_one (ps_set (i := 4) sc_law_is_world.nd rfl (.inl rfl) (pe_op op_add (pv 4) pe_int)))))
        (pss_one (ps_for PassesOwn.never rfl (pi_range1 (by rfl) n_range (pa_cons (pe_callB (LX.k_len (K := K)) (by rfl) n_len (by decide +kernel) (pa_cons (pv 8) pa_nil)) pa_nil)) (pg_name (i := 10) sc_law_is_world.nd rfl (.inl rfl)) (pss_one (ps_if (pt_not (pt_val (LX.pe_f O__law_is_row hr (by decide) (pa_cons (pe_ix (LX.k_ixt (K := K)) (pv 8) (pv 10) (fun _ _ => rfl)) (pa_cons (pe_ix (LX.k_ixl (K := K)) (pe_ix (LX.k_ixl (K := K)) (pe_dget (LX.u1 hr) (pv 2) (pv 6) (fun _ _ => rfl)) pe_int (fun _ _ => rfl)) (pv 10) (fun _ _ => rfl)) pa_nil))))) (pss_one (ps_ret pe_bl)) pss_nil))))))))))))
        (pss_one (ps_ret (pe_cmpR op_eq (pe_callB (LX.k_len (K := K)) (by rfl) n_len (by decide +kernel) (pa_cons (LX.k_fld (K := K) (pv 0) (by rfl)) pa_nil)) (pv 4) (nomark _))))))))), ?_⟩
  have hW0 := hW
  have hTP := hT
  obtain ⟨relsM, hpM, hT⟩ := hT
  obtain ⟨dx, zn, pf, t, za, ps, tk, fs, st, ns, h1, ⟨pn, _, rfl, hpn, rfl⟩, h3, h4, h5, h6, h7, h8, h9, h10, hperm, hsort⟩ := hW
  refine x_asg (X := H) (B := B) (er_sortD (K := K) (ks := relsM.map Rel.name) (ev_var rfl) hm (by rw [hT.1, List.map_map]; rfl) (by rw [List.length_map, hpM.length_eq]; have := hfit.few; omega)) (fun z B1 g1 hz => ?_) H e (Ex.refl H)
  obtain ⟨pk, _, rfl, hpk, ns', rfl, hperm'', hsort'⟩ := hz
  have hperm' : ns'.Perm (rels.map Rel.name) := hperm''.trans (hpM.map _)
  have hns : ns' = ns := SS.sorted_uniq hsort' hsort (hperm'.trans hperm.symm)
  subst hns
  have h1' := g1.ex _ _ h1
  have hpn' := ex_t g1.ex hpn
  have h3' := ex_t g1.ex h3
  have h4' : A2 (FactAt K) (factsOf rels ns') fs B1 := MoA.mo g1.ex h4
  have fld : ∀ {σ : L2.St} {B' : Hp} {te : TE} {f : Str} {v : V}, Ex B1 B' → Ev te σ B' (.ref x) → f ∈ fieldsN → ([("size", V.int big), ("names", .ref pn), ("facts", .ref pf), ("_tables", .ref t), ("_arities", za), ("_stands", .ref ps)] : List (Str × V)).lookup f = some v → Ev (tFld K te f) σ B' v := fun {σ B' te f v} e1 h hf hv => ev_fldI h (e1 _ _ h1') hC (hN f hf) hv
  have e11 := Ex.refl B1
  refine x_when (b := false) (et_is (et_or (a := false) (b := false) (et_not (a := true) (et_B (ev_whole (fld e11 (ev_var rfl) (by decide) rfl)))) (fun _ => et_test (ev_is (ev_op (fld e11 (ev_var rfl) (f := "size") (by decide) rfl) (ev_var rfl) (rv_ne rfl)) (by simp)))) rfl) (fun h => nomatch h) (fun _ => ?_)
  have htn : ∀ H1, Ex B1 H1 → TyX K H1 (.ref pn) (.type "tuple") := fun H1 e => sqt_ty (ex_t e hpn')
  have htf : ∀ H1, Ex B1 H1 → TyX K H1 (.ref pf) (.type "tuple") := fun H1 e => sqt_ty (ex_t e h3')
  refine x_when (b := false) (et_is (et_or (a := false) (b := false) (et_not (a := true) (et_B (ev_isi (fld e11 (ev_var rfl) (f := "names") (by decide) rfl) (.ty "tuple") htn (kit_ty (show kitB "tuple" "tuple" = _ by decide +kernel))))) (fun _ => et_is (et_or (a := false) (b := false) (et_test (ev_is (ev_op (ev_lenT (fld e11 (ev_var rfl) (f := "names") (by decide) rfl) hpn') (ev_len (ev_var rfl) hpk) (rv_ne rfl)) (by simp))) (fun _ => et_not (a := true) (et_B (ev_isi (fld e11 (ev_var rfl) (f := "facts") (by decide) rfl) (.ty "tuple") htf (kit_ty (show kitB "tuple" "tuple" = _ by decide +kernel)))))) rfl)) rfl) (fun h => nomatch h) (fun _ => ?_)
  refine x_asgV (v := .int 0) ev_c ?_
  have hnl : ns'.length ≤ 12 := by rw [hperm.length_eq, List.length_map]; exact hfit.few
  have hmem : ∀ n ∈ ns', n ∈ rels.map Rel.name := fun n hn => hperm.mem_iff.mp hn
  have hTm : MTabP K rels kvs B1 := hTP.mono g1.ex
  have hm1 := g1.ex _ _ hm
  have hW1 : WorldAt K P w C big rels x B1 := hW0.mono g1.ex
  refine x_for (F := B1) (Ex.refl _) (ei_rng1 (n := (ns'.length : Int)) (ea_cons (ev_is (ev_len (ev_var rfl) hpk) (by rw [List.length_map])) ea_nil) (by omega)) (fun F' ys i σ' B' => Ex F' B' ∧ Gr H B1 B' ∧ ∃ y1 y2 y3 y4 y5 y6 : Option V, σ' = [some (V.ref x), some (.int big), some (.ref m), some (.ref pk), some (.int ((factsOf rels (ns'.take i)).length : Int)), y1, y2, y3, y4, y5, y6]) (fun F' ys g hy av => ⟨by rw [NM.mrg_self g.ex]; exact Ex.refl _, by rw [NM.mrg_self g.ex]; exact g, none, none, none, none, none, none, rfl⟩) (fun F' ys i σ' B' h => h.1) (fun F' ys i xx σ' B' g hy hxi h => ?_) (fun F' ys σ' B' g hy h => ?_)
  · obtain ⟨eF, gB, y1, y2, y3, y4, y5, y6, rfl⟩ := h
    rw [hy] at hxi
    obtain ⟨rfl, hi⟩ := rng_get hxi
    rw [Int.toNat_natCast] at hi
    have hn : ns'[i]? = some ns'[i] := List.getElem?_eq_getElem hi
    generalize ns'[i] = n at hn
    have hnm : n ∈ rels.map Rel.name := hmem n (List.mem_of_getElem? hn)
    have hgn : (ns'.map V.str)[i]? = some (.str n) := by rw [List.getElem?_map, hn]; rfl
    have e1 := gB.ex
    refine x_asgV (v := .str n) (ev_op (ev_var rfl) (ev_var rfl) (rv_ixL (ex_l e1 hpk) (atI_get hgn))) ?_
    have hname : ∀ {σ : L2.St} {tk : TE}, σ[0]? = some (some (V.ref x)) → Ev tk σ B' (.int (i : Int)) → Ev (tOp (rIxT K) (tFld K (tVar 0) "names") tk) σ B' (.str n) := fun {σ tk} h hk => ev_op (fld e1 (ev_var h) (f := "names") (by decide) rfl) hk (rv_ixT (ex_t e1 hpn') (atI_get hgn))
    refine x_when (b := false) (et_is (et_or (a := false) (b := false) (et_not (a := true) (et_B (ev_isi_str (hname rfl (ev_var rfl)) (show kitB "str" "str" = _ by decide +kernel)))) (fun _ => et_test (ev_is (ev_op (hname rfl (ev_var rfl)) (ev_var rfl) (rv_ne rfl)) (by simp)))) rfl) (fun h => nomatch h) (fun _ => ?_)
    obtain ⟨r, v, hf, hv, tm, qm, ms, rfl, hm2, hm3, hm4⟩ := hTm.get hfit.nd hnm
    have har : arIn rels n = r.ar := arIn_some hf
    have hrw : rowsIn rels n = r.rows := rowsIn_some hf
    refine x_asgV (v := .int r.ar) (har ▸ (er_meth (P := IsV (.int (arIn rels n))) (ev_var rfl) (e1 _ _ h1') rfl (ea_cons (ev_var rfl) ea_nil) fun B'' e2 => ⟨x, big, rels, n, rfl, hW1.mono (e1.trans e2), hnm, rfl⟩).val) ?_
    refine x_asg (er_meth (P := TpP K (RowsAt K (rowsIn rels n))) (ev_var rfl) (e1 _ _ h1') rfl (ea_cons (ev_var rfl) ea_nil) fun B'' e2 => ⟨x, big, rels, n, rfl, hW1.mono (e1.trans e2), hnm, rfl⟩) fun z B2 g2 hz => ?_
    obtain ⟨pt, ts, rfl, hpt, hts⟩ := hz
    rw [hrw] at hts
    have gB2 := gB.trans g2
    have e2 := gB2.ex
    have hmv : ∀ {σ : L2.St}, σ[2]? = some (some (V.ref m)) → σ[6]? = some (some (.str n)) → ∀ {B3 : Hp}, Ex B1 B3 → Ev (tDGet (tVar 2) (tVar 6)) σ B3 (.ref tm) := fun {σ} h h' {B3} e3 => ev_dget (ev_var h) (ev_var h') (e3 _ _ hm1) hv
    have ix0 : ∀ {B3 : Hp}, Ex B1 B3 → RV (rIxL K) (.ref tm) (.int 0) B3 (.int r.ar) := fun {B3} e3 => rv_ixL (sq_of (e3 _ _ hm2)) (atI_nat (j := 0) rfl)
    have ix1 : ∀ {B3 : Hp}, Ex B1 B3 → RV (rIxL K) (.ref tm) (.int 1) B3 (.ref qm) := fun {B3} e3 => rv_ixL (sq_of (e3 _ _ hm2)) (atI_nat (j := 1) rfl)
    refine x_when (b := false) (et_is (et_or (a := false) (b := false) (et_not (a := true) (et_B (ev_whole (ev_var rfl)))) (fun _ => et_test (ev_is (ev_op (ev_var rfl) (ev_op (hmv rfl rfl e2) ev_c (ix0 e2)) (rv_ne rfl)) (by simp)))) rfl) (fun h => nomatch h) (fun _ => ?_)
    have htt : ∀ H1, Ex B2 H1 → TyX K H1 (.ref pt) (.type "tuple") := fun H1 e => sqt_ty (ex_t e hpt)
    refine x_when (b := false) (et_is (et_or (a := false) (b := false) (et_not (a := true) (et_B (ev_isi (ev_var rfl) (.ty "tuple") htt (kit_ty (show kitB "tuple" "tuple" = _ by decide +kernel))))) (fun _ => et_test (ev_is (ev_op (ev_lenT (ev_var rfl) hpt) (ev_len (ev_op (hmv rfl rfl e2) ev_c (ix1 e2)) (sq_of (e2 _ _ hm3))) (rv_ne rfl)) (by rw [hts.1, hm4.1]; simp)))) rfl) (fun h => nomatch h) (fun _ => ?_)
    have hr63 : r.rows.length ≤ 63 := by rw [← hrw]; exact hfit.rows n
    have hr3 : ∀ y ∈ r.rows, y.length ≤ 3 := by rw [← hrw]; exact hfit.row n
    refine x_for (F := B2) (Ex.refl _) (ei_list (ev_op (hmv rfl rfl e2) ev_c (ix1 e2)) (sq_of (e2 _ _ hm3))) (fun F2 ys2 j σ2 B3 => B3 = F2 ∧ ∃ y5 y6 : Option V, σ2 = [some (V.ref x), some (.int big), some (.ref m), some (.ref pk), some (.int (((factsOf rels (ns'.take i)).length + j : Nat) : Int)), some (.int (i : Int)), some (.str n), some (.int r.ar), some (.ref pt), y5, y6]) (fun F2 ys2 g3 hy3 av3 => ⟨NM.mrg_self g3.ex, y5, y6, rfl⟩) (fun F2 ys2 j σ2 B3 h => h.1 ▸ Ex.refl _) (fun F2 ys2 j x2 σ2 B3 g3 hy3 hx3 h => ?_) (fun F2 ys2 σ2 B3 g3 hy3 h => ?_)
    · obtain ⟨rfl, y7, y8, rfl⟩ := h
      subst hy3
      have hj := (List.getElem?_eq_some_iff.mp hx3).1
      obtain ⟨row, hrj⟩ : ∃ row, r.rows[j]? = some row := ⟨_, List.getElem?_eq_getElem (by rw [← hm4.1]; exact hj)⟩
      obtain ⟨b, rfl, hb⟩ := hm4.2 j x2 row hx3 hrj
      have e3 := e2.trans g3.ex
      have hfa := facts_at hn (by rw [hrw]; exact hrj)
      have hlt := (List.getElem?_eq_some_iff.mp hfa).1
      obtain ⟨fv, hfs⟩ : ∃ fv, fs[(factsOf rels (ns'.take i)).length + j]? = some fv := ⟨_, List.getElem?_eq_getElem (by rw [h4'.1]; exact hlt)⟩
      have hFA := h4'.2 _ fv (n, row) hfs hfa
      have hff : ∀ {σ : L2.St}, σ[0]? = some (some (V.ref x)) → Ev (tFld K (tVar 0) "facts") σ B3 (.ref pf) := fun {σ} h => fld e3 (ev_var h) (f := "facts") (by decide) rfl
      refine x_when (b := false) (et_is (et_or (a := false) (b := false) (et_test (ev_is (ev_op (ev_var rfl) (ev_lenT (hff rfl) (ex_t e3 h3')) rv_I0) (congrArg V.bl (decide_eq_false (by rw [h4'.1]; omega))))) (fun _ => et_not (a := true) (et_B (ev_lfact (ev_op (hff rfl) (ev_var rfl) (rv_ixT (ex_t e3 h3') (atI_get hfs))) (ev_var rfl) (ev_var rfl) (Mo.mo e3 hFA) (ex_t e3 (ex_t (Ex.refl _) hb)) (by have := hr3 row (List.mem_of_getElem? hrj); omega))))) rfl) (fun h => nomatch h) (fun _ => ?_)
      refine x_last (x_asgV (v := .int (((factsOf rels (ns'.take i)).length + (j + 1) : Nat) : Int)) (ev_is (ev_op (ev_var rfl) ev_c rv_I0) (congrArg V.int (by omega))) (x_nx rfl ⟨rfl, _, _, rfl⟩))
    · obtain ⟨rfl, y7, y8, rfl⟩ := h
      subst hy3
      have e3 := e2.trans g3.ex
      refine x_last (x_for (F := B3) (Ex.refl _) (ei_rng1 (n := (r.rows.length : Int)) (ea_cons (ev_is (ev_lenT (ev_var rfl) (ex_t g3.ex hpt)) (by rw [hts.1])) ea_nil) (by omega)) (fun F4 ys4 j σ2 B4 => B4 = F4 ∧ ∃ y6 : Option V, σ2 = [some (V.ref x), some (.int big), some (.ref m), some (.ref pk), some (.int (((factsOf rels (ns'.take i)).length + ys2.length : Nat) : Int)), some (.int (i : Int)), some (.str n), some (.int r.ar), some (.ref pt), y7, y6]) (fun F4 ys4 g5 hy5 av5 => ⟨NM.mrg_self g5.ex, y8, rfl⟩) (fun F4 ys4 j σ2 B4 h => h.1 ▸ Ex.refl _) (fun F4 ys4 j x2 σ2 B4 g5 hy5 hx5 h => ?_) (fun F4 ys4 σ2 B4 g5 hy5 h => ?_))
      · obtain ⟨rfl, y9, rfl⟩ := h
        rw [hy5] at hx5
        obtain ⟨rfl, hj⟩ := rng_get hx5
        rw [Int.toNat_natCast] at hj
        obtain ⟨row, hrj⟩ : ∃ row, r.rows[j]? = some row := ⟨_, List.getElem?_eq_getElem hj⟩
        obtain ⟨mv, hmj⟩ : ∃ mv, ys2[j]? = some mv := ⟨_, List.getElem?_eq_getElem (by rw [hm4.1]; exact hj)⟩
        obtain ⟨tv, htj⟩ : ∃ tv, ts[j]? = some tv := ⟨_, List.getElem?_eq_getElem (by rw [hts.1]; exact hj)⟩
        obtain ⟨b, rfl, hb⟩ := hm4.2 j mv row hmj hrj
        obtain ⟨a, rfl, ha⟩ := hts.2 j tv row htj hrj
        have e5 := e3.trans g5.ex
        refine x_last (x_when (b := false) (et_not (a := true) (et_B (ev_lrow (ev_op (ev_var rfl) (ev_var rfl) (rv_ixT (ex_t (g3.ex.trans g5.ex) hpt) (atI_get htj))) (ev_op (ev_op (hmv rfl rfl e5) ev_c (ix1 e5)) (ev_var rfl) (rv_ixL (sq_of (e5 _ _ hm3)) (atI_get hmj))) (ex_t (g3.ex.trans g5.ex) ha) (ex_t e5 hb) (by have := hr3 row (List.mem_of_getElem? hrj); omega)))) (fun h => nomatch h) (fun _ => x_nx rfl ⟨rfl, _, rfl⟩))
      · obtain ⟨rfl, y9, rfl⟩ := h
        have hoff : (factsOf rels (ns'.take (i + 1))).length = (factsOf rels (ns'.take i)).length + ys2.length := by rw [facts_take hn, hrw, hm4.1]
        exact x_nx rfl ⟨(eF.trans g2.ex).trans (g3.ex.trans g5.ex), (gB2.trans g3).trans g5, some (.int (i : Int)), some (.str n), some (.int r.ar), some (.ref pt), y7, y9, by rw [hoff]⟩
  · obtain ⟨eF, gB, y1, y2, y3, y4, y5, y6, rfl⟩ := h
    have hyl : ys.length = ns'.length := by rw [hy, rngV_len, Int.toNat_natCast]
    rw [hyl, List.take_length]
    exact x_ret (eR_v (v := .bl true) (ev_is (ev_op (ev_lenT (fld gB.ex (ev_var rfl) (f := "facts") (by decide) rfl) (ex_t gB.ex h3')) (ev_var rfl) (rv_eq rfl)) (by rw [h4'.1]; simp))) (fun z B' H' g2 p e1 e2 => q z H' B' e2 ((g1.trans gB).trans g2) e1 p)
end Kx
namespace Kx
open PySem PySem.Spec PyProof.Rows L2 Evl LX T XV RX WS
variable {P : Program} {w : World} {K : PySem.W.Frag} {mg : Str → Option Value} {base : Heap}
/-! ### model -/
/-- what _law_given gives, told: g its arity and rows -/
def GivenR (K : PySem.W.Frag) (g : Int × List (List Int)) : V → Hp → Prop := fun z B => ∃ (p l : Addr) (ys : List V), z = .ref p ∧ B p = some (.lst [.int g.1, .ref l]) ∧ B l = some (.lst ys) ∧ A2 (IsTI K) g.2 ys B
instance {g : Int × List (List Int)} : Mo (GivenR K g) := ⟨fun e ⟨p, l, ys, h, a, b, c⟩ => ⟨p, l, ys, h, e _ _ a, e _ _ b, A2.mono (fun _ => inferInstance) e c⟩⟩
def GivenOk (big : Int) (g : Int × List (List Int)) : Prop := 1 ≤ g.1 ∧ g.1 ≤ 3 ∧ (∀ r ∈ g.2, (r.length : Int) = g.1 ∧ TS.Bd big r) ∧ g.2.length ≤ 31
def relG (big : Int) (n : Str) (g : Int × List (List Int)) : Rel := ⟨n, g.1, AS.ascR big g.2⟩
def relsG (big : Int) (ns : List Str) (gs : List (Int × List (List Int))) : List Rel := List.zipWith (relG big) ns gs
def dModel (K : PySem.W.Frag) : List V → Hp → (V → Hp → Prop) → Prop := fun vs B Pz => ∃ (big : Int) (a b : Addr) (ns : List Str) (gs : List (Int × List (List Int))) (ts : List V), vs = [.ref a, .ref b] ∧ B a = some (.lst (ns.map V.str)) ∧ ns.Nodup ∧ ns.length ≤ 12 ∧ B b = some (.lst ts) ∧ A2 (GivenR K) gs ts B ∧ gs.length = ns.length ∧ (∀ g ∈ gs, GivenOk big g) ∧
  Pz = fun z B' => ∃ p kvs, z = .ref p ∧ B' p = some (.dK kvs) ∧ MTab K (relsG big ns gs) kvs B'
theorem dd_append {big : Int} {d : Nat} {S A : List (List Int)} {k : Nat} {r : List Int} (hS : S.Pairwise fun q r => TS.code big q ≤ TS.code big r) (hok : ∀ x ∈ S, AS.Ok big d x) (hr : S[k]? = some r) (hA : AS.Asc big A) (hm : ∀ x, x ∈ A ↔ x ∈ S.take k) (hl : A.getLast? = (S.take k).getLast?) (hne : A.getLast? ≠ some r) :
    AS.Asc big (A ++ [r]) ∧ (∀ x, x ∈ A ++ [r] ↔ x ∈ S.take (k + 1)) ∧ (A ++ [r]).getLast? = (S.take (k + 1)).getLast? := by
  have ht := take_snoc hr
  have hrm : r ∈ S := List.mem_of_getElem? hr
  refine ⟨?_, fun x => by rw [ht, List.mem_append, List.mem_append, hm], by rw [ht, List.getLast?_append, List.getLast?_append]; rfl⟩
  refine List.pairwise_append.mpr ⟨hA, List.pairwise_singleton _ _, fun x hx y hy => ?_⟩
  rw [List.mem_singleton] at hy
  subst hy
  have hle : TS.code big x ≤ TS.code big y := by
    have hx' := (hm x).mp hx
    have h2 : (S.take k ++ [y]).Pairwise fun q r => TS.code big q ≤ TS.code big r := by
      rw [← ht]
      exact List.Pairwise.sublist (List.take_sublist _ _) hS
    exact (List.pairwise_append.mp h2).2.2 x hx' y (List.mem_singleton.mpr rfl)
  rcases Int.lt_or_eq_of_le hle with c | c
  · exact c
  · exfalso
    have hxS : x ∈ S := List.mem_of_mem_take ((hm x).mp hx)
    have e := AS.ok_inj (hok x hxS) (hok y hrm) c
    subst e
    -- x is the last of A, since no larger one stands in A
    obtain ⟨l, hlast⟩ : ∃ l, A.getLast? = some l := by
      cases q : A.getLast? with
      | none => rw [List.getLast?_eq_none_iff] at q; rw [q] at hx; exact nomatch hx
      | some l => exact ⟨l, rfl⟩
    have hlA : l ∈ A := List.mem_of_getLast? hlast
    have hll : TS.code big l ≤ TS.code big x := by
      have hx' := (hm l).mp hlA
      have h2 : (S.take k ++ [x]).Pairwise fun q r => TS.code big q ≤ TS.code big r := by
        rw [← ht]
        exact List.Pairwise.sublist (List.take_sublist _ _) hS
      exact (List.pairwise_append.mp h2).2.2 l hx' x (List.mem_singleton.mpr rfl)
    have hne' : l ≠ x := fun c => hne (by rw [hlast, c])
    obtain ⟨A', hA'⟩ : ∃ A', A = A' ++ [l] := by
      have := List.getLast?_eq_some_iff.mp hlast
      exact this
    rw [hA'] at hx hA
    rcases List.mem_append.mp hx with h | h
    · have := (List.pairwise_append.mp hA).2.2 x h l (List.mem_singleton.mpr rfl)
      omega
    · rw [List.mem_singleton] at h
      exact hne' h.symm
theorem dd_skip {S A : List (List Int)} {k : Nat} {r : List Int} (hr : S[k]? = some r) (hm : ∀ x, x ∈ A ↔ x ∈ S.take k) (he : A.getLast? = some r) : (∀ x, x ∈ A ↔ x ∈ S.take (k + 1)) ∧ A.getLast? = (S.take (k + 1)).getLast? := by
  have ht := take_snoc hr
  refine ⟨fun x => ?_, by rw [ht, List.getLast?_append, he]; rfl⟩
  rw [ht, List.mem_append, hm, List.mem_singleton]
  exact ⟨.inl, fun h => h.elim id fun c => c ▸ (hm r).mp (List.mem_of_getLast? he)⟩
theorem sqt_del {B : Hp} {q p : Addr} {xs : List V} {kvs : List (Key × V)} (h : SqT K B q xs) (hp : B p = some (.dK kvs)) : SqT K (RX.del B p) q xs := by
  refine h.imp (fun h => ?_) id
  rcases h with h | ⟨o, h⟩
  · exact .inl (by rw [RX.del_ne fun c => by subst c; rw [hp] at h; exact nomatch h]; exact h)
  · exact .inr ⟨o, by rw [RX.del_ne fun c => by subst c; rw [hp] at h; exact nomatch h]; exact h⟩
theorem ex_del {B B' : Hp} {p : Addr} (e : Ex B B') (h : B p = none) : Ex B (RX.del B' p) := fun a o ha => by
  have c : a ≠ p := fun c => by subst c; rw [h] at ha; exact nomatch ha
  rw [RX.del_ne c]; exact e a o ha
theorem valV_no {kvs : List (Key × V)} {k : Key} (h : k ∉ kvs.map (·.1)) : valV kvs k = none := by
  unfold valV
  rw [Option.map_eq_none_iff, List.find?_eq_none]
  intro p hp c
  exact h (of_decide_eq_true c ▸ List.mem_map_of_mem hp)
theorem MTab.snoc {rels : List Rel} {kvs : List (Key × V)} {B : Hp} {r : Rel} {v : V} (h : MTab K rels kvs B) (hv : MEnt K r v B) : MTab K (rels ++ [r]) (kvs ++ [(Sum.inr r.name, v)]) B := by
  refine ⟨by rw [List.map_append, List.map_append, h.1]; rfl, fun i p r' hp hr => ?_⟩
  have hl : kvs.length = rels.length := by
    have := congrArg List.length h.1
    rw [List.length_map, List.length_map] at this
    exact this
  by_cases c : i < kvs.length
  · rw [List.getElem?_append_left c] at hp
    rw [List.getElem?_append_left (by omega)] at hr
    exact h.2 i p r' hp hr
  · have c2 := (List.getElem?_eq_some_iff.mp hp).1
    rw [List.length_append, List.length_singleton] at c2
    have c3 : i = kvs.length := by omega
    subst c3
    rw [List.getElem?_append_right (Nat.le_refl _), Nat.sub_self] at hp
    rw [hl, List.getElem?_append_right (Nat.le_refl _), Nat.sub_self] at hr
    cases hp
    cases hr
    exact hv
theorem relsG_get {big : Int} {ns : List Str} {gs : List (Int × List (List Int))} {i : Nat} {n : Str} {g : Int × List (List Int)} (h1 : ns[i]? = some n) (h2 : gs[i]? = some g) : (relsG big ns gs)[i]? = some (relG big n g) := by
  unfold relsG
  rw [List.getElem?_zipWith, h1, h2]
theorem relsG_names {big : Int} : ∀ {ns : List Str} {gs : List (Int × List (List Int))}, gs.length = ns.length → (relsG big ns gs).map Rel.name = ns
  | [], [], _ => rfl
  | [], _ :: _, h => by simp at h
  | _ :: _, [], h => by simp at h
  | n :: ns, g :: gs, h => by
    show n :: (relsG big ns gs).map Rel.name = _
    rw [relsG_names (by simpa using h)]
abbrev law_model_N : List Str := ["names", "tables", "model", "j", "alone", "row"]
abbrev law_model_P : List Str := ["names", "tables"]
theorem sc_law_model : FnScope ["names", "tables", "model", "j", "alone", "row"] ["names", "tables"] (defScope s_law_model) := ⟨rfl, rfl, rfl, by decide +kernel, rfl, by decide +kernel, by decide +kernel⟩
theorem ok_model (T : TX K mg) : OkF P w K mg base 1 "_law_model" ["names", "tables"] (spR (dModel K)) := by
  have n_range := T.n "range" (by decide +kernel)
  have n_len := T.n "len" (by decide +kernel)
  have n_sorted := T.n "sorted" (by decide +kernel)
  refine T.okF 31 rfl (by decide +kernel) (fun f fd F => ?_) (fun _ _ _ _ _ _ us hl => match us, hl with | [_, _], _ => rfl)
  refine F.ok sc_law_model (fun vs H Q E h => spR_len h (by rintro B Pz ⟨big, a, b, ns, gs, ts, rfl, _⟩; rfl)) (fun cdv A outer s H vs Q E hr ⟨B, Pz, e, ⟨big, a, b, ns, gs, ts, hvs, hA, hnd, hnl, hB, hG, hgl, hok, hP⟩, q⟩ => ?_)
  subst hvs hP
  refine ⟨_, (pss_cons (ps_set (i := 2) sc_law_model.nd rfl (.inl rfl) pe_dnewK)
        (pss_cons (ps_for PassesOwn.never rfl (pi_range1 (by rfl) n_range (pa_cons (pe_callB (LX.k_len (K := K)) (by rfl) n_len (by decide +kernel) (pa_cons (pv 0) pa_nil)) pa_nil)) (pg_name (i := 3) sc_law_model.nd rfl (.inl rfl)) (pss_cons (ps_set (i := 4) sc_law_model.nd rfl (.inl rfl) (pe_lst pa_nil))
        (pss_cons (ps_for PassesOwn.never rfl (RX.k_pil (K := K) (pe_callB (RX.k_sortRE (K := K)) (by rfl) n_sorted (by decide +kernel) (pa_cons (pe_ix (LX.k_ixl (K := K)) (pe_ix (LX.k_ixl (K := K)) (pv 1) (pv 3) (fun _ _ => rfl)) pe_int (fun _ _ => rfl)) pa_nil))) (pg_name (i := 5) sc_law_model.nd rfl (.inl rfl)) (pss_one (ps_if (pw_or (pt_cmpR op_eq (pe_callB (LX.k_len (K := K)) (by rfl) n_len (by decide +kernel) (pa_cons (pv 4) pa_nil)) pe_int (nomark _)) (pw_or1 (pt_cmpR (LX.k_neD (K := K) hr.units) (pe_ix (LX.k_ixl (K := K)) (pv 4) (pe_un un_neg pe_int) (fun _ _ => rfl)) (pv 5) (nomark _)))).pt (pss_one (ps_expr (pe_bm PySem.F.plainAttrs_list PySem.F.slot_list_append PySem.F.type_list_append mt_append (pv 4) (pa_cons (pv 5) pa_nil)))) pss_nil)))
        (pss_one (ps_dput (LX.u1 hr) (pv 2) (pe_ix (LX.k_ixl (K := K)) (pv 0) (pv 3) (fun _ _ => rfl)) (pe_lst (pa_cons (pe_ix (LX.k_ixl (K := K)) (pe_ix (LX.k_ixl (K := K)) (pv 1) (pv 3) (fun _ _ => rfl)) pe_int (fun _ _ => rfl)) (pa_cons (pv 4) pa_nil))) rfl)))))
        (pss_one (ps_ret (pv 2))))), ?_⟩
  refine x_asgD (X := H) (B := B) (fun p hpB hpH => ?_) H e (Ex.refl H)
  have hrl : (relsG big ns gs).map Rel.name = ns := relsG_names hgl
  refine x_for (F := B) (Ex.new hpB) (ei_rng1 (n := (ns.length : Int)) ?_ (by omega)) (fun F' ys i σ' B' => ∃ (y3 y4 y5 : Option V) (Bs : Hp) (kvs : List (Key × V)), σ' = [some (V.ref a), some (.ref b), some (.ref p), y3, y4, y5] ∧ B' = upd Bs p (.dK kvs) ∧ Bs p = none ∧ Gr H F' Bs ∧ MTab K ((relsG big ns gs).take i) kvs Bs) (fun F' ys g hy av => ?_) (fun F' ys i σ' B' h => ?_) (fun F' ys i xx σ' B' g hy hxi h => ?_) (fun F' ys σ' B' g hy h => ?_)
  · exact ea_cons (ev_is (ev_len (ev_var rfl) (sq_of hA)) (by rw [List.length_map])) ea_nil
  · have hF : F' p = none := av p hpB (by rw [upd_same]; exact Option.some_ne_none _)
    exact ⟨none, none, none, F', [], rfl, mrg_upd g.ex hF, hF, Gr.refl _ _, rfl, fun i p r h => nomatch h⟩
  · obtain ⟨y3, y4, y5, Bs, kvs, rfl, rfl, hp, gs', tb⟩ := h
    exact gs'.ex.trans (Ex.new hp)
  · obtain ⟨y3, y4, y5, Bs, kvs, rfl, rfl, hp, gF, tb⟩ := h
    rw [hy] at hxi
    obtain ⟨rfl, hi⟩ := rng_get hxi
    rw [Int.toNat_natCast] at hi
    obtain ⟨n, hn⟩ : ∃ n, ns[i]? = some n := ⟨_, List.getElem?_eq_getElem hi⟩
    obtain ⟨gv, hgv⟩ : ∃ gv, gs[i]? = some gv := ⟨_, List.getElem?_eq_getElem (by omega)⟩
    obtain ⟨tv, htv⟩ : ∃ tv, ts[i]? = some tv := ⟨_, List.getElem?_eq_getElem (by rw [hG.1]; omega)⟩
    obtain ⟨pg, lg, gy, rfl, hg1, hg2, hg3⟩ := hG.2 i tv gv htv hgv
    obtain ⟨ar, R⟩ := gv
    obtain ⟨ha1, ha3, hRok, hRl⟩ := hok _ (List.mem_of_getElem? hgv)
    have hRok : ∀ r ∈ R, AS.Ok big ar.toNat r := fun r hr => ⟨by have := (hRok r hr).1; have h1 : 1 ≤ ar := ha1; show r.length = ar.toNat; have h2 : (r.length : Int) = ar := this; omega, (hRok r hr).2⟩
    have ha1 : 1 ≤ ar := ha1
    have ha3 : ar ≤ 3 := ha3
    have eBs : Ex B Bs := g.ex.trans gF.ex
    have eBm : Ex B (upd Bs p (.dK kvs)) := eBs.trans (Ex.new hp)
    have tabj : ∀ {σ : L2.St} {B3 : Hp}, σ[1]? = some (some (V.ref b)) → σ[3]? = some (some (.int (i : Int))) → Ex B B3 → Ev (tOp (rIxL K) (tVar 1) (tVar 3)) σ B3 (.ref pg) := fun {σ B3} h1 h3 e3 => ev_op (ev_var h1) (ev_var h3) (rv_ixL (sq_of (e3 _ _ hB)) (atI_get htv))
    refine x_asgL (xs := []) (el_lst ea_nil (by decide)) fun p4 h4B h4H => ?_
    have hm : (upd Bs p (.dK kvs)) p = some (.dK kvs) := upd_same
    have gBm : Gr H F' (upd Bs p (.dK kvs)) := gF.trans (gr_new hp hpH)
    have eBsm : Ex Bs (upd Bs p (.dK kvs)) := Ex.new hp
    generalize upd Bs p (.dK kvs) = Bm at eBm h4B hm gBm eBsm
    refine x_for (F := Bm) (Ex.new h4B) (ei_listR (Pxs := fun ys B' => ∃ S, A2 (IsTI K) S ys B' ∧ S.Perm R ∧ S.Pairwise fun q r => TS.code big q ≤ TS.code big r) (EvR.imp (er_sortRE (Bn := big) (d := ar.toNat) (R := R) (ev_op (tabj rfl rfl eBm) ev_c (rv_ixL (sq_of (eBm _ _ hg1)) (atI_nat (j := 1) rfl))) (sq_of (eBm _ _ hg2)) (A2.mono (fun _ => inferInstance) eBm hg3) hRok (by rw [hg3.1]; have : R.length ≤ 31 := hRl; omega) (by omega) (by omega)) fun z B' _ ⟨p, ys, S, h1, h2, h3, h4, h5⟩ => ⟨p, ys, h1, sq_of h2, S, h3, h4, h5⟩)) (fun F2 ys2 k σ2 B2 => ∃ (y5 : Option V) (Bs2 : Hp) (al : List V) (A S : List (List Int)), σ2 = [some (V.ref a), some (.ref b), some (.ref p), some (.int (i : Int)), some (.ref p4), y5] ∧ B2 = upd Bs2 p4 (.lst al) ∧ Bs2 p4 = none ∧ Gr H F2 Bs2 ∧ (A2 (IsTI K) S ys2 F2 ∧ S.Perm R ∧ S.Pairwise fun q r => TS.code big q ≤ TS.code big r) ∧ A2 (IsTI K) A al Bs2 ∧ AS.Asc big A ∧ (∀ x, x ∈ A ↔ x ∈ S.take k) ∧ A.getLast? = (S.take k).getLast?) (fun F2 ys2 g3 ⟨S, hS1, hS2, hS3⟩ av => ?_) (fun F2 ys2 k σ2 B2 h => ?_) (fun F2 ys2 k x2 σ2 B2 g3 _ hx2 h => ?_) (fun F2 ys2 σ2 B2 g3 _ h => ?_)
    · have hF : F2 p4 = none := av p4 h4B (by rw [upd_same]; exact Option.some_ne_none _)
      exact ⟨y5, F2, [], [], S, rfl, mrg_upd g3.ex hF, hF, Gr.refl _ _, ⟨hS1, hS2, hS3⟩, a2_nil, List.Pairwise.nil, fun x => by rw [List.take_zero], rfl⟩
    · obtain ⟨y6, Bs2, al, A, S, rfl, rfl, hp4, g4, _⟩ := h
      exact g4.ex.trans (Ex.new hp4)
    · obtain ⟨y6, Bs2, al, A, S, rfl, rfl, hp4, g4, ⟨hS1, hS2, hS3⟩, hal, hAs, hAm, hAl⟩ := h
      have hk := (List.getElem?_eq_some_iff.mp hx2).1
      obtain ⟨r, hr⟩ : ∃ r, S[k]? = some r := ⟨_, List.getElem?_eq_getElem (by rw [← hS1.1]; exact hk)⟩
      obtain ⟨br, rfl, hbr⟩ := hS1.2 k x2 r hx2 hr
      have hSok : ∀ x ∈ S, AS.Ok big ar.toNat x := fun x hx => hRok x (hS2.mem_iff.mp hx)
      have hl4 : (upd Bs2 p4 (.lst al)) p4 = some (.lst al) := upd_same
      have hallen : al.length < 100000 := by
        have h1 : A.length ≤ S.length := NM.pigeon (asc_nodup hAs) fun x hx => List.mem_of_mem_take ((hAm x).mp hx)
        have h2 : S.length ≤ 31 := by rw [hS2.length_eq]; exact hRl
        rw [hal.1]
        omega
      have hupd : upd (upd Bs2 p4 (.lst al)) p4 (.lst (al ++ [.ref br])) = upd Bs2 p4 (.lst (al ++ [.ref br])) := by
        funext z
        by_cases c : z = p4
        · subst c; rw [upd_same, upd_same]
        · rw [upd_ne c, upd_ne c, upd_ne c]
      have hbr2 : IsTI K r (.ref br) Bs2 := Mo.mo g4.ex ⟨br, rfl, hbr⟩
      rcases List.eq_nil_or_concat A with hAn | ⟨A', l, hAc⟩
      · have haln : al = [] := List.length_eq_zero_iff.mp (by rw [hal.1, hAn]; rfl)
        have hne : A.getLast? ≠ some r := by rw [hAn]; exact fun c => nomatch c
        obtain ⟨q1, q2, q3⟩ := dd_append hS3 hSok hr hAs hAm hAl hne
        refine x_last (x_when (b := true) (et_or (a := true) (b := true) (et_test (ev_is (ev_op (ev_len (ev_var rfl) (sq_of hl4)) ev_c (rv_eq rfl)) (by rw [haln]; rfl))) (fun h => nomatch h)) (fun _ => x_last (NM.x_appV (l := p4) hl4 h4H (ev_var rfl) (ev_var rfl) hallen ?_)) (fun h => nomatch h))
        rw [hupd]
        exact x_nx rfl ⟨some (.ref br), Bs2, al ++ [.ref br], A ++ [r], S, rfl, rfl, hp4, g4, ⟨hS1, hS2, hS3⟩, hal.snoc hbr2, q1, q2, q3⟩
      · rw [List.concat_eq_append] at hAc
        have hall' : al.length = A'.length + 1 := by rw [hal.1, hAc, List.length_append]; rfl
        obtain ⟨vl, hvl⟩ : ∃ vl, al[A'.length]? = some vl := ⟨_, List.getElem?_eq_getElem (by omega)⟩
        have hAl' : A[A'.length]? = some l := by rw [hAc, List.getElem?_append_right (Nat.le_refl _), Nat.sub_self]; rfl
        obtain ⟨bl, rfl, hbl⟩ := hal.2 _ vl l hvl hAl'
        have hlast : A.getLast? = some l := by rw [hAc, List.getLast?_append]; rfl
        obtain ⟨al', hal'⟩ : ∃ al', al = al' ++ [.ref bl] := by
          refine ⟨al.take A'.length, ?_⟩
          have := take_snoc hvl
          rw [← this, List.take_of_length_le (by omega)]
        have hatl : atI al (-1) = some (.ref bl) := by rw [hal']; exact atI_last _ _
        refine x_last (x_when (b := !decide (l = r)) (et_is (et_or (a := false) (b := !decide (l = r)) (et_test (ev_is (ev_op (ev_len (ev_var rfl) (sq_of hl4)) ev_c (rv_eq rfl)) (congrArg V.bl (decide_eq_false (fun c => by have c := V.int.inj c; omega))))) (fun _ => et_test (ev_op (ev_op (ev_var rfl) (ev_un ev_c ru_neg) (rv_ixL (sq_of hl4) hatl)) (ev_var rfl) (rv_neT (ex_t (Ex.new hp4) hbl) (ex_t (g4.ex.trans (Ex.new hp4)) hbr))))) (Bool.false_or _)) (fun hb => ?_) (fun hb => ?_))
        · have hne : A.getLast? ≠ some r := by
            rw [hlast]
            intro c
            have c := Option.some.inj c
            rw [decide_eq_true c] at hb
            exact nomatch hb
          obtain ⟨q1, q2, q3⟩ := dd_append hS3 hSok hr hAs hAm hAl hne
          refine x_last (NM.x_appV (l := p4) hl4 h4H (ev_var rfl) (ev_var rfl) hallen ?_)
          rw [hupd]
          exact x_nx rfl ⟨some (.ref br), Bs2, al ++ [.ref br], A ++ [r], S, rfl, rfl, hp4, g4, ⟨hS1, hS2, hS3⟩, hal.snoc hbr2, q1, q2, q3⟩
        · have hlr : l = r := by
            by_cases c : l = r
            · exact c
            · rw [decide_eq_false c] at hb; exact nomatch hb
          obtain ⟨q2, q3⟩ := dd_skip hr hAm (by rw [hlast, hlr])
          exact x_nx rfl ⟨some (.ref br), Bs2, al, A, S, rfl, rfl, hp4, g4, ⟨hS1, hS2, hS3⟩, hal, hAs, q2, q3⟩
    · obtain ⟨y6, Bs2, al, A, S, rfl, rfl, hp4, g4, ⟨hS1, hS2, hS3⟩, hal, hAs, hAm, hAl⟩ := h
      rw [hS1.1, List.take_length] at hAm
      have hAR : A = AS.ascR big R := AS.asc_uniq hAs (AS.ascR_asc hRok) fun x => (hAm x).trans (hS2.mem_iff.trans AS.mem_ascR.symm)
      have e42 : Ex Bm (upd Bs2 p4 (.lst al)) := (g3.ex.trans g4.ex).trans (Ex.new hp4)
      have hp2 : (upd Bs2 p4 (.lst al)) p = some (.dK kvs) := e42 _ _ hm
      have hBd : Ex B (RX.del (upd Bs2 p4 (.lst al)) p) := ex_del (eBm.trans e42) hpB
      have hnp : p4 ≠ p := fun c => by subst c; rw [hm] at h4B; exact nomatch h4B
      have h4d : (RX.del (upd Bs2 p4 (.lst al)) p) p4 = some (.lst al) := by rw [RX.del_ne hnp]; exact upd_same
      have hrows : RowsAt K (AS.ascR big R) al (RX.del (upd Bs2 p4 (.lst al)) p) := by
        rw [← hAR]
        refine ⟨hal.1, fun k y r h1 h2 => ?_⟩
        obtain ⟨q1, hq1, hq2⟩ := hal.2 k y r h1 h2
        exact ⟨q1, hq1, sqt_del (ex_t (Ex.new hp4) hq2) hp2⟩
      have hkeys : valV kvs (Sum.inr n) = none := valV_no (by
        rw [tb.1]
        intro c
        obtain ⟨r, hr, hrn⟩ := List.mem_map.mp c
        have hrn := Sum.inr.inj hrn
        have : n ∈ (ns.take i).map (fun z => z) := by
          rw [List.map_id', ← hrl, ← List.map_take]
          exact hrn ▸ List.mem_map_of_mem hr
        exact nodup_take (f := fun (z : Str) => z) (by rw [List.map_id']; exact hnd) hn this)
      have hkl : kvs.length ≤ i := by
        have := congrArg List.length tb.1
        rw [List.length_map, List.length_map, List.length_take] at this
        omega
      have hnm : Ev (tOp (rIxL K) (tVar 0) (tVar 3)) [some (V.ref a), some (.ref b), some (.ref p), some (.int (i : Int)), some (.ref p4), y6] (upd Bs2 p4 (.lst al)) (.str n) := ev_op (ev_var rfl) (ev_var rfl) (rv_ixL (sq_of ((eBm.trans e42) _ _ hA)) (atI_get (by rw [List.getElem?_map, hn]; rfl)))
      refine x_last (x_dput (l := p) (Pe := MEnt K (relG big n (ar, R))) hp2 hpH (ev_var rfl) hnm (EvR.imp (er_lstN (Pa := fun vs B' => ∃ z r, vs = z :: r ∧ IsV (.int ar) z B' ∧ ∃ z2 r2, r = z2 :: r2 ∧ IsV (.ref p4) z2 B' ∧ r2 = []) inferInstance (ear inferInstance (eR_v (ev_op (tabj rfl rfl hBd) ev_c (rv_ixL (sq_of (hBd _ _ hg1)) (atI_nat (j := 0) rfl)))) (ear inferInstance (eR_v (ev_var rfl)) ear_nil)) ?_) ?_) (by omega) (fun z' B'' g5 hp5 hz' => ?_))
      · rintro vs B' ⟨z, r, rfl, _, z2, r2, rfl, _, rfl⟩
        show (2 : Nat) ≤ 100000
        decide
      · rintro z B' e5 ⟨pn, vs, rfl, hpn, z1, r, rfl, hz1, z2, r2, rfl, hz2, rfl⟩
        have hz1 : z1 = .int ar := hz1
        have hz2 : z2 = .ref p4 := hz2
        subst hz1
        subst hz2
        exact ⟨pn, p4, al, rfl, hpn, e5 _ _ h4d, MoA.mo e5 hrows⟩
      · have hFp : F' p = none := none_of gF.ex hp
        have gF5 : Gr H F' B'' := (NM.gr_del ((gBm.trans (g3.trans g4)).trans (gr_new hp4 h4H)) hFp).trans g5
        have hti : (relsG big ns gs).take (i + 1) = (relsG big ns gs).take i ++ [relG big n (ar, R)] := take_snoc (relsG_get hn hgv)
        rw [putK_new _ hkeys]
        refine x_nx rfl ⟨_, _, _, B'', _, rfl, rfl, hp5, gF5, ?_⟩
        rw [hti]
        exact (tb.mono ((ex_del (eBsm.trans e42) hp).trans g5.ex)).snoc hz'
  · obtain ⟨y3, y4, y5, Bs, kvs, rfl, rfl, hp, gF, tb⟩ := h
    have hyl : ys.length = ns.length := by rw [hy, rngV_len, Int.toNat_natCast]
    have hrn : (relsG big ns gs).length = ns.length := by
      have := congrArg List.length hrl
      rw [List.length_map] at this
      exact this
    rw [hyl, ← hrn, List.take_length] at tb
    exact x_ret (rVp (P := fun z B' => ∃ p kvs, z = .ref p ∧ B' p = some (.dK kvs) ∧ MTab K (relsG big ns gs) kvs B') (ev_var rfl) ⟨p, kvs, rfl, upd_same, tb.mono (Ex.new hp)⟩) (fun z' B' H' g2 hz e1 e2 => q z' H' B' e2 (((g.trans gF).trans (gr_new hp hpH)).trans g2) e1 hz)
end Kx
namespace Kx
open PySem PySem.Spec PyProof.Rows L2 Evl LX T XV RX WS
variable {P : Program} {w : World} {K : PySem.W.Frag} {mg : Str → Option Value} {base : Heap}
/-! ### the class World -/
abbrev wC (K : PySem.W.Frag) : Addr := He.ga K "World"
theorem w_x (T : TX K mg) : ((((worldF.all fun f => (He.Fa.noat "World" f).ok K) && (wmeth.all fun m => (He.Fa.meth "World" m).ok K)) && emptyB K (dfl0 K)) && kitW K (wC K)) = true := (He.ba (He.ba (He.ba T.t.x).1).2).2
theorem w_cls (T : TX K mg) : Cls K (wC K) := He.cls_ok (He.ba (He.ba T.t.x).1).1
theorem w_mkr (T : TX K mg) : Mk K (wC K) (He.ma K (wC K) "__init__") := He.mkr_ok (He.ba (He.ba (He.ba T.t.x).1).2).1
theorem w_noat (T : TX K mg) : ∀ f ∈ fieldsN, NoAttr K (wC K) f := fun f hf => He.noat_ok (List.all_eq_true.mp (He.ba (He.ba (He.ba (w_x T)).1).1).1 f hf)
theorem w_meth (T : TX K mg) {m : Str} (h : m ∈ wmeth) : Meth K (wC K) m (He.ma K (wC K) m) := He.meth_ok (List.all_eq_true.mp (He.ba (He.ba (He.ba (w_x T)).1).1).2 m h)
theorem w_kit (T : TX K mg) : PySem.W.kitOne K (.ref (wC K)) (.ref (wC K)) = some true := of_decide_eq_true (He.ba (He.ba (w_x T)).2).1
theorem w_ty (T : TX K mg) {B : Hp} {x dx : Addr} {fs : List (Str × V)} (h : B x = some (.ins (wC K) dx fs)) : TyX K B (.ref x) (.ref (wC K)) :=
  have q := He.ba (w_x T)
  .base (.ins h (w_cls T) (of_decide_eq_true (He.ba (He.ba q.2).2).1) (of_decide_eq_true (He.ba (He.ba (He.ba q.2).2).2).1) (of_decide_eq_true (He.ba (He.ba (He.ba (He.ba q.2).2).2).2).1) (of_decide_eq_true (He.ba (He.ba (He.ba (He.ba q.2).2).2).2).2))
theorem w_dfl (T : TX K mg) (H : Hp) : SqT K H (dfl0 K) [] := by
  have z : emptyB K (dfl0 K) = true := (He.ba (He.ba (w_x T)).1).2
  unfold emptyB at z
  split at z
  · rename_i dct its n sl ho
    have e : its = #[] := Array.isEmpty_iff.mp z
    subst e
    exact .inr ⟨_, #[], n, ho, rfl, rfl, Nat.zero_le _, .nil⟩
  · exact nomatch z
theorem w_table (T : TX K mg) : OkM P w K mg base 1 (wC K) "_table" ["self", "name"] (spR (dTable K P w (wC K))) := by
  obtain ⟨fd, F⟩ := T.t.d _ (List.mem_of_getElem? (i := 16) rfl)
  have F2 : Fun K "_table" "World._table" s_World__table (He.ma K (wC K) "_table") fd := fun_of F
  exact ⟨_, fd, w_meth T (by decide +kernel), fn_table T F2 (w_cls T) (w_noat T _ (by decide +kernel)), F2.binds fun _ _ _ _ _ _ us hl => match us, hl with | [_, _], _ => rfl⟩
theorem w_arity (T : TX K mg) : OkM P w K mg base 2 (wC K) "arity" ["self", "name"] (spR (dArity K P w (wC K))) := by
  obtain ⟨fd, F⟩ := T.t.d _ (List.mem_of_getElem? (i := 11) rfl)
  have F2 : Fun K "arity" "World.arity" s_World_arity (He.ma K (wC K) "arity") fd := fun_of F
  exact ⟨_, fd, w_meth T (by decide +kernel), fn_arity T F2 (w_cls T) (w_table T), F2.binds fun _ _ _ _ _ _ us hl => match us, hl with | [_, _], _ => rfl⟩
theorem w_rows (T : TX K mg) : OkM P w K mg base 2 (wC K) "rows" ["self", "name"] (spR (dRows K P w (wC K))) := by
  obtain ⟨fd, F⟩ := T.t.d _ (List.mem_of_getElem? (i := 12) rfl)
  have F2 : Fun K "rows" "World.rows" s_World_rows (He.ma K (wC K) "rows") fd := fun_of F
  exact ⟨_, fd, w_meth T (by decide +kernel), fn_rows T F2 (w_cls T) (w_table T), F2.binds fun _ _ _ _ _ _ us hl => match us, hl with | [_, _], _ => rfl⟩
theorem w_init (T : TX K mg) : ∃ fd, FunD K "__init__" "World.__init__" (defArgs s_World_init) (defBody s_World_init) (defScope s_World_init) [.ref (dfl0 K)] [] (He.ma K (wC K) "__init__") fd := T.t.d _ (List.mem_of_getElem? (i := 10) rfl)
/-- World(size, relations) -/
theorem w_mk2 (T : TX K mg) : OkI P w K mg base 7 "World" (wC K) ["self", "size", "relations"] (spInitW K P w (wC K)) [] := by
  obtain ⟨fd, F⟩ := w_init T
  obtain ⟨ds, hv, hb⟩ := FunD.binds1 (ps := ["self", "size", "relations"]) F 3 1 (fun z => nomatch z) rfl (fun TT kV doc pm an cdv ct us its l1 l2 => match us, l1, its, l2 with | [_, _, _], _, [_], _ => ⟨_, rfl, rfl⟩)
  exact ⟨T.g "World" (by decide +kernel), _, fd, ds, w_mkr T, ok_init T F (w_cls T) (w_noat T), hb, hv⟩
end Kx
namespace Kx
open PySem PySem.Spec PyProof.Rows L2 Evl LX T XV RX WS
variable {P : Program} {w : World} {K : PySem.W.Frag} {mg : Str → Option Value} {base : Heap}
/-! ### what is handed in, as data -/
structure EntD (d : PyData) (n : Str) (g : Int × List (List Int)) : Prop where
  ex : ∃ (gd : PyData) (rds : List PyData), seqD d = some [.str n, .int g.1, gd] ∧ seqD gd = some rds ∧ rds.length = g.2.length ∧ ∀ (k : Nat) (rd : PyData) (r : List Int), rds[k]? = some rd → g.2[k]? = some r → seqD rd = some (r.map PyData.int)
theorem rowOf_ints {rd : PyData} {r : List Int} (h : seqD rd = some (r.map PyData.int)) : rowOf rd = r := by
  unfold rowOf
  rw [h]
  show (r.map PyData.int).map intD = r
  rw [List.map_map]
  exact List.map_id' r
theorem rows_are {rds : List PyData} {R : List (List Int)} (hl : rds.length = R.length) (h : ∀ (k : Nat) (rd : PyData) (r : List Int), rds[k]? = some rd → R[k]? = some r → seqD rd = some (r.map PyData.int)) : rds.map rowOf = R := by
  apply List.ext_getElem?
  intro k
  rw [List.getElem?_map]
  by_cases c : k < R.length
  · have h1 : rds[k]? = some (rds[k]'(by omega)) := List.getElem?_eq_getElem _
    have h2 : R[k]? = some R[k] := List.getElem?_eq_getElem c
    rw [h1, h2]
    exact congrArg some (rowOf_ints (h k _ _ h1 h2))
  · rw [List.getElem?_eq_none (by omega), List.getElem?_eq_none (by omega)]
    rfl
theorem EntD.rel {big : Int} {d : PyData} {n : Str} {g : Int × List (List Int)} (h : EntD d n g) : relOf big d = relG big n g := by
  obtain ⟨gd, rds, h1, h2, h3, h4⟩ := h
  rw [relOf_some h1, h2]
  show (⟨n, g.1, AS.ascR big (rds.map rowOf)⟩ : Rel) = _
  rw [rows_are h3 h4]
  rfl
theorem sm_of_seq {d : PyData} {ds : List PyData} (h : seqD d = some ds) (hl : ds.length ≤ 40000) (hs : ∀ x ∈ ds, smD x = true) : smD d = true := by
  cases d with
  | list l =>
    cases h
    rw [smD, decide_eq_true hl, smAll_of hs]
    rfl
  | tuple l =>
    cases h
    rw [smD, decide_eq_true hl, smAll_of hs]
    rfl
  | _ => exact nomatch h
theorem nm_sm {n : Str} (h : nameOkS n = true) : n.length ≤ 12 := by
  unfold nameOkS at h
  simp only [Bool.and_eq_true] at h
  have := of_decide_eq_true h.1.1.2
  omega
theorem EntD.ok {big : Int} {d : PyData} {n : Str} {g : Int × List (List Int)} (h : EntD d n g) (hn : nameOkS n = true) (hg : GivenOk big g) : relD d big = true ∧ smD d = true ∧ fewD d = true := by
  obtain ⟨gd, rds, h1, h2, h3, h4⟩ := h
  obtain ⟨a1, a3, hr, hl⟩ := hg
  have hrow : ∀ rd ∈ rds, ∃ r, r ∈ g.2 ∧ seqD rd = some (r.map PyData.int) := fun rd hrd => by
    obtain ⟨k, hk, rfl⟩ := List.mem_iff_getElem.mp hrd
    have q2 : g.2[k]? = some (g.2[k]'(by omega)) := List.getElem?_eq_getElem _
    exact ⟨_, List.mem_of_getElem? q2, h4 k _ _ (List.getElem?_eq_getElem hk) q2⟩
  refine ⟨?_, ?_, ?_⟩
  · rw [relD_some h1]
    show (nameOkS n && (decide (1 ≤ g.1) && decide (g.1 ≤ 3) && rowsD gd g.1 big)) = true
    rw [hn, decide_eq_true a1, decide_eq_true a3, rowsD_some h2, Bool.true_and, Bool.true_and, Bool.true_and]
    refine List.all_eq_true.mpr fun rd hrd => ?_
    obtain ⟨r, hr1, hr2⟩ := hrow rd hrd
    obtain ⟨q1, q2⟩ := hr r hr1
    rw [rowD_some hr2, List.length_map, decide_eq_true q1, Bool.true_and]
    refine List.all_eq_true.mpr fun x hx => ?_
    obtain ⟨i, hi, rfl⟩ := List.mem_map.mp hx
    obtain ⟨b1, b2⟩ := q2 i hi
    show (decide (0 ≤ i) && decide (i ≤ big - 1)) = true
    rw [decide_eq_true b1, decide_eq_true (by omega)]
    rfl
  · refine sm_of_seq h1 (show (3 : Nat) ≤ 40000 by decide) fun x hx => ?_
    have hx : x = .str n ∨ x = .int g.1 ∨ x = gd := by simpa using hx
    rcases hx with c | c | c
    · subst c
      exact decide_eq_true (by have := nm_sm hn; omega)
    · subst c; rfl
    · subst c
      refine sm_of_seq h2 (by rw [h3]; omega) fun rd hrd => ?_
      obtain ⟨r, hr1, hr2⟩ := hrow rd hrd
      refine sm_of_seq hr2 (by rw [List.length_map]; have := (hr r hr1).1; omega) fun y hy => ?_
      obtain ⟨i, hi, rfl⟩ := List.mem_map.mp hy
      rfl
  · unfold fewD
    rw [h1]
    show decide (((seqD gd).getD []).length < 63) = true
    rw [h2]
    exact decide_eq_true (by show rds.length < 63; omega)
theorem rels_of {big : Int} {ds : List PyData} {ns : List Str} {gs : List (Int × List (List Int))} (hl : ds.length = ns.length) (hg : gs.length = ns.length) (h : ∀ (i : Nat) (d : PyData) (n : Str) (g : Int × List (List Int)), ds[i]? = some d → ns[i]? = some n → gs[i]? = some g → EntD d n g)
    (hn : ∀ s ∈ ns, nameOkS s = true) (hnd : ns.Nodup) (h12 : ns.length ≤ 12) (hok : ∀ g ∈ gs, GivenOk big g) : RelsOk big ds ∧ ds.map (relOf big) = relsG big ns gs := by
  have he : ds.map (relOf big) = relsG big ns gs := by
    apply List.ext_getElem?
    intro i
    rw [List.getElem?_map]
    by_cases c : i < ns.length
    · have h1 : ds[i]? = some (ds[i]'(by omega)) := List.getElem?_eq_getElem _
      have h2 : ns[i]? = some ns[i] := List.getElem?_eq_getElem c
      have h3 : gs[i]? = some (gs[i]'(by omega)) := List.getElem?_eq_getElem _
      rw [h1, relsG_get h2 h3]
      exact congrArg some (h i _ _ _ h1 h2 h3).rel
    · rw [List.getElem?_eq_none (by omega), List.getElem?_eq_none (by unfold relsG; rw [List.length_zipWith]; omega)]
      rfl
  have hone : ∀ d ∈ ds, relD d big = true ∧ smD d = true ∧ fewD d = true := fun d hd => by
    obtain ⟨i, hi, rfl⟩ := List.mem_iff_getElem.mp hd
    have h2 : ns[i]? = some (ns[i]'(by omega)) := List.getElem?_eq_getElem _
    have h3 : gs[i]? = some (gs[i]'(by omega)) := List.getElem?_eq_getElem _
    exact (h i _ _ _ (List.getElem?_eq_getElem hi) h2 h3).ok (hn _ (List.mem_of_getElem? h2)) (hok _ (List.mem_of_getElem? h3))
  refine ⟨⟨by omega, fun d hd => (hone d hd).1, fun d hd => (hone d hd).2.1, fun d hd => (hone d hd).2.2, ?_⟩, he⟩
  have : (ds.map fun x => (relOf big x).name) = ns := by
    have q := congrArg (List.map Rel.name) he
    rw [List.map_map, relsG_names hg] at q
    exact q
  rw [this]
  exact hnd
theorem relsG_fit {big : Int} {ns : List Str} {gs : List (Int × List (List Int))} (hg : gs.length = ns.length) (hnd : ns.Nodup) (h12 : ns.length ≤ 12) (hok : ∀ g ∈ gs, GivenOk big g) : RelsFit (relsG big ns gs) := by
  have hin : ∀ n, rowsIn (relsG big ns gs) n = [] ∨ ∃ g ∈ gs, rowsIn (relsG big ns gs) n = AS.ascR big g.2 := fun n => by
    unfold rowsIn
    cases q : (relsG big ns gs).find? (fun r => decide (r.name = n)) with
    | none => exact .inl rfl
    | some r =>
      obtain ⟨i, hi, hr⟩ := List.mem_iff_getElem.mp (List.mem_of_find?_eq_some q)
      have hlz : (relsG big ns gs).length = ns.length := by unfold relsG; rw [List.length_zipWith]; omega
      have h2 : ns[i]? = some (ns[i]'(by omega)) := List.getElem?_eq_getElem _
      have h3 : gs[i]? = some (gs[i]'(by omega)) := List.getElem?_eq_getElem _
      have := relsG_get (big := big) h2 h3
      rw [List.getElem?_eq_getElem hi, hr] at this
      have this := Option.some.inj this
      subst this
      exact .inr ⟨_, List.mem_of_getElem? h3, rfl⟩
  refine ⟨by unfold relsG; rw [List.length_zipWith]; omega, by rw [relsG_names hg]; exact hnd, fun n => ?_, fun n r hr => ?_⟩
  · rcases hin n with c | ⟨g, hg, c⟩
    · rw [c]; exact Nat.zero_le _
    · rw [c]
      have := len_ascR (B := big) (L := g.2)
      have := (hok g hg).2.2.2
      omega
  · rcases hin n with c | ⟨g, hg, c⟩
    · rw [c] at hr; exact nomatch hr
    · rw [c] at hr
      obtain ⟨a1, a3, h, _⟩ := hok g hg
      have := (h r (AS.mem_ascR.mp hr)).1
      omega
/-! ### what stays while lists change -/
def Nl (B Bn : Hp) : Prop := ∀ a o, B a = some o → (∀ xs, o ≠ .lst xs) → Bn a = some o
theorem sqt_nl {B Bn : Hp} (k : Nl B Bn) {a : Addr} {xs : List V} (h : SqT K B a xs) : SqT K Bn a xs := by
  refine h.imp (fun h => ?_) id
  rcases h with h | ⟨o, h⟩
  · exact .inl (k _ _ h fun ys c => nomatch c)
  · exact .inr ⟨o, k _ _ h fun ys c => nomatch c⟩
theorem WorldAt.nl {C : Addr} {size : Int} {rels : List Rel} {x : Addr} {B B' : Hp} (e : Nl B B') (h : WorldAt K P w C size rels x B) : WorldAt K P w C size rels x B' := by
  obtain ⟨dx, zn, pf, t, za, ps, kvs, ys, st, ns, h1, ⟨p1, y1, r1, s1, q1⟩, h3, h4, h5, h6, ⟨p2, y2, r2, s2, q2⟩, h8, h9, h10, h11, h12⟩ := h
  refine ⟨dx, zn, pf, t, za, ps, kvs, ys, st, ns, e _ _ h1 (fun _ c => nomatch c), ⟨p1, y1, r1, sqt_nl e s1, q1⟩, sqt_nl e h3, ⟨h4.1, fun k y d hy hd => ?_⟩, e _ _ h5 (fun _ c => nomatch c), ⟨h6.1, fun i p r hp hr => ?_⟩, ⟨p2, y2, r2, sqt_nl e s2, q2⟩, e _ _ h8 (fun _ c => nomatch c), h9, h10, h11, h12⟩
  · obtain ⟨a, r, ha, hb, hc⟩ := h4.2 k y d hy hd
    exact ⟨a, r, ha, sqt_nl e hb, sqt_nl e hc⟩
  · obtain ⟨t', q', zs, ha, hb, hc, hd⟩ := h6.2 i p r hp hr
    refine ⟨t', q', zs, ha, sqt_nl e hb, sqt_nl e hc, hd.1, fun j y row hy hrow => ?_⟩
    obtain ⟨b, hb1, hb2⟩ := hd.2 j y row hy hrow
    exact ⟨b, hb1, sqt_nl e hb2⟩
end Kx
namespace Kx
open PySem PySem.Spec PyProof.Rows L2 Evl LX T XV RX WS
variable {P : Program} {w : World} {K : PySem.W.Frag} {mg : Str → Option Value} {base : Heap}
/-! ### what a world's relations keep to -/
structure RelOk (size : Int) (r : Rel) : Prop where
  nm : nameOkS r.name = true
  so : PySem.PyData.strOk r.name = true
  lo : 1 ≤ r.ar
  hi : r.ar ≤ 3
  rows : ∀ q ∈ r.rows, (q.length : Int) = r.ar ∧ TS.Bd size q
  asc : AS.ascR size r.rows = r.rows
structure RelsInv (size : Int) (rels : List Rel) : Prop where
  few : rels.length ≤ 12
  nd : (rels.map Rel.name).Nodup
  ok : ∀ r ∈ rels, RelOk size r
  s2 : 2 ≤ size
  s4 : size ≤ 400
def setF (n : Str) (R : List (List Int)) (r : Rel) : Rel := if r.name = n then ⟨n, r.ar, R⟩ else r
def setR (n : Str) (R : List (List Int)) (rels : List Rel) : List Rel := rels.map (setF n R)
theorem setF_name {n : Str} {R : List (List Int)} {r : Rel} : (setF n R r).name = r.name := by
  unfold setF
  split
  · rename_i h; exact h.symm
  · rfl
theorem setF_ar {n : Str} {R : List (List Int)} {r : Rel} : (setF n R r).ar = r.ar := by
  unfold setF
  split <;> rfl
theorem setR_names {n : Str} {R : List (List Int)} {rels : List Rel} : (setR n R rels).map Rel.name = rels.map Rel.name := by
  unfold setR
  rw [List.map_map]
  exact List.map_congr_left fun r _ => setF_name
theorem rowsIn_perm {a b : List Rel} (p : a.Perm b) (nd : (b.map Rel.name).Nodup) (n : Str) : rowsIn a n = rowsIn b n := by unfold rowsIn; rw [find_perm p nd]
theorem arIn_perm {a b : List Rel} (p : a.Perm b) (nd : (b.map Rel.name).Nodup) (n : Str) : arIn a n = arIn b n := by unfold arIn; rw [find_perm p nd]
theorem factsOf_perm {a b : List Rel} (p : a.Perm b) (nd : (b.map Rel.name).Nodup) (ns : List Str) : factsOf a ns = factsOf b ns := by
  unfold factsOf
  congr 1
  funext n
  rw [rowsIn_perm p nd]
theorem RelsInv.at {size : Int} {rels : List Rel} {n : Str} (I : RelsInv size rels) (h : n ∈ rels.map Rel.name) : ∃ r ∈ rels, r.name = n ∧ RelOk size r ∧ arIn rels n = r.ar ∧ rowsIn rels n = r.rows := by
  obtain ⟨r, hr, rfl⟩ := List.mem_map.mp h
  have := find_self I.nd hr
  exact ⟨r, hr, rfl, I.ok r hr, arIn_some this, rowsIn_some this⟩
theorem setR_inv {size : Int} {rels : List Rel} {n : Str} {R : List (List Int)} (I : RelsInv size rels) (hR : ∀ r ∈ rels, r.name = n → ∀ q ∈ R, (q.length : Int) = r.ar ∧ TS.Bd size q) (ha : AS.ascR size R = R) : RelsInv size (setR n R rels) := by
  refine ⟨by unfold setR; rw [List.length_map]; exact I.few, by rw [setR_names]; exact I.nd, fun r hr => ?_, I.s2, I.s4⟩
  obtain ⟨r0, h0, rfl⟩ := List.mem_map.mp hr
  have k := I.ok r0 h0
  unfold setF
  split
  · rename_i e
    exact ⟨e ▸ k.nm, e ▸ k.so, k.lo, k.hi, hR r0 h0 e, ha⟩
  · exact k
theorem find_name {n : Str} {rels : List Rel} {r : Rel} (h : rels.find? (fun r => decide (r.name = n)) = some r) : r.name = n := by
  have := List.find?_some h
  exact of_decide_eq_true this
theorem find_setR {n : Str} {R : List (List Int)} (m : Str) : ∀ {rels : List Rel}, (setR n R rels).find? (fun r => decide (r.name = m)) = (rels.find? (fun r => decide (r.name = m))).map (setF n R)
  | [] => rfl
  | r :: rels => by
    show ((setF n R r) :: setR n R rels).find? _ = _
    rw [List.find?_cons, List.find?_cons, setF_name]
    by_cases c : r.name = m
    · rw [decide_eq_true c]; rfl
    · rw [decide_eq_false c]
      exact find_setR m
theorem arIn_setR {n : Str} {R : List (List Int)} {m : Str} {rels : List Rel} : arIn (setR n R rels) m = arIn rels m := by
  unfold arIn
  rw [find_setR]
  cases rels.find? (fun r => decide (r.name = m)) with
  | none => rfl
  | some r => exact setF_ar
theorem rowsIn_setR {n : Str} {R : List (List Int)} {m : Str} {rels : List Rel} (h : n ∈ rels.map Rel.name) : rowsIn (setR n R rels) m = if m = n then R else rowsIn rels m := by
  unfold rowsIn
  rw [find_setR]
  by_cases c : m = n
  · rw [if_pos c]
    subst c
    obtain ⟨r, hr⟩ := find_mem h
    rw [hr]
    show (setF m R r).rows = R
    unfold setF
    rw [if_pos (find_name hr)]
  · rw [if_neg c]
    cases q : rels.find? (fun r => decide (r.name = m)) with
    | none => rfl
    | some r =>
      show (setF n R r).rows = r.rows
      unfold setF
      rw [if_neg (fun e => c ((find_name q).symm.trans e))]
/-! ### rows as data -/
theorem a2_dpsM {α : Type} {Pd : α → V → Hp → Prop} {f : α → PyData} {B : Hp} (hf : ∀ n y, Pd n y B → Dp K B y (f n)) : ∀ {ns : List α} {ys : List V}, A2 Pd ns ys B → DpAll K B ys (ns.map f)
  | [], ys, h => by
    have : ys = [] := List.length_eq_zero_iff.mp h.1
    subst this
    exact .nil
  | d :: ds, [], h => by have := h.1; simp at this
  | d :: ds, y :: ys, h => by
    obtain ⟨h1, h2⟩ := h.uncons
    exact .cons (hf _ _ h1) (a2_dpsM hf h2)
theorem a2_dps {Pd : PyData → V → Hp → Prop} (f : ∀ d y B, Pd d y B → Dp K B y d) {B : Hp} : ∀ {ds : List PyData} {ys : List V}, A2 Pd ds ys B → DpAll K B ys ds
  | [], ys, h => by
    have : ys = [] := List.length_eq_zero_iff.mp h.1
    subst this
    exact .nil
  | d :: ds, [], h => by have := h.1; simp at this
  | d :: ds, y :: ys, h => by
    obtain ⟨h1, h2⟩ := h.uncons
    exact .cons (f _ _ _ h1) (a2_dps f h2)
def rowTD (r : List Int) : PyData := .tuple (r.map PyData.int)
def rowsTD (R : List (List Int)) : PyData := .tuple (R.map rowTD)
theorem rowD_ints {rd : PyData} {r : List Int} {ar size : Int} (h : seqD rd = some (r.map PyData.int)) (hl : (r.length : Int) = ar) (hb : TS.Bd size r) : rowD rd ar size = true := by
  rw [rowD_some h, List.length_map, decide_eq_true hl, Bool.true_and]
  refine List.all_eq_true.mpr fun x hx => ?_
  obtain ⟨i, hi, rfl⟩ := List.mem_map.mp hx
  obtain ⟨b1, b2⟩ := hb i hi
  show (decide (0 ≤ i) && decide (i ≤ size - 1)) = true
  rw [decide_eq_true b1, decide_eq_true (by omega)]
  rfl
theorem dp_rowT {B : Hp} {r : List Int} {y : V} (h : IsTI K r y B) : Dp K B y (rowTD r) := by
  obtain ⟨p, rfl, h⟩ := h
  exact .tup h (dp_ints r)
theorem dp_rowsT {B : Hp} {R : List (List Int)} {q : Addr} {ys : List V} (h : SqT K B q ys) (hr : RowsAt K R ys B) : Dp K B (.ref q) (rowsTD R) :=
  .tup h (a2_dpsM (Pd := fun r => IsTI K r) (f := rowTD) (fun _ _ h => dp_rowT h) ⟨hr.1, fun k y d hy hd => hr.2 k y d hy hd⟩)
theorem rowOf_T (r : List Int) : rowOf (rowTD r) = r := rowOf_ints rfl
theorem rowsOf_T (R : List (List Int)) : ((R.map rowTD).map rowOf) = R := by
  rw [List.map_map]
  exact (List.map_congr_left fun r _ => rowOf_T r).trans (List.map_id R)
/-- the relation of a name, as it is handed on -/
def relT (rels : List Rel) (n : Str) (d : PyData) (o : Str) : PyData := .tuple [.str o, .int (arIn rels o), if o = n then d else rowsTD (rowsIn rels o)]
theorem sm_rows {rd : PyData} {ar size : Int} (h : rowD rd ar size = true) (ha : ar ≤ 3) : smD rd = true := by
  obtain ⟨h1, h2, h3⟩ := rowD_inv h
  refine sm_of_seq h1 (by rw [List.length_map]; omega) fun y hy => ?_
  obtain ⟨i, hi, rfl⟩ := List.mem_map.mp hy
  rfl
theorem relT_one {size : Int} {rels : List Rel} {n o : Str} {d : PyData} {rds : List PyData} (I : RelsInv size rels) (hd : seqD d = some rds) (hrow : ∀ rd ∈ rds, rowD rd (arIn rels n) size = true) (hlen : rds.length < 63) (hall : ∀ r ∈ rels, r.rows.length < 63) (ho : o ∈ rels.map Rel.name) :
    relD (relT rels n d o) size = true ∧ smD (relT rels n d o) = true ∧ fewD (relT rels n d o) = true ∧ ∀ r ∈ rels, r.name = o → relOf size (relT rels n d o) = setF n (AS.ascR size (rds.map rowOf)) r := by
  obtain ⟨r, hr, rfl, k, ha, hro⟩ := I.at ho
  have h1 : ∃ gd gds, seqD (relT rels n d r.name) = some [.str r.name, .int r.ar, gd] ∧ seqD gd = some gds ∧ (∀ rd ∈ gds, rowD rd r.ar size = true) ∧ gds.length < 63 ∧ (setF n (AS.ascR size (rds.map rowOf)) r = ⟨r.name, r.ar, AS.ascR size (gds.map rowOf)⟩) := by
    unfold relT
    rw [ha, hro]
    by_cases c : r.name = n
    · rw [if_pos c]
      refine ⟨d, rds, rfl, hd, fun rd h => ?_, hlen, ?_⟩
      · have := hrow rd h
        rw [← c, ha] at this
        exact this
      · unfold setF; rw [if_pos c, c]
    · rw [if_neg c]
      refine ⟨_, _, rfl, rfl, fun rd h => ?_, ?_, ?_⟩
      · obtain ⟨q, hq, rfl⟩ := List.mem_map.mp h
        obtain ⟨a, b⟩ := k.rows q hq
        exact rowD_ints rfl a b
      · rw [List.length_map]; exact hall r hr
      · rw [rowsOf_T, k.asc]; unfold setF; rw [if_neg c]
  obtain ⟨gd, gds, e1, e2, e3, e4, e5⟩ := h1
  have lo := k.lo
  have hi := k.hi
  refine ⟨?_, ?_, ?_, fun r' hr' hn' => ?_⟩
  · rw [relD_some e1]
    show (nameOkS r.name && (decide (1 ≤ r.ar) && decide (r.ar ≤ 3) && rowsD gd r.ar size)) = true
    rw [k.nm, decide_eq_true lo, decide_eq_true hi, rowsD_some e2, Bool.true_and, Bool.true_and, Bool.true_and]
    exact List.all_eq_true.mpr e3
  · refine sm_of_seq e1 (show (3 : Nat) ≤ 40000 by decide) fun x hx => ?_
    have hx : x = .str r.name ∨ x = .int r.ar ∨ x = gd := by simpa using hx
    rcases hx with c | c | c
    · subst c
      exact decide_eq_true (by have := nm_sm k.nm; omega)
    · subst c; rfl
    · subst c
      exact sm_of_seq e2 (by omega) fun rd hrd => sm_rows (e3 rd hrd) hi
  · unfold fewD
    rw [e1]
    show decide (((seqD gd).getD []).length < 63) = true
    rw [e2]
    exact decide_eq_true e4
  · have : r' = r := by
      have q1 := find_self I.nd hr'
      have q2 := find_self I.nd hr
      rw [hn', q2] at q1
      exact (Option.some.inj q1).symm
    subst this
    rw [e5, relOf_some e1, e2]
    rfl
theorem with_ok {size : Int} {rels : List Rel} {n : Str} {d : PyData} {rds : List PyData} {ns : List Str} (I : RelsInv size rels) (hd : seqD d = some rds) (hrow : ∀ rd ∈ rds, rowD rd (arIn rels n) size = true) (hlen : rds.length < 63) (hall : ∀ r ∈ rels, r.rows.length < 63) (hp : ns.Perm (rels.map Rel.name)) :
    RelsOk size (ns.map (relT rels n d)) ∧ ((ns.map (relT rels n d)).map (relOf size)).Perm (setR n (AS.ascR size (rds.map rowOf)) rels) := by
  have hone : ∀ o ∈ ns, _ := fun o ho => relT_one (o := o) I hd hrow hlen hall (hp.mem_iff.mp ho)
  have hperm : ((ns.map (relT rels n d)).map (relOf size)).Perm (setR n (AS.ascR size (rds.map rowOf)) rels) := by
    have h1 : ((ns.map (relT rels n d)).map (relOf size)).Perm (((rels.map Rel.name).map (relT rels n d)).map (relOf size)) := (hp.map _).map _
    refine h1.trans (List.Perm.of_eq ?_)
    unfold setR
    rw [List.map_map, List.map_map]
    exact List.map_congr_left fun r hr => (relT_one I hd hrow hlen hall (List.mem_map_of_mem hr)).2.2.2 r hr rfl
  refine ⟨⟨?_, fun x hx => ?_, fun x hx => ?_, fun x hx => ?_, ?_⟩, hperm⟩
  · rw [List.length_map, hp.length_eq, List.length_map]; exact I.few
  · obtain ⟨o, ho, rfl⟩ := List.mem_map.mp hx
    exact (hone o ho).1
  · obtain ⟨o, ho, rfl⟩ := List.mem_map.mp hx
    exact (hone o ho).2.1
  · obtain ⟨o, ho, rfl⟩ := List.mem_map.mp hx
    exact (hone o ho).2.2.1
  · have := hperm.map Rel.name
    rw [setR_names, List.map_map] at this
    exact this.nodup_iff.mpr I.nd
/-- a world whose relations are these, in whatever order -/
def WorldP (K : PySem.W.Frag) (P : Program) (w : World) (C : Addr) (size : Int) (rels : List Rel) (x : Addr) (B : Hp) : Prop := ∃ rels', rels'.Perm rels ∧ WorldAt K P w C size rels' x B
theorem WorldP.mono {C : Addr} {size : Int} {rels : List Rel} {x : Addr} {B B' : Hp} (e : Ex B B') (h : WorldP K P w C size rels x B) : WorldP K P w C size rels x B' := by
  obtain ⟨r, p, h⟩ := h
  exact ⟨r, p, h.mono e⟩
theorem WorldP.nl {C : Addr} {size : Int} {rels : List Rel} {x : Addr} {B B' : Hp} (e : Nl B B') (h : WorldP K P w C size rels x B) : WorldP K P w C size rels x B' := by
  obtain ⟨r, p, h⟩ := h
  exact ⟨r, p, h.nl e⟩
end Kx
namespace Kx
open PySem PySem.Spec PyProof.Rows L2 Evl LX T XV RX WS
variable {P : Program} {w : World} {K : PySem.W.Frag} {mg : Str → Option Value} {base : Heap}
/-! ### _checked_row and _with_rows -/
theorem er_if {σ : L2.St} {B : Hp} {t : TT} {ta tb : TE} {b : Bool} {Q0 : V → Hp → Prop} (h : EvT t σ B b) (h1 : b = true → EvR ta σ B Q0) (h2 : b = false → EvR tb σ B Q0) : EvR (tIf t ta tb) σ B Q0 := fun H1 e Q q => h H1 e _ fun H2 e2 => by
  cases b with
  | true =>
    rw [if_pos rfl]
    exact h1 rfl H2 (e.trans e2) Q fun z H3 B' e3 g e4 p => q z H3 B' (e2.trans e3) (g.back e2) e4 p
  | false =>
    rw [if_neg (by simp)]
    exact h2 rfl H2 (e.trans e2) Q fun z H3 B' e3 g e4 p => q z H3 B' (e2.trans e3) (g.back e2) e4 p
def IsDp (K : PySem.W.Frag) (d : PyData) : V → Hp → Prop := fun z B => Dp K B z d
instance {d : PyData} : Mo (IsDp K d) := ⟨fun e h => dp_ex e h⟩
def dChk (K : PySem.W.Frag) (P : Program) (w : World) (C : Addr) : List V → Hp → (V → Hp → Prop) → Prop := fun vs B Pz => ∃ (x : Addr) (size : Int) (rels : List Rel) (n : Str) (v : V) (d : PyData), vs = [.ref x, .str n, v] ∧ WorldP K P w C size rels x B ∧ RelsInv size rels ∧ n ∈ rels.map Rel.name ∧ Dp K B v d ∧ rowD d (arIn rels n) size = true ∧ Pz = TpP K (fun ys _ => ys = (rowOf d).map V.int)
def dWith (K : PySem.W.Frag) (P : Program) (w : World) (C : Addr) : List V → Hp → (V → Hp → Prop) → Prop := fun vs B Pz => ∃ (x : Addr) (size : Int) (rels : List Rel) (n : Str) (v : V) (d : PyData) (rds : List PyData), vs = [.ref x, .str n, v] ∧ WorldP K P w C size rels x B ∧ RelsInv size rels ∧ Dp K B v d ∧ seqD d = some rds ∧ (∀ rd ∈ rds, rowD rd (arIn rels n) size = true) ∧ rds.length < 63 ∧ (∀ r ∈ rels, r.rows.length < 63) ∧
  Pz = fun z B' => ∃ y, z = .ref y ∧ WorldP K P w C size (setR n (AS.ascR size (rds.map rowOf)) rels) y B'
abbrev World__checked_row_N : List Str := ["self", "name", "row"]
abbrev World__checked_row_P : List Str := ["self", "name", "row"]
theorem sc_World__checked_row : FnScope ["self", "name", "row"] ["self", "name", "row"] (defScope s_World__checked_row) := ⟨rfl, rfl, rfl, by decide +kernel, rfl, by decide +kernel, by decide +kernel⟩
abbrev World__with_rows_N : List Str := ["self", "name", "rows", "relations", "other", "told"]
abbrev World__with_rows_P : List Str := ["self", "name", "rows"]
theorem sc_World__with_rows : FnScope ["self", "name", "rows", "relations", "other", "told"] ["self", "name", "rows"] (defScope s_World__with_rows) := ⟨rfl, rfl, rfl, by decide +kernel, rfl, by decide +kernel, by decide +kernel⟩
theorem fn_chk (T : TX K mg) {C f : Addr} {fd : FuncData} (F : Fun K "_checked_row" "World._checked_row" s_World__checked_row f fd) (hC : Cls K C) (hN : ∀ f ∈ fieldsN, NoAttr K C f) (M_arity : OkM P w K mg base 2 C "arity" ["self", "name"] (spR (dArity K P w C))) : FnOk P w K mg base CX0 5 f fd ["self", "name", "row"] (spR (dChk K P w C)) := by
  have n_tuple := T.n "tuple" (by decide +kernel)
  have O_is_row := ok_is_row (P := P) (w := w) (base := base) T
  refine F.ok sc_World__checked_row (fun vs H Q E h => spR_len h (by rintro B Pz ⟨x, s, r, n, v, d, rfl, _⟩; rfl)) (fun cdv A outer s H vs Q E hr ⟨B, Pz, e, ⟨x, size, rels, n, v, d, hvs, hW, hI, hn, hd, hrow, hP⟩, q⟩ => ?_)
  subst hvs hP
  refine ⟨_, (pss_cons (ps_if (pt_not (pt_val (LX.pe_f O_is_row hr (by decide) (pa_cons (pv 2) (pa_cons (RX.pe_m M_arity hC hr (by decide) (pv 0) (pa_cons (pv 1) pa_nil)) (pa_cons (LX.k_fld (K := K) (pv 0) (by rfl)) pa_nil)))))) (pss_one ps_never) pss_nil)
        (pss_one (ps_ret (pe_callTy (LX.k_tupOf (K := K)) (by rfl) n_tuple (by decide +kernel) (pa_cons (pv 2) pa_nil))))), ?_⟩
  obtain ⟨rels', hp, hWA⟩ := hW
  have hn' : n ∈ rels'.map Rel.name := (hp.map _).mem_iff.mpr hn
  have har := arIn_perm hp hI.nd n
  obtain ⟨r, hr0, hrn, hro, hra, hrw⟩ := hI.at hn
  obtain ⟨dx, zn, pf, t, za, ps, kvs, ys, st, ns, h1, _⟩ := id hWA
  refine x_when (X := H) (B := B) (b := false) (et_not (a := true) (et_B (ev_is (ev_row (ev_var rfl) (ev_is (er_meth (P := IsV (.int (arIn rels' n))) (ev_var rfl) h1 rfl (ea_cons (ev_var rfl) ea_nil) fun B'' e2 => ⟨x, size, rels', n, rfl, hWA.mono e2, hn', rfl⟩).val (by rw [har])) (ev_fldI (ev_var rfl) h1 hC (hN "size" (by decide)) rfl) (by rw [hra]; have := hro.hi; omega) hd) (by rw [hrow])))) (fun h => nomatch h) (fun _ => ?_) H e (Ex.refl H)
  obtain ⟨hs, _, _⟩ := rowD_inv hrow
  obtain ⟨q1, ws, rfl, hw, hws⟩ := dp_seq hd hs
  have hws := dps_ints hws
  subst hws
  exact x_ret (er_tup (Py := fun ys _ => ys = (rowOf d).map V.int) inferInstance (rVp (ev_var rfl) ⟨q1, _, rfl, hw, rfl⟩)) (fun z B' H' g p e1 e2 => q z H' B' e2 g e1 p)
theorem fn_with (T : TX K mg) {C f : Addr} {fd : FuncData} (F : Fun K "_with_rows" "World._with_rows" s_World__with_rows f fd) (hC : Cls K C) (hN : ∀ f ∈ fieldsN, NoAttr K C f) (M_arity : OkM P w K mg base 2 C "arity" ["self", "name"] (spR (dArity K P w C))) (M_rows : OkM P w K mg base 2 C "rows" ["self", "name"] (spR (dRows K P w C)))
    (I_World2 : OkI P w K mg base 7 "World" C ["self", "size", "relations"] (spInitW K P w C) []) : FnOk P w K mg base CX0 9 f fd ["self", "name", "rows"] (spR (dWith K P w C)) := by
  
  refine F.ok sc_World__with_rows (fun vs H Q E h => spR_len h (by rintro B Pz ⟨x, s, r, n, v, d, rds, rfl, _⟩; rfl)) (fun cdv A outer s H vs Q E hr ⟨B, Pz, e, ⟨x, size, rels, n, v, d, rds, hvs, hW, hI, hd, hds, hrow, hlen, hall, hP⟩, q⟩ => ?_)
  subst hvs hP
  refine ⟨_, (pss_cons (ps_set (i := 3) sc_World__with_rows.nd rfl (.inl rfl) (pe_lst pa_nil))
        (pss_cons (ps_for PassesOwn.never rfl (RX.k_pit (K := K) (LX.k_fld (K := K) (pv 0) (by rfl))) (pg_name (i := 4) sc_World__with_rows.nd rfl (.inl rfl)) (pss_cons (ps_set (i := 5) sc_World__with_rows.nd rfl (.inl rfl) (pe_ifExp (pt_cmpR op_eq (pv 4) (pv 1) (nomark _)) (pv 2) (RX.pe_m M_rows hC hr (by decide) (pv 0) (pa_cons (pv 4) pa_nil))))
        (pss_one (ps_expr (pe_bm PySem.F.plainAttrs_list PySem.F.slot_list_append PySem.F.type_list_append mt_append (pv 3) (pa_cons (pe_tup (pa_cons (pv 4) (pa_cons (RX.pe_m M_arity hC hr (by decide) (pv 0) (pa_cons (pv 4) pa_nil)) (pa_cons (pv 5) pa_nil)))) pa_nil))))))
        (pss_one (ps_ret (pe_i I_World2 hr (by decide) (pa_cons (LX.k_fld (K := K) (pv 0) (by rfl)) (pa_cons (pv 3) pa_nil))))))), ?_⟩
  obtain ⟨rels', hp, hWA⟩ := hW
  obtain ⟨dx, zn, pf, t, za, ps, kvs, ys, st, ns, h1, ⟨pn, _, rfl, hpn, rfl⟩, h3, h4, h5, h6, h7, h8, h9, h10, hperm, hsort⟩ := id hWA
  have hpm : ns.Perm (rels.map Rel.name) := hperm.trans (hp.map _)
  obtain ⟨hok, hpr⟩ := with_ok (d := d) (n := n) hI hds hrow hlen hall hpm
  have hnl : ns.length ≤ 12 := by rw [hpm.length_eq, List.length_map]; exact hI.few
  refine x_asgL (X := H) (B := B) (xs := []) (el_lst ea_nil (by decide)) (fun p hpB hpH => ?_) H e (Ex.refl H)
  refine x_for (F := B) (Ex.new hpB) (ei_tup (ev_fldI (ev_var rfl) h1 hC (hN "names" (by decide)) rfl) hpn) (fun F' ys i σ' B' => ∃ (y4 y5 : Option V) (Bs : Hp) (es : List V), σ' = [some (V.ref x), some (.str n), some v, some (.ref p), y4, y5] ∧ B' = upd Bs p (.lst es) ∧ Bs p = none ∧ Gr H F' Bs ∧ A2 (IsDp K) ((ns.take i).map (relT rels n d)) es Bs) (fun F' ys g hy av => ?_) (fun F' ys i σ' B' h => ?_) (fun F' ys i xx σ' B' g hy hxi h => ?_) (fun F' ys σ' B' g hy h => ?_)
  · have hF : F' p = none := av p hpB (by rw [upd_same]; exact Option.some_ne_none _)
    exact ⟨none, none, F', [], rfl, mrg_upd g.ex hF, hF, Gr.refl _ _, a2_nil⟩
  · obtain ⟨y4, y5, Bs, es, rfl, rfl, hp', gs', tb⟩ := h
    exact gs'.ex.trans (Ex.new hp')
  · obtain ⟨y4, y5, Bs, es, rfl, rfl, hp', gF, tb⟩ := h
    rw [hy, List.getElem?_map] at hxi
    obtain ⟨o, ho, rfl⟩ : ∃ o, ns[i]? = some o ∧ xx = .str o := by
      cases hq : ns[i]? with
      | none => rw [hq] at hxi; exact nomatch hxi
      | some o => rw [hq] at hxi; exact ⟨o, rfl, (Option.some.inj hxi).symm⟩
    have hom : o ∈ rels.map Rel.name := hpm.mem_iff.mp (List.mem_of_getElem? ho)
    have hom' : o ∈ rels'.map Rel.name := (hp.map _).mem_iff.mpr hom
    have hi : i < ns.length := (List.getElem?_eq_some_iff.mp ho).1
    have eBs : Ex B Bs := g.ex.trans gF.ex
    have hesl : es.length = i := by rw [tb.1, List.length_map, List.length_take]; omega
    refine x_asgO (P := IsDp K (if o = n then d else rowsTD (rowsIn rels o))) hp' (er_if (b := decide (o = n)) (et_test (ev_is (ev_op (ev_var rfl) (ev_var rfl) (rv_eq rfl)) (by simp))) (fun hb => ?_) (fun hb => ?_)) fun z B2 g2 hp2 hz => ?_
    · rw [if_pos (of_decide_eq_true hb)]
      exact rVp (ev_var rfl) (dp_ex eBs hd)
    · rw [if_neg (of_decide_eq_false hb)]
      refine EvR.imp (er_meth (P := TpP K (RowsAt K (rowsIn rels' o))) (ev_var rfl) (eBs _ _ h1) rfl (ea_cons (ev_var rfl) ea_nil) fun B'' e2 => ⟨x, size, rels', o, rfl, hWA.mono (eBs.trans e2), hom', rfl⟩) fun z B' _ ⟨q', zs, hz, hq, hzs⟩ => ?_
      subst hz
      rw [rowsIn_perm hp hI.nd] at hzs
      exact dp_rowsT hq hzs
    · have eB2 : Ex B B2 := eBs.trans g2.ex
      have eB2p : Ex B2 (upd B2 p (.lst es)) := Ex.new hp2
      refine x_last (x_appO (P := IsDp K (relT rels n d o)) inferInstance hp2 hpH (ev_var rfl) (EvR.imp (er_tupN (Pa := fun vs B' => ∃ z r, vs = z :: r ∧ IsV (.str o) z B' ∧ ∃ z2 r2, r = z2 :: r2 ∧ IsV (.int (arIn rels' o)) z2 B' ∧ ∃ z3 r3, r2 = z3 :: r3 ∧ IsDp K (if o = n then d else rowsTD (rowsIn rels o)) z3 B' ∧ r3 = []) inferInstance (ear inferInstance (eR_v (ev_var rfl)) (ear inferInstance (er_meth (P := IsV (.int (arIn rels' o))) (ev_var rfl) (eB2 _ _ h1) rfl (ea_cons (ev_var rfl) ea_nil) fun B'' e2 => ⟨x, size, rels', o, rfl, hWA.mono (eB2.trans e2), hom', rfl⟩) (ear inferInstance (rVp (ev_var rfl) hz) ear_nil))) ?_) ?_) (by omega) fun z2 B3 g3 hp3 hz2 => ?_)
      · rintro vs B' ⟨_, _, rfl, _, _, _, rfl, _, _, _, rfl, _, rfl⟩
        show (3 : Nat) ≤ 100000
        decide
      · rintro z0 B' _ ⟨p', vs, rfl, hp', z1, r1, rfl, hz1, z2, r2, rfl, hz2, z3, r3, rfl, hz3, rfl⟩
        have hz1 : z1 = .str o := hz1
        have hz2 : z2 = .int (arIn rels' o) := hz2
        subst hz1 hz2
        have hall3 : Dp K B' (.ref p') (.tuple [.str o, .int (arIn rels' o), if o = n then d else rowsTD (rowsIn rels o)]) := .tup (st_of hp') (.cons (.str o) (.cons (.int _) (.cons hz3 .nil)))
        rw [arIn_perm hp hI.nd] at hall3
        exact hall3
      · refine x_nx rfl ⟨_, _, B3, es ++ [z2], rfl, rfl, hp3, gF.trans ((g2.trans g3)), ?_⟩
        rw [take_snoc ho, List.map_append]
        exact Kx.A2.append (MoA.mo (g2.trans g3).ex tb) (RX.A2.cons hz2 a2_nil)
  · obtain ⟨y4, y5, Bs, es, rfl, rfl, hp', gF, tb⟩ := h
    rw [hy, List.length_map, List.take_length] at tb
    have eBs : Ex B Bs := g.ex.trans gF.ex
    have hds' := a2_dps (Pd := IsDp K) (fun _ _ _ h => h) tb
    have eB3 : Ex Bs (upd Bs p (.lst es)) := Ex.new hp'
    refine x_last (x_ret (EvR.imp (P' := fun z B' => ∃ y, z = V.ref y ∧ WorldP K P w C size (setR n (AS.ascR size (rds.map rowOf)) rels) y B') (er_make (K := K) (P := P) (w := w) (dvs := []) (d := .list (ns.map (relT rels n d))) (ds := ns.map (relT rels n d)) (EvAR.imp (rA (ea_cons (ev_fldI (ev_var rfl) (eB3 _ _ (eBs _ _ h1)) hC (hN "size" (by decide)) rfl) (ea_cons (ev_var rfl) ea_nil))) fun vs B' e2 hvs => (⟨V.ref p, by rw [hvs]; rfl, dp_ex e2 (.lst (sq_of upd_same) (dps_ex eB3 hds'))⟩ : ∃ v : V, vs ++ [] = [V.int size, v] ∧ Dp K B' v (.list (ns.map (relT rels n d))))) rfl hok hI.s2 hI.s4) fun z B' _ ⟨y, hz, hWy⟩ => ⟨y, hz, _, hpr, hWy⟩) (fun z B' H' g' p' e1 e2 => ?_))
    exact q z H' B' e2 (((g.trans gF).trans (gr_new hp' hpH)).trans g') e1 p'
end Kx
namespace Kx
open PySem PySem.Spec PyProof.Rows L2 Evl LX T XV RX WS
variable {P : Program} {w : World} {K : PySem.W.Frag} {mg : Str → Option Value} {base : Heap}
/-! ### put and drop -/
theorem ev_opR {σ : L2.St} {B : Hp} {r : R2} {ta tb : TE} {y v : V} {P0 : V → Hp → Prop} (h1 : EvR ta σ B P0) (h2 : Ev tb σ B y) (hv : ∀ z B', Ex B B' → P0 z B' → RV r z y B' v) : Ev (tOp r ta tb) σ B v := fun H1 e Q q =>
  h1 H1 e _ fun z H2 B' e2 g e3 p => h2 H2 (e.trans e2) _ fun H3 e4 => hv z B' g.ex p H3 (e3.trans e4) Q fun H4 e5 => q H4 ((e2.trans e4).trans e5)
def Snoc (y : V) (Py : List V → Hp → Prop) : List V → Hp → Prop := fun zs B => ∃ ys, zs = ys ++ [y] ∧ Py ys B
instance {y : V} {Py : List V → Hp → Prop} [m : MoA Py] : MoA (Snoc y Py) := ⟨fun e ⟨ys, a, b⟩ => ⟨ys, a, m.mo e b⟩⟩
theorem er_catT {σ : L2.St} {B : Hp} {ta tb : TE} {y : V} {Py : List V → Hp → Prop} [m : MoA Py] (h1 : EvR ta σ B (TpP K Py)) (h2 : EvU tb σ B [y]) (hl : ∀ ys B', Py ys B' → ys.length + 1 ≤ 100000) : EvR (tOp (rCatA K) ta tb) σ B (TpP K (Snoc y Py)) := fun H1 e Q q =>
  h1 H1 e _ fun z H2 B' e2 g e3 ⟨p, ys, hz, hp, hy⟩ => by
    subst hz
    have h2' : EvU tb σ B' [y] := fun H a => h2 H (g.ex.trans a)
    exact (rU (eu_catR (ta := tC (.ref p)) ev_c h2' hp (by simp) (hl ys B' hy))) H2 e3 Q fun z' H3 B'' e4 g' e5 ⟨p', hz', hp'⟩ => q z' H3 B'' (e2.trans e4) (g.trans (g'.back e2)) e5 ⟨p', ys ++ [y], hz', st_of hp', ys, rfl, m.mo g'.ex hy⟩
theorem er_methP {σ : L2.St} {B : Hp} {C x dx : Addr} {m : Str} {fs : List (Str × V)} {ta : TE} {tr : TA} {P0 : V → Hp → Prop} {Pa : List V → Hp → Prop} {Dd : List V → Hp → (V → Hp → Prop) → Prop} {E : XK} (ho : Ev ta σ B (.ref x)) (hx : B x = some (.ins C dx fs)) (hl : fs.lookup m = none) (h : EvAR tr σ B Pa) (hs : ∀ vs B', Ex B B' → Pa vs B' → Dd (.ref x :: vs) B' P0) : EvR (tMeth C m (spR Dd) [] E ta tr) σ B P0 := fun H1 e Q q =>
  ho H1 e _ fun H2 e2 => ⟨x, dx, fs, rfl, (e.trans e2) _ _ hx, hl, h H2 (e.trans e2) _ fun vs H3 B1 e3 g e4 pa => by
    rw [List.append_nil]
    exact ⟨B1, P0, e4, hs vs B1 g.ex pa, fun z H4 B' e5 g' e6 p => q z H4 B' ((e2.trans e3).trans e5) ((g.back e2).trans (g'.back (e2.trans e3))) e6 p⟩⟩
theorem asc_same {size : Int} {d : Nat} {L M : List (List Int)} (hM : ∀ x ∈ M, AS.Ok size d x) (hm : ∀ r, r ∈ L ↔ r ∈ M) : AS.ascR size L = AS.ascR size M :=
  AS.asc_uniq (AS.ascR_asc fun x hx => hM x ((hm x).mp hx)) (AS.ascR_asc hM) fun r => by rw [AS.mem_ascR, AS.mem_ascR]; exact hm r
theorem RelOk.oks {size : Int} {r : Rel} (k : RelOk size r) : ∀ x ∈ r.rows, AS.Ok size r.ar.toNat x := fun x hx => by
  obtain ⟨a, b⟩ := k.rows x hx
  exact ⟨by omega, b⟩
theorem setR_same {size : Int} {rels : List Rel} {n : Str} {R : List (List Int)} (I : RelsInv size rels) (h : ∀ r ∈ rels, r.name = n → R = r.rows) : setR n R rels = rels := by
  unfold setR
  refine (List.map_congr_left fun r hr => ?_).trans (List.map_id rels)
  show setF n R r = r
  unfold setF
  split
  · rename_i c
    rw [h r hr c, ← c]
  · rfl
/-- a row among those of a name, by the dict of all facts -/
theorem stands_in {size : Int} {rels rels' : List Rel} {ns : List Str} {st : List (NestedKey × Addr × V)} {n : Str} {row : List Int} (hp : rels'.Perm rels) (hI : RelsInv size rels) (hst : st.map (·.1) = (factsOf rels' ns).map RX.keyOf) (hns : ns.Perm (rels'.map Rel.name)) (hn : n ∈ rels.map Rel.name) : (st.find? fun p => decide (p.1 = RX.keyOf (n, row))).isSome = decide (row ∈ rowsIn rels n) := by
  rw [Bool.eq_iff_iff, List.find?_isSome, decide_eq_true_iff]
  have hmem : (∃ x, x ∈ st ∧ decide (x.1 = RX.keyOf (n, row)) = true) ↔ RX.keyOf (n, row) ∈ st.map (·.1) := by
    rw [List.mem_map]
    exact ⟨fun ⟨x, a, b⟩ => ⟨x, a, of_decide_eq_true b⟩, fun ⟨x, a, b⟩ => ⟨x, a, decide_eq_true b⟩⟩
  rw [hmem, hst, List.mem_map]
  have hnn : n ∈ ns := hns.mem_iff.mpr ((hp.map _).mem_iff.mpr hn)
  constructor
  · rintro ⟨f, hf, he⟩
    have he := keyOf_inj he
    subst he
    unfold factsOf at hf
    obtain ⟨m, hm, hf⟩ := List.mem_flatMap.mp hf
    obtain ⟨r, hr, he⟩ := List.mem_map.mp hf
    obtain ⟨rfl, rfl⟩ := Prod.mk.inj he
    rw [rowsIn_perm hp hI.nd] at hr
    exact hr
  · intro hr
    refine ⟨(n, row), ?_, rfl⟩
    unfold factsOf
    exact List.mem_flatMap.mpr ⟨n, hnn, List.mem_map.mpr ⟨row, by rw [rowsIn_perm hp hI.nd]; exact hr, rfl⟩⟩
theorem stands_keys {C : Addr} {rels : List Rel} {ns : List Str} {ys : List V} {B : Hp} {st : List (NestedKey × Addr × V)} (h4 : A2 (FactAt K) (factsOf rels ns) ys B) (h9 : st.map (·.1) = (factsOf rels ns).map RX.keyOf) (h10 : (st.map fun p => V.ref p.2.1) = ys) : DnKeys K B st := fun p hp => by
  obtain ⟨i, hi, rfl⟩ := List.mem_iff_getElem.mp hp
  have q1 : (st.map (·.1))[i]? = some (st[i]).1 := by rw [List.getElem?_map, List.getElem?_eq_getElem hi]; rfl
  rw [h9, List.getElem?_map] at q1
  have q2 : ys[i]? = some (V.ref (st[i]).2.1) := by rw [← h10, List.getElem?_map, List.getElem?_eq_getElem hi]; rfl
  cases hq : (factsOf rels ns)[i]? with
  | none => rw [hq] at q1; exact nomatch q1
  | some f =>
    rw [hq] at q1
    have q1 : RX.keyOf f = (st[i]).1 := Option.some.inj q1
    rw [← q1]
    exact ⟨fact_key (h4.2 i _ f q2 hq), keyOf_depth f⟩
/-- (name, row) among the facts -/
theorem et_stands {σ : L2.St} {B : Hp} {C x : Addr} {size : Int} {rels : List Rel} {neg : Bool} {ta : TE} {tn tk : TE} {n : Str} {row : List Int} (hC : Cls K C) (hN : ∀ f ∈ fieldsN, NoAttr K C f) (hW : WorldP K P w C size rels x B) (hI : RelsInv size rels) (hn : n ∈ rels.map Rel.name) (h : Ev ta σ B (.ref x)) (h1 : Ev tn σ B (.str n)) (h2 : EvR tk σ B (TpP K fun ys _ => ys = row.map V.int)) :
    Ev (tOp (rInNk neg K P w) (tTup (tCons tn (tCons tk tNil))) (tFld K ta "_stands")) σ B (.bl (xor neg (decide (row ∈ rowsIn rels n)))) := by
  obtain ⟨rels', hp, hWA⟩ := hW
  obtain ⟨dx, zn, pf, t, za, ps, kvs, ys, st, ns, h1', h2', h3, h4, h5, h6, h7, h8, h9, h10, h11, h12⟩ := hWA
  refine ev_opR (P0 := FactAt K (n, row)) (EvR.imp (er_tupN (Pa := fun vs B' => ∃ z r, vs = z :: r ∧ IsV (.str n) z B' ∧ ∃ z2 r2, r = z2 :: r2 ∧ TpP K (fun ys _ => ys = row.map V.int) z2 B' ∧ r2 = []) inferInstance (ear inferInstance (eR_v h1) (ear inferInstance h2 ear_nil)) ?_) ?_) (ev_fldI h h1' hC (hN "_stands" (by decide)) rfl) fun z B' e hz => ?_
  · rintro vs B' ⟨_, _, rfl, _, _, _, rfl, _, rfl⟩
    show (2 : Nat) ≤ 100000
    decide
  · rintro z B' _ ⟨p, vs, rfl, hp, z1, r1, rfl, hz1, z2, r2, rfl, ⟨p2, zs, rfl, hp2, rfl⟩, rfl⟩
    have hz1 : z1 = .str n := hz1
    subst hz1
    exact ⟨p, p2, rfl, st_of hp, hp2⟩
  · have hk := fact_key hz
    obtain ⟨a, r, rfl, _⟩ := hz
    rw [← stands_in hp hI h9 h11 hn]
    exact rv_inNk hk (keyOf_depth _) (e _ _ h8) fun p hp => ⟨nk_ex e (stands_keys (C := C) h4 h9 h10 p hp).1, (stands_keys (C := C) h4 h9 h10 p hp).2⟩
def dPut (K : PySem.W.Frag) (P : Program) (w : World) (C : Addr) : List V → Hp → (V → Hp → Prop) → Prop := fun vs B Pz => ∃ (x : Addr) (size : Int) (rels : List Rel) (n : Str) (v : V) (d : PyData), vs = [.ref x, .str n, v] ∧ WorldP K P w C size rels x B ∧ RelsInv size rels ∧ n ∈ rels.map Rel.name ∧ Dp K B v d ∧ rowD d (arIn rels n) size = true ∧ (∀ r ∈ rels, r.rows.length < 62) ∧
  Pz = fun z B' => ∃ y, z = .ref y ∧ WorldP K P w C size (setR n (AS.ascR size (rowsIn rels n ++ [rowOf d])) rels) y B'
def dDrop (K : PySem.W.Frag) (P : Program) (w : World) (C : Addr) : List V → Hp → (V → Hp → Prop) → Prop := fun vs B Pz => ∃ (x : Addr) (size : Int) (rels : List Rel) (n : Str) (v : V) (d : PyData), vs = [.ref x, .str n, v] ∧ WorldP K P w C size rels x B ∧ RelsInv size rels ∧ n ∈ rels.map Rel.name ∧ Dp K B v d ∧ rowD d (arIn rels n) size = true ∧ (∀ r ∈ rels, r.rows.length < 63) ∧
  Pz = fun z B' => ∃ y, z = .ref y ∧ WorldP K P w C size (setR n (AS.ascR size ((rowsIn rels n).filter fun q => decide (q ≠ rowOf d))) rels) y B'
abbrev World_put_N : List Str := ["self", "name", "row", "known"]
abbrev World_put_P : List Str := ["self", "name", "row"]
theorem sc_World_put : FnScope ["self", "name", "row", "known"] ["self", "name", "row"] (defScope s_World_put) := ⟨rfl, rfl, rfl, by decide +kernel, rfl, by decide +kernel, by decide +kernel⟩
abbrev World_drop_N : List Str := ["self", "name", "row", "known", "other"]
abbrev World_drop_P : List Str := ["self", "name", "row"]
theorem sc_World_drop : FnScope ["self", "name", "row", "known", "other"] ["self", "name", "row"] (defScope s_World_drop) := ⟨rfl, rfl, rfl, by decide +kernel, rfl, by decide +kernel, by decide +kernel⟩
theorem fn_put (T : TX K mg) {C f : Addr} {fd : FuncData} (F : Fun K "put" "World.put" s_World_put f fd) (hC : Cls K C) (hN : ∀ f ∈ fieldsN, NoAttr K C f) (M_rows : OkM P w K mg base 2 C "rows" ["self", "name"] (spR (dRows K P w C)))
    (M__checked_row : OkM P w K mg base 5 C "_checked_row" ["self", "name", "row"] (spR (dChk K P w C))) (M__with_rows : OkM P w K mg base 9 C "_with_rows" ["self", "name", "rows"] (spR (dWith K P w C))) : FnOk P w K mg base CX0 10 f fd ["self", "name", "row"] (spR (dPut K P w C)) := by
  
  refine F.ok sc_World_put (fun vs H Q E h => spR_len h (by rintro B Pz ⟨x, s, r, n, v, d, rfl, _⟩; rfl)) (fun cdv A outer s H vs Q E hr ⟨B, Pz, e, ⟨x, size, rels, n, v, d, hvs, hW, hI, hn, hd, hrow, hall, hP⟩, q⟩ => ?_)
  subst hvs hP
  refine ⟨_, (pss_cons (ps_set (i := 3) sc_World_put.nd rfl (.inl rfl) (RX.pe_m M__checked_row hC hr (by decide) (pv 0) (pa_cons (pv 1) (pa_cons (pv 2) pa_nil))))
        (pss_cons (ps_if (pt_cmpR (RX.op_inNk (K := K) (P := P) (w := w) hr.units) (pe_tup (pa_cons (pv 1) (pa_cons (pv 3) pa_nil))) (LX.k_fld (K := K) (pv 0) (by rfl)) (by rfl)) (pss_one (ps_ret (pv 0))) pss_nil)
        (pss_one (ps_ret (RX.pe_m M__with_rows hC hr (by decide) (pv 0) (pa_cons (pv 1) (pa_cons (pe_op (LX.k_catA (K := K)) (RX.pe_m M_rows hC hr (by decide) (pv 0) (pa_cons (pv 1) pa_nil)) (pe_tup (pa_cons (pv 3) pa_nil))) pa_nil))))))), ?_⟩
  obtain ⟨r, hr0, hrn, hro, hra, hrw⟩ := hI.at hn
  obtain ⟨hds, hlr, hbd⟩ := rowD_inv hrow
  obtain ⟨rels', hp, hWA⟩ := id hW
  obtain ⟨dx, zn, pf, t, za, ps, kvs, ys, st, ns, h1, _⟩ := id hWA
  have hn' : n ∈ rels'.map Rel.name := (hp.map _).mem_iff.mpr hn
  refine x_asg (X := H) (B := B) (er_meth (P := TpP K fun ys _ => ys = (rowOf d).map V.int) (ev_var rfl) h1 rfl (ea_cons (ev_var rfl) (ea_cons (ev_var rfl) ea_nil)) fun B'' e2 => ⟨x, size, rels, n, v, d, rfl, hW.mono e2, hI, hn, dp_ex e2 hd, hrow, rfl⟩) (fun z B1 g1 hz => ?_) H e (Ex.refl H)
  obtain ⟨pk, _, rfl, hpk, rfl⟩ := hz
  refine x_when (b := decide (rowOf d ∈ rowsIn rels n)) (et_test (ev_is (et_stands hC hN (hW.mono g1.ex) hI hn (ev_var rfl) (ev_var rfl) (rVp (ev_var rfl) ⟨pk, _, rfl, hpk, rfl⟩)) (by rw [Bool.false_xor]))) (fun hb => ?_) (fun hb => ?_)
  · have hb := of_decide_eq_true hb
    have hsame : setR n (AS.ascR size (rowsIn rels n ++ [rowOf d])) rels = rels := setR_same hI fun r' hr' hn' => by
      have k' := hI.ok r' hr'
      have hrr : rowsIn rels n = r'.rows := by
        have := find_self hI.nd hr'
        rw [hn'] at this
        exact rowsIn_some this
      rw [hrr] at hb ⊢
      exact (asc_same k'.oks fun x => by
        rw [List.mem_append, List.mem_singleton]
        exact ⟨fun c => c.elim id fun c => c ▸ hb, .inl⟩).trans k'.asc
    refine x_ret (rVp (P := fun z B' => ∃ y, z = .ref y ∧ WorldP K P w C size (setR n (AS.ascR size (rowsIn rels n ++ [rowOf d])) rels) y B') (ev_var rfl) ⟨x, rfl, by rw [hsame]; exact hW.mono g1.ex⟩) (fun z B' H' g' p' e1 e2 => q z H' B' e2 (g1.trans g') e1 p')
  · refine x_last (x_ret (P := fun z B' => ∃ y, z = .ref y ∧ WorldP K P w C size (setR n (AS.ascR size (rowsIn rels n ++ [rowOf d])) rels) y B') (er_methP (Pa := fun vs B' => ∃ z r, vs = z :: r ∧ IsV (.str n) z B' ∧ ∃ z2 r2, r = z2 :: r2 ∧ TpP K (Snoc (V.ref pk) (RowsAt K (rowsIn rels' n))) z2 B' ∧ r2 = []) (ev_var rfl) (g1.ex _ _ h1) rfl (ear inferInstance (eR_v (ev_var rfl)) (ear inferInstance (er_catT (y := V.ref pk) (Py := RowsAt K (rowsIn rels' n)) (er_meth (P := TpP K (RowsAt K (rowsIn rels' n))) (Dd := dRows K P w C) (ev_var rfl) (g1.ex _ _ h1) rfl (ea_cons (ev_var rfl) ea_nil) fun B'' e2 => ⟨x, size, rels', n, rfl, hWA.mono (g1.ex.trans e2), hn', rfl⟩) (eu_tup (ea_cons (ev_var rfl) ea_nil) (by simp)) ?_) ear_nil)) ?_) fun z B' H' g' p' e1 e2 => q z H' B' e2 (g1.trans g') e1 p')
    · intro ys B' hy
      rw [hy.1, rowsIn_perm hp hI.nd, hrw]
      have := hall r hr0
      omega
    · rintro vs B' e2 ⟨z1, r1, rfl, hz1, z2, r2, rfl, ⟨p2, zs, rfl, hp2, ys, rfl, hys⟩, rfl⟩
      have hz1 : z1 = .str n := hz1
      subst hz1
      rw [rowsIn_perm hp hI.nd] at hys
      have hk : IsTI K (rowOf d) (.ref pk) B' := ⟨pk, rfl, ex_t e2 hpk⟩
      have hR : RowsAt K (rowsIn rels n ++ [rowOf d]) (ys ++ [.ref pk]) B' := Kx.A2.append (Pd := fun r => IsTI K r) hys (RX.A2.cons hk a2_nil)
      refine ⟨x, size, rels, n, .ref p2, rowsTD (rowsIn rels n ++ [rowOf d]), _, rfl, hW.mono (g1.ex.trans e2), hI, dp_rowsT hp2 hR, rfl, fun rd hrd => ?_, ?_, fun r' hr' => by have := hall r' hr'; omega, by rw [rowsOf_T]⟩
      · obtain ⟨q', hq', rfl⟩ := List.mem_map.mp hrd
        rw [hrw, List.mem_append, List.mem_singleton] at hq'
        rw [hra]
        rcases hq' with c | c
        · obtain ⟨a, b⟩ := hro.rows q' c
          exact rowD_ints rfl a b
        · subst c
          exact rowD_ints rfl (hlr.trans hra) hbd
      · rw [List.length_map, List.length_append, hrw]
        have := hall r hr0
        show r.rows.length + 1 < 63
        omega
theorem filt_get {R : List (List Int)} {p : List Int → Bool} : ((List.range R.length).filter fun i => p (R.getD i [])).map (fun i => R.getD i []) = R.filter p := by
  have h : (List.range R.length).map (fun i => R.getD i []) = R := by
    apply List.ext_getElem?
    intro k
    rw [List.getElem?_map]
    by_cases c : k < R.length
    · rw [List.getElem?_range c, List.getElem?_eq_getElem c]
      show some (R.getD k []) = _
      rw [List.getD_eq_getElem?_getD, List.getElem?_eq_getElem c]
      rfl
    · rw [List.getElem?_eq_none (by rw [List.length_range]; omega), List.getElem?_eq_none (by omega)]
      rfl
  conv => rhs; rw [← h]
  rw [List.filter_map]
  rfl
theorem fn_drop (T : TX K mg) {C f : Addr} {fd : FuncData} (F : Fun K "drop" "World.drop" s_World_drop f fd) (hC : Cls K C) (hN : ∀ f ∈ fieldsN, NoAttr K C f) (M_rows : OkM P w K mg base 2 C "rows" ["self", "name"] (spR (dRows K P w C)))
    (M__checked_row : OkM P w K mg base 5 C "_checked_row" ["self", "name", "row"] (spR (dChk K P w C))) (M__with_rows : OkM P w K mg base 9 C "_with_rows" ["self", "name", "rows"] (spR (dWith K P w C))) : FnOk P w K mg base CX0 10 f fd ["self", "name", "row"] (spR (dDrop K P w C)) := by
  
  refine F.ok sc_World_drop (fun vs H Q E h => spR_len h (by rintro B Pz ⟨x, s, r, n, v, d, rfl, _⟩; rfl)) (fun cdv A outer s H vs Q E hr ⟨B, Pz, e, ⟨x, size, rels, n, v, d, hvs, hW, hI, hn, hd, hrow, hall, hP⟩, q⟩ => ?_)
  subst hvs hP
  refine ⟨_, (pss_cons (ps_set (i := 3) sc_World_drop.nd rfl (.inr rfl) (RX.pe_m M__checked_row hC hr (by decide) (pv 0) (pa_cons (pv 1) (pa_cons (pv 2) pa_nil))))
        (pss_cons (ps_if (pt_cmpR (RX.op_notInNk (K := K) (P := P) (w := w) hr.units) (pe_tup (pa_cons (pv 1) (pa_cons (pv 3) pa_nil))) (LX.k_fld (K := K) (pv 0) (by rfl)) (by rfl)) (pss_one (ps_ret (pv 0))) pss_nil)
        (pss_one (ps_ret (RX.pe_m M__with_rows hC hr (by decide) (pv 0) (pa_cons (pv 1) (pa_cons (pe_lc (own := [("other", 4)]) (g := gName 4) rfl sc_World_drop.nd (RX.k_pit (K := K) (RX.pe_m M_rows hC hr (by decide) (pv 0) (pa_cons (pv 1) pa_nil))) (blkOk_by (N := World_drop_N) (sc := defScope s_World_drop) (by decide +kernel)) (fun _ _ _ _ _ => pg_name (i := 4) sc_World_drop.nd rfl (Or.inl rfl)) (fun _ _ _ _ _ => pts_one (pt_cmpR (LX.k_neD (K := K) hr.units) (pv 4) (pv 3) (nomark _))) (fun _ _ _ _ _ => (pv 4))) pa_nil))))))), ?_⟩
  obtain ⟨r, hr0, hrn, hro, hra, hrw⟩ := hI.at hn
  obtain ⟨hds, hlr, hbd⟩ := rowD_inv hrow
  obtain ⟨rels', hp, hWA⟩ := id hW
  obtain ⟨dx, zn, pf, t, za, ps, kvs, ys, st, ns, h1, _⟩ := id hWA
  have hn' : n ∈ rels'.map Rel.name := (hp.map _).mem_iff.mpr hn
  refine x_asg (X := H) (B := B) (er_meth (P := TpP K fun ys _ => ys = (rowOf d).map V.int) (ev_var rfl) h1 rfl (ea_cons (ev_var rfl) (ea_cons (ev_var rfl) ea_nil)) fun B'' e2 => ⟨x, size, rels, n, v, d, rfl, hW.mono e2, hI, hn, dp_ex e2 hd, hrow, rfl⟩) (fun z B1 g1 hz => ?_) H e (Ex.refl H)
  obtain ⟨pk, _, rfl, hpk, rfl⟩ := hz
  refine x_when (b := !decide (rowOf d ∈ rowsIn rels n)) (et_test (ev_is (et_stands hC hN (hW.mono g1.ex) hI hn (ev_var rfl) (ev_var rfl) (rVp (ev_var rfl) ⟨pk, _, rfl, hpk, rfl⟩)) (by rw [Bool.true_xor]))) (fun hb => ?_) (fun hb => ?_)
  · have hb : rowOf d ∉ rowsIn rels n := of_decide_eq_false (by simpa using hb)
    have hsame : setR n (AS.ascR size ((rowsIn rels n).filter fun q => decide (q ≠ rowOf d))) rels = rels := setR_same hI fun r' hr' hn' => by
      have k' := hI.ok r' hr'
      have hrr : rowsIn rels n = r'.rows := by
        have := find_self hI.nd hr'
        rw [hn'] at this
        exact rowsIn_some this
      rw [hrr] at hb ⊢
      have hf : (r'.rows.filter fun q => decide (q ≠ rowOf d)) = r'.rows := List.filter_eq_self.mpr fun a ha => decide_eq_true fun (c : a = rowOf d) => hb (by rw [← c]; exact ha)
      rw [hf]
      exact k'.asc
    refine x_ret (rVp (P := fun z B' => ∃ y, z = .ref y ∧ WorldP K P w C size (setR n (AS.ascR size ((rowsIn rels n).filter fun q => decide (q ≠ rowOf d))) rels) y B') (ev_var rfl) ⟨x, rfl, by rw [hsame]; exact hW.mono g1.ex⟩) (fun z B' H' g' p' e1 e2 => q z H' B' e2 (g1.trans g') e1 p')
  · refine x_last (x_ret (P := fun z B' => ∃ y, z = .ref y ∧ WorldP K P w C size (setR n (AS.ascR size ((rowsIn rels n).filter fun q => decide (q ≠ rowOf d))) rels) y B') (er_methP (Pa := fun vs B' => ∃ z r, vs = z :: r ∧ IsV (.str n) z B' ∧ ∃ z2 r2, r = z2 :: r2 ∧ LsP K (RowsAt K ((rowsIn rels' n).filter fun q => decide (q ≠ rowOf d))) z2 B' ∧ r2 = []) (ev_var rfl) (g1.ex _ _ h1) rfl (ear inferInstance (eR_v (ev_var rfl)) (ear inferInstance (EvR.imp (er_lc (Pxs := RowsAt K (rowsIn rels' n)) (fun _ i => decide ((rowsIn rels' n).getD i [] ≠ rowOf d)) (fun _ i => IsTI K ((rowsIn rels' n).getD i [])) (fun _ _ => inferInstance) inferInstance (ei_tupR (er_meth (P := TpP K (RowsAt K (rowsIn rels' n))) (ev_var rfl) (g1.ex _ _ h1) rfl (ea_cons (ev_var rfl) ea_nil) fun B'' e2 => ⟨x, size, rels', n, rfl, hWA.mono (g1.ex.trans e2), hn', rfl⟩)) (fun _ => rfl) ?_ ?_ ?_) ?_) ear_nil)) ?_) fun z B' H' g' p' e1 e2 => q z H' B' e2 (g1.trans g') e1 p')
    · intro ys B' hy
      rw [hy.1, rowsIn_perm hp hI.nd, hrw]
      have := hall r hr0
      omega
    · intro xs i y B' e2 hx hxi
      have hi : i < (rowsIn rels' n).length := by rw [← hx.1]; exact (List.getElem?_eq_some_iff.mp hxi).1
      obtain ⟨b, rfl, hb⟩ := hx.2 i y _ hxi (List.getElem?_eq_getElem hi)
      have hg : (rowsIn rels' n).getD i [] = (rowsIn rels' n)[i] := by rw [List.getD_eq_getElem?_getD, List.getElem?_eq_getElem hi]; rfl
      rw [hg]
      exact et_test (ev_is (ev_op (ev_var rfl) (ev_var rfl) (rv_neT hb (ex_t e2 hpk))) (by simp))
    · intro xs i y B' e2 hx hxi _
      have hi : i < (rowsIn rels' n).length := by rw [← hx.1]; exact (List.getElem?_eq_some_iff.mp hxi).1
      have hg : (rowsIn rels' n).getD i [] = (rowsIn rels' n)[i] := by rw [List.getD_eq_getElem?_getD, List.getElem?_eq_getElem hi]; rfl
      rw [hg]
      exact rVp (ev_var rfl) (hx.2 i y _ hxi (List.getElem?_eq_getElem hi))
    · rintro z B' _ ⟨xs, p0, ys, hxs, rfl, hp0, htold⟩
      rw [hxs.1] at htold
      obtain ⟨hlen, hval⟩ := htold
      refine ⟨p0, ys, rfl, sq_of hp0, ?_⟩
      rw [← filt_get (p := fun q => decide (q ≠ rowOf d))]
      refine ⟨by rw [List.length_map]; exact hlen, fun k y r' hy hr' => ?_⟩
      rw [List.getElem?_map] at hr'
      cases hq : ((List.range (rowsIn rels' n).length).filter fun i => decide ((rowsIn rels' n).getD i [] ≠ rowOf d))[k]? with
      | none => rw [hq] at hr'; exact nomatch hr'
      | some i =>
        rw [hq] at hr'
        have hr' := Option.some.inj hr'
        subst hr'
        exact hval k y i hy hq
    · rintro vs B' e2 ⟨z1, r1, rfl, hz1, z2, r2, rfl, ⟨p2, ys, rfl, hp2, hys⟩, rfl⟩
      have hz1 : z1 = .str n := hz1
      subst hz1
      rw [rowsIn_perm hp hI.nd] at hys
      refine ⟨x, size, rels, n, .ref p2, .list (((rowsIn rels n).filter fun q => decide (q ≠ rowOf d)).map rowTD), _, rfl, hW.mono (g1.ex.trans e2), hI, .lst hp2 (a2_dpsM (Pd := fun r => IsTI K r) (f := rowTD) (fun _ _ h => dp_rowT h) hys), rfl, fun rd hrd => ?_, ?_, hall, by rw [rowsOf_T]⟩
      · obtain ⟨q', hq', rfl⟩ := List.mem_map.mp hrd
        have hq' := (List.mem_filter.mp hq').1
        rw [hrw] at hq'
        rw [hra]
        obtain ⟨a, b⟩ := hro.rows q' hq'
        exact rowD_ints rfl a b
      · rw [List.length_map]
        have := List.length_filter_le (fun q => decide (q ≠ rowOf d)) (rowsIn rels n)
        rw [hrw] at this ⊢
        have := hall r hr0
        omega
end Kx
namespace Kx
open PySem PySem.Spec PyProof.Rows L2 Evl LX T XV RX WS
variable {P : Program} {w : World} {K : PySem.W.Frag} {mg : Str → Option Value} {base : Heap}
/-! ### in, len, for and == of worlds -/
theorem eqv_row (r q : List Int) : PyData.eqv (rowTD r) (rowTD q) = decide (r = q) := eqv_ints r q
theorem eqv_map {α : Type} [DecidableEq α] {f : α → PyData} (h : ∀ a b, PyData.eqv (f a) (f b) = decide (a = b)) : ∀ xs ys : List α, PyData.eqvAll (xs.map f) (ys.map f) = decide (xs = ys)
  | [], [] => rfl
  | x :: xs, [] => rfl
  | [], y :: ys => rfl
  | x :: xs, y :: ys => by
    have e : PyData.eqvAll ((x :: xs).map f) ((y :: ys).map f) = (PyData.eqv (f x) (f y) && PyData.eqvAll (xs.map f) (ys.map f)) := rfl
    rw [e, h x y, eqv_map h xs ys]
    by_cases c : x = y
    · by_cases c2 : xs = ys
      · simp [c, c2]
      · simp [c, c2]
    · simp [c]
def factD (f : Str × List Int) : PyData := .tuple [.str f.1, rowTD f.2]
theorem eqv_fact (f g : Str × List Int) : PyData.eqv (factD f) (factD g) = decide (f = g) := by
  have e : PyData.eqv (factD f) (factD g) = ((f.1 == g.1) && (PyData.eqv (rowTD f.2) (rowTD g.2) && true)) := rfl
  rw [e, eqv_row]
  obtain ⟨a, b⟩ := f
  obtain ⟨c, d⟩ := g
  by_cases h1 : a = c
  · by_cases h2 : b = d
    · simp [h1, h2]
    · simp [h1, h2]
  · simp [h1]
inductive Pl : Nat → PyData → Prop
  | int {k : Nat} (i : Int) : Pl k (.int i)
  | str {k : Nat} {s : Str} (h : PySem.PyData.strOk s = true) : Pl k (.str s)
  | list {k : Nat} {ds : List PyData} (h : ∀ x ∈ ds, Pl k x) : Pl (k + 1) (.list ds)
  | tuple {k : Nat} {ds : List PyData} (h : ∀ x ∈ ds, Pl k x) : Pl (k + 1) (.tuple ds)
theorem lay_all : ∀ {ds : List PyData}, (∀ x ∈ ds, x.canLay0 = true) → PyData.canLayAll0 ds = true
  | [], _ => rfl
  | d :: ds, h => by
    show (PyData.canLay0 d && PyData.canLayAll0 ds) = true
    rw [h d List.mem_cons_self, lay_all fun x hx => h x (List.mem_cons_of_mem _ hx)]
    rfl
theorem depth_all {k : Nat} : ∀ {ds : List PyData}, (∀ x ∈ ds, x.depth ≤ k) → PyData.depthAll ds ≤ k
  | [], _ => Nat.zero_le _
  | d :: ds, h => by
    show max (PyData.depth d) (PyData.depthAll ds) ≤ k
    have h1 := h d List.mem_cons_self
    have h2 := depth_all (ds := ds) fun x hx => h x (List.mem_cons_of_mem _ hx)
    omega
theorem Pl.lay {k : Nat} {d : PyData} (h : Pl k d) : d.canLay0 = true ∧ d.depth ≤ k := by
  induction h with
  | int i => exact ⟨rfl, Nat.zero_le _⟩
  | str h => exact ⟨h, Nat.zero_le _⟩
  | list h ih => exact ⟨lay_all fun x hx => (ih x hx).1, Nat.succ_le_succ (depth_all fun x hx => (ih x hx).2)⟩
  | tuple h ih => exact ⟨lay_all fun x hx => (ih x hx).1, Nat.succ_le_succ (depth_all fun x hx => (ih x hx).2)⟩
theorem Pl.shaped {k : Nat} {d : PyData} (h : Pl k d) (hk : k ≤ 64) : SeqAt.shaped d = true := by
  obtain ⟨h1, h2⟩ := h.lay
  show (d.canLay0 && decide (d.depth ≤ 64)) = true
  rw [h1, decide_eq_true (by omega)]
  rfl
theorem pl_row (r : List Int) : Pl 1 (rowTD r) := .tuple fun x hx => by
  obtain ⟨i, _, rfl⟩ := List.mem_map.mp hx
  exact .int i
theorem pl_fact {f : Str × List Int} (h : PySem.PyData.strOk f.1 = true) : Pl 2 (factD f) := .tuple fun x hx => by
  have hx : x = .str f.1 ∨ x = rowTD f.2 := by simpa using hx
  rcases hx with c | c
  · subst c; exact .str h
  · subst c; exact pl_row _
theorem rv_eqP {B : Hp} {x y : V} {d e : PyData} {b : Bool} (h1 : Dp K B x d) (h2 : Dp K B y e) (s1 : SeqAt.shaped d = true) (s2 : SeqAt.shaped e = true) (hb : PyData.eqv d e = b) : RV (rEqD K) x y B (.bl b) := fun H1 e0 Q k => ⟨d, e, dp_ex e0 h1, dp_ex e0 h2, s1, s2, by rw [hb]; exact k H1 (Ex.refl _)⟩
theorem dp_facts {B : Hp} {pf : Addr} {fs : List (Str × List Int)} {ys : List V} (h : SqT K B pf ys) (h4 : A2 (FactAt K) fs ys B) : Dp K B (.ref pf) (.tuple (fs.map factD)) :=
  .tup h (a2_dpsM (Pd := FactAt K) (f := factD) (fun f y h => by
    obtain ⟨a, r, rfl, h1, h2⟩ := h
    exact .tup h1 (.cons (.str _) (.cons (.tup h2 (dp_ints _)) .nil))) h4)
theorem dp_strs {H : Hp} : ∀ ss : List Str, DpAll K H (ss.map V.str) (ss.map PyData.str)
  | [] => .nil
  | s :: ss => .cons (.str s) (dp_strs ss)
theorem fm_same {n : Str} : ∀ rs : List (List Int), (rs.map fun r => (n, r)).filterMap (fun f : Str × List Int => if f.1 = n then some f.2 else none) = rs
  | [] => rfl
  | r :: rs => by
    rw [List.map_cons, List.filterMap_cons, if_pos rfl, fm_same rs]
theorem fm_other {n : Str} {rels : List Rel} : ∀ {ms : List Str}, n ∉ ms → (factsOf rels ms).filterMap (fun f : Str × List Int => if f.1 = n then some f.2 else none) = []
  | [], _ => rfl
  | m :: ms, h => by
    have e : factsOf rels (m :: ms) = ((rowsIn rels m).map fun r => (m, r)) ++ factsOf rels ms := by unfold factsOf; rw [List.flatMap_cons]
    rw [e, List.filterMap_append, fm_other fun c => h (List.mem_cons_of_mem _ c), List.append_nil]
    refine List.filterMap_eq_nil_iff.mpr fun f hf => ?_
    obtain ⟨r, _, rfl⟩ := List.mem_map.mp hf
    exact if_neg fun c : m = n => h (c ▸ List.mem_cons_self)
theorem rows_of_facts {n : Str} {rels : List Rel} : ∀ {ns : List Str}, ns.Nodup → n ∈ ns → (factsOf rels ns).filterMap (fun f : Str × List Int => if f.1 = n then some f.2 else none) = rowsIn rels n
  | [], _, h => nomatch h
  | m :: ms, nd, h => by
    have e : factsOf rels (m :: ms) = ((rowsIn rels m).map fun r => (m, r)) ++ factsOf rels ms := by unfold factsOf; rw [List.flatMap_cons]
    rw [e, List.filterMap_append]
    rw [List.nodup_cons] at nd
    by_cases c : m = n
    · subst c
      rw [fm_same, fm_other nd.1, List.append_nil]
    · have h2 : ((rowsIn rels m).map fun r => (m, r)).filterMap (fun f : Str × List Int => if f.1 = n then some f.2 else none) = [] := List.filterMap_eq_nil_iff.mpr fun f hf => by
        obtain ⟨r, _, rfl⟩ := List.mem_map.mp hf
        exact if_neg c
      rw [h2, List.nil_append]
      exact rows_of_facts nd.2 ((List.mem_cons.mp h).resolve_left fun e => c e.symm)
theorem facts_eq {rels rels2 : List Rel} {ns : List Str} (nd : ns.Nodup) : factsOf rels ns = factsOf rels2 ns ↔ ∀ n ∈ ns, rowsIn rels n = rowsIn rels2 n := by
  constructor
  · intro h n hn
    rw [← rows_of_facts nd hn, h, rows_of_facts nd hn]
  · intro h
    unfold factsOf
    rw [List.flatMap_def, List.flatMap_def]
    congr 1
    exact List.map_congr_left fun n hn => by rw [h n hn]
/-- the same rows at each name -/
def sameR (rels rels2 : List Rel) : Bool := (rels.map Rel.name).all fun n => decide (rowsIn rels n = rowsIn rels2 n)
theorem sameR_facts {rels rels2 : List Rel} {ns : List Str} (hp : ns.Perm (rels.map Rel.name)) (nd : ns.Nodup) : decide (factsOf rels ns = factsOf rels2 ns) = sameR rels rels2 := by
  unfold sameR
  rw [Bool.eq_iff_iff, decide_eq_true_iff, facts_eq nd, List.all_eq_true]
  exact ⟨fun h n hn => decide_eq_true (h n (hp.mem_iff.mpr hn)), fun h n hn => of_decide_eq_true (h n (hp.mem_iff.mp hn))⟩
def dHas (K : PySem.W.Frag) (P : Program) (w : World) (C : Addr) : List V → Hp → (V → Hp → Prop) → Prop := fun vs B Pz => ∃ (x : Addr) (size : Int) (rels : List Rel) (n : Str) (v : V) (d rd : PyData), vs = [.ref x, v] ∧ WorldP K P w C size rels x B ∧ RelsInv size rels ∧ n ∈ rels.map Rel.name ∧ Dp K B v d ∧ seqD d = some [.str n, rd] ∧ rowD rd (arIn rels n) size = true ∧ Pz = IsV (.bl (decide (rowOf rd ∈ rowsIn rels n)))
def dLenW (K : PySem.W.Frag) (P : Program) (w : World) (C : Addr) : List V → Hp → (V → Hp → Prop) → Prop := fun vs B Pz => ∃ (x : Addr) (size : Int) (rels : List Rel) (ns : List Str), vs = [.ref x] ∧ WorldP K P w C size rels x B ∧ RelsInv size rels ∧ ns.Perm (rels.map Rel.name) ∧ sortedS ns = true ∧ Pz = IsV (.int ((factsOf rels ns).length : Int))
def dEqW (K : PySem.W.Frag) (P : Program) (w : World) (C : Addr) : List V → Hp → (V → Hp → Prop) → Prop := fun vs B Pz => ∃ (x y : Addr) (size : Int) (rels rels2 : List Rel), vs = [.ref x, .ref y] ∧ WorldP K P w C size rels x B ∧ WorldP K P w C size rels2 y B ∧ RelsInv size rels ∧ RelsInv size rels2 ∧ rels2.map Rel.name = rels.map Rel.name ∧ (∀ n, arIn rels2 n = arIn rels n) ∧ Pz = IsV (.bl (sameR rels rels2))
theorem dps2 {B : Hp} : ∀ {xs : List V} {d1 d2 : PyData}, DpAll K B xs [d1, d2] → ∃ x y, xs = [x, y] ∧ Dp K B x d1 ∧ Dp K B y d2
  | _, _, _, .cons h1 (.cons h2 .nil) => ⟨_, _, rfl, h1, h2⟩
abbrev World___contains_N : List Str := ["self", "pair", "name", "row", "member"]
abbrev World___contains_P : List Str := ["self", "pair"]
theorem sc_World___contains : FnScope ["self", "pair", "name", "row", "member"] ["self", "pair"] (defScope s_World___contains) := ⟨rfl, rfl, rfl, by decide +kernel, rfl, by decide +kernel, by decide +kernel⟩
abbrev World___len_N : List Str := ["self"]
abbrev World___len_P : List Str := ["self"]
theorem sc_World___len : FnScope ["self"] ["self"] (defScope s_World___len) := ⟨rfl, rfl, rfl, by decide +kernel, rfl, by decide +kernel, by decide +kernel⟩
abbrev World___iter_N : List Str := ["self"]
abbrev World___iter_P : List Str := ["self"]
theorem sc_World___iter : FnScope ["self"] ["self"] (defScope s_World___iter) := ⟨rfl, rfl, rfl, by decide +kernel, rfl, by decide +kernel, by decide +kernel⟩
abbrev World___eq_N : List Str := ["self", "other"]
abbrev World___eq_P : List Str := ["self", "other"]
theorem sc_World___eq : FnScope ["self", "other"] ["self", "other"] (defScope s_World___eq) := ⟨rfl, rfl, rfl, by decide +kernel, rfl, by decide +kernel, by decide +kernel⟩
theorem fn_has (T : TX K mg) {C f : Addr} {fd : FuncData} (F : Fun K "__contains__" "World.__contains__" s_World___contains f fd) (hC : Cls K C) (hN : ∀ f ∈ fieldsN, NoAttr K C f) : FnOk P w K mg base CX0 4 f fd ["self", "pair"] (spR (dHas K P w C)) := by
  have n_len := T.n "len" (by decide +kernel)
  have n_isinstance := T.n "isinstance" (by decide +kernel)
  have n_str := T.n "str" (by decide +kernel)
  have n_tuple := T.n "tuple" (by decide +kernel)
  have n_all := T.n "all" (by decide +kernel)
  have O_is_sequence := ok_is_sequence (P := P) (w := w) (base := base) T
  have O_is_thing := ok_is_thing (P := P) (w := w) (base := base) T
  refine F.ok sc_World___contains (fun vs H Q E h => spR_len h (by rintro B Pz ⟨x, s, r, n, v, d, rd, rfl, _⟩; rfl)) (fun cdv A outer s H vs Q E hr ⟨B, Pz, e, ⟨x, size, rels, n, v, d, rd, hvs, hW, hI, hn, hd, hds, hrow, hP⟩, q⟩ => ?_)
  subst hvs hP
  refine ⟨_, (pss_cons (ps_if (pw_or (pt_not (pt_val (LX.pe_f O_is_sequence hr (by decide) (pa_cons (pv 1) pa_nil)))) (pw_or1 (pt_cmpR op_ne (pe_callB (LX.k_len (K := K)) (by rfl) n_len (by decide +kernel) (pa_cons (pv 1) pa_nil)) pe_int (nomark _)))).pt (pss_one (ps_ret pe_bl)) pss_nil)
        (pss_cons (ps_asg (pv 1) (RX.pg_seq (K := K) rfl (pgs_cons (pg_name (i := 2) sc_World___contains.nd rfl (.inl rfl)) (pgs_cons (pg_name (i := 3) sc_World___contains.nd rfl (.inl rfl)) pgs_nil))))
        (pss_cons (ps_if (pw_or (pt_not (pt_val (pe_callB (LX.k_isi (K := K)) (by rfl) n_isinstance (by decide +kernel) (pa_cons (pv 2) (pa_cons (pe_bltn (v := .ty "str") (u := .type "str") (by rfl) n_str (by decide +kernel) rfl) pa_nil))))) (pw_or1 (pt_not (pt_val (LX.pe_f O_is_sequence hr (by decide) (pa_cons (pv 3) pa_nil)))))).pt (pss_one (ps_ret pe_bl)) pss_nil)
        (pss_one (ps_ret (pe_and (pe_callB (RX.k_all (K := K) rfl) (by rfl) n_all (by decide +kernel) (pa_cons (pe_lc (own := [("member", 4)]) (g := gName 4) (tt := tYes) rfl sc_World___contains.nd (RX.pi_seq (K := K) (pv 3)) (blkOk_by (N := World___contains_N) (sc := defScope s_World___contains) (by decide +kernel)) (fun _ _ _ _ _ => pg_name (i := 4) sc_World___contains.nd rfl (Or.inl rfl)) (fun _ _ _ _ _ => pts_nil) (fun _ _ _ _ _ => (LX.pe_f O_is_thing hr (by decide) (pa_cons (pv 4) (pa_cons (LX.k_fld (K := K) (pv 0) (by rfl)) pa_nil))))) pa_nil)) (pe_one (pe_cmpR (RX.op_inNk (K := K) (P := P) (w := w) hr.units) (pe_tup (pa_cons (pv 2) (pa_cons (pe_callTy (LX.k_tupOf (K := K)) (by rfl) n_tuple (by decide +kernel) (pa_cons (pv 3) pa_nil)) pa_nil))) (LX.k_fld (K := K) (pv 0) (by rfl)) (by rfl))))))))), ?_⟩
  obtain ⟨r, hr0, hrn, hro, hra, hrw⟩ := hI.at hn
  obtain ⟨hrs, hlr, hbd⟩ := rowD_inv hrow
  obtain ⟨dx, fsx, h1, hsz⟩ : ∃ dx fsx, B x = some (.ins C dx fsx) ∧ fsx.lookup ("size" : Str) = some (V.int size) := by
    obtain ⟨rels', hp, hWA⟩ := hW
    obtain ⟨dx, zn, pf, t, za, ps, kvs, ys, st, ns, h1, _⟩ := hWA
    exact ⟨_, _, h1, rfl⟩
  obtain ⟨a, xs, rfl, hx, hxs⟩ := dp_seq hd hds
  obtain ⟨x1, x2, rfl, d1, d2⟩ := dps2 hxs
  cases d1
  obtain ⟨b, ws, rfl, hw, hws⟩ := dp_seq d2 hrs
  have hwl := dps_len hws
  have hws' := dps_ints hws
  refine x_when (X := H) (B := B) (b := false) (et_is (et_or (a := false) (b := false) (et_not (a := true) (et_B (ev_is (ev_sequence (ev_var rfl) hd) (by rw [hds]; rfl)))) (fun _ => et_test (ev_is (ev_op (ev_lenA (ev_var rfl) hx) ev_c (rv_ne rfl)) rfl))) rfl) (fun h => nomatch h) (fun _ => ?_) H e (Ex.refl H)
  refine x_unp2 (ev_var rfl) hx ?_
  refine x_when (b := false) (et_is (et_or (a := false) (b := false) (et_not (a := true) (et_B (ev_isi_str (ev_var rfl) (show kitB "str" "str" = _ by decide +kernel)))) (fun _ => et_not (a := true) (et_B (ev_is (ev_sequence (ev_var rfl) d2) (by rw [hrs]; rfl))))) rfl) (fun h => nomatch h) (fun _ => ?_)
  refine x_last (x_ret (eR_v (v := .bl (decide (rowOf rd ∈ rowsIn rels n))) (ev_andV (a := true) (b := decide (rowOf rd ∈ rowsIn rels n)) (ev_is (ev_allLc (xs := ws) (b := fun k => betweenD (((rowOf rd).map PyData.int).getD k .none) 0 (size - 1)) (ei_seq (ev_var rfl) hw) (by rw [hwl, List.length_map]; have := hro.hi; omega) (fun _ => rfl) (fun k y B' e1 hk => ?_)) ?_) (fun _ => ev_is (et_stands hC hN hW hI hn (ev_var rfl) (ev_var rfl) (er_tup (Py := fun ys _ => ys = (rowOf rd).map V.int) inferInstance (rVp (ev_var rfl) ⟨b, ws, rfl, hw, hws'⟩))) (by rw [Bool.false_xor])))) (fun z B' H' g' p' e1 e2 => q z H' B' e2 g' e1 p'))
  · obtain ⟨dy, hdy, hdp⟩ := dps_get hws hk
    have : ((rowOf rd).map PyData.int).getD k .none = dy := by rw [List.getD_eq_getElem?_getD, hdy]; rfl
    rw [this]
    exact ev_thing (ev_var rfl) (ev_fldI (ev_var rfl) (e1 _ _ h1) hC (hN "size" (by decide)) hsz) (dp_ex e1 hdp)
  · rw [hwl, ← all_range (fun x => betweenD x 0 (size - 1)) PyData.none ((rowOf rd).map PyData.int)]
    rw [rowD_some hrs] at hrow
    have hrow := (Bool.and_eq_true_iff.mp hrow).2
    rw [hrow]
theorem fn_lenW (T : TX K mg) {C f : Addr} {fd : FuncData} (F : Fun K "__len__" "World.__len__" s_World___len f fd) (hC : Cls K C) (hN : ∀ f ∈ fieldsN, NoAttr K C f) : FnOk P w K mg base CX0 1 f fd ["self"] (spR (dLenW K P w C)) := by
  have n_len := T.n "len" (by decide +kernel)
  refine F.ok sc_World___len (fun vs H Q E h => spR_len h (by rintro B Pz ⟨x, s, r, ns, rfl, _⟩; rfl)) (fun cdv A outer s H vs Q E hr ⟨B, Pz, e, ⟨x, size, rels, ns, hvs, hW, hI, hpn, hsn, hP⟩, q⟩ => ?_)
  subst hvs hP
  refine ⟨_, (pss_one (ps_ret (pe_callB (LX.k_len (K := K)) (by rfl) n_len (by decide +kernel) (pa_cons (LX.k_fld (K := K) (pv 0) (by rfl)) pa_nil)))), ?_⟩
  obtain ⟨rels', hp, hWA⟩ := hW
  obtain ⟨dx, zn, pf, t, za, ps, kvs, ys, st, ns', h1, h2, h3, h4, h5, h6, h7, h8, h9, h10, hperm, hsort⟩ := hWA
  have hns : ns' = ns := SS.sorted_uniq hsort hsn ((hperm.trans (hp.map _)).trans hpn.symm)
  subst hns
  rw [factsOf_perm hp hI.nd] at h4
  exact x_ret (X := H) (B := B) (eR_v (v := .int ((factsOf rels ns').length : Int)) (ev_is (ev_lenT (ev_fldI (ev_var rfl) h1 hC (hN "facts" (by decide)) rfl) h3) (by rw [h4.1]))) (fun z B' H' g p e1 e2 => q z H' B' e2 g e1 p) H e (Ex.refl H)
theorem fn_eqW (T : TX K mg) {f : Addr} {fd : FuncData} (F : Fun K "__eq__" "World.__eq__" s_World___eq f fd) : FnOk P w K mg base CX0 1 f fd ["self", "other"] (spR (dEqW K P w (wC K))) := by
  have n_isinstance := T.n "isinstance" (by decide +kernel)
  have g_World := T.g "World" (by decide +kernel)
  have hC := w_cls T
  have hN := w_noat T
  refine F.ok sc_World___eq (fun vs H Q E h => spR_len h (by rintro B Pz ⟨x, y, s, r, r2, rfl, _⟩; rfl)) (fun cdv A outer s H vs Q E hr ⟨B, Pz, e, ⟨x, y, size, rels, rels2, hvs, hW, hW2, hI, hI2, hnm, har, hP⟩, q⟩ => ?_)
  subst hvs hP
  refine ⟨_, (pss_one (ps_ret (pe_and (pe_callB (LX.k_isi (K := K)) (by rfl) n_isinstance (by decide +kernel) (pa_cons (pv 1) (pa_cons (pe_glob (v := .ref (He.ga K "World")) (by rfl) g_World rfl) pa_nil))) (pe_and (pe_cmpR op_eq (LX.k_fld (K := K) (pv 0) (by rfl)) (LX.k_fld (K := K) (pv 1) (by rfl)) (nomark _)) (pe_and (pe_cmpR (LX.k_eqD (K := K) hr.units) (LX.k_fld (K := K) (pv 0) (by rfl)) (LX.k_fld (K := K) (pv 1) (by rfl)) (nomark _)) (pe_and (pe_cmpR (LX.k_eqD (K := K) hr.units) (LX.k_fld (K := K) (pv 0) (by rfl)) (LX.k_fld (K := K) (pv 1) (by rfl)) (nomark _)) (pe_one (pe_cmpR (LX.k_eqD (K := K) hr.units) (LX.k_fld (K := K) (pv 0) (by rfl)) (LX.k_fld (K := K) (pv 1) (by rfl)) (nomark _))))))))), ?_⟩
  obtain ⟨rels', hp, hWA⟩ := hW
  obtain ⟨rels2', hp2, hWA2⟩ := hW2
  obtain ⟨dx, zn, pf, t, za, ps, kvs, ys, st, ns, h1, ⟨pn, _, rfl, hpn, rfl⟩, h3, h4, h5, h6, ⟨pa, _, rfl, hpa, rfl⟩, h8, h9, h10, hperm, hsort⟩ := hWA
  obtain ⟨dx2, zn2, pf2, t2, za2, ps2, kvs2, ys2, st2, ns2, k1, ⟨pn2, _, rfl, kpn, rfl⟩, k3, k4, k5, k6, ⟨pa2, _, rfl, kpa, rfl⟩, k8, k9, k10, kperm, ksort⟩ := hWA2
  have hpm : ns.Perm (rels.map Rel.name) := hperm.trans (hp.map _)
  have hns : ns2 = ns := SS.sorted_uniq ksort hsort ((kperm.trans (hp2.map _)).trans (hnm ▸ hpm.symm))
  subst hns
  have hnd : ns2.Nodup := hpm.nodup_iff.mpr hI.nd
  rw [factsOf_perm hp hI.nd] at h4
  rw [factsOf_perm hp2 hI2.nd] at k4
  have hso : ∀ n ∈ ns2, PySem.PyData.strOk n = true := fun n hn => by
    obtain ⟨r, hr, rfl⟩ := List.mem_map.mp (hpm.mem_iff.mp hn)
    exact (hI.ok r hr).so
  have fsh : ∀ rl : List Rel, SeqAt.shaped (.tuple ((factsOf rl ns2).map factD)) = true := fun rl => (Pl.tuple (k := 2) fun d hd => by
    obtain ⟨f, hf, rfl⟩ := List.mem_map.mp hd
    unfold factsOf at hf
    obtain ⟨m, hm, hf⟩ := List.mem_flatMap.mp hf
    obtain ⟨r, _, rfl⟩ := List.mem_map.mp hf
    exact pl_fact (hso m hm)).shaped (by decide)
  have nsh : SeqAt.shaped (.tuple (ns2.map PyData.str)) = true := (Pl.tuple (k := 0) fun d hd => by
    obtain ⟨n, hn, rfl⟩ := List.mem_map.mp hd
    exact .str (hso n hn)).shaped (by decide)
  have ha : (ns2.map fun n => V.int (arIn rels' n)) = (ns2.map fun n => arIn rels n).map V.int := by
    rw [List.map_map]
    exact List.map_congr_left fun n _ => by rw [arIn_perm hp hI.nd]; rfl
  have ka : (ns2.map fun n => V.int (arIn rels2' n)) = (ns2.map fun n => arIn rels n).map V.int := by
    rw [List.map_map]
    exact List.map_congr_left fun n _ => by rw [arIn_perm hp2 hI2.nd, har]; rfl
  rw [ha] at hpa
  rw [ka] at kpa
  refine x_ret (X := H) (B := B) (eR_v (v := .bl (sameR rels rels2)) (ev_andV (a := true) (b := sameR rels rels2) (ev_isi (ev_var rfl) (.own (wC K)) (fun H1 e1 => w_ty T (e1 _ _ k1)) (w_kit T)) fun _ => ev_andV (a := true) (b := sameR rels rels2) (ev_is (ev_op (ev_fldI (ev_var rfl) h1 hC (hN "size" (by decide)) rfl) (ev_fldI (ev_var rfl) k1 hC (hN "size" (by decide)) rfl) (rv_eq rfl)) (by simp)) fun _ => ev_andV (a := true) (b := sameR rels rels2) (ev_op (ev_fldI (ev_var rfl) h1 hC (hN "names" (by decide)) rfl) (ev_fldI (ev_var rfl) k1 hC (hN "names" (by decide)) rfl) (rv_eqP (.tup hpn (dp_strs _)) (.tup kpn (dp_strs _)) nsh nsh (SeqAt.eqv_refl _ (SeqAt.canLay_of_shaped nsh)))) fun _ => ev_andV (a := true) (b := sameR rels rels2) (ev_op (ev_fldI (ev_var rfl) h1 hC (hN "_arities" (by decide)) rfl) (ev_fldI (ev_var rfl) k1 hC (hN "_arities" (by decide)) rfl) (rv_eqP (.tup hpa (dp_ints _)) (.tup kpa (dp_ints _)) (shaped_intsT _) (shaped_intsT _) (SeqAt.eqv_refl _ (SeqAt.canLay_of_shaped (shaped_intsT _))))) fun _ => ev_is (ev_op (ev_fldI (ev_var rfl) h1 hC (hN "facts" (by decide)) rfl) (ev_fldI (ev_var rfl) k1 hC (hN "facts" (by decide)) rfl) (rv_eqP (dp_facts h3 h4) (dp_facts k3 k4) (fsh _) (fsh _) (eqv_map eqv_fact _ _))) (congrArg V.bl (sameR_facts hpm hnd)))) (fun z B' H' g p e1 e2 => q z H' B' e2 g e1 p) H e (Ex.refl H)
theorem okN {n k : Nat} {x qual : Str} {st : Stmt} {f : Addr} {fd : FuncData} {N ps : List Str} {sp : Sp} (F : Fun K x qual st f fd) (S : FnScope N ps (defScope st)) (len : ∀ vs H Q E, sp vs H Q E → vs.length = ps.length)
    (hbody : ∀ (cdv : Value) (A : Around) (outer : List Env) (s : Shared) (H : Hp) (vs : List V) (Q : VK) (E : XK), n ≤ s.heap.objs.size → Room k (A.deeper (envOfC qual (defScope st) s.heap.objs.size f cdv)) → sp vs H Q E →
      ∃ t, PSs (cxOf CX0 P w K mg base N qual (defScope st) f cdv A outer s H E) (defBody st) t ∧ t { nx := fun _ H' => Q .non H', rt := Q } (start N vs) H) : FnOkN n P w K mg base CX0 (k + 1) f fd ps sp := by
  obtain ⟨⟨oc, od, kV, doc, pm, an, cdv, ct, osl, rfl, lk, hcd⟩, kp⟩ := F
  exact fn_ofN lk hcd S len (hbody cdv)
theorem fn_iterW (T : TX K mg) {C f : Addr} {fd : FuncData} (F : Fun K "__iter__" "World.__iter__" s_World___iter f fd) (hC : Cls K C) (hN : ∀ f ∈ fieldsN, NoAttr K C f) (n : Nat) : FnOkN n P w K mg base CX0 1 f fd ["self"] (spIterN K n C "facts") := by
  have n_iter := T.n "iter" (by decide +kernel)
  refine okN F sc_World___iter (fun vs H Q E h => by obtain ⟨x, dx, l, fs, ys, rfl, _⟩ := h; rfl) (fun cdv A outer s H vs Q E hn hr ⟨x, dx, l, fs, ys, hvs, hx, hl, hs, q⟩ => ?_)
  subst hvs
  refine ⟨_, (pss_one (ps_ret (pe_callB (RX.call_iterT (K := K) rfl) (by rfl) n_iter (by decide +kernel) (pa_cons (LX.k_fld (K := K) (pv 0) (by rfl)) pa_nil)))), ?_⟩
  have hea : EvA (tCons (tFld K (tVar 0) "facts") tNil) (start World___iter_N [V.ref x]) H [V.ref l] := ea_cons (ev_fldI (ev_var rfl) hx hC (hN "facts" (by decide)) hl) ea_nil
  show tCons (tFld K (tVar 0) "facts") tNil (start World___iter_N [V.ref x]) H (fun xs H2 => rIterT K s.heap.objs.size xs H2 fun v H' => Q v H')
  exact hea H (Ex.refl H) (fun xs H2 => rIterT K s.heap.objs.size xs H2 fun v H' => Q v H') fun H2 e2 => ⟨l, ys, rfl, ex_t e2 hs, fun it hit hn' => q it _ (e2.trans (Ex.new hit)) (none_of e2 hit) (Nat.le_trans hn hn') upd_same⟩
end Kx
namespace Kx
open PySem PySem.Spec PyProof.Rows L2 Evl LX T XV RX WS
variable {P : Program} {w : World} {K : PySem.W.Frag} {mg : Str → Option Value} {base : Heap}
/-! ### moved -/
def img (os : List Int) (r : List Int) : List Int := r.map fun t => os.getD t.toNat 0
def imgF (size : Int) (os : List Int) (r : Rel) : Rel := ⟨r.name, r.ar, AS.ascR size (r.rows.map (img os))⟩
def imgR (size : Int) (os : List Int) (rels : List Rel) : List Rel := rels.map (imgF size os)
structure OrdOk (size : Int) (os : List Int) : Prop where
  len : (os.length : Int) = size
  bd : TS.Bd size os
  nd : os.Nodup
theorem img_len {os r : List Int} : (img os r).length = r.length := List.length_map ..
theorem img_bd {size : Int} {os r : List Int} (h : OrdOk size os) (hb : TS.Bd size r) : TS.Bd size (img os r) := fun m hm => by
  obtain ⟨t, ht, rfl⟩ := List.mem_map.mp hm
  obtain ⟨h0, h1⟩ := hb t ht
  have := h.len
  rw [List.getD_eq_getElem?_getD, List.getElem?_eq_getElem (by omega)]
  exact h.bd _ (List.getElem_mem _)
def imgT (rels : List Rel) (os : List Int) (o : Str) : PyData := .tuple [.str o, .int (arIn rels o), .list ((rowsIn rels o).map fun r => rowTD (img os r))]
theorem imgT_one {size : Int} {rels : List Rel} {os : List Int} {o : Str} (I : RelsInv size rels) (h : OrdOk size os) (hall : ∀ r ∈ rels, r.rows.length < 63) (ho : o ∈ rels.map Rel.name) :
    relD (imgT rels os o) size = true ∧ smD (imgT rels os o) = true ∧ fewD (imgT rels os o) = true ∧ ∀ r ∈ rels, r.name = o → relOf size (imgT rels os o) = imgF size os r := by
  obtain ⟨r, hr, rfl, k, ha, hro⟩ := I.at ho
  have lo := k.lo
  have hi := k.hi
  have e1 : seqD (imgT rels os r.name) = some [.str r.name, .int r.ar, .list (r.rows.map fun q => rowTD (img os q))] := by unfold imgT; rw [ha, hro]; rfl
  have e2 : seqD (.list (r.rows.map fun q => rowTD (img os q))) = some (r.rows.map fun q => rowTD (img os q)) := rfl
  have e3 : ∀ rd ∈ r.rows.map (fun q => rowTD (img os q)), rowD rd r.ar size = true := fun rd hrd => by
    obtain ⟨q, hq, rfl⟩ := List.mem_map.mp hrd
    obtain ⟨a, b⟩ := k.rows q hq
    exact rowD_ints rfl (by rw [img_len]; exact a) (img_bd h b)
  refine ⟨?_, ?_, ?_, fun r' hr' hn' => ?_⟩
  · rw [relD_some e1]
    show (nameOkS r.name && (decide (1 ≤ r.ar) && decide (r.ar ≤ 3) && rowsD (.list (r.rows.map fun q => rowTD (img os q))) r.ar size)) = true
    rw [k.nm, decide_eq_true lo, decide_eq_true hi, rowsD_some e2, Bool.true_and, Bool.true_and, Bool.true_and]
    exact List.all_eq_true.mpr e3
  · refine sm_of_seq e1 (show (3 : Nat) ≤ 40000 by decide) fun x hx => ?_
    have hx : x = .str r.name ∨ x = .int r.ar ∨ x = .list (r.rows.map fun q => rowTD (img os q)) := by simpa using hx
    rcases hx with c | c | c
    · subst c
      exact decide_eq_true (by have := nm_sm k.nm; omega)
    · subst c; rfl
    · subst c
      exact sm_of_seq e2 (by rw [List.length_map]; have := hall r hr; omega) fun rd hrd => sm_rows (e3 rd hrd) hi
  · unfold fewD
    rw [e1]
    exact decide_eq_true (by show (r.rows.map fun q => rowTD (img os q)).length < 63; rw [List.length_map]; exact hall r hr)
  · have : r' = r := by
      have q1 := find_self I.nd hr'
      have q2 := find_self I.nd hr
      rw [hn', q2] at q1
      exact (Option.some.inj q1).symm
    subst this
    rw [relOf_some e1, e2]
    show (⟨r'.name, r'.ar, AS.ascR size (((r'.rows.map fun q => rowTD (img os q))).map rowOf)⟩ : Rel) = _
    rw [List.map_map]
    have : r'.rows.map (rowOf ∘ fun q => rowTD (img os q)) = r'.rows.map (img os) := List.map_congr_left fun q _ => rowOf_T _
    rw [this]
    rfl
theorem mv_ok {size : Int} {rels : List Rel} {os : List Int} {ns : List Str} (I : RelsInv size rels) (h : OrdOk size os) (hall : ∀ r ∈ rels, r.rows.length < 63) (hp : ns.Perm (rels.map Rel.name)) :
    RelsOk size (ns.map (imgT rels os)) ∧ ((ns.map (imgT rels os)).map (relOf size)).Perm (imgR size os rels) := by
  have hone : ∀ o ∈ ns, _ := fun o ho => imgT_one (o := o) I h hall (hp.mem_iff.mp ho)
  have hnm : (imgR size os rels).map Rel.name = rels.map Rel.name := by unfold imgR; rw [List.map_map]; rfl
  have hperm : ((ns.map (imgT rels os)).map (relOf size)).Perm (imgR size os rels) := by
    have h1 : ((ns.map (imgT rels os)).map (relOf size)).Perm (((rels.map Rel.name).map (imgT rels os)).map (relOf size)) := (hp.map _).map _
    refine h1.trans (List.Perm.of_eq ?_)
    unfold imgR
    rw [List.map_map, List.map_map]
    exact List.map_congr_left fun r hr => (imgT_one I h hall (List.mem_map_of_mem hr)).2.2.2 r hr rfl
  refine ⟨⟨?_, fun x hx => ?_, fun x hx => ?_, fun x hx => ?_, ?_⟩, hperm⟩
  · rw [List.length_map, hp.length_eq, List.length_map]; exact I.few
  · obtain ⟨o, ho, rfl⟩ := List.mem_map.mp hx
    exact (hone o ho).1
  · obtain ⟨o, ho, rfl⟩ := List.mem_map.mp hx
    exact (hone o ho).2.1
  · obtain ⟨o, ho, rfl⟩ := List.mem_map.mp hx
    exact (hone o ho).2.2.1
  · have := hperm.map Rel.name
    rw [hnm, List.map_map] at this
    exact this.nodup_iff.mpr I.nd
theorem ev_lenSet {σ : L2.St} {B : Hp} {te : TE} {a : Addr} {ns : List Int} {b : Bool} {m : Int} (h : Ev te σ B (.ref a)) (hs : SqA K B a (ns.map V.int)) (hz : ns.length ≤ 1000) (hb : ∀ out : List Int, out.Nodup → (∀ k, k ∈ out ↔ k ∈ ns) → decide ((out.length : Int) = m) = b) {tm : TE} (hm : Ev tm σ B (.int m)) : EvT (tTest (tOp rNe (tCB rLenN (tCons (tCB (rSetI K) (tCons te tNil)) tNil)) tm)) σ B (!b) := fun H1 e Q q =>
  h H1 e _ fun H2 e2 => ⟨a, ns, rfl, ex_a (e.trans e2) hs, hz, fun p n hp ⟨out, o1, o2, o3⟩ => ⟨p, n, rfl, upd_same, hm _ ((e.trans e2).trans (Ex.new hp)) _ fun H3 e3 => ⟨rfl, ⟨!b, by
    have := hb out o1 o2
    rw [o3] at this
    rw [← this]
    simp, q H3 ((e2.trans (Ex.new hp)).trans e3)⟩⟩⟩⟩
end Kx
namespace Kx
open PySem PySem.Spec PyProof.Rows L2 Evl LX T XV RX WS
variable {P : Program} {w : World} {K : PySem.W.Frag} {mg : Str → Option Value} {base : Heap}
/-! ### World.moved -/
def dMoved (K : PySem.W.Frag) (P : Program) (w : World) (C : Addr) : List V → Hp → (V → Hp → Prop) → Prop := fun vs B Pz => ∃ (x : Addr) (size : Int) (rels : List Rel) (v : V) (d : PyData) (os : List Int), vs = [.ref x, v] ∧ WorldP K P w C size rels x B ∧ RelsInv size rels ∧ Dp K B v d ∧ seqD d = some (os.map PyData.int) ∧ OrdOk size os ∧ (∀ r ∈ rels, r.rows.length < 63) ∧ Pz = fun z B' => ∃ y, z = .ref y ∧ WorldP K P w C size (imgR size os rels) y B'
abbrev World_moved_N : List Str := ["self", "order", "relations", "name", "rows", "row", "thing"]
abbrev World_moved_P : List Str := ["self", "order"]
theorem sc_World_moved : FnScope ["self", "order", "relations", "name", "rows", "row", "thing"] ["self", "order"] (defScope s_World_moved) := ⟨rfl, rfl, rfl, by decide +kernel, rfl, by decide +kernel, by decide +kernel⟩
theorem fn_moved (T : TX K mg) {C f : Addr} {fd : FuncData} (F : Fun K "moved" "World.moved" s_World_moved f fd) (hC : Cls K C) (hN : ∀ f ∈ fieldsN, NoAttr K C f) (M_arity : OkM P w K mg base 2 C "arity" ["self", "name"] (spR (dArity K P w C))) (M_rows : OkM P w K mg base 2 C "rows" ["self", "name"] (spR (dRows K P w C)))
    (I_World2 : OkI P w K mg base 7 "World" C ["self", "size", "relations"] (spInitW K P w C) []) : FnOk P w K mg base CX0 9 f fd ["self", "order"] (spR (dMoved K P w C)) := by
  have n_len := T.n "len" (by decide +kernel)
  have n_set := T.n "set" (by decide +kernel)
  have n_tuple := T.n "tuple" (by decide +kernel)
  have O_is_row := ok_is_row (P := P) (w := w) (base := base) T
  refine F.ok sc_World_moved (fun vs H Q E h => spR_len h (by rintro B Pz ⟨x, s, r, v, d, os, rfl, _⟩; rfl)) (fun cdv A outer s H vs Q E hr ⟨B, Pz, e, ⟨x, size, rels, v, d, os, hvs, hW, hI, hd, hds, hos, hall, hP⟩, q⟩ => ?_)
  subst hvs hP
  refine ⟨_, (pss_cons (ps_if (pw_or (pt_not (pt_val (LX.pe_f O_is_row hr (by decide) (pa_cons (pv 1) (pa_cons (LX.k_fld (K := K) (pv 0) (by rfl)) (pa_cons (LX.k_fld (K := K) (pv 0) (by rfl)) pa_nil)))))) (pw_or1 (pt_cmpR op_ne (pe_callB RX.call_lenN (by rfl) n_len (by decide +kernel) (pa_cons (pe_callTy (RX.call_setI (K := K) rfl) (by rfl) n_set (by decide +kernel) (pa_cons (pv 1) pa_nil)) pa_nil)) (LX.k_fld (K := K) (pv 0) (by rfl)) (nomark _)))).pt (pss_one ps_never) pss_nil)
        (pss_cons (ps_set (i := 2) sc_World_moved.nd rfl (.inl rfl) (pe_lst pa_nil))
        (pss_cons (ps_for PassesOwn.never rfl (RX.k_pit (K := K) (LX.k_fld (K := K) (pv 0) (by rfl))) (pg_name (i := 3) sc_World_moved.nd rfl (.inl rfl)) (pss_cons (ps_setLc (i := 4) (own := [("row", 5)]) (g := gName 5) (tt := tYes) rfl sc_World_moved.nd rfl rfl (sw_true rfl rfl rfl (by decide +kernel)) (RX.k_pit (K := K) (RX.pe_m M_rows hC hr (by decide) (pv 0) (pa_cons (pv 3) pa_nil))) (blkOk_by (N := World_moved_N) (sc := defScope s_World_moved) (by decide +kernel)) (fun _ _ _ _ _ => pg_name (i := 5) sc_World_moved.nd rfl (Or.inl rfl)) (fun _ _ _ _ _ => pts_nil) (fun _ _ _ _ _ => (pe_callTy (LX.k_tupOf (K := K)) (by rfl) n_tuple (by decide +kernel) (pa_cons (pe_lc (own := [("thing", 6)]) (g := gName 6) (tt := tYes) rfl sc_World_moved.nd (RX.k_pit (K := K) (pv 5)) (blkOk_by (N := World_moved_N) (sc := { kind := .function, names := [(".0", .local), ("row", .local), ("tuple", .globalImplicit), ("order", .cell)], isGenerator := false, isCoroutine := false }) (by decide +kernel)) (fun _ _ _ _ _ => pg_name (i := 6) sc_World_moved.nd rfl (Or.inl rfl)) (fun _ _ _ _ _ => pts_nil) (fun _ _ _ _ _ => (pe_ix (RX.k_ixa (K := K)) (pv 1) (pv 6) (fun _ _ => rfl)))) pa_nil))))
        (pss_one (ps_expr (pe_bm PySem.F.plainAttrs_list PySem.F.slot_list_append PySem.F.type_list_append mt_append (pv 2) (pa_cons (pe_tup (pa_cons (pv 3) (pa_cons (RX.pe_m M_arity hC hr (by decide) (pv 0) (pa_cons (pv 3) pa_nil)) (pa_cons (pv 4) pa_nil)))) pa_nil))))))
        (pss_one (ps_ret (pe_i I_World2 hr (by decide) (pa_cons (LX.k_fld (K := K) (pv 0) (by rfl)) (pa_cons (pv 2) pa_nil)))))))), ?_⟩
  obtain ⟨rels', hp, hWA⟩ := hW
  obtain ⟨dx, zn, pf, t, za, ps, kvs, ys, st, ns, h1, ⟨pn, _, rfl, hpn, rfl⟩, h3, h4, h5, h6, h7, h8, h9, h10, hperm, hsort⟩ := id hWA
  have hpm : ns.Perm (rels.map Rel.name) := hperm.trans (hp.map _)
  obtain ⟨hok, hpr⟩ := mv_ok hI hos hall hpm
  have hnl : ns.length ≤ 12 := by rw [hpm.length_eq, List.length_map]; exact hI.few
  obtain ⟨a, ws, rfl, hx, hws⟩ := dp_seq hd hds
  have hws := dps_ints hws
  subst hws
  have hsl := hos.len
  have hs2 := hI.s2
  have hs4 := hI.s4
  have hrowD : rowD d size size = true := rowD_ints hds hos.len hos.bd
  refine x_when (X := H) (B := B) (b := false) (et_is (et_or (a := false) (b := false) (et_not (a := true) (et_B (ev_is (ev_row (ev_var rfl) (ev_fldI (ev_var rfl) h1 hC (hN "size" (by decide)) rfl) (ev_fldI (ev_var rfl) h1 hC (hN "size" (by decide)) rfl) (by omega) hd) (by rw [hrowD])))) (fun _ => ev_lenSet (b := true) (m := size) (ev_var rfl) hx (by omega) (fun out o1 o2 => decide_eq_true (by rw [← hsl, (List.perm_ext_iff_of_nodup o1 hos.nd).mpr o2 |>.length_eq])) (ev_fldI (ev_var rfl) h1 hC (hN "size" (by decide)) rfl))) rfl) (fun h => nomatch h) (fun _ => ?_) H e (Ex.refl H)
  refine x_asgL (xs := []) (el_lst ea_nil (by decide)) (fun p hpB hpH => ?_)
  refine x_for (F := B) (Ex.new hpB) (ei_tup (ev_fldI (ev_var rfl) h1 hC (hN "names" (by decide)) rfl) hpn) (fun F' ys i σ' B' => ∃ (y3 y4 : Option V) (Bs : Hp) (es : List V), σ' = [some (V.ref x), some (.ref a), some (.ref p), y3, y4, none, none] ∧ B' = upd Bs p (.lst es) ∧ Bs p = none ∧ Gr H F' Bs ∧ A2 (IsDp K) ((ns.take i).map (imgT rels os)) es Bs) (fun F' ys g hy av => ?_) (fun F' ys i σ' B' h => ?_) (fun F' ys i xx σ' B' g hy hxi h => ?_) (fun F' ys σ' B' g hy h => ?_)
  · have hF : F' p = none := av p hpB (by rw [upd_same]; exact Option.some_ne_none _)
    exact ⟨none, none, F', [], rfl, mrg_upd g.ex hF, hF, Gr.refl _ _, a2_nil⟩
  · obtain ⟨y3, y4, Bs, es, rfl, rfl, hp', gs', tb⟩ := h
    exact gs'.ex.trans (Ex.new hp')
  · obtain ⟨y3, y4, Bs, es, rfl, rfl, hp', gF, tb⟩ := h
    rw [hy, List.getElem?_map] at hxi
    obtain ⟨o, ho, rfl⟩ : ∃ o, ns[i]? = some o ∧ xx = .str o := by
      cases hq : ns[i]? with
      | none => rw [hq] at hxi; exact nomatch hxi
      | some o => rw [hq] at hxi; exact ⟨o, rfl, (Option.some.inj hxi).symm⟩
    have hom : o ∈ rels.map Rel.name := hpm.mem_iff.mp (List.mem_of_getElem? ho)
    have hom' : o ∈ rels'.map Rel.name := (hp.map _).mem_iff.mpr hom
    have hi : i < ns.length := (List.getElem?_eq_some_iff.mp ho).1
    have eBs : Ex B Bs := g.ex.trans gF.ex
    have hesl : es.length = i := by rw [tb.1, List.length_map, List.length_take]; omega
    obtain ⟨r, hr0, hrn, hro, hra, hrw⟩ := hI.at hom
    have hRl := hall r hr0
    refine x_asgO (P := IsDp K (.list ((rowsIn rels o).map fun r => rowTD (img os r)))) hp' (EvR.imp (er_lc (Pxs := RowsAt K (rowsIn rels' o)) (fun _ _ => true) (fun _ i => IsTI K (img os ((rowsIn rels' o).getD i []))) (fun _ _ => inferInstance) inferInstance (ei_tupR (er_meth (P := TpP K (RowsAt K (rowsIn rels' o))) (ev_var rfl) (eBs _ _ h1) rfl (ea_cons (ev_var rfl) ea_nil) fun B'' e2 => ⟨x, size, rels', o, rfl, hWA.mono (eBs.trans e2), hom', rfl⟩)) (fun _ => rfl) ?_ (fun _ _ _ _ _ _ _ => et_yes) ?_) ?_) fun z B2 g2 hp2 hz => ?_
    · intro xs B' hxs
      rw [hxs.1, rowsIn_perm hp hI.nd, hrw]
      omega
    · intro xs k y B' e2 hxs hxk _
      have hk : k < (rowsIn rels' o).length := by rw [← hxs.1]; exact (List.getElem?_eq_some_iff.mp hxk).1
      have hg : (rowsIn rels' o).getD k [] = (rowsIn rels' o)[k] := by rw [List.getD_eq_getElem?_getD, List.getElem?_eq_getElem hk]; rfl
      obtain ⟨b, rfl, hb⟩ := hxs.2 k y _ hxk (List.getElem?_eq_getElem hk)
      rw [hg]
      have hmem : (rowsIn rels' o)[k] ∈ r.rows := by rw [← hrw, ← rowsIn_perm hp hI.nd]; exact List.getElem_mem _
      generalize (rowsIn rels' o)[k] = row at hb hmem
      obtain ⟨hrl, hrb⟩ := hro.rows row hmem
      have hhi := hro.hi
      refine EvR.imp (er_tup (K := K) (Py := fun ys _ => ys = (img os row).map V.int) inferInstance (EvR.imp (er_lc1 (Pd := fun t => IsV (.int t)) (xs := row.map V.int) (ds := img os row) (fun _ => inferInstance) (ei_tup (ev_var rfl) hb) (by rw [List.length_map]; omega) (by rw [List.length_map, img_len]) (fun _ => rfl) (fun j yy B3 d3 e3 hyy hd3 => ?_)) fun z B3 _ ⟨p', ys, q1, q2, q3⟩ => ⟨p', ys, q1, .inl (sq_of q2), q3.vals⟩)) fun z B3 _ ⟨p', ys, q1, q2, q3⟩ => ⟨p', q1, q3 ▸ q2⟩
      rw [List.getElem?_map] at hyy
      unfold img at hd3
      rw [List.getElem?_map] at hd3
      cases hq : row[j]? with
      | none => rw [hq] at hyy; exact nomatch hyy
      | some tt =>
        rw [hq] at hyy hd3
        have hyy := Option.some.inj hyy
        have hd3 := Option.some.inj hd3
        subst hyy hd3
        obtain ⟨b0, b1⟩ := hrb tt (List.mem_of_getElem? hq)
        exact eR_v (ev_op (ev_var rfl) (ev_var rfl) (rv_ixA (ex_a ((eBs.trans e2).trans e3) hx) (atI_int b0 (by omega))))
    · rintro z B' _ ⟨xs, p0, ys, hxs, rfl, hp0, htold⟩
      obtain ⟨hlen, hval⟩ := htold
      rw [hxs.1, List.filter_eq_self.mpr (fun _ _ => rfl)] at hlen hval
      rw [← rowsIn_perm hp hI.nd]
      refine .lst (sq_of hp0) (a2_dpsM (Pd := fun r => IsTI K (img os r)) (f := fun r => rowTD (img os r)) (fun _ _ h => dp_rowT h) ⟨by rw [hlen, List.length_range], fun k y r1 hy hr1 => ?_⟩)
      have hk := (List.getElem?_eq_some_iff.mp hr1).1
      have h0 : IsTI K (img os ((rowsIn rels' o).getD k [])) y B' := hval k y k hy (List.getElem?_range hk)
      rw [List.getD_eq_getElem?_getD, hr1] at h0
      exact h0
    · have eB2 : Ex B B2 := eBs.trans g2.ex
      refine x_last (x_appO (P := IsDp K (imgT rels os o)) inferInstance hp2 hpH (ev_var rfl) (EvR.imp (er_tupN (Pa := fun vs B' => ∃ z r, vs = z :: r ∧ IsV (.str o) z B' ∧ ∃ z2 r2, r = z2 :: r2 ∧ IsV (.int (arIn rels' o)) z2 B' ∧ ∃ z3 r3, r2 = z3 :: r3 ∧ IsDp K (.list ((rowsIn rels o).map fun r => rowTD (img os r))) z3 B' ∧ r3 = []) inferInstance (ear inferInstance (eR_v (ev_var rfl)) (ear inferInstance (er_meth (P := IsV (.int (arIn rels' o))) (ev_var rfl) (eB2 _ _ h1) rfl (ea_cons (ev_var rfl) ea_nil) fun B'' e2 => ⟨x, size, rels', o, rfl, hWA.mono (eB2.trans e2), hom', rfl⟩) (ear inferInstance (rVp (ev_var rfl) hz) ear_nil))) ?_) ?_) (by omega) fun z2 B3 g3 hp3 hz2 => ?_)
      · rintro vs B' ⟨_, _, rfl, _, _, _, rfl, _, _, _, rfl, _, rfl⟩
        show (3 : Nat) ≤ 100000
        decide
      · rintro z0 B' _ ⟨p', vs, rfl, hp', z1, r1, rfl, hz1, z2, r2, rfl, hz2, z3, r3, rfl, hz3, rfl⟩
        have hz1 : z1 = .str o := hz1
        have hz2 : z2 = .int (arIn rels' o) := hz2
        subst hz1 hz2
        have hall3 : Dp K B' (.ref p') (.tuple [.str o, .int (arIn rels' o), .list ((rowsIn rels o).map fun r => rowTD (img os r))]) := .tup (st_of hp') (.cons (.str o) (.cons (.int _) (.cons hz3 .nil)))
        rw [arIn_perm hp hI.nd] at hall3
        exact hall3
      · refine x_nx rfl ⟨_, _, B3, es ++ [z2], rfl, rfl, hp3, gF.trans ((g2.trans g3)), ?_⟩
        rw [take_snoc ho, List.map_append]
        exact Kx.A2.append (MoA.mo (g2.trans g3).ex tb) (RX.A2.cons hz2 a2_nil)
  · obtain ⟨y3, y4, Bs, es, rfl, rfl, hp', gF, tb⟩ := h
    rw [hy, List.length_map, List.take_length] at tb
    have eBs : Ex B Bs := g.ex.trans gF.ex
    have hds' := a2_dps (Pd := IsDp K) (fun _ _ _ h => h) tb
    have eB3 : Ex Bs (upd Bs p (.lst es)) := Ex.new hp'
    refine x_last (x_ret (EvR.imp (P' := fun z B' => ∃ y, z = V.ref y ∧ WorldP K P w C size (imgR size os rels) y B') (er_make (K := K) (P := P) (w := w) (dvs := []) (d := .list (ns.map (imgT rels os))) (ds := ns.map (imgT rels os)) (EvAR.imp (rA (ea_cons (ev_fldI (ev_var rfl) (eB3 _ _ (eBs _ _ h1)) hC (hN "size" (by decide)) rfl) (ea_cons (ev_var rfl) ea_nil))) fun vs B' e2 hvs => (⟨V.ref p, by rw [hvs]; rfl, dp_ex e2 (.lst (sq_of upd_same) (dps_ex eB3 hds'))⟩ : ∃ v : V, vs ++ [] = [V.int size, v] ∧ Dp K B' v (.list (ns.map (imgT rels os))))) rfl hok hI.s2 hI.s4) fun z B' _ ⟨y, hz, hWy⟩ => ⟨y, hz, _, hpr, hWy⟩) (fun z B' H' g' p' e1 e2 => ?_))
    exact q z H' B' e2 (((g.trans gF).trans (gr_new hp' hpH)).trans g') e1 p'
end Kx
namespace Kx
open PySem PySem.Spec PyProof.Rows L2 Evl LX T XV RX WS
variable {P : Program} {w : World} {K : PySem.W.Frag} {mg : Str → Option Value} {base : Heap}
/-! ### moved refuses -/
theorem bo_x (T : TX K mg) : exX K = true := (He.ba T.t.x).2
theorem bo_k (T : TX K mg) : ExK K (bo K) := XV.exB_ok (He.ba (bo_x T)).1
theorem bo_oex (T : TX K mg) : OexC K (bo K) := (bo_k T).o
theorem bo_exc (T : TX K mg) : PySem.W.excIn K (bo K) XV.veB "ValueError.__new__" = true := (He.ba (He.ba (bo_x T)).2).1
theorem bo_kit (T : TX K mg) {x : Str} {b : Bool} (h : (x, b) ∈ kitN) : PySem.W.kitOne K (.ref (bo K)) (.ref (He.ga K x)) = some b := of_decide_eq_true (List.all_eq_true.mp (He.ba (He.ba (He.ba (bo_x T)).2).2).1 (x, b) h)
theorem bo_kitV (T : TX K mg) : PySem.W.kitOne K (.ref (bo K)) (.type "ValueError") = some true := of_decide_eq_true (He.ba (He.ba (He.ba (He.ba (bo_x T)).2).2).2).1
theorem bo_exm (T : TX K mg) : PySem.W.exmOne K (.ref (bo K)) (.ref (He.ga K "OnceError")) = some true := of_decide_eq_true (He.ba (He.ba (He.ba (He.ba (bo_x T)).2).2).2).2
theorem dup_split {os : List Int} : ¬ os.Nodup → ∃ l1 x l2, os = l1 ++ x :: l2 ∧ x ∈ l2 := by
  induction os with
  | nil => intro h; exact absurd List.nodup_nil h
  | cons a t ih =>
    intro h
    by_cases c : a ∈ t
    · exact ⟨[], a, t, rfl, c⟩
    · have : ¬ t.Nodup := fun n => h (List.nodup_cons.mpr ⟨c, n⟩)
      obtain ⟨l1, x, l2, e, hx⟩ := ih this
      exact ⟨a :: l1, x, l2, by rw [e]; rfl, hx⟩
theorem dup_len {os out : List Int} (h : ¬ os.Nodup) (o1 : out.Nodup) (o2 : ∀ k, k ∈ out ↔ k ∈ os) : out.length < os.length := by
  obtain ⟨l1, x, l2, e, hx⟩ := dup_split h
  have h1 : out.length ≤ (l1 ++ l2).length := NM.pigeon o1 fun k hk => by
    have := (o2 k).mp hk
    rw [e, List.mem_append, List.mem_cons] at this
    rw [List.mem_append]
    rcases this with c | c | c
    · exact .inl c
    · exact .inr (c ▸ hx)
    · exact .inr c
  rw [e]
  rw [List.length_append] at h1
  rw [List.length_append, List.length_cons]
  omega
def spRefuse (K : PySem.W.Frag) (P : Program) (w : World) (C : Addr) : Sp := fun vs H _ E => ∃ (x : Addr) (size : Int) (rels : List Rel) (v : V) (d : PyData) (B : Hp), vs = [.ref x, v] ∧ Ex B H ∧ WorldP K P w C size rels x B ∧ RelsInv size rels ∧ Dp K B v d ∧ (rowD d size size = false ∨ ∃ os : List Int, seqD d = some (os.map PyData.int) ∧ rowD d size size = true ∧ ¬ os.Nodup) ∧ ∀ H2, Ex H H2 → E (.ref (bo K)) none H2
theorem fnX_moved (T : TX K mg) {C f : Addr} {fd : FuncData} (F : Fun K "moved" "World.moved" s_World_moved f fd) (hC : Cls K C) (hN : ∀ f ∈ fieldsN, NoAttr K C f) (M_arity : OkM P w K mg base 2 C "arity" ["self", "name"] (spR (dArity K P w C))) (M_rows : OkM P w K mg base 2 C "rows" ["self", "name"] (spR (dRows K P w C)))
    (I_World2 : OkI P w K mg base 7 "World" C ["self", "size", "relations"] (spInitW K P w C) []) : FnOk P w K mg base (L2.CX P w) 9 f fd ["self", "order"] (spRefuse K P w C) := by
  have n_len := T.n "len" (by decide +kernel)
  have n_set := T.n "set" (by decide +kernel)
  have n_tuple := T.n "tuple" (by decide +kernel)
  have O_is_row := ok_is_row (P := P) (w := w) (base := base) T
  refine F.okX sc_World_moved (fun vs H Q E h => by obtain ⟨x, s, r, v, d, B, rfl, _⟩ := h; rfl) (fun cdv A outer s H vs Q E hr ⟨x, size, rels, v, d, B, hvs, e, hW, hI, hd, hor, q⟩ => ?_)
  subst hvs
  refine ⟨_, (pss_cons (ps_if (pw_or (pt_not (pt_val (LX.pe_f O_is_row hr (by decide) (pa_cons (pv 1) (pa_cons (LX.k_fld (K := K) (pv 0) (by rfl)) (pa_cons (LX.k_fld (K := K) (pv 0) (by rfl)) pa_nil)))))) (pw_or1 (pt_cmpR op_ne (pe_callB RX.call_lenN (by rfl) n_len (by decide +kernel) (pa_cons (pe_callTy (RX.call_setI (K := K) rfl) (by rfl) n_set (by decide +kernel) (pa_cons (pv 1) pa_nil)) pa_nil)) (LX.k_fld (K := K) (pv 0) (by rfl)) (nomark _)))).pt (pss_one (ps_raise rfl (takes_of rfl rfl rfl rfl) (RX.pmk_ex0 (bo_oex T) (bo_exc T) (T.g _ (by decide +kernel))))) pss_nil)
        (pss_cons ps_never (pss_cons ps_never (pss_one ps_never)))), ?_⟩
  obtain ⟨dx, fsx, h1, hsz⟩ : ∃ dx fsx, B x = some (.ins C dx fsx) ∧ fsx.lookup ("size" : Str) = some (V.int size) := by
    obtain ⟨rels', hp, hWA⟩ := hW
    obtain ⟨dx, zn, pf, t, za, ps, kvs, ys, st, ns, h1, _⟩ := hWA
    exact ⟨_, _, h1, rfl⟩
  have hs4 := hI.s4
  have fs : ∀ {σ : L2.St}, σ[0]? = some (some (V.ref x)) → Ev (tFld K (tVar 0) "size") σ B (.int size) := fun h => ev_fldI (ev_var h) h1 hC (hN "size" (by decide)) hsz
  rcases hor with hno | ⟨os, hds, hyes, hdup⟩
  · refine x_when (X := H) (B := B) (b := true) (et_or (a := true) (b := true) (et_not (a := false) (et_B (ev_is (ev_row (ev_var rfl) (fs rfl) (fs rfl) (by omega) hd) (by rw [hno])))) (fun h => nomatch h)) (fun _ => ?_) (fun h => nomatch h) H e (Ex.refl H)
    exact fun H2 e1 e2 => q H2 e2
  · obtain ⟨a, ws, rfl, hx, hws⟩ := dp_seq hd hds
    have hws := dps_ints hws
    subst hws
    have hlen : (os.length : Int) = size := by
      rw [rowD_some hds, List.length_map] at hyes
      exact of_decide_eq_true (Bool.and_eq_true_iff.mp hyes).1
    refine x_when (X := H) (B := B) (b := true) (et_is (et_or (a := false) (b := true) (et_not (a := true) (et_B (ev_is (ev_row (ev_var rfl) (fs rfl) (fs rfl) (by omega) hd) (by rw [hyes])))) (fun _ => ev_lenSet (b := false) (m := size) (ev_var rfl) hx (by omega) (fun out o1 o2 => decide_eq_false (by have := dup_len hdup o1 o2; omega)) (fs rfl))) rfl) (fun _ => ?_) (fun h => nomatch h) H e (Ex.refl H)
    exact fun H2 e1 e2 => q H2 e2
end Kx
namespace Kx
open PySem PySem.Spec PyProof.Rows L2 Evl LX T XV RX WS
variable {P : Program} {w : World} {K : PySem.W.Frag} {mg : Str → Option Value} {base : Heap}
/-! ### handed -/
def formD (flag : Int) (ds : List PyData) : PyData := if flag = 1 then .list ds else .tuple ds
theorem formD_seq {f : Int} {ds : List PyData} : seqD (formD f ds) = some ds := by unfold formD; split <;> rfl
def rowDt (fl : List Int) (j k : Nat) (r : List Int) : PyData := formD (fl.getD ((j + k) % 7) 0) (r.map PyData.int)
def rowsDt (fl : List Int) (j : Nat) (R : List (List Int)) : List PyData := (List.range R.length).map fun k => rowDt fl j k (R.getD k [])
def entDt (fl : List Int) (j : Nat) (n : Str) (g : Int × List (List Int)) : PyData := formD (fl.getD (19 + j) 0) [.str n, .int g.1, formD (fl.getD (7 + j) 0) (rowsDt fl j g.2)]
def entsDt (fl : List Int) (ns : List Str) (gs : List (Int × List (List Int))) : List PyData := (List.range ns.length).map fun j => entDt fl j (ns.getD j "") (gs.getD j (0, []))
def handedDt (fl : List Int) (ns : List Str) (gs : List (Int × List (List Int))) : PyData := formD (fl.getD 31 0) (entsDt fl ns gs)
/-- a list that Y does not know, or a tuple -/
def SqO (K : PySem.W.Frag) (Y B : Hp) (a : Addr) (xs : List V) : Prop := (B a = some (.lst xs) ∧ Y a = none) ∨ SqT K B a xs
theorem SqO.a {Y B : Hp} {a : Addr} {xs : List V} (h : SqO K Y B a xs) : SqA K B a xs := h.imp (fun h => sq_of h.1) id
theorem SqO.ex {Y B B' : Hp} {a : Addr} {xs : List V} (e : Ex B B') (h : SqO K Y B a xs) : SqO K Y B' a xs := h.imp (fun h => ⟨e _ _ h.1, h.2⟩) (ex_t e)
def RowT (K : PySem.W.Frag) (Y : Hp) : V → Hp → Prop := fun y B => ∃ (a : Addr) (n : Int) (ns : List Int), y = .ref a ∧ SqO K Y B a (.int n :: ns.map V.int)
def GivT (K : PySem.W.Frag) (Y : Hp) (L : Nat) : Addr → Hp → Prop := fun g B => ∃ ys, SqO K Y B g ys ∧ ys.length ≤ L ∧ ∀ y ∈ ys, RowT K Y y B
def EntT (K : PySem.W.Frag) (Y : Hp) (L : Nat) : V → Hp → Prop := fun e B => ∃ (a : Addr) (s : Str) (n : Int) (g : Addr), e = .ref a ∧ SqO K Y B a [.str s, .int n, .ref g] ∧ 1 ≤ n ∧ n ≤ 3 ∧ GivT K Y L g B
structure Nest (K : PySem.W.Frag) (Y : Hp) (L : Nat) (hd : Addr) (B : Hp) : Prop where
  ex : ∃ (es : List V) (Z : Hp), (∀ a, Z a = none → Y a = none) ∧ ((B hd = some (.lst es) ∧ Y hd = none ∧ Z hd ≠ none) ∨ SqT K B hd es) ∧ es.length ≤ 12 ∧ ∀ e ∈ es, EntT K Z L e B
theorem RowT.mo {Y B B' : Hp} {y : V} (e : Ex B B') (h : RowT K Y y B) : RowT K Y y B' := by
  obtain ⟨a, n, ns, h1, h2⟩ := h
  exact ⟨a, n, ns, h1, h2.ex e⟩
theorem GivT.mo {Y B B' : Hp} {L : Nat} {g : Addr} (e : Ex B B') (h : GivT K Y L g B) : GivT K Y L g B' := by
  obtain ⟨ys, h1, h2, h3⟩ := h
  exact ⟨ys, h1.ex e, h2, fun y hy => (h3 y hy).mo e⟩
theorem EntT.mo {Y B B' : Hp} {L : Nat} {v : V} (e : Ex B B') (h : EntT K Y L v B) : EntT K Y L v B' := by
  obtain ⟨a, s, n, g, h1, h2, h3, h4, h5⟩ := h
  exact ⟨a, s, n, g, h1, h2.ex e, h3, h4, h5.mo e⟩
theorem Nest.mo {Y B B' : Hp} {L : Nat} {hd : Addr} (e : Ex B B') (h : Nest K Y L hd B) : Nest K Y L hd B' := by
  obtain ⟨es, Z, h1, h2, h3, h4⟩ := h
  exact ⟨es, Z, h1, h2.imp (fun h => ⟨e _ _ h.1, h.2⟩) (ex_t e), h3, fun v hv => (h4 v hv).mo e⟩
/-- what may not be known: another heap for it -/
theorem SqO.to {Y Z B : Hp} {a : Addr} {xs : List V} (f : ∀ a xs, Y a = none → B a = some (.lst xs) → Z a = none) (h : SqO K Y B a xs) : SqO K Z B a xs := h.imp (fun h => ⟨h.1, f a _ h.2 h.1⟩) id
theorem RowT.to {Y Z B : Hp} {y : V} (f : ∀ a xs, Y a = none → B a = some (.lst xs) → Z a = none) (h : RowT K Y y B) : RowT K Z y B := by
  obtain ⟨a, n, ns, h1, h2⟩ := h
  exact ⟨a, n, ns, h1, h2.to f⟩
theorem GivT.to {Y Z B : Hp} {L : Nat} {g : Addr} (f : ∀ a xs, Y a = none → B a = some (.lst xs) → Z a = none) (h : GivT K Y L g B) : GivT K Z L g B := by
  obtain ⟨ys, h1, h2, h3⟩ := h
  exact ⟨ys, h1.to f, h2, fun y hy => (h3 y hy).to f⟩
theorem EntT.to {Y Z B : Hp} {L : Nat} {v : V} (f : ∀ a xs, Y a = none → B a = some (.lst xs) → Z a = none) (h : EntT K Y L v B) : EntT K Z L v B := by
  obtain ⟨a, s, n, g, h1, h2, h3, h4, h5⟩ := h
  exact ⟨a, s, n, g, h1, h2.to f, h3, h4, h5.to f⟩
theorem Nest.gr {X B B' : Hp} {L : Nat} {hd : Addr} (g : Gr X B B') (h : Nest K B L hd B') : Nest K (mrg B X) L hd B' := by
  obtain ⟨es, Z, h1, h2, h3, h4⟩ := h
  have key : ∀ a, B a = none → B' a ≠ none → X a = none := fun a ha hb => Decidable.byContradiction fun c => hb (g.av a ha c)
  have hm : ∀ {C : Hp} {a}, mrg C X a = none → C a = none ∧ X a = none := fun {C a} h => by
    cases q : C a with
    | none => rw [mrg_none q] at h; exact ⟨rfl, h⟩
    | some o => rw [mrg_some q] at h; exact nomatch h
  refine ⟨es, mrg Z X, fun a h => ?_, h2.imp (fun h => ⟨h.1, ?_, ?_⟩) id, h3, fun v hv => (h4 v hv).to fun a _ ha hb => ?_⟩
  · obtain ⟨a1, a2⟩ := hm h
    rw [mrg_none (h1 a a1), a2]
  · rw [mrg_none h.2.1]
    exact key hd h.2.1 (by rw [h.1]; exact Option.some_ne_none _)
  · cases q : Z hd with
    | none => exact absurd q h.2.2
    | some o => rw [mrg_some q]; exact Option.some_ne_none _
  · rw [mrg_none ha]
    exact key a (h1 a ha) (by rw [hb]; exact Option.some_ne_none _)
def FormAt (K : PySem.W.Frag) (B : Hp) (flag : Int) (xs : List V) : V → Hp → Prop := fun z B' => ∃ p, z = .ref p ∧ if flag = 1 then (B' p = some (.lst xs) ∧ B p = none) else SqT K B' p xs
theorem FormAt.dp {B B' : Hp} {flag : Int} {xs : List V} {z : V} {ds : List PyData} (h : FormAt K B flag xs z B') (hs : DpAll K B' xs ds) : Dp K B' z (formD flag ds) := by
  obtain ⟨p, rfl, h⟩ := h
  unfold formD
  split at h
  · rename_i c
    rw [if_pos c]
    exact .lst (sq_of h.1) hs
  · rename_i c
    rw [if_neg c]
    exact .tup h hs
theorem FormAt.sqo {Y B B' : Hp} {flag : Int} {xs : List V} {z : V} (e : Ex Y B) (h : FormAt K B flag xs z B') : ∃ p, z = .ref p ∧ SqO K Y B' p xs := by
  obtain ⟨p, rfl, h⟩ := h
  refine ⟨p, rfl, ?_⟩
  split at h
  · exact .inl ⟨h.1, none_of e h.2⟩
  · exact .inr h
def RowP (K : PySem.W.Frag) (Y : Hp) (d : PyData) : V → Hp → Prop := fun y B => Dp K B y d ∧ RowT K Y y B
def EntP (K : PySem.W.Frag) (Y : Hp) (d : PyData) : V → Hp → Prop := fun y B => Dp K B y d ∧ EntT K Y 100 y B
def GivP (K : PySem.W.Frag) (Y : Hp) (d : PyData) : V → Hp → Prop := fun y B => Dp K B y d ∧ ∃ g, y = .ref g ∧ GivT K Y 100 g B
instance {Y : Hp} {d : PyData} : Mo (RowP K Y d) := ⟨fun e h => ⟨dp_ex e h.1, h.2.mo e⟩⟩
instance {Y : Hp} {d : PyData} : Mo (EntP K Y d) := ⟨fun e h => ⟨dp_ex e h.1, h.2.mo e⟩⟩
instance {Y : Hp} {d : PyData} : Mo (GivP K Y d) := ⟨fun e ⟨h, g, a, b⟩ => ⟨dp_ex e h, g, a, b.mo e⟩⟩
theorem a2_mem {δ : Type} {Pd : δ → V → Hp → Prop} {B : Hp} {ds : List δ} {ys : List V} (h : A2 Pd ds ys B) {y : V} (hy : y ∈ ys) : ∃ d, d ∈ ds ∧ Pd d y B := by
  obtain ⟨k, hk, rfl⟩ := List.mem_iff_getElem.mp hy
  have hd : ds[k]? = some (ds[k]'(by rw [← h.1]; exact hk)) := List.getElem?_eq_getElem _
  exact ⟨_, List.mem_of_getElem? hd, h.2 k _ _ (List.getElem?_eq_getElem hk) hd⟩
def EntA (K : PySem.W.Frag) (Y : Hp) (n : Str) (ar : Int) (d : PyData) : List V → Hp → Prop := fun us B => ∃ u, us = [.str n, .int ar, u] ∧ GivP K Y d u B
instance {Y : Hp} {n : Str} {ar : Int} {d : PyData} : MoA (EntA K Y n ar d) := ⟨fun e ⟨u, a, b⟩ => ⟨u, a, Mo.mo e b⟩⟩
def dHanded (K : PySem.W.Frag) : List V → Hp → (V → Hp → Prop) → Prop := fun vs B Pz => ∃ (big : Int) (a b c : Addr) (ns : List Str) (gs : List (Int × List (List Int))) (ts : List V) (fl : List Int), vs = [.ref a, .ref b, .ref c] ∧ B a = some (.lst (ns.map V.str)) ∧ ns.length ≤ 12 ∧ B b = some (.lst ts) ∧ A2 (GivenR K) gs ts B ∧ gs.length = ns.length ∧ (∀ g ∈ gs, GivenOk big g) ∧
  SqL K B c (fl.map V.int) ∧ fl.length = 32 ∧ Pz = fun z B' => ∃ hd, z = .ref hd ∧ Dp K B' z (handedDt fl ns gs) ∧ Nest K B 100 hd B'
abbrev law_handed_N : List Str := ["names", "tables", "flags", "entries", "j", "given", "k"]
abbrev law_handed_P : List Str := ["names", "tables", "flags"]
theorem sc_law_handed : FnScope ["names", "tables", "flags", "entries", "j", "given", "k"] ["names", "tables", "flags"] (defScope s_law_handed) := ⟨rfl, rfl, rfl, by decide +kernel, rfl, by decide +kernel, by decide +kernel⟩
theorem ok_handed (T : TX K mg) : OkF P w K mg base 2 "_law_handed" ["names", "tables", "flags"] (spR (dHanded K)) := by
  have n_range := T.n "range" (by decide +kernel)
  have n_len := T.n "len" (by decide +kernel)
  have n_int := T.n "int" (by decide +kernel)
  refine T.okF 30 rfl (by decide +kernel) (fun f fd F => ?_) (fun _ _ _ _ _ _ us hl => match us, hl with | [_, _, _], _ => rfl)
  have O__law_form := ok_form (P := P) (w := w) (base := base) T
  refine F.ok sc_law_handed (fun vs H Q E h => spR_len h (by rintro B Pz ⟨big, a, b, c, ns, gs, ts, fl, rfl, _⟩; rfl)) (fun cdv A outer s H vs Q E hr ⟨B, Pz, e, ⟨big, a, b, c, ns, gs, ts, fl, hvs, hA, hnl, hB, hG, hgl, hok, hC, hfl, hP⟩, q⟩ => ?_)
  subst hvs hP
  refine ⟨_, (pss_cons (ps_set (i := 3) sc_law_handed.nd rfl (.inl rfl) (pe_lst pa_nil))
        (pss_cons (ps_for PassesOwn.never rfl (pi_range1 (by rfl) n_range (pa_cons (pe_callB (LX.k_len (K := K)) (by rfl) n_len (by decide +kernel) (pa_cons (pv 0) pa_nil)) pa_nil)) (pg_name (i := 4) sc_law_handed.nd rfl (.inr rfl)) (pss_cons (ps_setLc (i := 5) (own := [("k", 6)]) (g := gName 6) (tt := tYes) rfl sc_law_handed.nd rfl rfl (sw_true rfl rfl rfl (by decide +kernel)) (pi_range1 (by rfl) n_range (pa_cons (pe_callB (LX.k_len (K := K)) (by rfl) n_len (by decide +kernel) (pa_cons (pe_ix (LX.k_ixl (K := K)) (pe_ix (LX.k_ixl (K := K)) (pv 1) (pv 4) (fun _ _ => rfl)) pe_int (fun _ _ => rfl)) pa_nil)) pa_nil)) (blkOk_by (N := law_handed_N) (sc := defScope s_law_handed) (by decide +kernel)) (fun _ _ _ _ _ => pg_name (i := 6) sc_law_handed.nd rfl (Or.inl rfl)) (fun _ _ _ _ _ => pts_nil) (fun _ _ _ _ _ => (LX.pe_f O__law_form hr (by decide) (pa_cons (pe_ix (LX.k_ixl (K := K)) (pe_ix (LX.k_ixl (K := K)) (pe_ix (LX.k_ixl (K := K)) (pv 1) (pv 4) (fun _ _ => rfl)) pe_int (fun _ _ => rfl)) (pv 6) (fun _ _ => rfl)) (pa_cons (pe_ix (LX.k_ixl (K := K)) (pv 2) (pe_op op_mod (pe_callTy call_int1 (by rfl) n_int (by decide +kernel) (pa_cons (pe_op op_add (pv 4) (pv 6)) pa_nil)) pe_int) (fun _ _ => rfl)) pa_nil)))))
        (pss_one (ps_expr (pe_bm PySem.F.plainAttrs_list PySem.F.slot_list_append PySem.F.type_list_append mt_append (pv 3) (pa_cons (LX.pe_f O__law_form hr (by decide) (pa_cons (pe_lst (pa_cons (pe_ix (LX.k_ixl (K := K)) (pv 0) (pv 4) (fun _ _ => rfl)) (pa_cons (pe_ix (LX.k_ixl (K := K)) (pe_ix (LX.k_ixl (K := K)) (pv 1) (pv 4) (fun _ _ => rfl)) pe_int (fun _ _ => rfl)) (pa_cons (LX.pe_f O__law_form hr (by decide) (pa_cons (pv 5) (pa_cons (pe_ix (LX.k_ixl (K := K)) (pv 2) (pe_op op_add pe_int (pe_op op_mod (pe_callTy call_int1 (by rfl) n_int (by decide +kernel) (pa_cons (pv 4) pa_nil)) pe_int)) (fun _ _ => rfl)) pa_nil))) pa_nil)))) (pa_cons (pe_ix (LX.k_ixl (K := K)) (pv 2) (pe_op op_add pe_int (pe_op op_mod (pe_callTy call_int1 (by rfl) n_int (by decide +kernel) (pa_cons (pv 4) pa_nil)) pe_int)) (fun _ _ => rfl)) pa_nil))) pa_nil))))))
        (pss_one (ps_ret (LX.pe_f O__law_form hr (by decide) (pa_cons (pv 3) (pa_cons (pe_ix (LX.k_ixl (K := K)) (pv 2) pe_int (fun _ _ => rfl)) pa_nil))))))), ?_⟩
  refine x_asgL (X := H) (B := B) (xs := []) (el_lst ea_nil (by decide)) (fun p hpB hpH => ?_) H e (Ex.refl H)
  refine x_for (F := B) (Ex.new hpB) (ei_rng1 (n := (ns.length : Int)) (ea_cons (ev_is (ev_len (ev_var rfl) (sq_of hA)) (by rw [List.length_map])) ea_nil) (by omega)) (fun F' ys i σ' B' => ∃ (y4 y5 y6 : Option V) (Bs : Hp) (es : List V), σ' = [some (V.ref a), some (.ref b), some (.ref c), some (.ref p), y4, y5, y6] ∧ B' = upd Bs p (.lst es) ∧ Bs p = none ∧ Gr H F' Bs ∧ A2 (EntP K B) ((List.range i).map fun j => entDt fl j (ns.getD j "") (gs.getD j (0, []))) es Bs) (fun F' ys g hy av => ?_) (fun F' ys i σ' B' h => ?_) (fun F' ys i xx σ' B' g hy hxi h => ?_) (fun F' ys σ' B' g hy h => ?_)
  · have hF : F' p = none := av p hpB (by rw [upd_same]; exact Option.some_ne_none _)
    exact ⟨none, none, none, F', [], rfl, mrg_upd g.ex hF, hF, Gr.refl _ _, a2_nil⟩
  · obtain ⟨y4, y5, y6, Bs, es, rfl, rfl, hp, gs', tb⟩ := h
    exact gs'.ex.trans (Ex.new hp)
  · obtain ⟨y4, y5, y6, Bs, es, rfl, rfl, hp, gF, tb⟩ := h
    rw [hy] at hxi
    obtain ⟨rfl, hi⟩ := rng_get hxi
    rw [Int.toNat_natCast] at hi
    obtain ⟨n, hn⟩ : ∃ n, ns[i]? = some n := ⟨_, List.getElem?_eq_getElem hi⟩
    obtain ⟨gv, hgv⟩ : ∃ gv, gs[i]? = some gv := ⟨_, List.getElem?_eq_getElem (by omega)⟩
    obtain ⟨tv, htv⟩ : ∃ tv, ts[i]? = some tv := ⟨_, List.getElem?_eq_getElem (by rw [hG.1]; omega)⟩
    obtain ⟨pg, lg, gy, rfl, hg1, hg2, hg3⟩ := hG.2 i tv gv htv hgv
    have hnD : ns.getD i "" = n := by rw [List.getD_eq_getElem?_getD, hn]; rfl
    have hgD : gs.getD i (0, []) = gv := by rw [List.getD_eq_getElem?_getD, hgv]; rfl
    obtain ⟨ar, R⟩ := gv
    obtain ⟨ha1, ha3, hRok, hRl⟩ := hok _ (List.mem_of_getElem? hgv)
    have ha1 : 1 ≤ ar := ha1
    have ha3 : ar ≤ 3 := ha3
    have hRl : R.length ≤ 31 := hRl
    have hRok : ∀ r ∈ R, (r.length : Int) = ar ∧ TS.Bd big r := hRok
    have hg1 : B pg = some (.lst [.int ar, .ref lg]) := hg1
    have hg3 : A2 (IsTI K) R gy B := hg3
    have eBs : Ex B Bs := g.ex.trans gF.ex
    have eBm : Ex B (upd Bs p (.lst es)) := eBs.trans (Ex.new hp)
    have tabj : ∀ {σ : L2.St} {B3 : Hp}, σ[1]? = some (some (V.ref b)) → σ[4]? = some (some (.int (i : Int))) → Ex B B3 → Ev (tOp (rIxL K) (tVar 1) (tVar 4)) σ B3 (.ref pg) := fun {σ B3} h1 h4 e3 => ev_op (ev_var h1) (ev_var h4) (rv_ixL (sq_of (e3 _ _ hB)) (atI_get htv))
    have tab0 : ∀ {σ : L2.St} {B3 : Hp}, σ[1]? = some (some (V.ref b)) → σ[4]? = some (some (.int (i : Int))) → Ex B B3 → Ev (tOp (rIxL K) (tOp (rIxL K) (tVar 1) (tVar 4)) (tC (.int 0))) σ B3 (.int ar) := fun {σ B3} h1 h4 e3 => ev_op (tabj h1 h4 e3) ev_c (rv_ixL (sq_of (e3 _ _ hg1)) (atI_nat (j := 0) rfl))
    have tab1 : ∀ {σ : L2.St} {B3 : Hp}, σ[1]? = some (some (V.ref b)) → σ[4]? = some (some (.int (i : Int))) → Ex B B3 → Ev (tOp (rIxL K) (tOp (rIxL K) (tVar 1) (tVar 4)) (tC (.int 1))) σ B3 (.ref lg) := fun {σ B3} h1 h4 e3 => ev_op (tabj h1 h4 e3) ev_c (rv_ixL (sq_of (e3 _ _ hg1)) (atI_nat (j := 1) rfl))
    have hesl : es.length = i := by rw [tb.1, List.length_map, List.length_range]
    -- given
    refine x_asgO (P := fun z B' => ∃ (q : Addr) (ys : List V), z = .ref q ∧ B' q = some (.lst ys) ∧ A2 (RowP K B) (rowsDt fl i R) ys B') hp (er_lc1 (Pd := RowP K B) (xs := rngV 0 R.length) (ds := rowsDt fl i R) (fun _ => inferInstance) (ei_rng1 (n := (R.length : Int)) (ea_cons (ev_is (ev_len (tab1 rfl rfl eBs) (sq_of (eBs _ _ hg2))) (by rw [hg3.1])) ea_nil) (by omega)) (by rw [rngV_len]; omega) (by unfold rowsDt; rw [rngV_len, List.length_map, List.length_range]) (fun _ => rfl) (fun k x B' d e1 hx hd => ?_)) fun z B2 g2 hp2 ⟨pv, ys2, hz, hpv, hys2⟩ => ?_
    · obtain ⟨rfl, hk⟩ := rng_get hx
      unfold rowsDt at hd
      rw [List.getElem?_map, List.getElem?_range hk] at hd
      have hd := Option.some.inj hd
      subst hd
      obtain ⟨r, hr⟩ : ∃ r, R[k]? = some r := ⟨_, List.getElem?_eq_getElem hk⟩
      obtain ⟨yv, hyv⟩ : ∃ yv, gy[k]? = some yv := ⟨_, List.getElem?_eq_getElem (by rw [hg3.1]; exact hk)⟩
      obtain ⟨pr, rfl, hpr⟩ := hg3.2 k yv r hyv hr
      have hrD : R.getD k [] = r := by rw [List.getD_eq_getElem?_getD, hr]; rfl
      have eB' := eBs.trans e1
      have e7 : ((i : Int) + (k : Int)) % 7 = (((i + k) % 7 : Nat) : Int) := by omega
      refine EvR.imp (er_callB (Dd := dForm K) (Pz := FormAt K B' (fl.getD ((i + k) % 7) 0) (r.map V.int)) (ea_cons (ev_op (tab1 rfl rfl eB') (ev_var rfl) (rv_ixL (sq_of (eB' _ _ hg2)) (atI_get hyv))) (ea_cons (ev_dg (k := (i + k) % 7) (ev_var rfl) (ex_l eB' hC) (ev_is (ev_op (ev_int (ev_op (ev_var rfl) (ev_var rfl) rv_I0)) ev_c (rv_mod (by decide))) (congrArg V.int e7)) (by omega)) ea_nil)) ⟨pr, _, _, rfl, .inr (ex_t eB' hpr), rfl⟩) fun z B'' e2 hz => ?_
      obtain ⟨hrl, _⟩ := hRok r (List.mem_of_getElem? hr)
      refine ⟨?_, ?_⟩
      · unfold rowDt
        show Dp K B'' z (formD _ ((R.getD k []).map PyData.int))
        rw [hrD]
        exact hz.dp (dp_ints r)
      · obtain ⟨q', rfl, hq⟩ := hz.sqo eB'
        match r, hrl, hq with
        | m :: ms, _, hq => exact ⟨q', m, ms, rfl, hq⟩
        | [], hrl, _ => exact absurd hrl (by rw [List.length_nil]; omega)
    subst hz
    have e2B : Ex B B2 := eBs.trans g2.ex
    have hys2l : ys2.length ≤ 100 := by rw [hys2.1]; unfold rowsDt; rw [List.length_map, List.length_range]; omega
    have hidx : ∀ {m : Nat}, (m : Int) + (i : Int) % 12 = ((m + i : Nat) : Int) := fun {m} => by omega
    refine x_last (x_appO (P := EntP K B (entDt fl i n (ar, R))) inferInstance hp2 hpH (ev_var rfl) ?_ (by omega) fun z B3 g3 hp3 hz => ?_)
    · have hgiv : ∀ {tx : TE}, Ev tx [some (V.ref a), some (.ref b), some (.ref c), some (.ref p), some (.int (i : Int)), some (.ref pv), y6] B2 (.int ((7 + i : Nat) : Int)) → EvR (tCall (spR (dForm K)) [] E0 (tCons (tVar 5) (tCons (tOp (rIxL K) (tVar 2) tx) tNil))) [some (V.ref a), some (.ref b), some (.ref c), some (.ref p), some (.int (i : Int)), some (.ref pv), y6] B2 (GivP K B (formD (fl.getD (7 + i) 0) (rowsDt fl i R))) := fun {tx} hx => EvR.imp (er_callB (Dd := dForm K) (Pz := FormAt K B2 (fl.getD (7 + i) 0) ys2) (ea_cons (ev_var rfl) (ea_cons (ev_dg (k := 7 + i) (ev_var rfl) (ex_l e2B hC) hx (by omega)) ea_nil)) ⟨pv, _, _, rfl, .inl (sq_of hpv), rfl⟩) fun z B' e3 hz => by
        refine ⟨hz.dp (dps_ex e3 (a2_dps (fun d y B h => h.1) hys2)), ?_⟩
        obtain ⟨g, rfl, hq⟩ := hz.sqo e2B
        refine ⟨g, rfl, ys2, hq, hys2l, fun y hy => ?_⟩
        obtain ⟨d, _, _, h⟩ := a2_mem hys2 hy
        exact h.mo e3
      have hlst : ∀ {tx : TE}, Ev tx [some (V.ref a), some (.ref b), some (.ref c), some (.ref p), some (.int (i : Int)), some (.ref pv), y6] B2 (.int ((7 + i : Nat) : Int)) → EvR (tLst (tCons (tOp (rIxL K) (tVar 0) (tVar 4)) (tCons (tOp (rIxL K) (tOp (rIxL K) (tVar 1) (tVar 4)) (tC (.int 0))) (tCons (tCall (spR (dForm K)) [] E0 (tCons (tVar 5) (tCons (tOp (rIxL K) (tVar 2) tx) tNil))) tNil)))) [some (V.ref a), some (.ref b), some (.ref c), some (.ref p), some (.int (i : Int)), some (.ref pv), y6] B2 (IsLA (EntA K B n ar (formD (fl.getD (7 + i) 0) (rowsDt fl i R)))) := fun {tx} hx => er_lstA inferInstance (EvAR.imp (ear inferInstance (eR_v (v := .str n) (ev_op (ev_var rfl) (ev_var rfl) (rv_ixL (sq_of (e2B _ _ hA)) (atI_get (by rw [List.getElem?_map, hn]; rfl))))) (ear inferInstance (eR_v (v := .int ar) (tab0 rfl rfl e2B)) (ear inferInstance (hgiv hx) ear_nil))) fun us B' _ ⟨u1, r1, h1, h2, u2, r2, h3, h4, u3, r3, h5, h6, h7⟩ => by
        have h2 : u1 = .str n := h2
        have h4 : u2 = .int ar := h4
        subst h7 h5 h4 h3 h2 h1
        exact ⟨u3, rfl, h6⟩) fun us B' ⟨u, h, _⟩ => by rw [h]; show (3 : Nat) ≤ 100000; decide
      refine er_callP (Pa := fun vs B' => ∃ z1 r, vs = z1 :: r ∧ IsLA (EntA K B n ar (formD (fl.getD (7 + i) 0) (rowsDt fl i R))) z1 B' ∧ ∃ z2 r2, r = z2 :: r2 ∧ IsV (.int (fl.getD (19 + i) 0)) z2 B' ∧ r2 = []) (ear inferInstance (hlst (ev_is (ev_op ev_c (ev_op (ev_int (ev_var rfl)) ev_c (rv_mod (by decide))) rv_I0) (congrArg V.int (hidx (m := 7))))) (ear inferInstance (eR_v (ev_dg (k := 19 + i) (ev_var rfl) (ex_l e2B hC) (ev_is (ev_op ev_c (ev_op (ev_int (ev_var rfl)) ev_c (rv_mod (by decide))) rv_I0) (congrArg V.int (hidx (m := 19)))) (by omega))) ear_nil)) ?_
      · rintro vs B' e3 ⟨z1, r, rfl, ⟨q', us, rfl, hq', u3, rfl, hu3⟩, z2, r2', rfl, hz2, rfl⟩
        have hz2 : z2 = .int (fl.getD (19 + i) 0) := hz2
        subst hz2
        refine ⟨FormAt K B' (fl.getD (19 + i) 0) [.str n, .int ar, u3], ⟨q', _, _, rfl, .inl (sq_of hq'), rfl⟩, fun z B'' e4 hz => ?_⟩
        refine ⟨hz.dp (.cons (.str n) (.cons (.int ar) (.cons (dp_ex e4 hu3.1) .nil))), ?_⟩
        obtain ⟨q2, rfl, hq2⟩ := hz.sqo (e2B.trans e3)
        obtain ⟨_, g, rfl, hg⟩ := hu3
        exact ⟨q2, n, ar, g, rfl, hq2, ha1, ha3, hg.mo e4⟩
    · refine x_nx rfl ⟨_, _, _, B3, _, rfl, rfl, hp3, (gF.trans g2).trans g3, ?_⟩
      rw [List.range_succ, List.map_append]
      have := (A2.mono (fun _ => inferInstance) (g2.ex.trans g3.ex) tb).snoc hz
      rw [← hnD, ← hgD] at this
      exact this
  · obtain ⟨y4, y5, y6, Bs, es, rfl, rfl, hp, gF, tb⟩ := h
    have hyl : ys.length = ns.length := by rw [hy, rngV_len, Int.toNat_natCast]
    rw [hyl] at tb
    have eBs : Ex B Bs := g.ex.trans gF.ex
    have eBm : Ex B (upd Bs p (.lst es)) := eBs.trans (Ex.new hp)
    refine x_ret (P := fun z B' => ∃ hd, z = .ref hd ∧ Dp K B' z (handedDt fl ns gs) ∧ Nest K B 100 hd B') (EvR.imp (er_callB (Dd := dForm K) (Pz := FormAt K (upd Bs p (.lst es)) (fl.getD 31 0) es) (ea_cons (ev_var rfl) (ea_cons (ev_dg (k := 31) (ev_var rfl) (ex_l eBm hC) ev_c (by omega)) ea_nil)) ⟨p, _, _, rfl, .inl (sq_of upd_same), rfl⟩) fun z B' e2 hz => ?_) (fun z' B' H' g2 hz e1 e2 => q z' H' B' e2 (((g.trans gF).trans (gr_new hp hpH)).trans g2) e1 hz)
    have hdp := hz.dp (dps_ex ((Ex.new hp).trans e2) (a2_dps (fun d y B h => h.1) tb))
    have hesl : es.length ≤ 12 := by rw [tb.1, List.length_map, List.length_range]; exact hnl
    have hents : ∀ v ∈ es, EntT K B 100 v Bs := fun v hv => by
      obtain ⟨d, _, _, h⟩ := a2_mem tb hv
      exact h
    obtain ⟨hd, rfl, hq⟩ := hz
    refine ⟨hd, rfl, hdp, ?_⟩
    split at hq
    · obtain ⟨q1, q2⟩ := hq
      have hBh : Bs hd = none := none_of (Ex.new hp) q2
      refine ⟨es, upd B hd (.lst []), fun a ha => ?_, .inl ⟨q1, none_of eBm q2, by rw [upd_same]; exact Option.some_ne_none _⟩, hesl, fun v hv => ((hents v hv).to fun a _ ha hb => ?_).mo ((Ex.new hp).trans e2)⟩
      · by_cases c : a = hd
        · subst c; rw [upd_same] at ha; exact nomatch ha
        · rw [upd_ne c] at ha; exact ha
      · rw [upd_ne fun c => by subst c; rw [hBh] at hb; exact nomatch hb]
        exact ha
    · exact ⟨es, B, fun _ h => h, .inr hq, hesl, fun v hv => (hents v hv).mo ((Ex.new hp).trans e2)⟩
end Kx
namespace Kx
open PySem PySem.Spec PyProof.Rows L2 Evl LX T XV RX WS
variable {P : Program} {w : World} {K : PySem.W.Frag} {mg : Str → Option Value} {base : Heap}
/-! ### _law_is_truth -/
def dTruth : List V → Hp → (V → Hp → Prop) → Prop := fun vs B Pz => ∃ a b : Bool, vs = [.bl a, .bl b] ∧ Pz = IsV (.bl (decide (a = b)))
theorem rv_isB {B : Hp} {a b : Bool} : RV rIsB (.bl a) (.bl b) B (.bl (decide (a = b))) := fun H1 e Q k => ⟨a, b, rfl, rfl, k H1 (Ex.refl _)⟩
abbrev law_is_truth_N : List Str := ["actual", "due"]
abbrev law_is_truth_P : List Str := ["actual", "due"]
theorem sc_law_is_truth : FnScope ["actual", "due"] ["actual", "due"] (defScope s_law_is_truth) := ⟨rfl, rfl, rfl, by decide +kernel, rfl, by decide +kernel, by decide +kernel⟩
theorem ok_truth (T : TX K mg) : OkF P w K mg base 1 "_law_is_truth" ["actual", "due"] (spR dTruth) := by
  refine T.okF 35 rfl (by decide +kernel) (fun f fd F => ?_) (fun _ _ _ _ _ _ us hl => match us, hl with | [_, _], _ => rfl)
  refine F.ok sc_law_is_truth (fun vs H Q E h => spR_len h (by rintro B Pz ⟨a, b, rfl, _⟩; rfl)) (fun cdv A outer s H vs Q E hr ⟨B, Pz, e, ⟨a, b, hvs, hP⟩, q⟩ => ?_)
  subst hvs hP
  refine ⟨_, (pss_cons (ps_if (pt_val (pv 1)) (pss_one (ps_ret (pe_cmpR op_isBl (pv 0) pe_bl (nomark _)))) pss_nil)
        (pss_one (ps_ret (pe_cmpR op_isBl (pv 0) pe_bl (nomark _))))), ?_⟩
  refine x_when (X := H) (B := B) (b := b) (et_B (ev_var rfl)) (fun hb => ?_) (fun hb => ?_) H e (Ex.refl H)
  · subst hb
    exact x_ret (eR_v (v := .bl (decide (a = true))) (ev_op (ev_var rfl) ev_c rv_isB)) (fun z B' H' g p e1 e2 => q z H' B' e2 g e1 p)
  · subst hb
    exact x_last (x_ret (eR_v (v := .bl (decide (a = false))) (ev_op (ev_var rfl) ev_c rv_isB)) (fun z B' H' g p e1 e2 => q z H' B' e2 g e1 p))
theorem ev_truth {σ : L2.St} {B : Hp} {ta tb : TE} {a b : Bool} (h1 : Ev ta σ B (.bl a)) (h2 : Ev tb σ B (.bl b)) : Ev (tCall (spR dTruth) [] E0 (tCons ta (tCons tb tNil))) σ B (.bl (decide (a = b))) :=
  (er_callV (P := IsV _) (ea_cons h1 (ea_cons h2 ea_nil)) ⟨a, b, rfl, rfl⟩ fun B' e => ⟨a, b, rfl, rfl⟩).val
/-! ### _law_with_row -/
def newRows (which : Int) (R : List (List Int)) (row : List Int) : List (List Int) := if which = 0 then R ++ [row] else R.filter fun q => decide (q ≠ row)
def dWR (K : PySem.W.Frag) : List V → Hp → (V → Hp → Prop) → Prop := fun vs B Pz => ∃ (m b : Addr) (size : Int) (rels : List Rel) (kvs : List (Key × V)) (n : Str) (row : List Int) (which : Int), vs = [.ref m, .str n, .ref b, .int which] ∧ B m = some (.dK kvs) ∧ MTab K rels kvs B ∧ RelsInv size rels ∧ n ∈ rels.map Rel.name ∧ SqT K B b (row.map V.int) ∧ (row.length : Int) = arIn rels n ∧ TS.Bd size row ∧ (∀ r ∈ rels, r.rows.length ≤ 62) ∧
  Pz = fun z B' => ∃ p kvs', z = .ref p ∧ B' p = some (.dK kvs') ∧ MTab K (setR n (AS.ascR size (newRows which (rowsIn rels n) row)) rels) kvs' B'
theorem putK_pos {kvs : List (Key × V)} {k : Key} {z v : V} : putK ((k, v) :: kvs) k z = (k, z) :: kvs.map fun kv => if kv.1 = k then (kv.1, z) else kv := by
  unfold putK
  rw [if_pos (by simp)]
  simp
theorem putK_neg {kvs : List (Key × V)} {k : Key} {z : V} {p : Key × V} (h : ¬ p.1 = k) : putK (p :: kvs) k z = p :: putK kvs k z := by
  unfold putK
  by_cases c : (kvs.any fun kv => decide (kv.1 = k)) = true
  · rw [if_pos c, if_pos (by rw [List.any_cons, c, Bool.or_true]), List.map_cons, if_neg h]
  · rw [if_neg c, if_neg (by rw [List.any_cons, decide_eq_false h, Bool.false_or]; exact c)]
    rfl
theorem MTab.set {B : Hp} {n : Str} {R : List (List Int)} {z : V} : ∀ {rels : List Rel} {kvs : List (Key × V)}, (rels.map Rel.name).Nodup → MTab K rels kvs B → n ∈ rels.map Rel.name → (∀ r ∈ rels, r.name = n → MEnt K ⟨n, r.ar, R⟩ z B) → MTab K (setR n R rels) (putK kvs (Sum.inr n) z) B
  | [], _, _, _, h, _ => nomatch h
  | r :: rels, [], _, h, _, _ => by
    have := congrArg List.length h.1
    simp at this
  | r :: rels, p :: kvs, nd, h, hn, hz => by
    have h0 := h.1
    rw [List.map_cons, List.map_cons] at h0
    obtain ⟨hk, hk2⟩ := List.cons.inj h0
    have ht : MTab K rels kvs B := ⟨hk2, fun i q r' a b => h.2 (i + 1) q r' a b⟩
    rw [List.map_cons, List.nodup_cons] at nd
    obtain ⟨pk, pv⟩ := p
    have hk : pk = Sum.inr r.name := hk
    by_cases c : r.name = n
    · have hnot : ∀ r' ∈ rels, r'.name ≠ n := fun r' hr' e => nd.1 (by rw [c, ← e]; exact List.mem_map_of_mem hr')
      have e1 : setR n R (r :: rels) = ⟨n, r.ar, R⟩ :: rels := by
        show setF n R r :: setR n R rels = _
        have e2 : setR n R rels = rels := by
          unfold setR
          refine (List.map_congr_left fun r' hr' => ?_).trans (List.map_id rels)
          show setF n R r' = r'
          unfold setF
          rw [if_neg (hnot r' hr')]
        rw [e2]
        unfold setF
        rw [if_pos c]
      have e3 : (kvs.map fun kv => if kv.1 = (Sum.inr n : Key) then (kv.1, z) else kv) = kvs := by
        refine (List.map_congr_left fun kv hkv => ?_).trans (List.map_id kvs)
        have : kv.1 ∈ rels.map fun r => (Sum.inr r.name : Key) := by rw [← hk2]; exact List.mem_map_of_mem hkv
        obtain ⟨r', hr', e⟩ := List.mem_map.mp this
        rw [if_neg fun e2 => hnot r' hr' (Sum.inr.inj (e.trans e2))]
        rfl
      subst hk
      rw [c, e1, putK_pos, e3]
      refine ⟨by rw [List.map_cons, List.map_cons, hk2], fun i q r' a b => ?_⟩
      cases i with
      | zero => cases a; cases b; exact hz r List.mem_cons_self c
      | succ i => exact ht.2 i q r' a b
    · have e1 : setR n R (r :: rels) = r :: setR n R rels := by
        show setF n R r :: setR n R rels = _
        unfold setF
        rw [if_neg c]
      subst hk
      rw [e1, putK_neg (fun e => c (Sum.inr.inj e))]
      have hn' : n ∈ rels.map Rel.name := by
        rw [List.map_cons, List.mem_cons] at hn
        exact hn.resolve_left fun e => c e.symm
      have ih := MTab.set nd.2 ht hn' fun r' hr' => hz r' (List.mem_cons_of_mem _ hr')
      refine ⟨by rw [List.map_cons, List.map_cons, ih.1], fun i q r' a b => ?_⟩
      cases i with
      | zero => cases a; cases b; exact h.2 0 _ _ rfl rfl
      | succ i => exact ih.2 i q r' a b
theorem MTab.keys_nd {B : Hp} {rels : List Rel} {kvs : List (Key × V)} (h : MTab K rels kvs B) (nd : (rels.map Rel.name).Nodup) : (kvs.map (·.1)).Nodup := by
  have e : (rels.map fun r => (Sum.inr r.name : Key)) = (rels.map Rel.name).map Sum.inr := by rw [List.map_map]; rfl
  rw [h.1, e]
  exact List.Pairwise.map _ (fun a b hab e => hab (Sum.inr.inj e)) nd
end Kx
namespace Kx
open PySem PySem.Spec PyProof.Rows L2 Evl LX T XV RX WS
variable {P : Program} {w : World} {K : PySem.W.Frag} {mg : Str → Option Value} {base : Heap}
theorem valV_at : ∀ {kvs : List (Key × V)} {i : Nat} {kv : Key × V}, (kvs.map (·.1)).Nodup → kvs[i]? = some kv → valV kvs kv.1 = some kv.2
  | [], _, _, _, h => nomatch h
  | (k, v) :: kvs, 0, kv, _, h => by
    have h : (k, v) = kv := Option.some.inj h
    subst h
    exact valV_pos rfl
  | (k, v) :: kvs, i + 1, kv, nd, h => by
    rw [List.map_cons, List.nodup_cons] at nd
    have hm : kv ∈ kvs := List.mem_of_getElem? h
    rw [valV_neg (fun c : k = kv.1 => nd.1 (by rw [c]; exact List.mem_map.mpr ⟨kv, hm, rfl⟩))]
    exact valV_at (i := i) nd.2 h
theorem x_appV {σ : L2.St} {X B : Hp} {D : Ends} {tz : TS} {ta te : TE} {l : Addr} {xs : List V} {v : V} (hl : B l = some (.lst xs)) (hX : X l = none) (ha : Ev ta σ B (.ref l)) (h : Ev te σ (RX.del B l) v) (hz : xs.length < 100000) (k : Sx X tz D σ (upd B l (.lst (xs ++ [v])))) : Sx X (tSeq (tDrop (tBM K "list" rAppend ta (tCons te tNil))) tz) D σ B :=
  x_app inferInstance hl hX ha (eR_v h) hz fun z B' g h1 hz => by
    have hz : z = v := hz
    subst hz
    refine k.mono fun a o ha => ?_
    by_cases c : a = l
    · subst c; rw [upd_same] at ha ⊢; exact ha
    · rw [upd_ne c] at ha ⊢
      exact g.ex a o (by rw [RX.del_ne c]; exact ha)
def IsRows (K : PySem.W.Frag) (R : List (List Int)) : V → Hp → Prop := fun z B => ∃ q ys, z = .ref q ∧ B q = some (.lst ys) ∧ RowsAt K R ys B
instance {R : List (List Int)} : Mo (IsRows K R) := ⟨fun e ⟨q, ys, a, b, c⟩ => ⟨q, ys, a, e _ _ b, MoA.mo e c⟩⟩
abbrev law_with_row_N : List Str := ["model", "text", "row", "which", "due", "word", "kept", "one"]
abbrev law_with_row_P : List Str := ["model", "text", "row", "which"]
theorem sc_law_with_row : FnScope ["model", "text", "row", "which", "due", "word", "kept", "one"] ["model", "text", "row", "which"] (defScope s_law_with_row) := ⟨rfl, rfl, rfl, by decide +kernel, rfl, by decide +kernel, by decide +kernel⟩
theorem ok_wr (T : TX K mg) : OkF P w K mg base 1 "_law_with_row" ["model", "text", "row", "which"] (spR (dWR K)) := by
  have n_sorted := T.n "sorted" (by decide +kernel)
  refine T.okF 36 rfl (by decide +kernel) (fun f fd F => ?_) (fun _ _ _ _ _ _ us hl => match us, hl with | [_, _, _, _], _ => rfl)
  refine F.ok sc_law_with_row (fun vs H Q E h => spR_len h (by rintro B Pz ⟨m, b, s, r, k, n, row, wh, rfl, _⟩; rfl)) (fun cdv A outer s H vs Q E hr ⟨B, Pz, e, ⟨m, b, size, rels, kvs, n, row, which, hvs, hm, hT, hI, hn, hb, hlr, hbd, hall, hP⟩, q⟩ => ?_)
  subst hvs hP
  refine ⟨_, (pss_cons (ps_set (i := 4) sc_law_with_row.nd rfl (.inl rfl) pe_dnewK)
        (pss_cons (ps_lock (ps_for PassesOwn.never rfl (pi_keys (pv 0)) (pg_name (i := 5) sc_law_with_row.nd rfl (.inl rfl)) (pss_one (ps_dput (LX.u1 hr) (pv 4) (pv 5) (pe_dget (LX.u1 hr) (pv 0) (pv 5) (fun _ _ => rfl)) rfl))))
        (pss_cons (ps_setLc (i := 6) (own := [("one", 7)]) (g := gName 7) rfl sc_law_with_row.nd rfl rfl (sw_true rfl rfl rfl (by decide +kernel)) (RX.k_pil (K := K) (pe_ix (LX.k_ixl (K := K)) (pe_dget (LX.u1 hr) (pv 0) (pv 1) (fun _ _ => rfl)) pe_int (fun _ _ => rfl))) (blkOk_by (N := law_with_row_N) (sc := defScope s_law_with_row) (by decide +kernel)) (fun _ _ _ _ _ => pg_name (i := 7) sc_law_with_row.nd rfl (Or.inl rfl)) (fun _ _ _ _ _ => pts_one (pt_cmpR (LX.k_neD (K := K) hr.units) (pv 7) (pv 2) (nomark _))) (fun _ _ _ _ _ => (pv 7)))
        (pss_cons (ps_if (pt_cmpR op_eq (pv 3) pe_int (nomark _)) (pss_one (ps_expr (pe_bm PySem.F.plainAttrs_list PySem.F.slot_list_append PySem.F.type_list_append mt_append (pv 6) (pa_cons (pv 2) pa_nil)))) pss_nil)
        (pss_cons (ps_dput (LX.u1 hr) (pv 4) (pv 1) (pe_lst (pa_cons (pe_ix (LX.k_ixl (K := K)) (pe_dget (LX.u1 hr) (pv 0) (pv 1) (fun _ _ => rfl)) pe_int (fun _ _ => rfl)) (pa_cons (pe_callB (RX.k_sortRE (K := K)) (by rfl) n_sorted (by decide +kernel) (pa_cons (pv 6) pa_nil)) pa_nil))) rfl)
        (pss_one (ps_ret (pv 4)))))))), ?_⟩
  obtain ⟨r, hr0, hrn, hro, hra, hrw⟩ := hI.at hn
  have hkn := hT.keys_nd hI.nd
  have hkl : kvs.length ≤ 12 := by
    have h1 := congrArg List.length hT.1
    rw [List.length_map, List.length_map] at h1
    have := hI.few
    omega
  refine x_asgD (X := H) (B := B) (fun p hpB hpH => ?_) H e (Ex.refl H)
  have hmp : m ≠ p := fun c => by subst c; rw [hpB] at hm; exact nomatch hm
  have hHm : H m = some (.dK kvs) := e _ _ hm
  refine x_lock (d := m) (u := .dK kvs) (by rw [upd_ne hmp]; exact hm) trivial fun od => ?_
  rw [RX.upd_comm (a := p) (b := m) (Ne.symm hmp)]
  have hFm : (upd B m (.frz od (.dK kvs))) m = some (.frz od (.dK kvs)) := upd_same
  have hFp : (upd B m (.frz od (.dK kvs))) p = none := by rw [upd_ne hmp.symm]; exact hpB
  have hHp' : RX.del H m p = none := by rw [RX.del_ne hmp.symm]; exact hpH
  refine x_last (x_for (F := upd B m (.frz od (.dK kvs))) (Ex.new hFp) (ei_keys (ev_var rfl) hFm) (fun F' ys i σ' B' => ∃ (y5 : Option V) (Bs : Hp), σ' = [some (V.ref m), some (.str n), some (.ref b), some (.int which), some (.ref p), y5, none, none] ∧ B' = upd Bs p (.dK (kvs.take i)) ∧ Bs p = none ∧ Gr (RX.del H m) F' Bs) (fun F' ys g hy av => ?_) (fun F' ys i σ' B' h => ?_) (fun F' ys i xx σ' B' g hy hxi h => ?_) (fun F' ys σ' B' g hy h => ?_))
  · have hF : F' p = none := av p hFp (by rw [upd_same]; exact Option.some_ne_none _)
    exact ⟨none, F', rfl, mrg_upd g.ex hF, hF, Gr.refl _ _⟩
  · obtain ⟨y5, Bs, rfl, rfl, hp', gs⟩ := h
    exact gs.ex.trans (Ex.new hp')
  · obtain ⟨y5, Bs, rfl, rfl, hp', gF⟩ := h
    rw [hy, List.getElem?_map] at hxi
    obtain ⟨kv, hkv, hxk⟩ : ∃ kv, kvs[i]? = some kv ∧ xx = kV kv.1 := by
      cases hq : kvs[i]? with
      | none => rw [hq] at hxi; exact nomatch hxi
      | some kv => rw [hq] at hxi; exact ⟨kv, rfl, (Option.some.inj hxi).symm⟩
    have hkm : kv.1 ∈ rels.map fun r => (Sum.inr r.name : Key) := by rw [← hT.1]; exact List.mem_map_of_mem (List.mem_of_getElem? hkv)
    obtain ⟨r1, hr1, hk1⟩ := List.mem_map.mp hkm
    have hxo : xx = .str r1.name := by rw [hxk, ← hk1]; rfl
    subst hxo
    have hBsm : Bs m = some (.frz od (.dK kvs)) := gF.ex _ _ (g.ex _ _ hFm)
    have hval : valV kvs (Sum.inr r1.name) = some kv.2 := by rw [hk1]; exact valV_at hkn hkv
    have hnone : valV (kvs.take i) (Sum.inr r1.name) = none := by rw [hk1]; exact valV_no (nodup_take hkn hkv)
    refine x_last (x_dput (l := p) (s := r1.name) (Pe := IsV kv.2) upd_same hHp' (ev_var rfl) (ev_var rfl) (by rw [del_upd hp']; exact eR_v (ev_dgetF (ev_var rfl) (ev_var rfl) hBsm hval)) (by rw [List.length_take]; omega) fun z B9 g9 hp9 hz => ?_)
    have hz : z = kv.2 := hz
    subst hz
    rw [del_upd hp'] at g9
    rw [putK_new _ hnone]
    refine x_nx rfl ⟨_, B9, rfl, ?_, hp9, gF.trans g9⟩
    rw [take_snoc hkv, hk1]
  · obtain ⟨y5, Bs, rfl, rfl, hp', gF⟩ := h
    rw [hy, List.length_map, List.take_length]
    have gAll : Gr (RX.del H m) (upd B m (.frz od (.dK kvs))) Bs := g.trans gF
    have hBsm : Bs m = some (.frz od (.dK kvs)) := gAll.ex _ _ hFm
    refine x_unlock (d := m) (u := .dK kvs) (od := od) (by rw [upd_ne hmp]; exact hBsm) (Or.inr hHm) ?_
    rw [RX.upd_comm (a := p) (b := m) (Ne.symm hmp)]
    have hB6p : (upd Bs m (.dK kvs)) p = none := by rw [upd_ne hmp.symm]; exact hp'
    have hB6m : (upd Bs m (.dK kvs)) m = some (.dK kvs) := upd_same
    have gB : Gr H B (upd Bs m (.dK kvs)) := ⟨fun a o ha => by
      by_cases c : a = m
      · subst c; rw [upd_same, ← ha, hm]
      · rw [upd_ne c]
        exact gAll.ex _ _ (by rw [upd_ne c]; exact ha), fun a ha hx => by
      have c : a ≠ m := fun c => by subst c; rw [hm] at ha; exact nomatch ha
      rw [upd_ne c]
      exact gAll.av a (by rw [upd_ne c]; exact ha) (by rw [RX.del_ne c]; exact hx)⟩
    generalize upd Bs m (.dK kvs) = B6 at hB6p hB6m gB
    clear gAll hBsm gF hp' g hy
    have hT6 := hT.mono gB.ex
    obtain ⟨r', v, hf, hv, t, qq, zs, rfl, ht, hq, hzs⟩ := hT6.get hn
    have hr' : r' = r := by
      have := find_self hI.nd hr0
      rw [hrn, hf] at this
      exact Option.some.inj this
    subst hr'
    have hRl : r'.rows.length ≤ 62 := hall r' hr0
    have hRok := hro.oks
    have hRnd : r'.rows.Nodup := by rw [← hro.asc]; exact asc_nodup (AS.ascR_asc hRok)
    have hrowok : AS.Ok size r'.ar.toNat row := ⟨by have := hlr.trans hra; omega, hbd⟩
    have har3 := hro.hi
    have har1 := hro.lo
    have hget : ∀ {i : Nat} {x : V}, zs[i]? = some x → ∃ r0, r'.rows[i]? = some r0 ∧ r'.rows.getD i [] = r0 ∧ IsTI K r0 x B6 := fun {i x} hx => by
      have hi : i < r'.rows.length := by rw [← hzs.1]; exact (List.getElem?_eq_some_iff.mp hx).1
      exact ⟨_, List.getElem?_eq_getElem hi, by rw [List.getD_eq_getElem?_getD, List.getElem?_eq_getElem hi]; rfl, hzs.2 i x _ hx (List.getElem?_eq_getElem hi)⟩
    refine x_asgO (P := fun z B' => ∃ pk ys, z = .ref pk ∧ B' pk = some (.lst ys) ∧ RowsAt K (r'.rows.filter fun q => decide (q ≠ row)) ys B' ∧ B6 pk = none) hB6p (EvR.imp (er_lcN (Pxs := fun ys _ => ys = zs) (fun _ i => decide (r'.rows.getD i [] ≠ row)) (fun _ i => IsTI K (r'.rows.getD i [])) (fun _ _ => inferInstance) moA_eq (ei_list (ev_op (ev_dget (ev_var rfl) (ev_var rfl) hB6m hv) ev_c (rv_ixL (sq_of ht) (atI_nat (j := 1) rfl))) (sq_of hq)) (fun _ => rfl) (fun xs B' h => by rw [h, hzs.1]; omega) (fun xs i y B' e2 hx hxi => ?_) (fun xs i y B' e2 hx hxi _ => ?_)) ?_) fun z B7 g7 hp7 hz => ?_
    · subst hx
      obtain ⟨r0, _, hg, b0, rfl, hb0⟩ := hget hxi
      rw [hg]
      exact et_test (ev_is (ev_op (ev_var rfl) (ev_var rfl) (rv_neT (ex_t e2 hb0) (ex_t (gB.ex.trans e2) hb))) (by simp))
    · subst hx
      obtain ⟨r0, _, hg, hti⟩ := hget hxi
      rw [hg]
      exact rVp (ev_var rfl) (Mo.mo e2 hti)
    · rintro z B' _ ⟨xs, p0, ys, hxs, rfl, hp0, htold, hp00⟩
      rw [hxs, hzs.1] at htold
      obtain ⟨hlen, hval⟩ := htold
      refine ⟨p0, ys, rfl, hp0, ?_, hp00⟩
      rw [← filt_get (p := fun q => decide (q ≠ row))]
      refine ⟨by rw [List.length_map]; exact hlen, fun k y r1 hy hr1 => ?_⟩
      rw [List.getElem?_map] at hr1
      cases hq : ((List.range r'.rows.length).filter fun i => decide (r'.rows.getD i [] ≠ row))[k]? with
      | none => rw [hq] at hr1; exact nomatch hr1
      | some i =>
        rw [hq] at hr1
        have hr1 := Option.some.inj hr1
        subst hr1
        exact hval k y i hy hq
    · obtain ⟨pk, ys1, rfl, hpk, hys1, hpk6⟩ := hz
      have hfl : (r'.rows.filter fun q => decide (q ≠ row)).length ≤ 62 := Nat.le_trans (List.length_filter_le _ _) hRl
      have gB7 : Gr H B B7 := gB.trans g7
      have hBpk : B pk = none := by
        cases c : B pk with
        | none => rfl
        | some o => rw [gB.ex _ _ c] at hpk6; exact nomatch hpk6
      have hHpk : H pk = none := by
        cases c : H pk with
        | none => rfl
        | some o => have := gB7.av pk hBpk (by rw [c]; exact Option.some_ne_none _); rw [this] at hpk; exact nomatch hpk
      have hpkp : pk ≠ p := fun c => by subst c; rw [hp7] at hpk; exact nomatch hpk
      have fin : ∀ {Bd : Hp} {ys : List V} {R' : List (List Int)} {D : Ends}, D.rt = Q → Bd p = none → Gr H B Bd → Bd pk = some (.lst ys) → RowsAt K R' ys Bd → R'.length ≤ 63 → R'.Nodup → (∀ x, x ∈ R' ↔ x ∈ newRows which r'.rows row) → (∀ x ∈ newRows which r'.rows row, AS.Ok size r'.ar.toNat x) →
          Sx H (tSeq (sDPut (tVar 4) (tVar 1) (tLst (tCons (tOp (rIxL K) (tDGet (tVar 0) (tVar 1)) (tC (.int 0))) (tCons (tCB (rSortRE K) (tCons (tVar 6) tNil)) tNil)))) (tRet (tVar 4))) D [some (V.ref m), some (.str n), some (.ref b), some (.int which), some (.ref p), y5, some (.ref pk), none] (upd Bd p (.dK kvs)) := fun {Bd ys R' D} hD hdp gBd hdk hR' hl' hnd' hmem hok => by
        subst hD
        have hTd := hT.mono gBd.ex
        obtain ⟨r2, v2, hf2, hv2, t2, q2, zs2, rfl, ht2, hq2, hzs2⟩ := hTd.get hn
        have hr2 : r2 = r' := by
          rw [hf2] at hf
          exact Option.some.inj hf
        subst hr2
        have hdm : Bd m = some (.dK kvs) := gBd.ex _ _ hm
        refine x_dput (l := p) (s := n) (Pe := MEnt K ⟨n, r2.ar, AS.ascR size (newRows which r2.rows row)⟩) upd_same hpH (ev_var rfl) (ev_var rfl) (by
          rw [del_upd hdp]
          refine EvR.imp (er_lstA (Pa := fun vs B' => ∃ z r, vs = z :: r ∧ IsV (.int r2.ar) z B' ∧ ∃ z2 r3, r = z2 :: r3 ∧ IsRows K (AS.ascR size (newRows which r2.rows row)) z2 B' ∧ r3 = []) inferInstance (ear inferInstance (eR_v (ev_op (ev_dget (ev_var rfl) (ev_var rfl) hdm hv2) ev_c (rv_ixL (sq_of ht2) (atI_nat (j := 0) rfl)))) (ear inferInstance (EvR.imp (er_sortRE (Bn := size) (d := r2.ar.toNat) (R := R') (ev_var rfl) (sq_of hdk) hR' (fun x hx => hok x ((hmem x).mp hx)) (by rw [hR'.1]; omega) (by omega) (by omega)) ?_) ear_nil)) ?_) ?_
          · rintro z B' _ ⟨ps, ys2, S, rfl, hps, hS, hSp, hSs⟩
            have : S = AS.ascR size (newRows which r2.rows row) := AS.ascR_of hok (hSp.nodup_iff.mpr hnd') hSs fun x => (hSp.mem_iff).trans (hmem x)
            subst this
            exact ⟨ps, ys2, rfl, hps, hS⟩
          · rintro vs B' ⟨_, _, rfl, _, _, _, rfl, _, rfl⟩
            show (2 : Nat) ≤ 100000
            decide
          · rintro z B' _ ⟨ps, us, rfl, hps, z1, r1, rfl, hz1, z2, r3, rfl, ⟨q3, ys3, rfl, hq3, hys3⟩, rfl⟩
            have hz1 : z1 = .int r2.ar := hz1
            subst hz1
            exact ⟨ps, q3, ys3, rfl, hps, hq3, hys3⟩) (by omega) fun z B9 g9 hp9 hz => ?_
        rw [del_upd hdp] at g9
        have hT9 : MTab K (setR n (AS.ascR size (newRows which (rowsIn rels n) row)) rels) (putK kvs (Sum.inr n) z) B9 := MTab.set hI.nd (hTd.mono g9.ex) hn fun rr hrr hnn => by
          have hrr' : rr = r2 := by
            have q1 := find_self hI.nd hrr
            rw [hnn, hf2] at q1
            exact (Option.some.inj q1).symm
          subst hrr'
          rw [hrw]
          exact hz
        exact x_ret (rVp (P := fun z B' => ∃ p kvs', z = .ref p ∧ B' p = some (.dK kvs') ∧ MTab K (setR n (AS.ascR size (newRows which (rowsIn rels n) row)) rels) kvs' B') (ev_var rfl) ⟨p, _, rfl, upd_same, hT9.mono (Ex.new hp9)⟩) (fun z B' H' g' p' e1 e2 => q z H' B' e2 (((gBd.trans g9).trans (gr_new hp9 hpH)).trans g') e1 p')
      refine x_when (b := decide (which = 0)) (et_test (ev_is (ev_op (ev_var rfl) ev_c (rv_eq rfl)) (by simp))) (fun hw => ?_) (fun hw => ?_)
      · have hw : which = 0 := of_decide_eq_true hw
        have hnr : newRows which r'.rows row = r'.rows ++ [row] := if_pos hw
        refine x_last (x_appV (l := pk) (xs := ys1) (by rw [upd_ne hpkp]; exact hpk) hHpk (ev_var rfl) (ev_var rfl) (by rw [hys1.1]; omega) (x_end ?_))
        rw [RX.upd_comm (a := p) (b := pk) hpkp.symm]
        have hnl : Nl B7 (upd B7 pk (.lst (ys1 ++ [.ref b]))) := fun a o ha hne => by
          have c : a ≠ pk := fun c => by subst c; rw [hpk] at ha; exact hne _ (Option.some.inj ha).symm
          rw [upd_ne c]; exact ha
        refine fin (R' := (r'.rows.filter fun q => decide (q ≠ row)) ++ [row]) rfl (by rw [upd_ne hpkp.symm]; exact hp7) ⟨fun a o ha => ?_, fun a ha hx => ?_⟩ upd_same (Kx.A2.append (Pd := fun r => IsTI K r) ⟨hys1.1, fun k y r0 hy hr0 => ?_⟩ (RX.A2.cons ?_ a2_nil)) (by rw [List.length_append]; show _ + 1 ≤ 63; omega) ?_ (fun x => ?_) (fun x hx => ?_)
        · have c : a ≠ pk := fun c => by subst c; rw [hBpk] at ha; exact nomatch ha
          rw [upd_ne c]; exact gB7.ex _ _ ha
        · have c : a ≠ pk := fun c => by subst c; rw [hHpk] at hx; exact hx rfl
          rw [upd_ne c]; exact gB7.av a ha hx
        · obtain ⟨b0, rfl, hb0⟩ := hys1.2 k y r0 hy hr0
          exact ⟨b0, rfl, sqt_nl hnl hb0⟩
        · exact ⟨b, rfl, sqt_nl hnl (ex_t gB7.ex hb)⟩
        · refine List.nodup_append.mpr ⟨List.Pairwise.filter _ hRnd, List.nodup_cons.mpr ⟨(fun h => nomatch h), List.nodup_nil⟩, fun a ha b hb c => ?_⟩
          have hb := List.mem_singleton.mp hb
          have := (List.mem_filter.mp ha).2
          exact of_decide_eq_true this (c.trans hb)
        · rw [hnr, List.mem_append, List.mem_append, List.mem_filter, List.mem_singleton]
          constructor
          · rintro (⟨h, _⟩ | h)
            · exact .inl h
            · exact .inr h
          · rintro (h | h)
            · by_cases c : x = row
              · exact .inr c
              · exact .inl ⟨h, decide_eq_true c⟩
            · exact .inr h
        · rw [hnr, List.mem_append, List.mem_singleton] at hx
          rcases hx with h | h
          · exact hRok x h
          · subst h; exact hrowok
      · have hw : ¬ which = 0 := of_decide_eq_false hw
        have hnr : newRows which r'.rows row = r'.rows.filter fun q => decide (q ≠ row) := if_neg hw
        refine fin (R' := r'.rows.filter fun q => decide (q ≠ row)) rfl hp7 gB7 hpk hys1 (by omega) (hRnd.filter _) (fun x => by rw [hnr]) (fun x hx => ?_)
        rw [hnr] at hx
        exact hRok x (List.mem_filter.mp hx).1
end Kx
namespace Kx
open PySem PySem.Spec PyProof.Rows L2 Evl LX T XV RX WS
variable {P : Program} {w : World} {K : PySem.W.Frag} {mg : Str → Option Value} {base : Heap}
/-! ### the methods of World by name -/
theorem w_chk (T : TX K mg) : OkM P w K mg base 5 (wC K) "_checked_row" ["self", "name", "row"] (spR (dChk K P w (wC K))) := by
  obtain ⟨fd, F⟩ := T.t.d _ (List.mem_of_getElem? (i := 17) rfl)
  have F2 : Fun K "_checked_row" "World._checked_row" s_World__checked_row (He.ma K (wC K) "_checked_row") fd := fun_of F
  exact ⟨_, fd, w_meth T (by decide +kernel), fn_chk T F2 (w_cls T) (w_noat T) (w_arity T), F2.binds fun _ _ _ _ _ _ us hl => match us, hl with | [_, _, _], _ => rfl⟩
theorem w_with (T : TX K mg) : OkM P w K mg base 9 (wC K) "_with_rows" ["self", "name", "rows"] (spR (dWith K P w (wC K))) := by
  obtain ⟨fd, F⟩ := T.t.d _ (List.mem_of_getElem? (i := 18) rfl)
  have F2 : Fun K "_with_rows" "World._with_rows" s_World__with_rows (He.ma K (wC K) "_with_rows") fd := fun_of F
  exact ⟨_, fd, w_meth T (by decide +kernel), fn_with T F2 (w_cls T) (w_noat T) (w_arity T) (w_rows T) (w_mk2 T), F2.binds fun _ _ _ _ _ _ us hl => match us, hl with | [_, _, _], _ => rfl⟩
theorem w_put (T : TX K mg) : OkM P w K mg base 10 (wC K) "put" ["self", "name", "row"] (spR (dPut K P w (wC K))) := by
  obtain ⟨fd, F⟩ := T.t.d _ (List.mem_of_getElem? (i := 13) rfl)
  have F2 : Fun K "put" "World.put" s_World_put (He.ma K (wC K) "put") fd := fun_of F
  exact ⟨_, fd, w_meth T (by decide +kernel), fn_put T F2 (w_cls T) (w_noat T) (w_rows T) (w_chk T) (w_with T), F2.binds fun _ _ _ _ _ _ us hl => match us, hl with | [_, _, _], _ => rfl⟩
theorem w_drop (T : TX K mg) : OkM P w K mg base 10 (wC K) "drop" ["self", "name", "row"] (spR (dDrop K P w (wC K))) := by
  obtain ⟨fd, F⟩ := T.t.d _ (List.mem_of_getElem? (i := 14) rfl)
  have F2 : Fun K "drop" "World.drop" s_World_drop (He.ma K (wC K) "drop") fd := fun_of F
  exact ⟨_, fd, w_meth T (by decide +kernel), fn_drop T F2 (w_cls T) (w_noat T) (w_rows T) (w_chk T) (w_with T), F2.binds fun _ _ _ _ _ _ us hl => match us, hl with | [_, _, _], _ => rfl⟩
theorem w_has (T : TX K mg) : OkM P w K mg base 4 (wC K) "__contains__" ["self", "pair"] (spR (dHas K P w (wC K))) := by
  obtain ⟨fd, F⟩ := T.t.d _ (List.mem_of_getElem? (i := 19) rfl)
  have F2 : Fun K "__contains__" "World.__contains__" s_World___contains (He.ma K (wC K) "__contains__") fd := fun_of F
  exact ⟨_, fd, w_meth T (by decide +kernel), fn_has T F2 (w_cls T) (w_noat T), F2.binds fun _ _ _ _ _ _ us hl => match us, hl with | [_, _], _ => rfl⟩
theorem w_len (T : TX K mg) : OkM P w K mg base 1 (wC K) "__len__" ["self"] (spR (dLenW K P w (wC K))) := by
  obtain ⟨fd, F⟩ := T.t.d _ (List.mem_of_getElem? (i := 20) rfl)
  have F2 : Fun K "__len__" "World.__len__" s_World___len (He.ma K (wC K) "__len__") fd := fun_of F
  exact ⟨_, fd, w_meth T (by decide +kernel), fn_lenW T F2 (w_cls T) (w_noat T), F2.binds fun _ _ _ _ _ _ us hl => match us, hl with | [_], _ => rfl⟩
theorem w_eq (T : TX K mg) : OkM P w K mg base 1 (wC K) "__eq__" ["self", "other"] (spR (dEqW K P w (wC K))) := by
  obtain ⟨fd, F⟩ := T.t.d _ (List.mem_of_getElem? (i := 22) rfl)
  have F2 : Fun K "__eq__" "World.__eq__" s_World___eq (He.ma K (wC K) "__eq__") fd := fun_of F
  exact ⟨_, fd, w_meth T (by decide +kernel), fn_eqW T F2, F2.binds fun _ _ _ _ _ _ us hl => match us, hl with | [_, _], _ => rfl⟩
theorem w_iter (T : TX K mg) : OkIter P w K mg base 1 (wC K) "facts" := by
  obtain ⟨fd, F⟩ := T.t.d _ (List.mem_of_getElem? (i := 21) rfl)
  have F2 : Fun K "__iter__" "World.__iter__" s_World___iter (He.ma K (wC K) "__iter__") fd := fun_of F
  exact ⟨_, fd, w_meth T (by decide +kernel), fun n => fn_iterW T F2 (w_cls T) (w_noat T) n, F2.binds fun _ _ _ _ _ _ us hl => match us, hl with | [_], _ => rfl⟩
/-! ### readings of own methods -/
theorem ei_own {σ : L2.St} {B : Hp} {C a dx l : Addr} {fs : List (Str × V)} {fld : Str} {ys : List V} {te : TE} (h : Ev te σ B (.ref a)) (hx : B a = some (.ins C dx fs)) (hl : fs.lookup fld = some (.ref l)) (hs : SqT K B l ys) : EvI (iOwn K C fld te) σ B fun zs _ => zs = ys := fun H1 e R q =>
  h H1 e _ fun H2 e2 => ⟨a, dx, fs, l, ys, rfl, (e.trans e2) _ _ hx, hl, ex_t (e.trans e2) hs, fun H3 e3 => q _ H3 B ys (e2.trans e3) (Gr.refl _ _) ((e.trans e2).trans e3) rfl (fit_t hs)⟩
theorem ev_lenO {σ : L2.St} {B : Hp} {C x dx : Addr} {fs : List (Str × V)} {D : List V → Hp → (V → Hp → Prop) → Prop} {ta : TE} {n : Int} (h : Ev ta σ B (.ref x)) (hx : B x = some (.ins C dx fs)) (hD : D [.ref x] B (IsV (.int n))) (h0 : 0 ≤ n) (h1 : n < 2 ^ 60) : Ev (tCB (rLenO C (spR D)) (tCons ta tNil)) σ B (.int n) := fun H1 e Q q =>
  (ea_cons h ea_nil) H1 e _ fun H2 e2 => ⟨x, dx, fs, rfl, (e.trans e2) _ _ hx, B, IsV (.int n), e.trans e2, hD, fun z H3 B' e3 g e4 hz => ⟨n, hz, h0, h1, q H3 (e2.trans e3)⟩⟩
theorem WorldP.ins {C : Addr} {size : Int} {rels : List Rel} {x : Addr} {B : Hp} (h : WorldP K P w C size rels x B) : ∃ dx fs, B x = some (.ins C dx fs) := by
  obtain ⟨r, p, dx, zn, pf, t, za, ps, kvs, ys, st, ns, h1, _⟩ := h
  exact ⟨_, _, h1⟩
theorem rowsIn_le {rels : List Rel} {c : Nat} (h : ∀ r ∈ rels, r.rows.length ≤ c) (n : Str) : (rowsIn rels n).length ≤ c := by
  unfold rowsIn
  cases q : rels.find? (fun r => decide (r.name = n)) with
  | none => exact Nat.zero_le _
  | some r => exact h r (List.mem_of_find?_eq_some q)
theorem facts_le {rels : List Rel} {c : Nat} (h : ∀ r ∈ rels, r.rows.length ≤ c) (ns : List Str) : (factsOf rels ns).length ≤ ns.length * c := flat_len fun n _ => by rw [List.length_map]; exact rowsIn_le h n
theorem facts_snoc {rels : List Rel} {ns : List Str} {i : Nat} {n : Str} (h : ns[i]? = some n) : factsOf rels (ns.take (i + 1)) = factsOf rels (ns.take i) ++ (rowsIn rels n).map fun r => (n, r) := by
  unfold factsOf
  rw [take_snoc h, List.flatMap_append, List.flatMap_cons, List.flatMap_nil, List.append_nil]
/-! ### _law_is_gone_over -/
def dGone (K : PySem.W.Frag) (P : Program) (w : World) (C : Addr) : List V → Hp → (V → Hp → Prop) → Prop := fun vs B Pz => ∃ (x m : Addr) (size : Int) (rels : List Rel) (kvs : List (Key × V)), vs = [.ref x, .ref m] ∧ WorldP K P w C size rels x B ∧ RelsInv size rels ∧ B m = some (.dK kvs) ∧ MTab K rels kvs B ∧ (∀ r ∈ rels, r.rows.length ≤ 63) ∧ Pz = IsV (.bl true)
abbrev law_is_gone_over_N : List Str := ["world", "model", "due", "word", "row", "at", "fact"]
abbrev law_is_gone_over_P : List Str := ["world", "model"]
theorem sc_law_is_gone_over : FnScope ["world", "model", "due", "word", "row", "at", "fact"] ["world", "model"] (defScope s_law_is_gone_over) := ⟨rfl, rfl, rfl, by decide +kernel, rfl, by decide +kernel, by decide +kernel⟩
theorem ok_gone (T : TX K mg) : OkF P w K mg base 4 "_law_is_gone_over" ["world", "model"] (spR (dGone K P w (wC K))) := by
  have n_sorted := T.n "sorted" (by decide +kernel)
  have n_len := T.n "len" (by decide +kernel)
  refine T.okF 37 rfl (by decide +kernel) (fun f fd F => ?_) (fun _ _ _ _ _ _ us hl => match us, hl with | [_, _], _ => rfl)
  have O__law_is_fact := ok_fact (P := P) (w := w) (base := base) T
  have M___len__ := w_len (P := P) (w := w) (base := base) T
  have W_iter := w_iter (P := P) (w := w) (base := base) T
  have hC := w_cls T
  refine F.ok sc_law_is_gone_over (fun vs H Q E h => spR_len h (by rintro B Pz ⟨x, m, s, r, k, rfl, _⟩; rfl)) (fun cdv A outer s H vs Q E hr ⟨B, Pz, e, ⟨x, m, size, rels, kvs, hvs, hW, hI, hm, hT, hall, hP⟩, q⟩ => ?_)
  subst hvs hP
  refine ⟨_, (pss_cons (ps_set (i := 2) sc_law_is_gone_over.nd rfl (.inl rfl) (pe_lst pa_nil))
        (pss_cons (ps_for PassesOwn.never rfl (RX.k_pil (K := K) (pe_callB (RX.k_sortD rfl) (by rfl) n_sorted (by decide +kernel) (pa_cons (pv 1) pa_nil))) (pg_name (i := 3) sc_law_is_gone_over.nd rfl (.inl rfl)) (pss_one (ps_for PassesOwn.never rfl (RX.k_pil (K := K) (pe_ix (LX.k_ixl (K := K)) (pe_dget (LX.u1 hr) (pv 1) (pv 3) (fun _ _ => rfl)) pe_int (fun _ _ => rfl))) (pg_name (i := 4) sc_law_is_gone_over.nd rfl (.inl rfl)) (pss_one (ps_expr (pe_bm PySem.F.plainAttrs_list PySem.F.slot_list_append PySem.F.type_list_append mt_append (pv 2) (pa_cons (pe_tup (pa_cons (pv 3) (pa_cons (pv 4) pa_nil))) pa_nil)))))))
        (pss_cons (ps_set (i := 5) sc_law_is_gone_over.nd rfl (.inl rfl) pe_int)
        (pss_cons (ps_for PassesOwn.never rfl (RX.pi_own (K := K) W_iter hr (by decide) (pv 0)) (pg_name (i := 6) sc_law_is_gone_over.nd rfl (.inl rfl)) (pss_cons (ps_if (pw_or (pt_cmpR op_ge (pv 5) (pe_callB (LX.k_len (K := K)) (by rfl) n_len (by decide +kernel) (pa_cons (pv 2) pa_nil)) (nomark _)) (pw_or1 (pt_not (pt_val (LX.pe_f O__law_is_fact hr (by decide) (pa_cons (pv 6) (pa_cons (pe_ix (LX.k_ixt (K := K)) (pe_ix (LX.k_ixl (K := K)) (pv 2) (pv 5) (fun _ _ => rfl)) pe_int (fun _ _ => rfl)) (pa_cons (pe_ix (LX.k_ixt (K := K)) (pe_ix (LX.k_ixl (K := K)) (pv 2) (pv 5) (fun _ _ => rfl)) pe_int (fun _ _ => rfl)) pa_nil)))))))).pt (pss_one (ps_ret pe_bl)) pss_nil)
        (pss_one (ps_set (i := 5) sc_law_is_gone_over.nd rfl (.inl rfl) (pe_op op_add (pv 5) pe_int)))))
        (pss_one (ps_ret (pe_and (pe_cmpR op_eq (pv 5) (pe_callB (LX.k_len (K := K)) (by rfl) n_len (by decide +kernel) (pa_cons (pv 2) pa_nil)) (nomark _)) (pe_one (pe_cmpR op_eq (pe_callB (RX.call_lenO M___len__ hr (by decide)) (by rfl) n_len (by decide +kernel) (pa_cons (pv 0) pa_nil)) (pe_callB (LX.k_len (K := K)) (by rfl) n_len (by decide +kernel) (pa_cons (pv 2) pa_nil)) (nomark _)))))))))), ?_⟩
  have hWP := hW
  obtain ⟨rels', hp, hWA⟩ := hW
  obtain ⟨dx, zn, pf, t, za, ps, kvs', fys, st, ns', h1, h2, h3, h4, h5, h6, h7, h8, h9, h10, hperm, hsort⟩ := hWA
  rw [factsOf_perm hp hI.nd] at h4
  have hfew := hI.few
  refine x_asgL (X := H) (B := B) (xs := []) (el_lst ea_nil (by decide)) (fun p hpB hpH => ?_) H e (Ex.refl H)
  refine x_for (F := B) (Ex.new hpB) (ei_listR (Pxs := NamesP rels) (EvR.imp (er_sortD (K := K) (ks := rels.map Rel.name) (ev_var rfl) hm (by rw [hT.1, List.map_map]; rfl) (by rw [List.length_map]; omega)) fun z B' _ h => h)) (fun F' ys i σ' B' => ∃ (ns : List Str) (y3 y4 : Option V) (Bs : Hp) (es : List V), ys = ns.map V.str ∧ ns.Perm (rels.map Rel.name) ∧ sortedS ns = true ∧ σ' = [some (V.ref x), some (.ref m), some (.ref p), y3, y4, none, none] ∧ B' = upd Bs p (.lst es) ∧ Bs p = none ∧ Gr H F' Bs ∧ A2 (FactAt K) (factsOf rels (ns.take i)) es Bs) (fun F' ys g hy av => ?_) (fun F' ys i σ' B' h => ?_) (fun F' ys i xx σ' B' g hy hxi h => ?_) (fun F' ys σ' B' g hy h => ?_)
  · have hF : F' p = none := av p hpB (by rw [upd_same]; exact Option.some_ne_none _)
    obtain ⟨ns, rfl, hpn, hsn⟩ := hy
    exact ⟨ns, none, none, F', [], rfl, hpn, hsn, rfl, mrg_upd g.ex hF, hF, Gr.refl _ _, a2_nil⟩
  · obtain ⟨ns, y3, y4, Bs, es, _, _, _, rfl, rfl, hp', gs, tb⟩ := h
    exact gs.ex.trans (Ex.new hp')
  · obtain ⟨ns, y3, y4, Bs, es, hys, hpn, hsn, rfl, rfl, hp', gF, tb⟩ := h
    rw [hys, List.getElem?_map] at hxi
    obtain ⟨n, hn, rfl⟩ : ∃ n, ns[i]? = some n ∧ xx = .str n := by
      cases hq : ns[i]? with
      | none => rw [hq] at hxi; exact nomatch hxi
      | some o => rw [hq] at hxi; exact ⟨o, rfl, (Option.some.inj hxi).symm⟩
    have hnm : n ∈ rels.map Rel.name := hpn.mem_iff.mp (List.mem_of_getElem? hn)
    have gBs : Gr H B Bs := g.trans gF
    have eBs := gBs.ex
    obtain ⟨r, v, hf, hv, tm, qm, ms, rfl, hm2, hm3, hm4⟩ := (hT.mono eBs).get hnm
    have hrw : rowsIn rels n = r.rows := rowsIn_some hf
    have hnsl : ns.length ≤ 12 := by rw [hpn.length_eq, List.length_map]; exact hfew
    refine x_last (x_for (F := Bs) (Ex.new hp') (ei_list (ev_op (ev_dget (ev_var rfl) (ev_var rfl) (eBs _ _ hm) hv) ev_c (rv_ixL (sq_of hm2) (atI_nat (j := 1) rfl))) (sq_of hm3)) (fun F2 ys2 j σ2 B2 => ∃ (y4 : Option V) (Bt : Hp) (es2 : List V), σ2 = [some (V.ref x), some (.ref m), some (.ref p), some (.str n), y4, none, none] ∧ B2 = upd Bt p (.lst es2) ∧ Bt p = none ∧ Gr H F2 Bt ∧ A2 (FactAt K) (factsOf rels (ns.take i) ++ (r.rows.take j).map fun q => (n, q)) es2 Bt) (fun F2 ys2 g2 hy2 av2 => ?_) (fun F2 ys2 j σ2 B2 h => ?_) (fun F2 ys2 j x2 σ2 B2 g2 hy2 hx2 h => ?_) (fun F2 ys2 σ2 B2 g2 hy2 h => ?_))
    · have hF : F2 p = none := av2 p hp' (by rw [upd_same]; exact Option.some_ne_none _)
      exact ⟨y4, F2, es, rfl, mrg_upd g2.ex hF, hF, Gr.refl _ _, by rw [List.take_zero, List.map_nil, List.append_nil]; exact MoA.mo g2.ex tb⟩
    · obtain ⟨y5, Bt, es2, rfl, rfl, hpt, gt, _⟩ := h
      exact gt.ex.trans (Ex.new hpt)
    · obtain ⟨y5, Bt, es2, rfl, rfl, hpt, gt, tb2⟩ := h
      subst hy2
      have hj : j < r.rows.length := by rw [← hm4.1]; exact (List.getElem?_eq_some_iff.mp hx2).1
      have hrj : r.rows[j]? = some r.rows[j] := List.getElem?_eq_getElem hj
      obtain ⟨b, rfl, hb⟩ := hm4.2 j x2 _ hx2 hrj
      have hlen : es2.length < 100000 := by
        have hr63 : r.rows.length ≤ 63 := hall r (List.mem_of_find?_eq_some hf)
        have h1 := facts_le hall (ns.take i)
        rw [tb2.1, List.length_append, List.length_map, List.length_take]
        rw [List.length_take] at h1
        have h2 : min i ns.length * 63 ≤ 12 * 63 := Nat.mul_le_mul_right 63 (by omega)
        omega
      refine x_last (x_appO (P := FactAt K (n, r.rows[j])) inferInstance hpt hpH (ev_var rfl) (EvR.imp (er_tupN (Pa := fun vs _ => vs = [V.str n, .ref b]) inferInstance (rA (ea_cons (ev_var rfl) (ea_cons (ev_var rfl) ea_nil))) (fun vs _ h => by rw [h]; show (2 : Nat) ≤ 100000; decide)) fun z B3 e3 ⟨p', vs, h1, h2, h3⟩ => by
        subst h3
        exact ⟨p', b, h1, st_of h2, ex_t ((g2.ex.trans gt.ex).trans e3) hb⟩) hlen fun z B3 g3 hp3 hz => ?_)
      refine x_nx rfl ⟨_, B3, es2 ++ [z], rfl, rfl, hp3, gt.trans g3, ?_⟩
      rw [take_snoc hrj, List.map_append, ← List.append_assoc]
      exact Kx.A2.append (MoA.mo g3.ex tb2) (RX.A2.cons hz a2_nil)
    · obtain ⟨y5, Bt, es2, rfl, rfl, hpt, gt, tb2⟩ := h
      subst hy2
      rw [hm4.1, List.take_length] at tb2
      refine x_nx rfl ⟨ns, _, _, Bt, es2, hys, hpn, hsn, rfl, rfl, hpt, (gF.trans g2).trans gt, ?_⟩
      rw [facts_snoc hn, hrw]
      exact tb2
  · obtain ⟨ns, y3, y4, Bs, es, rfl, hpn, hsn, rfl, rfl, hp', gF, tb⟩ := h
    rw [List.length_map, List.take_length] at tb
    have hns : ns' = ns := SS.sorted_uniq hsort hsn ((hperm.trans (hp.map _)).trans hpn.symm)
    subst hns
    have gBs : Gr H B Bs := g.trans gF
    have gBu : Gr H B (upd Bs p (.lst es)) := gBs.trans (gr_new hp' hpH)
    have eBu := gBu.ex
    have hBp : (upd Bs p (.lst es)) p = some (.lst es) := upd_same
    have tbu : A2 (FactAt K) (factsOf rels ns') es (upd Bs p (.lst es)) := MoA.mo (Ex.new hp') tb
    have hfl := facts_le hall ns'
    have hnsl : ns'.length ≤ 12 := by rw [hpn.length_eq, List.length_map]; exact hfew
    have hfl2 : (factsOf rels ns').length ≤ 12 * 63 := Nat.le_trans hfl (Nat.mul_le_mul_right 63 hnsl)
    generalize upd Bs p (.lst es) = Bu at gBu eBu hBp tbu
    refine x_asgV (v := .int 0) ev_c ?_
    refine x_for (F := Bu) (Ex.refl _) (ei_own (ev_var rfl) (eBu _ _ h1) rfl (ex_t eBu h3)) (fun F2 ys2 i σ2 B2 => B2 = F2 ∧ ∃ y6 : Option V, σ2 = [some (V.ref x), some (.ref m), some (.ref p), y3, y4, some (.int (i : Int)), y6]) (fun F2 ys2 g2 hy2 av2 => ⟨NM.mrg_self g2.ex, none, rfl⟩) (fun F2 ys2 i σ2 B2 h => h.1 ▸ Ex.refl _) (fun F2 ys2 i xx σ2 B2 g2 hy2 hxi h => ?_) (fun F2 ys2 σ2 B2 g2 hy2 h => ?_)
    · obtain ⟨rfl, y6, rfl⟩ := h
      subst hy2
      have hi : i < (factsOf rels ns').length := by rw [← h4.1]; exact (List.getElem?_eq_some_iff.mp hxi).1
      have hfi : (factsOf rels ns')[i]? = some (factsOf rels ns')[i] := List.getElem?_eq_getElem hi
      have hei : es[i]? = some (es[i]'(by rw [tbu.1]; exact hi)) := List.getElem?_eq_getElem _
      have hmem := List.mem_of_getElem? hfi
      generalize (factsOf rels ns')[i] = f at hfi hmem
      generalize es[i]'(by rw [tbu.1]; exact hi) = ev at hei
      obtain ⟨n, rw_⟩ := f
      obtain ⟨a, r0, rfl, ha1, ha2⟩ := tbu.2 i ev _ hei hfi
      have hfa := h4.2 i xx _ hxi hfi
      have hrl : rw_.length ≤ 40000 := by
        unfold factsOf at hmem
        obtain ⟨mm, hmm, hf⟩ := List.mem_flatMap.mp hmem
        obtain ⟨q0, hq0, he⟩ := List.mem_map.mp hf
        obtain ⟨rfl, rfl⟩ := Prod.mk.inj he
        obtain ⟨r1, _, _, k1, _, k3⟩ := hI.at (hpn.mem_iff.mp hmm)
        rw [k3] at hq0
        have := (k1.rows _ hq0).1
        have := k1.hi
        omega
      have e2 := g2.ex
      refine x_when (b := false) (et_is (et_or (a := false) (b := false) (et_test (ev_is (ev_op (ev_var rfl) (ev_len (ev_var rfl) (sq_of (e2 _ _ hBp))) rv_I0) (congrArg V.bl (decide_eq_false (by rw [tbu.1]; omega))))) (fun _ => et_not (a := true) (et_B (ev_lfact (ev_var rfl) (ev_op (ev_op (ev_var rfl) (ev_var rfl) (rv_ixL (sq_of (e2 _ _ hBp)) (atI_get hei))) ev_c (rv_ixT (ex_t e2 ha1) at2.1)) (ev_op (ev_op (ev_var rfl) (ev_var rfl) (rv_ixL (sq_of (e2 _ _ hBp)) (atI_get hei))) ev_c (rv_ixT (ex_t e2 ha1) at2.2)) (Mo.mo (eBu.trans e2) hfa) (ex_t e2 ha2) hrl)))) rfl) (fun h => nomatch h) (fun _ => ?_)
      exact x_last (x_asgV (v := .int ((i + 1 : Nat) : Int)) (ev_is (ev_op (ev_var rfl) ev_c rv_I0) (congrArg V.int (by omega))) (x_nx rfl ⟨rfl, _, rfl⟩))
    · obtain ⟨rfl, y6, rfl⟩ := h
      subst hy2
      have e2 := g2.ex
      have hl1 : ys2.length = es.length := by rw [h4.1, tbu.1]
      refine x_last (x_ret (eR_v (v := .bl true) (ev_andV (a := true) (b := true) (ev_is (ev_op (ev_var rfl) (ev_len (ev_var rfl) (sq_of (e2 _ _ hBp))) (rv_eq rfl)) (by rw [hl1]; simp)) fun _ => ev_is (ev_op (ev_lenO (n := ((factsOf rels ns').length : Int)) (ev_var rfl) ((eBu.trans e2) _ _ h1) ⟨x, size, rels, ns', rfl, hWP.mono (eBu.trans e2), hI, hpn, hsn, rfl⟩ (by omega) (by omega)) (ev_len (ev_var rfl) (sq_of (e2 _ _ hBp))) (rv_eq rfl)) (by rw [tbu.1]; simp))) (fun z B' H' g' p' e1 e3 => q z H' B' e3 ((gBu.trans g2).trans g') e1 p'))
end Kx
namespace RX
open PySem PySem.Spec PyProof.Rows L2 Evl LX XV WS
/-- isinstance(e, c), e the exception that the suite holds, without a dict -/
def rIsEN (K : PySem.W.Frag) (a : Addr) (cls : Value) (d : Option Addr) : List V → Hp → VK → Prop := fun xs H Q => ∃ (D : Addr) (c : V) (cv : Value) (b : Bool), cls = .ref D ∧ d = none ∧ ExK K D ∧ xs = [.ref a, c] ∧ ClsV c cv ∧ PySem.W.kitOne K (.ref D) cv = some b ∧ Q (.bl b) H
theorem call_isEN {X : Cx} {K : PySem.W.Frag} {a : Addr} {cls : Value} {d : Option Addr} {oe : Obj} {pn : List (Addr × Obj)} (hz : Zc cls d oe) (hf : ∃ vs, oe.data = .fields vs) (hK : X.K = K := by rfl) : CallR (X.suite a ((a, oe) :: pn)) (.builtin "isinstance") (rIsEN K a cls d) := by
  subst hK
  intro pins s σ H xs us Q I r h
  obtain ⟨D, c, cv, b, rfl, rfl, C, rfl, hc, e, q⟩ := h
  obtain ⟨u1, u2, rfl, r1, r2⟩ := vals2 r
  cases (show u1 = Value.ref a from r1)
  have e2 := hc.eq r2
  subst e2
  obtain ⟨hget, _⟩ := I.pin (a, oe) (List.mem_append.mpr (.inl List.mem_cons_self))
  obtain ⟨vs, hv⟩ := hf
  have J : PySem.W.InstAt s.heap a oe D none := ⟨hget, hz.1, by unfold PySem.W.notCls; rw [hv] <;> rfl, by rw [hz.2]; trivial⟩
  exact PySem.W.kia_one (PySem.W.kitx_exc C.clsv C.e.hg C.e.hk C.e.hs C.e.ha C.e.hn C.e.ht C.e.hm) I.kIn J e (fun z => nomatch z) fun tk => ⟨.bl b, H, I.kept (t' := tk) fun _ _ z => z, rfl, q⟩
theorem ev_isEN {K : PySem.W.Frag} {σ : L2.St} {B : Hp} {te : TE} {a : Addr} {cls : Value} {d : Option Addr} {D : Addr} {c : V} {cv : Value} {b : Bool} (h : Ev te σ B (.ref a)) (h1 : cls = .ref D) (h2 : d = none) (T : ExK K D) (hc : ClsV c cv) (hk : PySem.W.kitOne K (.ref D) cv = some b) : Ev (tCB (rIsEN K a cls d) (tCons te (tCons (tC c) tNil))) σ B (.bl b) :=
  ev_cb (ea_cons h (ea_cons ev_c ea_nil)) fun H1 e Q q => ⟨D, c, cv, b, h1, h2, T, rfl, hc, hk, q H1 (Ex.refl H1)⟩
theorem ev_not {σ : L2.St} {B : Hp} {te : TE} {b : Bool} (h : Ev te σ B (.bl b)) : Ev (tNotV te) σ B (.bl (!b)) := fun H1 e Q q => h H1 e _ fun H2 e2 => ⟨b, rfl, q H2 e2⟩
end RX
namespace Kx
open PySem PySem.Spec PyProof.Rows L2 Evl LX T XV RX WS
variable {P : Program} {w : World} {K : PySem.W.Frag} {mg : Str → Option Value} {base : Heap}
theorem x_methE {X B : Hp} {σ : L2.St} {D : Ends} {C x dx : Addr} {fs : List (Str × V)} {vs : List V} {m : Str} {sp : Sp} {E : L2.St → XK} {ta : TE} {tr : TA} (ho : Ev ta σ B (.ref x)) (hx : B x = some (.ins C dx fs)) (hl : fs.lookup m = none) (h : EvA tr σ B vs) (hs : ∀ H1 Q, Ex B H1 → Ex X H1 → sp (.ref x :: vs) H1 Q (E σ)) : Sx X (tDrop (tMethE C m sp E ta tr)) D σ B := fun H e eX => by
  show ta σ H _
  exact ho H e _ fun H1 e1 => ⟨x, dx, fs, rfl, e1 _ _ (e _ _ hx), hl, h H1 (e.trans e1) _ fun H2 e2 => hs H2 _ ((e.trans e1).trans e2) ((eX.trans e1).trans e2)⟩
theorem x_try1 {X B : Hp} {σ : L2.St} {D : Ends} {tz : TS} {C : Addr} {m : Str} {sp : Sp} {ta : TE} {tr : TA} {K' : PySem.W.Frag} {c : Value} {i : Nat} {ts : Addr → Value → Option Addr → TS} {Wout : WX}
    (h : Sx X (tDrop (tMethE C m sp (WE (wAs K' c i ts Wout { D with nx := tz D })) ta tr)) { D with nx := tz D } σ B) : Sx X (tSeq (fun D σ H => tDrop (tMethE C m sp (WE (wAs K' c i ts Wout D)) ta tr) D σ H) tz) D σ B := fun H e eX => h H e eX
def dRefuses (K : PySem.W.Frag) (P : Program) (w : World) (C : Addr) : List V → Hp → (V → Hp → Prop) → Prop := fun vs B Pz => ∃ (x : Addr) (size : Int) (rels : List Rel) (v : V) (d : PyData), vs = [.ref x, v] ∧ WorldP K P w C size rels x B ∧ RelsInv size rels ∧ Dp K B v d ∧ (rowD d size size = false ∨ ∃ os : List Int, seqD d = some (os.map PyData.int) ∧ rowD d size size = true ∧ ¬ os.Nodup) ∧ Pz = IsV (.bl true)
abbrev law_refuses_N : List Str := ["world", "order", "e"]
abbrev law_refuses_P : List Str := ["world", "order"]
theorem sc_law_refuses : FnScope ["world", "order", "e"] ["world", "order"] (defScope s_law_refuses) := ⟨rfl, rfl, rfl, by decide +kernel, rfl, by decide +kernel, by decide +kernel⟩
theorem ok_refuses (T : TX K mg) {C : Addr} (hC : Cls K C) (M_moved : OkMX P w K mg base 9 C "moved" ["self", "order"] (spRefuse K P w C)) : OkF P w K mg base 10 "_law_refuses" ["world", "order"] (spR (dRefuses K P w C)) := by
  have n_isinstance := T.n "isinstance" (by decide +kernel)
  have n_ValueError := T.n "ValueError" (by decide +kernel)
  have g_OnceError := T.g "OnceError" (by decide +kernel)
  have g_BadOrder := T.g "BadOrder" (by decide +kernel)
  have g_BadWorld := T.g "BadWorld" (by decide +kernel)
  have g_NoSuchRelation := T.g "NoSuchRelation" (by decide +kernel)
  have g_BadRow := T.g "BadRow" (by decide +kernel)
  refine T.okF 42 rfl (by decide +kernel) (fun f fd F => ?_) (fun _ _ _ _ _ _ us hl => match us, hl with | [_, _], _ => rfl)
  refine F.ok sc_law_refuses (fun vs H Q E h => spR_len h (by rintro B Pz ⟨x, s, r, v, d, rfl, _⟩; rfl)) (fun cdv A outer s H vs Q E hr ⟨B, Pz, e, ⟨x, size, rels, v, d, hvs, hW, hI, hd, hor, hP⟩, q⟩ => ?_)
  subst hvs hP
  refine ⟨_, (pss_cons (ps_try_as (i := 2) (Wout := fun _ _ _ _ => False) rfl rfl sc_law_refuses.nd rfl rfl ⟨rfl, by decide, Or.inl g_OnceError⟩ takes0 (fun W pn xe tk _ => (pss_one (ps_expr (RX.pe_methE M_moved hC hr (by decide) (fun σ => passAt tk σ) (pv 0) (pa_cons (pv 1) pa_nil))))) (fun a oe cls d pn hz hf => (pss_cons (ps_if (pw_or (pt_not (pt_val (pe_callB (RX.call_isEN (K := K) hz hf) (by rfl) n_isinstance (by decide +kernel) (pa_cons (pv 2) (pa_cons (pe_glob (v := .ref (He.ga K "BadOrder")) (by rfl) g_BadOrder rfl) pa_nil))))) (pw_or (pt_not (pt_val (pe_callB (RX.call_isEN (K := K) hz hf) (by rfl) n_isinstance (by decide +kernel) (pa_cons (pv 2) (pa_cons (pe_bltn (v := .ty "ValueError") (u := .type "ValueError") (by rfl) n_ValueError (by decide +kernel) rfl) pa_nil))))) (pw_or1 (pt_val (pe_callB (RX.call_isEN (K := K) hz hf) (by rfl) n_isinstance (by decide +kernel) (pa_cons (pv 2) (pa_cons (pe_glob (v := .ref (He.ga K "BadWorld")) (by rfl) g_BadWorld rfl) pa_nil))))))).pt (pss_one (ps_ret pe_bl)) pss_nil)
        (pss_one (ps_ret (pe_and (pe_not (pe_callB (RX.call_isEN (K := K) hz hf) (by rfl) n_isinstance (by decide +kernel) (pa_cons (pv 2) (pa_cons (pe_glob (v := .ref (He.ga K "BadRow")) (by rfl) g_BadRow rfl) pa_nil)))) (pe_one (pe_not (pe_callB (RX.call_isEN (K := K) hz hf) (by rfl) n_isinstance (by decide +kernel) (pa_cons (pv 2) (pa_cons (pe_glob (v := .ref (He.ga K "NoSuchRelation")) (by rfl) g_NoSuchRelation rfl) pa_nil)))))))))))
        (pss_one (ps_ret pe_bl))), ?_⟩
  have hlk : ∃ (dx : Addr) (fs : List (Str × V)), B x = some (.ins C dx fs) ∧ fs.lookup (Str.ofString "moved") = none := by
    obtain ⟨r, p, dx, zn, pf, t, za, ps, kvs, ys, st, ns, h1, _⟩ := hW
    exact ⟨dx, _, h1, rfl⟩
  obtain ⟨dx, fs, hx, hlm⟩ := hlk
  have TK := bo_k T
  refine x_try1 (X := H) (B := B) (x_methE (ev_var rfl) hx hlm (ea_cons (ev_var rfl) ea_nil) fun H3 Q3 e3 eX3 => ⟨x, size, rels, v, d, B, rfl, e3, hW, hI, hd, hor, fun H2 e4 => ?_⟩) H e (Ex.refl H)
  have eB2 := e3.trans e4
  have eX2 := eX3.trans e4
  refine ⟨true, bo_exm T, fun _ a ha => ?_, fun h => nomatch h⟩
  have is_ : ∀ {y : Str} {b : Bool} {σ : L2.St}, (y, b) ∈ kitN → σ[2]? = some (some (V.ref a)) → Ev (tCB (rIsEN K a (.ref (bo K)) none) (tCons (tVar 2) (tCons (tC (.ref (He.ga K y))) tNil))) σ B (.bl b) := fun {y b σ} hy h3 => ev_isEN (ev_var h3) rfl rfl TK (.own _) (bo_kit T hy)
  refine x_when (X := H) (B := B) (b := false) (et_is (et_or (a := false) (b := false) (et_not (a := true) (et_B (is_ (y := "BadOrder") (by decide +kernel) rfl))) fun _ => et_is (et_or (a := false) (b := false) (et_not (a := true) (et_B (ev_isEN (ev_var rfl) rfl rfl TK (.ty _) (bo_kitV T)))) fun _ => et_B (is_ (y := "BadWorld") (by decide +kernel) rfl)) rfl) rfl) (fun h => nomatch h) (fun _ => ?_) H2 eB2 eX2
  exact x_ret (eR_v (v := .bl true) (ev_andV (a := true) (b := true) (ev_not (is_ (y := "BadRow") (b := false) (by decide +kernel) rfl)) fun _ => ev_not (is_ (y := "NoSuchRelation") (b := false) (by decide +kernel) rfl))) (fun z B' H' g p e1 e2 => q z H' B e2 (Gr.refl _ _) (g.ex.trans e1) p)
end Kx
namespace Kx
open PySem PySem.Spec PyProof.Rows L2 Evl LX T XV RX WS
variable {P : Program} {w : World} {K : PySem.W.Frag} {mg : Str → Option Value} {base : Heap}
/-! ### _law_image -/
theorem er_sortRP {σ : L2.St} {B : Hp} {te : TE} {P0 : V → Hp → Prop} {Bn : Int} {d : Nat} {R : List (List Int)} (h : EvR te σ B P0) (hP : ∀ z B', P0 z B' → ∃ a xs, z = .ref a ∧ SqL K B' a xs ∧ A2 (IsTI K) R xs B') (hok : ∀ r ∈ R, AS.Ok Bn d r) (hz : R.length < 64) (h1 : 1 ≤ d) (h3 : d ≤ 3) :
    EvR (tCB (rSortRE K) (tCons te tNil)) σ B fun z B' => ∃ (p : Addr) (ys : List V) (S : List (List Int)), z = .ref p ∧ B' p = some (.lst ys) ∧ A2 (IsTI K) S ys B' ∧ S.Perm R ∧ S.Pairwise fun q r => TS.code Bn q ≤ TS.code Bn r := fun H1 e Q q =>
  h H1 e _ fun z H2 B' e2 g e3 p => by
    obtain ⟨a, xs, rfl, ha, hR⟩ := hP z B' p
    exact (er_sortRE (K := K) (te := tC (.ref a)) (σ := σ) ev_c ha hR hok (by rw [hR.1]; exact hz) h1 h3) H2 e3 Q fun z' H3 B'' e4 g' e5 r => q z' H3 B'' (e2.trans e4) (g.trans (g'.back e2)) e5 r
theorem img_inj {size : Int} {os : List Int} (h : OrdOk size os) : ∀ {r q : List Int}, TS.Bd size r → TS.Bd size q → img os r = img os q → r = q
  | [], [], _, _, _ => rfl
  | [], _ :: _, _, _, e => nomatch e
  | _ :: _, [], _, _, e => nomatch e
  | a :: r, b :: q, hr, hq, e => by
    have e : os.getD a.toNat 0 :: img os r = os.getD b.toNat 0 :: img os q := e
    obtain ⟨e1, e2⟩ := List.cons.inj e
    obtain ⟨a0, a1⟩ := hr a List.mem_cons_self
    obtain ⟨b0, b1⟩ := hq b List.mem_cons_self
    have hl := h.len
    rw [List.getD_eq_getElem?_getD, List.getD_eq_getElem?_getD, List.getElem?_eq_getElem (by omega : a.toNat < os.length), List.getElem?_eq_getElem (by omega : b.toNat < os.length)] at e1
    have hab : a = b := by
      have key : ∀ i j (hi : i < os.length) (hj : j < os.length), os[i] = os[j] → i = j := fun i j hi hj e => by
        rcases Nat.lt_trichotomy i j with c | c | c
        · exact absurd e ((List.pairwise_iff_getElem.mp h.nd) i j hi hj c)
        · exact c
        · exact absurd e.symm ((List.pairwise_iff_getElem.mp h.nd) j i hj hi c)
      have := key _ _ (by omega) (by omega) (show os[a.toNat] = os[b.toNat] from e1)
      omega
    rw [hab, img_inj h (fun m hm => hr m (List.mem_cons_of_mem _ hm)) (fun m hm => hq m (List.mem_cons_of_mem _ hm)) e2]
theorem rows_nodup {size : Int} {r : Rel} (k : RelOk size r) : r.rows.Nodup := by rw [← k.asc]; exact asc_nodup (AS.ascR_asc k.oks)
def dImage (K : PySem.W.Frag) : List V → Hp → (V → Hp → Prop) → Prop := fun vs B Pz => ∃ (m p : Addr) (size : Int) (rels : List Rel) (kvs : List (Key × V)) (os : List Int), vs = [.ref m, .ref p] ∧ B m = some (.dK kvs) ∧ MTab K rels kvs B ∧ RelsInv size rels ∧ SqL K B p (os.map V.int) ∧ OrdOk size os ∧ (∀ r ∈ rels, r.rows.length < 63) ∧
  Pz = fun z B' => ∃ p kvs', z = .ref p ∧ B' p = some (.dK kvs') ∧ MTab K (imgR size os rels) kvs' B'
abbrev law_image_N : List Str := ["model", "order", "due", "word", "row", "thing"]
abbrev law_image_P : List Str := ["model", "order"]
theorem sc_law_image : FnScope ["model", "order", "due", "word", "row", "thing"] ["model", "order"] (defScope s_law_image) := ⟨rfl, rfl, rfl, by decide +kernel, rfl, by decide +kernel, by decide +kernel⟩
theorem ok_image (T : TX K mg) : OkF P w K mg base 1 "_law_image" ["model", "order"] (spR (dImage K)) := by
  have n_sorted := T.n "sorted" (by decide +kernel)
  have n_tuple := T.n "tuple" (by decide +kernel)
  refine T.okF 40 rfl (by decide +kernel) (fun f fd F => ?_) (fun _ _ _ _ _ _ us hl => match us, hl with | [_, _], _ => rfl)
  refine F.ok sc_law_image (fun vs H Q E h => spR_len h (by rintro B Pz ⟨m, p, s, r, k, os, rfl, _⟩; rfl)) (fun cdv A outer s H vs Q E hr ⟨B, Pz, e, ⟨m, po, size, rels, kvs, os, hvs, hm, hT, hI, hpo, hos, hall, hP⟩, q⟩ => ?_)
  subst hvs hP
  refine ⟨_, (pss_cons (ps_set (i := 2) sc_law_image.nd rfl (.inl rfl) pe_dnewK)
        (pss_cons (ps_lock (ps_for PassesOwn.never rfl (pi_keys (pv 0)) (pg_name (i := 3) sc_law_image.nd rfl (.inl rfl)) (pss_one (ps_dput (LX.u1 hr) (pv 2) (pv 3) (pe_lst (pa_cons (pe_ix (LX.k_ixl (K := K)) (pe_dget (LX.u1 hr) (pv 0) (pv 3) (fun _ _ => rfl)) pe_int (fun _ _ => rfl)) (pa_cons (pe_callB (RX.k_sortRE (K := K)) (by rfl) n_sorted (by decide +kernel) (pa_cons (pe_lc (own := [("row", 4)]) (g := gName 4) (tt := tYes) rfl sc_law_image.nd (RX.k_pil (K := K) (pe_ix (LX.k_ixl (K := K)) (pe_dget (LX.u1 hr) (pv 0) (pv 3) (fun _ _ => rfl)) pe_int (fun _ _ => rfl))) (blkOk_by (N := law_image_N) (sc := defScope s_law_image) (by decide +kernel)) (fun _ _ _ _ _ => pg_name (i := 4) sc_law_image.nd rfl (Or.inl rfl)) (fun _ _ _ _ _ => pts_nil) (fun _ _ _ _ _ => (pe_callTy (LX.k_tupOf (K := K)) (by rfl) n_tuple (by decide +kernel) (pa_cons (pe_lc (own := [("thing", 5)]) (g := gName 5) (tt := tYes) rfl sc_law_image.nd (RX.k_pit (K := K) (pv 4)) (blkOk_by (N := law_image_N) (sc := { kind := .function, names := [(".0", .local), ("row", .local), ("tuple", .globalImplicit), ("order", .cell)], isGenerator := false, isCoroutine := false }) (by decide +kernel)) (fun _ _ _ _ _ => pg_name (i := 5) sc_law_image.nd rfl (Or.inl rfl)) (fun _ _ _ _ _ => pts_nil) (fun _ _ _ _ _ => (pe_ix (LX.k_ixl (K := K)) (pv 1) (pv 5) (fun _ _ => rfl)))) pa_nil)))) pa_nil)) pa_nil))) rfl))))
        (pss_one (ps_ret (pv 2))))), ?_⟩
  have hkn := hT.keys_nd hI.nd
  have hkl0 : kvs.length = rels.length := by
    have h1 := congrArg List.length hT.1
    rw [List.length_map, List.length_map] at h1
    exact h1
  have hfew := hI.few
  refine x_asgD (X := H) (B := B) (fun p hpB hpH => ?_) H e (Ex.refl H)
  have hmp : m ≠ p := fun c => by subst c; rw [hpB] at hm; exact nomatch hm
  have hHm : H m = some (.dK kvs) := e _ _ hm
  refine x_lock (d := m) (u := .dK kvs) (by rw [upd_ne hmp]; exact hm) trivial fun od => ?_
  rw [RX.upd_comm (a := p) (b := m) (Ne.symm hmp)]
  have hFm : (upd B m (.frz od (.dK kvs))) m = some (.frz od (.dK kvs)) := upd_same
  have hFp : (upd B m (.frz od (.dK kvs))) p = none := by rw [upd_ne hmp.symm]; exact hpB
  have hHp' : RX.del H m p = none := by rw [RX.del_ne hmp.symm]; exact hpH
  -- what stays while the dict is locked
  have hNd : ∀ {a : Addr} {xs : List V}, B a = some (.lst xs) → (upd B m (.frz od (.dK kvs))) a = some (.lst xs) := fun {a xs} h => by
    have c : a ≠ m := fun c => by subst c; rw [hm] at h; exact nomatch h
    rw [upd_ne c]; exact h
  have hTt : ∀ {a : Addr} {xs : List V}, SqT K B a xs → SqT K (upd B m (.frz od (.dK kvs))) a xs := fun {a xs} h => h.imp (fun h => h.imp (fun h => by
    have c : a ≠ m := fun c => by subst c; rw [hm] at h; exact nomatch h
    rw [upd_ne c]; exact h) (fun ⟨o, h⟩ => ⟨o, by
    have c : a ≠ m := fun c => by subst c; rw [hm] at h; exact nomatch h
    rw [upd_ne c]; exact h⟩)) id
  have hTl : SqL K (upd B m (.frz od (.dK kvs))) po (os.map V.int) := hpo.imp (fun h => h.imp (fun h => hNd h) (fun ⟨o, h⟩ => ⟨o, by
    have c : po ≠ m := fun c => by subst c; rw [hm] at h; exact nomatch h
    rw [upd_ne c]; exact h⟩)) id
  refine x_last (x_for (F := upd B m (.frz od (.dK kvs))) (Ex.new hFp) (ei_keys (ev_var rfl) hFm) (fun F' ys i σ' B' => ∃ (y3 : Option V) (Bs : Hp) (kvs' : List (Key × V)), σ' = [some (V.ref m), some (.ref po), some (.ref p), y3, none, none] ∧ B' = upd Bs p (.dK kvs') ∧ Bs p = none ∧ Gr (RX.del H m) F' Bs ∧ MTab K (imgR size os (rels.take i)) kvs' Bs) (fun F' ys g hy av => ?_) (fun F' ys i σ' B' h => ?_) (fun F' ys i xx σ' B' g hy hxi h => ?_) (fun F' ys σ' B' g hy h => ?_))
  · have hF : F' p = none := av p hFp (by rw [upd_same]; exact Option.some_ne_none _)
    exact ⟨none, F', [], rfl, mrg_upd g.ex hF, hF, Gr.refl _ _, by rw [List.take_zero]; exact ⟨rfl, fun i p r h => nomatch h⟩⟩
  · obtain ⟨y3, Bs, kvs', rfl, rfl, hp', gs, _⟩ := h
    exact gs.ex.trans (Ex.new hp')
  · obtain ⟨y3, Bs, kvs', rfl, rfl, hp', gF, hT'⟩ := h
    rw [hy, List.getElem?_map] at hxi
    obtain ⟨kv, hkv, hxk⟩ : ∃ kv, kvs[i]? = some kv ∧ xx = kV kv.1 := by
      cases hq : kvs[i]? with
      | none => rw [hq] at hxi; exact nomatch hxi
      | some kv => rw [hq] at hxi; exact ⟨kv, rfl, (Option.some.inj hxi).symm⟩
    have hi : i < rels.length := by rw [← hkl0]; exact (List.getElem?_eq_some_iff.mp hkv).1
    have hri : rels[i]? = some rels[i] := List.getElem?_eq_getElem hi
    have hmem := List.getElem_mem hi
    generalize rels[i] = r at hri hmem
    have hk1 : kv.1 = Sum.inr r.name := by
      have := congrArg (fun l => l[i]?) hT.1
      simp only [List.getElem?_map] at this
      rw [hkv, hri] at this
      exact Option.some.inj this
    have hxo : xx = .str r.name := by rw [hxk, hk1]; rfl
    subst hxo
    have gAll : Ex (upd B m (.frz od (.dK kvs))) Bs := (g.trans gF).ex
    have hBsm : Bs m = some (.frz od (.dK kvs)) := gAll _ _ hFm
    have hval : valV kvs (Sum.inr r.name) = some kv.2 := by rw [← hk1]; exact valV_at hkn hkv
    obtain ⟨t, qq, zs, hv2, ht, hq, hzs⟩ := hT.2 i kv r hkv hri
    rw [hv2] at hval
    have ht := gAll _ _ (hNd ht)
    have hq := gAll _ _ (hNd hq)
    have hro := hI.ok r hmem
    have hRl := hall r hmem
    have hlo := hro.lo
    have hhi := hro.hi
    have hOk : ∀ x ∈ r.rows.map (img os), AS.Ok size r.ar.toNat x := fun x hx => by
      obtain ⟨q0, hq0, rfl⟩ := List.mem_map.mp hx
      obtain ⟨h1, h2⟩ := hro.rows q0 hq0
      exact ⟨by rw [img_len]; omega, img_bd hos h2⟩
    have hnd : (r.rows.map (img os)).Nodup := List.pairwise_map.mpr ((rows_nodup hro).imp_of_mem fun {a b} ha hb hab c => hab (img_inj hos (hro.rows a ha).2 (hro.rows b hb).2 c))
    have hnone : valV kvs' (Sum.inr r.name) = none := valV_no (by
      rw [hT'.1]
      unfold imgR
      rw [List.map_map]
      intro c
      obtain ⟨r2, hr2, e2⟩ := List.mem_map.mp c
      have e2 : r2.name = r.name := Sum.inr.inj e2
      have := nodup_take (f := Rel.name) hI.nd hri
      exact this (e2 ▸ List.mem_map_of_mem hr2))
    have hkl' : kvs'.length ≤ 12 := by
      have h1 := congrArg List.length hT'.1
      unfold imgR at h1
      rw [List.length_map, List.length_map, List.length_map, List.length_take] at h1
      omega
    refine x_last (x_dput (l := p) (s := r.name) (Pe := MEnt K (imgF size os r)) upd_same hHp' (ev_var rfl) (ev_var rfl) (by
      rw [del_upd hp']
      refine EvR.imp (er_lstA (Pa := fun vs B' => ∃ z r3, vs = z :: r3 ∧ IsV (.int r.ar) z B' ∧ ∃ z2 r4, r3 = z2 :: r4 ∧ IsRows K (AS.ascR size (r.rows.map (img os))) z2 B' ∧ r4 = []) inferInstance (ear inferInstance (eR_v (ev_op (ev_dgetF (ev_var rfl) (ev_var rfl) hBsm hval) ev_c (rv_ixL (sq_of ht) (atI_nat (j := 0) rfl)))) (ear inferInstance (EvR.imp (er_sortRP (K := K) (Bn := size) (d := r.ar.toNat) (R := r.rows.map (img os)) (er_lc1 (Pd := fun q => IsTI K (img os q)) (xs := zs) (ds := r.rows) (fun _ => inferInstance) (ei_list (ev_op (ev_dgetF (ev_var rfl) (ev_var rfl) hBsm hval) ev_c (rv_ixL (sq_of ht) (atI_nat (j := 1) rfl))) (sq_of hq)) (by rw [hzs.1]; omega) hzs.1 (fun _ => rfl) (fun k y B' d e2 hyk hdk => ?_)) (fun z B' ⟨p', ys, h1, h2, h3⟩ => ⟨p', ys, h1, sq_of h2, by rw [h3.1, List.length_map], fun k y d hy hd => ?_⟩) hOk (by rw [List.length_map]; omega) (by omega) (by omega)) ?_) ear_nil)) ?_) ?_
      · obtain ⟨b, rfl, hb⟩ := hzs.2 k y d hyk hdk
        have hb := ex_t e2 (ex_t gAll (hTt hb))
        obtain ⟨hrl, hrb⟩ := hro.rows d (List.mem_of_getElem? hdk)
        have hsl := hos.len
        refine EvR.imp (er_tup (K := K) (Py := fun ys _ => ys = (img os d).map V.int) inferInstance (EvR.imp (er_lc1 (Pd := fun t => IsV (.int t)) (xs := d.map V.int) (ds := img os d) (fun _ => inferInstance) (ei_tup (ev_var rfl) hb) (by rw [List.length_map]; omega) (by rw [List.length_map, img_len]) (fun _ => rfl) (fun j yy B3 d3 e3 hyy hd3 => ?_)) fun z B3 _ ⟨p', ys, q1, q2, q3⟩ => ⟨p', ys, q1, .inl (sq_of q2), q3.vals⟩)) fun z B3 _ ⟨p', ys, q1, q2, q3⟩ => ⟨p', q1, q3 ▸ q2⟩
        rw [List.getElem?_map] at hyy
        unfold img at hd3
        rw [List.getElem?_map] at hd3
        cases hq2 : d[j]? with
        | none => rw [hq2] at hyy; exact nomatch hyy
        | some tt =>
          rw [hq2] at hyy hd3
          have hyy := Option.some.inj hyy
          have hd3 := Option.some.inj hd3
          subst hyy hd3
          obtain ⟨b0, b1⟩ := hrb tt (List.mem_of_getElem? hq2)
          exact eR_v (ev_op (ev_var rfl) (ev_var rfl) (rv_ixL (ex_l ((gAll.trans e2).trans e3) hTl) (atI_int b0 (by omega))))
      · rw [List.getElem?_map] at hd
        cases hq2 : r.rows[k]? with
        | none => rw [hq2] at hd; exact nomatch hd
        | some q0 =>
          rw [hq2] at hd
          have hd := Option.some.inj hd
          subst hd
          exact h3.2 k y q0 hy hq2
      · rintro z B' _ ⟨ps, ys2, S, rfl, hps, hS, hSp, hSs⟩
        have : S = AS.ascR size (r.rows.map (img os)) := AS.ascR_of hOk (hSp.nodup_iff.mpr hnd) hSs fun x => hSp.mem_iff
        subst this
        exact ⟨ps, ys2, rfl, hps, hS⟩
      · rintro vs B' ⟨_, _, rfl, _, _, _, rfl, _, rfl⟩
        show (2 : Nat) ≤ 100000
        decide
      · rintro z B' _ ⟨ps, us, rfl, hps, z1, r1, rfl, hz1, z2, r3, rfl, ⟨q3, ys3, rfl, hq3, hys3⟩, rfl⟩
        have hz1 : z1 = .int r.ar := hz1
        subst hz1
        exact ⟨ps, q3, ys3, rfl, hps, hq3, hys3⟩) (by omega) fun z B9 g9 hp9 hz => ?_)
    rw [del_upd hp'] at g9
    rw [putK_new _ hnone]
    refine x_nx rfl ⟨_, B9, _, rfl, rfl, hp9, gF.trans g9, ?_⟩
    rw [take_snoc hri]
    unfold imgR
    rw [List.map_append]
    exact (hT'.mono g9.ex).snoc (r := imgF size os r) hz
  · obtain ⟨y3, Bs, kvs', rfl, rfl, hp', gF, hT'⟩ := h
    have hyl : ys.length = rels.length := by rw [hy, List.length_map, hkl0]
    rw [hyl, List.take_length] at hT'
    have gAll : Gr (RX.del H m) (upd B m (.frz od (.dK kvs))) Bs := g.trans gF
    have hBsm : Bs m = some (.frz od (.dK kvs)) := gAll.ex _ _ hFm
    refine x_unlock (d := m) (u := .dK kvs) (od := od) (by rw [upd_ne hmp]; exact hBsm) (Or.inr hHm) ?_
    rw [RX.upd_comm (a := p) (b := m) (Ne.symm hmp)]
    have hB6p : (upd Bs m (.dK kvs)) p = none := by rw [upd_ne hmp.symm]; exact hp'
    have gB : Gr H B (upd Bs m (.dK kvs)) := ⟨fun a o ha => by
      by_cases c : a = m
      · subst c; rw [upd_same, ← ha, hm]
      · rw [upd_ne c]
        exact gAll.ex _ _ (by rw [upd_ne c]; exact ha), fun a ha hx => by
      have c : a ≠ m := fun c => by subst c; rw [hm] at ha; exact nomatch ha
      rw [upd_ne c]
      exact gAll.av a (by rw [upd_ne c]; exact ha) (by rw [RX.del_ne c]; exact hx)⟩
    have hT6 : MTab K (imgR size os rels) kvs' (upd Bs m (.dK kvs)) := ⟨hT'.1, fun i p r a b => by
      obtain ⟨t, q0, ys0, h1, h2, h3, h4⟩ := hT'.2 i p r a b
      have c1 : t ≠ m := fun c => by subst c; rw [hBsm] at h2; exact nomatch h2
      have c2 : q0 ≠ m := fun c => by subst c; rw [hBsm] at h3; exact nomatch h3
      refine ⟨t, q0, ys0, h1, by rw [upd_ne c1]; exact h2, by rw [upd_ne c2]; exact h3, h4.1, fun j y row hy hrow => ?_⟩
      obtain ⟨b0, rfl, hb0⟩ := h4.2 j y row hy hrow
      refine ⟨b0, rfl, hb0.imp (fun h => h.imp (fun h => ?_) (fun ⟨o, h⟩ => ⟨o, ?_⟩)) id⟩
      · have c : b0 ≠ m := fun c => by subst c; rw [hBsm] at h; exact nomatch h
        rw [upd_ne c]; exact h
      · have c : b0 ≠ m := fun c => by subst c; rw [hBsm] at h; cases h
        rw [upd_ne c]; exact h⟩
    exact x_last (x_ret (rVp (P := fun z B' => ∃ p kvs', z = .ref p ∧ B' p = some (.dK kvs') ∧ MTab K (imgR size os rels) kvs' B') (ev_var rfl) ⟨p, _, rfl, upd_same, hT6.mono (Ex.new hB6p)⟩) (fun z B' H' g' p' e1 e2 => q z H' B' e2 ((gB.trans (gr_new hB6p hpH)).trans g') e1 p'))
end Kx
namespace Kx
open PySem PySem.Spec PyProof.Rows L2 Evl LX T XV RX WS
variable {P : Program} {w : World} {K : PySem.W.Frag} {mg : Str → Option Value} {base : Heap}
/-! ### two lists kept apart -/
theorem mrg2 {B F' : Hp} {p q : Addr} {o u : HO} (e : Ex B F') (hp : F' p = none) (hq : F' q = none) : mrg F' (upd (upd B p o) q u) = upd (upd F' p o) q u := by
  funext a
  cases c : F' a with
  | some x =>
    have h1 : a ≠ q := fun h => by rw [h, hq] at c; exact nomatch c
    have h2 : a ≠ p := fun h => by rw [h, hp] at c; exact nomatch c
    rw [mrg_some c, upd_ne h1, upd_ne h2, c]
  | none =>
    rw [mrg_none c]
    by_cases h1 : a = q
    · subst h1; rw [upd_same, upd_same]
    · rw [upd_ne h1, upd_ne h1]
      by_cases h2 : a = p
      · subst h2; rw [upd_same, upd_same]
      · rw [upd_ne h2, upd_ne h2, c]
        exact none_of e c
/-- a call whose promise speaks of less than what is known -/
theorem x_callS {σ : L2.St} {X B B0 : Hp} {D : Ends} {tz : TS} {tr : TA} {Dd : List V → Hp → (V → Hp → Prop) → Prop} {E : XK} {Pz : V → Hp → Prop} {vs : List V} {i : Nat} (e0 : Ex B0 B) (h : EvA tr σ B vs) (hD : Dd vs B0 Pz)
    (k : ∀ z B', Gr X B0 B' → (∀ a, B0 a = none → B a ≠ none → B' a = none) → Pz z B' → Sx X tz D (σ.set i (some z)) (mrg B' B)) : Sx X (tSeq (tAsg (tCall (spR Dd) [] E tr) (gName i)) tz) D σ B := fun H e eX =>
  h H e _ fun H2 e2 => by
    show spR Dd (vs ++ []) H2 _ E
    rw [List.append_nil]
    exact ⟨B0, Pz, e0.trans (e.trans e2), hD, fun z H3 B' e4 g e5 p => k z B' (g.back (eX.trans e2)) (fun a h1 h2 => g.av a h1 (ex_ne (e.trans e2) h2)) p H3 (mrg_le e5 ((e.trans e2).trans e4)) ((eX.trans e2).trans e4)⟩
theorem x_methS {σ : L2.St} {X B B0 : Hp} {D : Ends} {tz : TS} {tr : TA} {ta : TE} {C x dx : Addr} {m : Str} {fs : List (Str × V)} {Dd : List V → Hp → (V → Hp → Prop) → Prop} {E : XK} {Pz : V → Hp → Prop} {vs : List V} {i : Nat} (e0 : Ex B0 B) (ho : Ev ta σ B (.ref x)) (hx : B x = some (.ins C dx fs)) (hl : fs.lookup m = none) (h : EvA tr σ B vs) (hD : Dd (.ref x :: vs) B0 Pz)
    (k : ∀ z B', Gr X B0 B' → (∀ a, B0 a = none → B a ≠ none → B' a = none) → Pz z B' → Sx X tz D (σ.set i (some z)) (mrg B' B)) : Sx X (tSeq (tAsg (tMeth C m (spR Dd) [] E ta tr) (gName i)) tz) D σ B := fun H e eX =>
  ho H e _ fun H1 e1 => ⟨x, dx, fs, rfl, (e.trans e1) _ _ hx, hl, h H1 (e.trans e1) _ fun H2 e2' => by
    rw [List.append_nil]
    have e2 := e1.trans e2'
    exact ⟨B0, Pz, e0.trans (e.trans e2), hD, fun z H3 B' e4 g e5 p => k z B' (g.back (eX.trans e2)) (fun a h1 h2 => g.av a h1 (ex_ne (e.trans e2) h2)) p H3 (mrg_le e5 ((e.trans e2).trans e4)) ((eX.trans e2).trans e4)⟩⟩
/-- a list display, told apart -/
theorem x_asgLA {σ : L2.St} {X B : Hp} {D : Ends} {tz : TS} {ta : TA} {Pa : List V → Hp → Prop} {i : Nat} (h : EvAR ta σ B Pa) (hl : ∀ vs B', Pa vs B' → vs.length ≤ 100000) (k : ∀ p vs B', Gr X B B' → B' p = none → X p = none → Pa vs B' → Sx X tz D (σ.set i (some (.ref p))) (upd B' p (.lst vs))) : Sx X (tSeq (tAsg (tLst ta) (gName i)) tz) D σ B := fun H e eX =>
  h H e _ fun vs H2 B' e2 g e3 pa => ⟨sz_of (hl vs B' pa), fun p hp => k p vs B' (g.back eX) (none_of e3 hp) (none_of (eX.trans e2) hp) pa (upd H2 p (.lst vs)) (ex_both e3) ((eX.trans e2).trans (Ex.new hp))⟩
/-! ### == of models and of worlds -/
def fdR (rels : List Rel) : Key → PyData
  | .inr n => .list [.int (arIn rels n), .list ((rowsIn rels n).map rowTD)]
  | .inl _ => .none
theorem fdR_eqv {rels rels2 : List Rel} {n : Str} (h : arIn rels2 n = arIn rels n) : PyData.eqv (fdR rels (.inr n)) (fdR rels2 (.inr n)) = decide (rowsIn rels n = rowsIn rels2 n) := by
  have e : PyData.eqv (fdR rels (.inr n)) (fdR rels2 (.inr n)) = ((arIn rels n == arIn rels2 n) && (PyData.eqvAll ((rowsIn rels n).map rowTD) ((rowsIn rels2 n).map rowTD) && true)) := rfl
  rw [e, eqv_map eqv_row, h]
  simp
theorem datD {B : Hp} {rels : List Rel} {kvs : List (Key × V)} (nd : (rels.map Rel.name).Nodup) (h : MTab K rels kvs B) : DatD K B kvs (fdR rels) := fun p hp => by
  obtain ⟨i, hi, rfl⟩ := List.mem_iff_getElem.mp hp
  have hl := congrArg List.length h.1
  rw [List.length_map, List.length_map] at hl
  have h2 : rels[i]? = some (rels[i]'(by omega)) := List.getElem?_eq_getElem _
  have h1 : kvs[i]? = some kvs[i] := List.getElem?_eq_getElem hi
  have hk : kvs[i].1 = Sum.inr (rels[i]'(by omega)).name := by
    have := congrArg (fun l => l[i]?) h.1
    simp only [List.getElem?_map] at this
    rw [h1, h2] at this
    exact Option.some.inj this
  obtain ⟨t, q, ys, hv, ht, hq, hys⟩ := h.2 i _ _ h1 h2
  have hf := find_self nd (List.mem_of_getElem? h2)
  generalize rels[i]'(by omega) = r at h2 hk ht hys hf
  generalize kvs[i] = kv at h1 hk hv
  rw [hk]
  show Dp K B kv.2 (.list [.int (arIn rels r.name), .list ((rowsIn rels r.name).map rowTD)]) ∧ _
  rw [arIn_some hf, rowsIn_some hf, hv]
  refine ⟨.lst (sq_of ht) (.cons (.int _) (.cons (.lst (sq_of hq) (a2_dpsM (Pd := fun r => IsTI K r) (f := rowTD) (fun _ _ h => dp_rowT h) hys)) .nil)), ?_⟩
  have hpl : Pl 3 (.list [.int r.ar, .list (r.rows.map rowTD)]) := .list fun x hx => by
    have hx : x = .int r.ar ∨ x = .list (r.rows.map rowTD) := by simpa using hx
    rcases hx with c | c
    · subst c; exact .int _
    · subst c
      exact .list fun y hy => by
        obtain ⟨r0, _, rfl⟩ := List.mem_map.mp hy
        exact pl_row r0
  have e : fdR rels (Sum.inr r.name) = .list [.int r.ar, .list (r.rows.map rowTD)] := by
    show PyData.list [.int (arIn rels r.name), .list ((rowsIn rels r.name).map rowTD)] = _
    rw [arIn_some hf, rowsIn_some hf]
  rw [e]
  obtain ⟨l1, l2⟩ := hpl.lay
  exact ⟨l1, by omega⟩
theorem sameR_comm {rels rels2 : List Rel} (h : rels2.map Rel.name = rels.map Rel.name) : sameR rels2 rels = sameR rels rels2 := by
  unfold sameR
  rw [h]
  congr 1
  funext n
  exact decide_eq_decide.mpr ⟨Eq.symm, Eq.symm⟩
theorem mtab_isSome {B : Hp} {rels : List Rel} {kvs : List (Key × V)} {n : Str} (h : MTab K rels kvs B) (hn : n ∈ rels.map Rel.name) : (valV kvs (Sum.inr n)).isSome = true := by
  obtain ⟨r, v, _, hv, _⟩ := h.get hn
  rw [hv]
  rfl
theorem ev_eqM {σ : L2.St} {B : Hp} {ta tb : TE} {m1 m2 : Addr} {k1 k2 : List (Key × V)} {rels rels2 : List Rel} (h1 : Ev ta σ B (.ref m1)) (h2 : Ev tb σ B (.ref m2)) (hm1 : B m1 = some (.dK k1)) (hm2 : B m2 = some (.dK k2)) (T1 : MTab K rels k1 B) (T2 : MTab K rels2 k2 B) (nd : (rels.map Rel.name).Nodup) (hnm : rels2.map Rel.name = rels.map Rel.name) (har : ∀ n, arIn rels2 n = arIn rels n) : Ev (tOp (rEqKd K) ta tb) σ B (.bl (sameR rels rels2)) := by
  refine ev_is (ev_op h1 h2 (rv_eqKd hm1 hm2 (datD nd T1) (datD (hnm ▸ nd) T2))) (congrArg V.bl ?_)
  have hl : k1.length = k2.length := by
    have e1 := congrArg List.length T1.1
    have e2 := congrArg List.length T2.1
    have e3 := congrArg List.length hnm
    simp only [List.length_map] at e1 e2 e3
    omega
  rw [hl, beq_self_eq_true, Bool.true_and]
  have e : (k1.all fun p => (valV k2 p.1).isSome && PyData.eqv (fdR rels p.1) (fdR rels2 p.1)) = (k1.map (·.1)).all fun k => (valV k2 k).isSome && PyData.eqv (fdR rels k) (fdR rels2 k) := by rw [List.all_map]; rfl
  rw [e, T1.1, List.all_map]
  unfold sameR
  rw [List.all_map]
  rw [Bool.eq_iff_iff, List.all_eq_true, List.all_eq_true]
  have key : ∀ r ∈ rels, ((valV k2 (Sum.inr r.name)).isSome && PyData.eqv (fdR rels (Sum.inr r.name)) (fdR rels2 (Sum.inr r.name))) = decide (rowsIn rels r.name = rowsIn rels2 r.name) := fun r hr => by
    rw [mtab_isSome T2 (by rw [hnm]; exact List.mem_map_of_mem hr), fdR_eqv (har _), Bool.true_and]
  exact ⟨fun h r hr => (key r hr).symm.trans (h r hr), fun h r hr => by
    have := h r hr
    show ((valV k2 (Sum.inr r.name)).isSome && PyData.eqv (fdR rels (Sum.inr r.name)) (fdR rels2 (Sum.inr r.name))) = true
    rw [key r hr]
    exact this⟩
theorem ev_eqW {σ : L2.St} {B : Hp} {C : Addr} {ta tb : TE} {x y : Addr} {size : Int} {rels rels2 : List Rel} (h1 : Ev ta σ B (.ref x)) (h2 : Ev tb σ B (.ref y)) (hW : WorldP K P w C size rels x B) (hW2 : WorldP K P w C size rels2 y B) (hI : RelsInv size rels) (hI2 : RelsInv size rels2) (hnm : rels2.map Rel.name = rels.map Rel.name) (har : ∀ n, arIn rels2 n = arIn rels n) : Ev (tOp (rEqO C (spR (dEqW K P w C))) ta tb) σ B (.bl (sameR rels rels2)) := by
  obtain ⟨dx, fs, hx⟩ := hW.ins
  obtain ⟨dy, gs, hy⟩ := hW2.ins
  exact ev_op h1 h2 fun H1 e Q k => ⟨x, dx, fs, y, dy, gs, rfl, rfl, e _ _ hx, e _ _ hy, B, IsV (.bl (sameR rels rels2)), e, ⟨x, y, size, rels, rels2, rfl, hW, hW2, hI, hI2, hnm, har, rfl⟩, fun z H3 B' e3 g e4 hz => ⟨_, hz, k H3 e3⟩⟩
theorem ev_hasW {σ : L2.St} {B : Hp} {C : Addr} {ta tn tr : TE} {x b : Addr} {size : Int} {rels : List Rel} {n : Str} {row : List Int} (h : Ev ta σ B (.ref x)) (h1 : Ev tn σ B (.str n)) (h2 : Ev tr σ B (.ref b)) (hW : WorldP K P w C size rels x B) (hI : RelsInv size rels) (hn : n ∈ rels.map Rel.name) (hb : SqT K B b (row.map V.int)) (hl : (row.length : Int) = arIn rels n) (hbd : TS.Bd size row) : Ev (tOp (rInO C (spR (dHas K P w C))) (tTup (tCons tn (tCons tr tNil))) ta) σ B (.bl (decide (row ∈ rowsIn rels n))) := by
  refine ev_opR (P0 := fun z B' => ∃ p, z = .ref p ∧ B' p = some (.tup [.str n, .ref b])) (EvR.imp (er_tupN (Pa := fun vs _ => vs = [V.str n, .ref b]) inferInstance (rA (ea_cons h1 (ea_cons h2 ea_nil))) (fun vs _ h => by rw [h]; show (2 : Nat) ≤ 100000; decide)) fun z B' _ ⟨p, vs, a, c, d⟩ => ⟨p, a, d ▸ c⟩) h fun z B' e ⟨p, hz, hp⟩ => ?_
  subst hz
  obtain ⟨dx, fs, hx⟩ := hW.ins
  have hd : Dp K B' (.ref p) (.tuple [.str n, rowTD row]) := .tup (st_of hp) (.cons (.str n) (.cons (.tup (ex_t e hb) (dp_ints row)) .nil))
  have hro : rowOf (rowTD row) = row := rowOf_T row
  exact fun H1 e1 Q k => ⟨x, dx, fs, rfl, e1 _ _ (e _ _ hx), B', IsV (.bl (decide (row ∈ rowsIn rels n))), e1, ⟨x, size, rels, n, .ref p, _, rowTD row, rfl, hW.mono e, hI, hn, hd, rfl, rowD_ints rfl hl hbd, by rw [hro]⟩, fun z H3 B'' e3 g e4 hz => ⟨_, hz, k H3 e3⟩⟩
theorem RelsInv.fit {size : Int} {rels : List Rel} (I : RelsInv size rels) (h : ∀ r ∈ rels, r.rows.length ≤ 63) : RelsFit rels := by
  refine ⟨I.few, I.nd, fun n => rowsIn_le h n, fun n q hq => ?_⟩
  unfold rowsIn at hq
  cases c : rels.find? (fun r => decide (r.name = n)) with
  | none => rw [c] at hq; exact nomatch hq
  | some r =>
    rw [c] at hq
    have k := I.ok r (List.mem_of_find?_eq_some c)
    have := (k.rows q hq).1
    have := k.hi
    omega
theorem ev_lworldP {C : Addr} {σ : L2.St} {B : Hp} {ta tb tc : TE} {x m : Addr} {big : Int} {rels : List Rel} {kvs : List (Key × V)} (h1 : Ev ta σ B (.ref x)) (h2 : Ev tb σ B (.int big)) (h3 : Ev tc σ B (.ref m)) (hm : B m = some (.dK kvs)) (hT : MTab K rels kvs B) (hW : WorldP K P w C big rels x B) (hI : RelsInv big rels) (hl : ∀ r ∈ rels, r.rows.length ≤ 63) : Ev (tCall (spR (dIsWorld K P w C)) [] E0 (tCons ta (tCons tb (tCons tc tNil)))) σ B (.bl true) := by
  obtain ⟨rels', hp, hWA⟩ := hW
  have hfit := hI.fit hl
  have hfit' : RelsFit rels' := ⟨by rw [hp.length_eq]; exact hfit.few, (hp.map _).nodup_iff.mpr hfit.nd, fun n => by rw [rowsIn_perm hp hI.nd]; exact hfit.rows n, fun n q hq => hfit.row n q (by rw [rowsIn_perm hp hI.nd] at hq; exact hq)⟩
  exact (er_callB (Pz := IsV (.bl true)) (ea_cons h1 (ea_cons h2 (ea_cons h3 ea_nil))) ⟨x, m, big, rels', kvs, rfl, hWA, hm, ⟨rels, hp.symm, hT⟩, hfit', rfl⟩).val
theorem ev_goneP {C : Addr} {σ : L2.St} {B : Hp} {ta tc : TE} {x m : Addr} {big : Int} {rels : List Rel} {kvs : List (Key × V)} (h1 : Ev ta σ B (.ref x)) (h3 : Ev tc σ B (.ref m)) (hm : B m = some (.dK kvs)) (hT : MTab K rels kvs B) (hW : WorldP K P w C big rels x B) (hI : RelsInv big rels) (hl : ∀ r ∈ rels, r.rows.length ≤ 63) : Ev (tCall (spR (dGone K P w C)) [] E0 (tCons ta (tCons tc tNil))) σ B (.bl true) :=
  (er_callB (Pz := IsV (.bl true)) (ea_cons h1 (ea_cons h3 ea_nil)) ⟨x, m, big, rels, kvs, rfl, hW, hI, hm, hT, hl, rfl⟩).val
def WorldQ (K : PySem.W.Frag) (P : Program) (w : World) (C : Addr) (big : Int) (rels : List Rel) : V → Hp → Prop := fun z B => ∃ x, z = .ref x ∧ WorldP K P w C big rels x B
instance {C : Addr} {big : Int} {rels : List Rel} : Mo (WorldQ K P w C big rels) := ⟨fun e ⟨x, a, b⟩ => ⟨x, a, b.mono e⟩⟩
end Kx
namespace Kx
open PySem PySem.Spec PyProof.Rows L2 Evl LX T XV RX WS
variable {P : Program} {w : World} {K : PySem.W.Frag} {mg : Str → Option Value} {base : Heap}
structure Fam (big : Int) (ns0 : List Str) (ar0 : Str → Int) (rels : List Rel) : Prop where
  inv : RelsInv big rels
  nm : rels.map Rel.name = ns0
  ar : ∀ n, arIn rels n = ar0 n
/-! ### statements with one outcome -/
def AsgS (X : Hp) (tu : TS) (i : Nat) (σ : L2.St) (B : Hp) (P0 : V → Hp → Prop) : Prop := ∀ {D : Ends} {tz : TS}, (∀ z B', P0 z B' → Sx X tz D (σ.set i (some z)) B') → Sx X (tSeq tu tz) D σ B
theorem x_ifA {X B : Hp} {σ : L2.St} {D : Ends} {t : TT} {tu tw tz : TS} {i : Nat} {b : Bool} {P0 : V → Hp → Prop} (h : EvT t σ B b) (h1 : b = true → AsgS X tu i σ B P0) (h2 : b = false → AsgS X tw i σ B P0) (k : ∀ z B', P0 z B' → Sx X tz D (σ.set i (some z)) B') : Sx X (tSeq (tIfS t tu tw) tz) D σ B :=
  x_if h (fun hb => x_last (h1 hb fun z B' p => x_end (k z B' p))) (fun hb => x_last (h2 hb fun z B' p => x_end (k z B' p)))
def ActS (X : Hp) (tu : TS) (σ : L2.St) (B : Hp) (P0 : Hp → Prop) : Prop := ∀ {D : Ends} {tz : TS}, (∀ B', P0 B' → Sx X tz D σ B') → Sx X (tSeq tu tz) D σ B
theorem x_whenA {X B : Hp} {σ : L2.St} {D : Ends} {t : TT} {tu tz : TS} {b : Bool} {P0 : Hp → Prop} (h : EvT t σ B b) (h1 : b = true → ActS X tu σ B P0) (h2 : b = false → P0 B) (k : ∀ B', P0 B' → Sx X tz D σ B') : Sx X (tSeq (tIfS t tu tNext) tz) D σ B :=
  x_when h (fun hb => x_last (h1 hb fun B' p => x_end (k B' p))) (fun hb => k B (h2 hb))
theorem upd_del {B : Hp} {p : Addr} {o : HO} (h : B p = some o) : upd (RX.del B p) p o = B := by
  funext a
  by_cases c : a = p
  · subst c; rw [upd_same, h]
  · rw [upd_ne c, RX.del_ne c]
theorem nl_del {B : Hp} {p : Addr} {xs : List V} (h : B p = some (.lst xs)) : Nl B (RX.del B p) := fun a o ha hne => by
  have c : a ≠ p := fun c => by subst c; rw [h] at ha; exact hne _ (Option.some.inj ha).symm
  rw [RX.del_ne c]; exact ha
theorem nl_upd {B : Hp} {p : Addr} {xs : List V} {u : HO} (h : B p = some (.lst xs)) : Nl B (upd B p u) := fun a o ha hne => by
  have c : a ≠ p := fun c => by subst c; rw [h] at ha; exact hne _ (Option.some.inj ha).symm
  rw [upd_ne c]; exact ha
/-! ### the family of worlds -/
theorem ascR_idem {size : Int} {d : Nat} {M : List (List Int)} (h : ∀ x ∈ M, AS.Ok size d x) : AS.ascR size (AS.ascR size M) = AS.ascR size M := asc_same h fun r => AS.mem_ascR
theorem relsG_inv {big : Int} {ns : List Str} {gs : List (Int × List (List Int))} (hg : gs.length = ns.length) (hnd : ns.Nodup) (h12 : ns.length ≤ 12) (hn : ∀ s ∈ ns, nameOkS s = true ∧ PySem.PyData.strOk s = true) (hok : ∀ g ∈ gs, GivenOk big g) (h2 : 2 ≤ big) (h4 : big ≤ 400) : RelsInv big (relsG big ns gs) ∧ ∀ r ∈ relsG big ns gs, r.rows.length ≤ 31 := by
  have hone : ∀ r ∈ relsG big ns gs, ∃ n ∈ ns, ∃ g ∈ gs, r = relG big n g := fun r hr => by
    obtain ⟨i, hi, rfl⟩ := List.mem_iff_getElem.mp hr
    have hlz : (relsG big ns gs).length = ns.length := by unfold relsG; rw [List.length_zipWith]; omega
    have q2 : ns[i]? = some (ns[i]'(by omega)) := List.getElem?_eq_getElem _
    have q3 : gs[i]? = some (gs[i]'(by omega)) := List.getElem?_eq_getElem _
    have := relsG_get (big := big) q2 q3
    rw [List.getElem?_eq_getElem hi] at this
    exact ⟨_, List.mem_of_getElem? q2, _, List.mem_of_getElem? q3, Option.some.inj this⟩
  refine ⟨⟨by unfold relsG; rw [List.length_zipWith]; omega, by rw [relsG_names hg]; exact hnd, fun r hr => ?_, h2, h4⟩, fun r hr => ?_⟩
  · obtain ⟨n, hnm, g, hgm, rfl⟩ := hone r hr
    obtain ⟨a1, a3, hr, _⟩ := hok g hgm
    refine ⟨(hn n hnm).1, (hn n hnm).2, a1, a3, fun q hq => hr q (AS.mem_ascR.mp hq), ?_⟩
    exact ascR_idem (d := g.1.toNat) fun x hx => ⟨by have := (hr x hx).1; omega, (hr x hx).2⟩
  · obtain ⟨n, hnm, g, hgm, rfl⟩ := hone r hr
    have h1 : (AS.ascR big g.2).length ≤ g.2.length := len_ascR
    have h2 := (hok g hgm).2.2.2
    show (AS.ascR big g.2).length ≤ 31
    omega
theorem new_mem {which : Int} {R : List (List Int)} {row x : List Int} (h : x ∈ newRows which R row) : x ∈ R ∨ x = row := by
  unfold newRows at h
  split at h
  · rw [List.mem_append, List.mem_singleton] at h; exact h
  · exact .inl (List.mem_filter.mp h).1
theorem new_len {which : Int} {R : List (List Int)} {row : List Int} : (newRows which R row).length ≤ R.length + 1 := by
  unfold newRows
  split
  · rw [List.length_append]; exact Nat.le_refl _
  · exact Nat.le_succ_of_le (List.length_filter_le _ _)
theorem fam_next {big : Int} {ns : List Str} {ar0 : Str → Int} {rels : List Rel} {n : Str} {row : List Int} {which : Int} {c : Nat} (h : Fam big ns ar0 rels) (hc : ∀ r ∈ rels, r.rows.length ≤ c) (hn : n ∈ ns) (hl : (row.length : Int) = ar0 n) (hb : TS.Bd big row) : Fam big ns ar0 (setR n (AS.ascR big (newRows which (rowsIn rels n) row)) rels) ∧ ∀ r ∈ setR n (AS.ascR big (newRows which (rowsIn rels n) row)) rels, r.rows.length ≤ c + 1 := by
  have hn' : n ∈ rels.map Rel.name := by rw [h.nm]; exact hn
  obtain ⟨r, hr0, hrn, hro, hra, hrw⟩ := h.inv.at hn'
  have hM : ∀ x ∈ newRows which (rowsIn rels n) row, (x.length : Int) = r.ar ∧ TS.Bd big x := fun x hx => by
    rcases new_mem hx with q | q
    · rw [hrw] at q
      exact hro.rows x q
    · subst q
      exact ⟨by rw [hl, ← h.ar, hra], hb⟩
  have hO : ∀ x ∈ newRows which (rowsIn rels n) row, AS.Ok big r.ar.toNat x := fun x hx => ⟨by have := (hM x hx).1; omega, (hM x hx).2⟩
  refine ⟨⟨setR_inv h.inv (fun r' hr' he q hq => ?_) (ascR_idem hO), by rw [setR_names]; exact h.nm, fun m => by rw [arIn_setR]; exact h.ar m⟩, fun r' hr' => ?_⟩
  · have : r' = r := by
      have q1 := find_self h.inv.nd hr'
      have q2 := find_self h.inv.nd hr0
      rw [he, ← hrn, q2] at q1
      exact (Option.some.inj q1).symm
    subst this
    exact hM q (AS.mem_ascR.mp hq)
  · obtain ⟨r1, h1, rfl⟩ := List.mem_map.mp hr'
    have hc1 := hc r1 h1
    unfold setF
    split
    · have q1 : (AS.ascR big (newRows which (rowsIn rels n) row)).length ≤ (newRows which (rowsIn rels n) row).length := len_ascR
      have q2 := new_len (which := which) (R := rowsIn rels n) (row := row)
      have q3 := rowsIn_le hc n
      show (AS.ascR big (newRows which (rowsIn rels n) row)).length ≤ c + 1
      omega
    · omega
/-! ### _law_goes_on -/
def AnyS (X : Hp) (tu : TS) (σ : L2.St) (B : Hp) (P0 : L2.St → Hp → Prop) : Prop := ∀ {D : Ends} {tz : TS}, (∀ σ' B', P0 σ' B' → Sx X tz D σ' B') → Sx X (tSeq tu tz) D σ B
theorem x_ifG {X B : Hp} {σ : L2.St} {D : Ends} {t : TT} {tu tw tz : TS} {b : Bool} {P0 : L2.St → Hp → Prop} (h : EvT t σ B b) (h1 : b = true → AnyS X tu σ B P0) (h2 : b = false → AnyS X tw σ B P0) (k : ∀ σ' B', P0 σ' B' → Sx X tz D σ' B') : Sx X (tSeq (tIfS t tu tw) tz) D σ B :=
  x_if h (fun hb => x_last (h1 hb fun σ' B' p => x_end (k σ' B' p))) (fun hb => x_last (h2 hb fun σ' B' p => x_end (k σ' B' p)))
theorem x_assoc {X B : Hp} {σ : L2.St} {D : Ends} {t1 t2 tz : TS} (h : Sx X (tSeq t1 (tSeq t2 tz)) D σ B) : Sx X (tSeq (tSeq t1 t2) tz) D σ B := h
theorem ev_lworldR {C : Addr} {σ : L2.St} {B : Hp} {ta tb tc : TE} {x : Addr} {big : Int} {rels : List Rel} (h1 : Ev ta σ B (.ref x)) (h2 : Ev tb σ B (.int big)) (h3 : EvR tc σ B fun z B' => ∃ p kvs, z = .ref p ∧ B' p = some (.dK kvs) ∧ MTab K rels kvs B') (hW : WorldP K P w C big rels x B) (hI : RelsInv big rels) (hl : ∀ r ∈ rels, r.rows.length ≤ 63) : Ev (tCall (spR (dIsWorld K P w C)) [] E0 (tCons ta (tCons tb (tCons tc tNil)))) σ B (.bl true) := by
  obtain ⟨rels', hp, hWA⟩ := hW
  have hfit := hI.fit hl
  have hfit' : RelsFit rels' := ⟨by rw [hp.length_eq]; exact hfit.few, (hp.map _).nodup_iff.mpr hfit.nd, fun n => by rw [rowsIn_perm hp hI.nd]; exact hfit.rows n, fun n q hq => hfit.row n q (by rw [rowsIn_perm hp hI.nd] at hq; exact hq)⟩
  refine EvR.val (er_callP (Pz := IsV (.bl true)) (Pa := fun vs B' => ∃ p kvs, vs = [.ref x, .int big, .ref p] ∧ B' p = some (.dK kvs) ∧ MTab K rels kvs B') (EvAR.imp (ear (Pr := fun r B' => ∃ z2 r2, r = z2 :: r2 ∧ IsV (.int big) z2 B' ∧ ∃ z3 r3, r2 = z3 :: r3 ∧ (∃ p kvs, z3 = .ref p ∧ B' p = some (.dK kvs) ∧ MTab K rels kvs B') ∧ r3 = []) inferInstance (mr := ⟨fun e ⟨z2, r2, a, b, z3, r3, c, ⟨p, kvs, d, f, g⟩, h⟩ => ⟨z2, r2, a, b, z3, r3, c, ⟨p, kvs, d, e _ _ f, g.mono e⟩, h⟩⟩) (eR_v h1) (ear inferInstance (mr := ⟨fun e ⟨z3, r3, c, ⟨p, kvs, d, f, g⟩, h⟩ => ⟨z3, r3, c, ⟨p, kvs, d, e _ _ f, g.mono e⟩, h⟩⟩) (eR_v h2) (ear ⟨fun e ⟨p, kvs, d, f, g⟩ => ⟨p, kvs, d, e _ _ f, g.mono e⟩⟩ h3 ear_nil))) ?_) ?_)
  · rintro vs B' _ ⟨z1, r1, rfl, hz1, z2, r2, rfl, hz2, z3, r3, rfl, ⟨p, kvs, rfl, hp, hm⟩, rfl⟩
    have hz1 : z1 = .ref x := hz1
    have hz2 : z2 = .int big := hz2
    subst hz1 hz2
    exact ⟨p, kvs, rfl, hp, hm⟩
  · rintro vs B' e ⟨p, kvs, rfl, hpp, hm⟩
    exact ⟨_, ⟨x, p, big, rels', kvs, rfl, hWA.mono e, hpp, ⟨rels, hp.symm, hm⟩, hfit', rfl⟩, fun z B'' _ h => h⟩
theorem WorldP.ins2 {C : Addr} {size : Int} {rels : List Rel} {x : Addr} {B : Hp} (h : WorldP K P w C size rels x B) : ∃ dx fs, B x = some (.ins C dx fs) ∧ fs.lookup ("put" : Str) = none ∧ fs.lookup ("drop" : Str) = none ∧ fs.lookup ("moved" : Str) = none := by
  obtain ⟨r, p, dx, zn, pf, t, za, ps, kvs, ys, st, ns, h1, _⟩ := h
  exact ⟨_, _, h1, rfl, rfl, rfl⟩
/-- put (0) or drop (1), with the row as a tuple -/
theorem er_put {σ : L2.St} {B : Hp} {C : Addr} {ta tn tr : TE} {x b : Addr} {big : Int} {ns : List Str} {ar0 : Str → Int} {rels : List Rel} {n : Str} {row : List Int} {E : XK} (h : Ev ta σ B (.ref x)) (h1 : Ev tn σ B (.str n)) (h2 : Ev tr σ B (.ref b)) (hW : WorldP K P w C big rels x B) (hf : Fam big ns ar0 rels) (hn : n ∈ ns) (hb : SqT K B b (row.map V.int)) (hl : (row.length : Int) = ar0 n) (hbd : TS.Bd big row) (hall : ∀ r ∈ rels, r.rows.length < 62) :
    EvR (tMeth C "put" (spR (dPut K P w C)) [] E ta (tCons tn (tCons tr tNil))) σ B (WorldQ K P w C big (setR n (AS.ascR big (newRows 0 (rowsIn rels n) row)) rels)) := by
  obtain ⟨dx, fs, hx, hp, _, _⟩ := hW.ins2
  have hn' : n ∈ rels.map Rel.name := by rw [hf.nm]; exact hn
  have hro : rowOf (rowTD row) = row := rowOf_T row
  exact er_meth h hx hp (ea_cons h1 (ea_cons h2 ea_nil)) fun B' e => ⟨x, big, rels, n, .ref b, rowTD row, rfl, hW.mono e, hf.inv, hn', dp_rowT ⟨b, rfl, ex_t e hb⟩, rowD_ints rfl (by rw [hf.ar]; exact hl) hbd, hall, by rw [hro, show newRows 0 (rowsIn rels n) row = rowsIn rels n ++ [row] from if_pos rfl]; rfl⟩
theorem er_drop {σ : L2.St} {B : Hp} {C : Addr} {ta tn tr : TE} {x b : Addr} {big : Int} {ns : List Str} {ar0 : Str → Int} {rels : List Rel} {n : Str} {row : List Int} {E : XK} (h : Ev ta σ B (.ref x)) (h1 : Ev tn σ B (.str n)) (h2 : Ev tr σ B (.ref b)) (hW : WorldP K P w C big rels x B) (hf : Fam big ns ar0 rels) (hn : n ∈ ns) (hb : SqT K B b (row.map V.int)) (hl : (row.length : Int) = ar0 n) (hbd : TS.Bd big row) (hall : ∀ r ∈ rels, r.rows.length < 62) :
    EvR (tMeth C "drop" (spR (dDrop K P w C)) [] E ta (tCons tn (tCons tr tNil))) σ B (WorldQ K P w C big (setR n (AS.ascR big (newRows 1 (rowsIn rels n) row)) rels)) := by
  obtain ⟨dx, fs, hx, _, hp, _⟩ := hW.ins2
  have hn' : n ∈ rels.map Rel.name := by rw [hf.nm]; exact hn
  have hro : rowOf (rowTD row) = row := rowOf_T row
  exact er_meth h hx hp (ea_cons h1 (ea_cons h2 ea_nil)) fun B' e => ⟨x, big, rels, n, .ref b, rowTD row, rfl, hW.mono e, hf.inv, hn', dp_rowT ⟨b, rfl, ex_t e hb⟩, rowD_ints rfl (by rw [hf.ar]; exact hl) hbd, fun r hr => Nat.lt_succ_of_lt (hall r hr), by rw [hro, show newRows 1 (rowsIn rels n) row = (rowsIn rels n).filter fun q => decide (q ≠ row) from if_neg (by decide)]; rfl⟩
end Kx
namespace Kx
open PySem PySem.Spec PyProof.Rows L2 Evl LX T XV RX WS
variable {P : Program} {w : World} {K : PySem.W.Frag} {mg : Str → Option Value} {base : Heap}
/-! ### _law_goes_on -/
structure WM (K : PySem.W.Frag) (P : Program) (w : World) (C : Addr) (big : Int) (ns : List Str) (ar0 : Str → Int) (rels : List Rel) (x m : Addr) (B : Hp) : Prop where
  w : WorldP K P w C big rels x B
  m : ∃ kvs, B m = some (.dK kvs) ∧ MTab K rels kvs B
  f : Fam big ns ar0 rels
  l : ∀ r ∈ rels, r.rows.length ≤ 40
theorem WM.mono {C : Addr} {big : Int} {ns : List Str} {ar0 : Str → Int} {rels : List Rel} {x m : Addr} {B B' : Hp} (e : Ex B B') (h : WM K P w C big ns ar0 rels x m B) : WM K P w C big ns ar0 rels x m B' := by
  obtain ⟨h1, ⟨kvs, h2, h3⟩, h4, h5⟩ := h
  exact ⟨h1.mono e, ⟨kvs, e _ _ h2, h3.mono e⟩, h4, h5⟩
def dGoes (K : PySem.W.Frag) (P : Program) (w : World) (C : Addr) : List V → Hp → (V → Hp → Prop) → Prop := fun vs B Pz => ∃ (x x2 m m2 b : Addr) (big : Int) (ns : List Str) (ar0 : Str → Int) (rels rels2 : List Rel) (n : Str) (row : List Int), vs = [.ref x, .ref x2, .int big, .ref m, .ref m2, .str n, .ref b] ∧ WM K P w C big ns ar0 rels x m B ∧ WM K P w C big ns ar0 rels2 x2 m2 B ∧ n ∈ ns ∧ SqT K B b (row.map V.int) ∧ (row.length : Int) = ar0 n ∧ TS.Bd big row ∧ Pz = IsV (.bl true)
theorem er_withRow {σ : L2.St} {B : Hp} {C : Addr} {tm tn tr tw : TE} {x m b : Addr} {big : Int} {ns : List Str} {ar0 : Str → Int} {rels : List Rel} {n : Str} {row : List Int} {which : Int} (h : Ev tm σ B (.ref m)) (h1 : Ev tn σ B (.str n)) (h2 : Ev tr σ B (.ref b)) (h3 : Ev tw σ B (.int which)) (hW : WM K P w C big ns ar0 rels x m B) (hn : n ∈ ns) (hb : SqT K B b (row.map V.int)) (hl : (row.length : Int) = ar0 n) (hbd : TS.Bd big row) :
    EvR (tCall (spR (dWR K)) [] E0 (tCons tm (tCons tn (tCons tr (tCons tw tNil))))) σ B fun z B' => ∃ p kvs, z = .ref p ∧ B' p = some (.dK kvs) ∧ MTab K (setR n (AS.ascR big (newRows which (rowsIn rels n) row)) rels) kvs B' := by
  obtain ⟨_, ⟨kvs, hm, hT⟩, hf, hl40⟩ := hW
  exact er_callB (ea_cons h (ea_cons h1 (ea_cons h2 (ea_cons h3 ea_nil)))) ⟨m, b, big, rels, kvs, n, row, which, rfl, hm, hT, hf.inv, by rw [hf.nm]; exact hn, hb, by rw [hf.ar]; exact hl, hbd, fun r hr => by have := hl40 r hr; omega, rfl⟩
abbrev law_goes_on_N : List Str := ["world", "other", "big", "model", "due", "text", "row", "which", "first", "second"]
abbrev law_goes_on_P : List Str := ["world", "other", "big", "model", "due", "text", "row"]
theorem sc_law_goes_on : FnScope ["world", "other", "big", "model", "due", "text", "row", "which", "first", "second"] ["world", "other", "big", "model", "due", "text", "row"] (defScope s_law_goes_on) := ⟨rfl, rfl, rfl, by decide +kernel, rfl, by decide +kernel, by decide +kernel⟩
theorem ok_goes (T : TX K mg) : OkF P w K mg base 11 "_law_goes_on" ["world", "other", "big", "model", "due", "text", "row"] (spR (dGoes K P w (wC K))) := by
  have n_range := T.n "range" (by decide +kernel)
  refine T.okF 38 rfl (by decide +kernel) (fun f fd F => ?_) (fun _ _ _ _ _ _ us hl => match us, hl with | [_, _, _, _, _, _, _], _ => rfl)
  have O__law_with_row := ok_wr (P := P) (w := w) (base := base) T
  have O__law_is_world := ok_lworld (P := P) (w := w) (base := base) T (w_cls T) (w_noat T) (w_arity T) (w_rows T)
  have M_put := w_put (P := P) (w := w) (base := base) T
  have M_drop := w_drop (P := P) (w := w) (base := base) T
  have hC := w_cls T
  refine F.ok sc_law_goes_on (fun vs H Q E h => spR_len h (by rintro B Pz ⟨x, x2, m, m2, b, s, ns, ar, r, r2, n, row, rfl, _⟩; rfl)) (fun cdv A outer s H vs Q E hr ⟨B, Pz, e, ⟨x, x2, m, m2, b, big, ns, ar0, rels, rels2, n, row, hvs, h1, h2, hn, hb, hl, hbd, hP⟩, q⟩ => ?_)
  subst hvs hP
  refine ⟨_, (pss_cons (ps_for PassesOwn.never rfl (pi_range1 (by rfl) n_range (pa_cons pe_int pa_nil)) (pg_name (i := 7) sc_law_goes_on.nd rfl (.inl rfl)) (pss_cons (ps_if (pt_cmpR op_eq (pv 7) pe_int (nomark _)) (pss_cons (ps_set (i := 8) sc_law_goes_on.nd rfl (.inl rfl) (RX.pe_m M_put hC hr (by decide) (pv 0) (pa_cons (pv 5) (pa_cons (pv 6) pa_nil))))
        (pss_one (ps_set (i := 9) sc_law_goes_on.nd rfl (.inl rfl) (RX.pe_m M_put hC hr (by decide) (pv 1) (pa_cons (pv 5) (pa_cons (pv 6) pa_nil)))))) (pss_cons (ps_set (i := 8) sc_law_goes_on.nd rfl (.inl rfl) (RX.pe_m M_drop hC hr (by decide) (pv 0) (pa_cons (pv 5) (pa_cons (pv 6) pa_nil))))
        (pss_one (ps_set (i := 9) sc_law_goes_on.nd rfl (.inl rfl) (RX.pe_m M_drop hC hr (by decide) (pv 1) (pa_cons (pv 5) (pa_cons (pv 6) pa_nil)))))))
        (pss_cons (ps_if (pt_not (pt_val (LX.pe_f O__law_is_world hr (by decide) (pa_cons (pv 8) (pa_cons (pv 2) (pa_cons (LX.pe_f O__law_with_row hr (by decide) (pa_cons (pv 3) (pa_cons (pv 5) (pa_cons (pv 6) (pa_cons (pv 7) pa_nil))))) pa_nil)))))) (pss_one (ps_ret pe_bl)) pss_nil)
        (pss_one (ps_if (pt_not (pt_val (LX.pe_f O__law_is_world hr (by decide) (pa_cons (pv 9) (pa_cons (pv 2) (pa_cons (LX.pe_f O__law_with_row hr (by decide) (pa_cons (pv 4) (pa_cons (pv 5) (pa_cons (pv 6) (pa_cons (pv 7) pa_nil))))) pa_nil)))))) (pss_one (ps_ret pe_bl)) pss_nil)))))
        (pss_one (ps_ret pe_bl))), ?_⟩
  refine x_for (X := H) (B := B) (F := B) (Ex.refl _) (ei_rng1 (n := ((2 : Nat) : Int)) (ea_cons ev_c ea_nil) (by omega)) (fun F' ys i σ' B' => Ex F' B' ∧ ∃ y7 y8 y9 : Option V, σ' = [some (V.ref x), some (.ref x2), some (.int big), some (.ref m), some (.ref m2), some (.str n), some (.ref b), y7, y8, y9]) (fun F' ys g hy av => ⟨by rw [NM.mrg_self g.ex]; exact Ex.refl _, none, none, none, rfl⟩) (fun F' ys i σ' B' h => h.1) (fun F' ys i xx σ' B' g hy hxi h => ?_) (fun F' ys σ' B' g hy h => ?_) H e (Ex.refl H)
  · obtain ⟨eB, y7, y8, y9, rfl⟩ := h
    rw [hy, Int.toNat_natCast] at hxi
    obtain ⟨rfl, hi⟩ := rng_get hxi
    have e1 := g.ex.trans eB
    have k1 := h1.mono e1
    have k2 := h2.mono e1
    have hb1 := ex_t e1 hb
    have h62 : ∀ r ∈ rels, r.rows.length < 62 := fun r hr => by have := h1.l r hr; omega
    have h62' : ∀ r ∈ rels2, r.rows.length < 62 := fun r hr => by have := h2.l r hr; omega
    refine x_ifG (b := decide (i = 0)) (P0 := fun σ' B2 => ∃ y z : Addr, Ex B' B2 ∧ σ' = [some (V.ref x), some (.ref x2), some (.int big), some (.ref m), some (.ref m2), some (.str n), some (.ref b), some (.int (i : Int)), some (.ref y), some (.ref z)] ∧ WorldP K P w (wC K) big (setR n (AS.ascR big (newRows (i : Int) (rowsIn rels n) row)) rels) y B2 ∧ WorldP K P w (wC K) big (setR n (AS.ascR big (newRows (i : Int) (rowsIn rels2 n) row)) rels2) z B2) (et_test (ev_is (ev_op (ev_var rfl) ev_c (rv_eq rfl)) (congrArg V.bl (by
      have : (V.int (i : Int) = V.int 0) ↔ i = 0 := ⟨fun h => by have := V.int.inj h; omega, fun h => by rw [h]; rfl⟩
      simp only [this])))) (fun hbb => ?_) (fun hbb => ?_) fun σ' B2 hp => ?_
    · have h0 : i = 0 := of_decide_eq_true hbb
      subst h0
      intro D tz k
      refine x_assoc (x_asg (er_put (ev_var rfl) (ev_var rfl) (ev_var rfl) k1.w k1.f hn hb1 hl hbd h62) fun z B2 g2 ⟨y, hz, hWy⟩ => ?_)
      subst hz
      refine x_asg (er_put (ev_var rfl) (ev_var rfl) (ev_var rfl) (k2.w.mono g2.ex) k2.f hn (ex_t g2.ex hb1) hl hbd h62') fun z B3 g3 ⟨y2, hz, hWy2⟩ => ?_
      subst hz
      exact k _ _ ⟨y, y2, g2.ex.trans g3.ex, rfl, hWy.mono g3.ex, hWy2⟩
    · have h0 : i = 1 := by have : ¬ i = 0 := of_decide_eq_false hbb; omega
      subst h0
      intro D tz k
      refine x_assoc (x_asg (er_drop (ev_var rfl) (ev_var rfl) (ev_var rfl) k1.w k1.f hn hb1 hl hbd h62) fun z B2 g2 ⟨y, hz, hWy⟩ => ?_)
      subst hz
      refine x_asg (er_drop (ev_var rfl) (ev_var rfl) (ev_var rfl) (k2.w.mono g2.ex) k2.f hn (ex_t g2.ex hb1) hl hbd h62') fun z B3 g3 ⟨y2, hz, hWy2⟩ => ?_
      subst hz
      exact k _ _ ⟨y, y2, g2.ex.trans g3.ex, rfl, hWy.mono g3.ex, hWy2⟩
    · obtain ⟨y, z, e2, rfl, hWy, hWz⟩ := hp
      obtain ⟨f1, l1⟩ := fam_next (which := (i : Int)) h1.f h1.l hn hl hbd
      obtain ⟨f2, l2⟩ := fam_next (which := (i : Int)) h2.f h2.l hn hl hbd
      refine x_when (b := false) (et_not (a := true) (et_B (ev_lworldR (ev_var rfl) (ev_var rfl) (er_withRow (ev_var rfl) (ev_var rfl) (ev_var rfl) (ev_var rfl) (k1.mono e2) hn (ex_t e2 hb1) hl hbd) hWy f1.inv (fun r hr => by have := l1 r hr; omega)))) (fun h => nomatch h) (fun _ => ?_)
      exact x_last (x_when (b := false) (et_not (a := true) (et_B (ev_lworldR (ev_var rfl) (ev_var rfl) (er_withRow (ev_var rfl) (ev_var rfl) (ev_var rfl) (ev_var rfl) (k2.mono e2) hn (ex_t e2 hb1) hl hbd) hWz f2.inv (fun r hr => by have := l2 r hr; omega)))) (fun h => nomatch h) (fun _ => x_nx rfl ⟨eB.trans e2, _, _, _, rfl⟩))
  · obtain ⟨eB, y7, y8, y9, rfl⟩ := h
    exact x_last (x_ret (eR_v (v := .bl true) ev_c) (fun z B' H' g' p e1 e2 => q z H' B e2 (Gr.refl _ _) (((g.ex.trans eB).trans g'.ex).trans e1) p))
end Kx
namespace Kx
open PySem PySem.Spec PyProof.Rows L2 Evl LX T XV RX WS
variable {P : Program} {w : World} {K : PySem.W.Frag} {mg : Str → Option Value} {base : Heap}
/-! ### _law_spoilt -/
def BadOrd (big : Int) (ms : List Int) : Prop := rowD (.list (ms.map PyData.int)) big big = false ∨ (rowD (.list (ms.map PyData.int)) big big = true ∧ ¬ ms.Nodup)
theorem bad_of {big : Int} {ms : List Int} (h : (ms.length : Int) = big → TS.Bd big ms → ¬ ms.Nodup) : BadOrd big ms := by
  cases c : rowD (.list (ms.map PyData.int)) big big with
  | false => exact .inl c
  | true =>
    obtain ⟨h1, h2, h3⟩ := rowD_inv c
    have e : rowOf (.list (ms.map PyData.int)) = ms := rowOf_ints rfl
    rw [e] at h2 h3
    exact .inr ⟨c, h h2 h3⟩
theorem set_dup {os : List Int} {i j : Nat} (hi : i < os.length) (hj : j < os.length) (h : i ≠ j) : ¬ (os.set i (os.getD j 0)).Nodup := fun n => by
  have hs : (os.set i (os.getD j 0)).length = os.length := List.length_set
  have h1 : (os.set i (os.getD j 0))[i]'(by omega) = os.getD j 0 := List.getElem_set_self _
  have e : os.getD j 0 = os[j] := by rw [List.getD_eq_getElem?_getD, List.getElem?_eq_getElem hj]; rfl
  have h2 : (os.set i (os.getD j 0))[j]'(by omega) = os.getD j 0 := (List.getElem_set_ne h _).trans e.symm
  rcases Nat.lt_or_gt_of_ne h with c | c
  · exact (List.pairwise_iff_getElem.mp n) i j (by omega) (by omega) c (h1.trans h2.symm)
  · exact (List.pairwise_iff_getElem.mp n) j i (by omega) (by omega) c (h2.trans h1.symm)
theorem set_bd {os : List Int} {i : Nat} {v big : Int} (hi : i < os.length) (hv : v < 0 ∨ big ≤ v) : ¬ TS.Bd big (os.set i v) := fun h => by
  have hs : (os.set i v).length = os.length := List.length_set
  have h1 : (os.set i v)[i]'(by omega) = v := List.getElem_set_self _
  have hm : v ∈ os.set i v := List.mem_iff_getElem.mpr ⟨i, by omega, h1⟩
  have := h v hm
  omega
end Kx
namespace Kx
open PySem PySem.Spec PyProof.Rows L2 Evl LX T XV RX WS
variable {P : Program} {w : World} {K : PySem.W.Frag} {mg : Str → Option Value} {base : Heap}
theorem ex_updX {B X H H1 : Hp} {l : Addr} {o : HO} (e : Ex B H1) (eX : Ex X H1) (hX : X l = none) : Ex (upd B l o) (upd H1 l o) ∧ Ex X (upd H1 l o) := ⟨ex_both e, fun a u h => by
  have c : a ≠ l := fun c => by subst c; rw [hX] at h; exact nomatch h
  rw [upd_ne c]; exact eX a u h⟩
theorem x_insV {σ : L2.St} {X B : Hp} {D : Ends} {tz : TS} {ta ti te : TE} {l : Addr} {xs : List V} {v : V} {k : Int} (hl : B l = some (.lst xs)) (hX : X l = none) (ha : Ev ta σ B (.ref l)) (hi : Ev ti σ B (.int k)) (hv : Ev te σ B v) (hz : xs.length < 100000) (h0 : 0 ≤ k) (h1 : k < 1000000)
    (c : Sx X tz D σ (upd B l (.lst (xs.take k.toNat ++ [v] ++ xs.drop k.toNat)))) : Sx X (tSeq (tDrop (tBM K "list" (fun x vs H Q => ∃ (l : Addr) (xs : List V) (i : Int) (y : V), x = .ref l ∧ vs = [.int i, y] ∧ H l = some (.lst xs) ∧ xs.length < sizeLine ∧ 0 ≤ i ∧ i < 2 ^ 63 ∧ Q .non (upd H l (.lst (xs.take i.toNat ++ [y] ++ xs.drop i.toNat)))) ta (tCons ti (tCons te tNil)))) tz) D σ B := fun H e eX =>
  ha H e _ fun H1 e1 => ⟨Or.inl ⟨rfl, xs, sq_of (e1 l _ (e l _ hl))⟩, (ea_cons hi (ea_cons hv ea_nil)) H1 (e.trans e1) _ fun H2 e2 => ⟨l, xs, k, v, rfl, rfl, (e1.trans e2) l _ (e l _ hl), sz_lt hz, h0, by omega, c _ (ex_updX (H := B) ((e.trans e1).trans e2) ((eX.trans e1).trans e2) hX).1 (ex_updX (H := B) ((e.trans e1).trans e2) ((eX.trans e1).trans e2) hX).2⟩⟩
theorem x_popV {σ : L2.St} {X B : Hp} {D : Ends} {tz : TS} {ta ti : TE} {l : Addr} {xs : List V} {k : Nat} {y : V} (hl : B l = some (.lst xs)) (hX : X l = none) (ha : Ev ta σ B (.ref l)) (hi : Ev ti σ B (.int (k : Int))) (hz : xs.length < 100000) (hk : xs[k]? = some y)
    (c : Sx X tz D σ (upd B l (.lst (xs.eraseIdx k)))) : Sx X (tSeq (tDrop (tBM K "list" rPopAt ta (tCons ti tNil))) tz) D σ B := fun H e eX =>
  ha H e _ fun H1 e1 => ⟨Or.inl ⟨rfl, xs, sq_of (e1 l _ (e l _ hl))⟩, (ea_cons hi ea_nil) H1 (e.trans e1) _ fun H2 e2 => ⟨l, xs, (k : Int), k, y, rfl, rfl, (e1.trans e2) l _ (e l _ hl), by omega, by have := (List.getElem?_eq_some_iff.mp hk).1; omega, by
    have hlt := (List.getElem?_eq_some_iff.mp hk).1
    unfold seqIndex?
    rw [if_neg (by omega : ¬ ((k : Int) < 0))]
    show (if (decide ((0 : Int) ≤ (k : Int)) && decide ((k : Int) < (xs.length : Int))) = true then some (k : Int).toNat else none) = some k
    rw [decide_eq_true (by omega : (0 : Int) ≤ (k : Int)), decide_eq_true (by omega : (k : Int) < (xs.length : Int))]
    rfl, hk, c _ (ex_updX (H := B) ((e.trans e1).trans e2) ((eX.trans e1).trans e2) hX).1 (ex_updX (H := B) ((e.trans e1).trans e2) ((eX.trans e1).trans e2) hX).2⟩⟩
def dSpoilt (K : PySem.W.Frag) : List V → Hp → (V → Hp → Prop) → Prop := fun vs B Pz => ∃ (a : Addr) (big kind at_ : Int) (os : List Int), vs = [.ref a, .int kind, .int at_] ∧ SqL K B a (os.map V.int) ∧ OrdOk big os ∧ 2 ≤ big ∧ big ≤ 400 ∧ 0 ≤ kind ∧ kind < 5 ∧ 0 ≤ at_ ∧ Pz = fun z B' => ∃ p ms, z = .ref p ∧ B' p = some (.lst (ms.map V.int)) ∧ BadOrd big ms
abbrev law_spoilt_N : List Str := ["order", "kind", "at", "big", "place", "made"]
abbrev law_spoilt_P : List Str := ["order", "kind", "at"]
theorem sc_law_spoilt : FnScope ["order", "kind", "at", "big", "place", "made"] ["order", "kind", "at"] (defScope s_law_spoilt) := ⟨rfl, rfl, rfl, by decide +kernel, rfl, by decide +kernel, by decide +kernel⟩
theorem ok_spoilt (T : TX K mg) : OkF P w K mg base 1 "_law_spoilt" ["order", "kind", "at"] (spR (dSpoilt K)) := by
  have n_len := T.n "len" (by decide +kernel)
  have n_int := T.n "int" (by decide +kernel)
  have n_list := T.n "list" (by decide +kernel)
  refine T.okF 41 rfl (by decide +kernel) (fun f fd F => ?_) (fun _ _ _ _ _ _ us hl => match us, hl with | [_, _, _], _ => rfl)
  refine F.ok sc_law_spoilt (fun vs H Q E h => spR_len h (by rintro B Pz ⟨a, b, k, t, os, rfl, _⟩; rfl)) (fun cdv A outer s H vs Q E hr ⟨B, Pz, e, ⟨a, big, kind, at_, os, hvs, hx, hos, hb2, hb4, hk0, hk5, ha0, hP⟩, q⟩ => ?_)
  subst hvs hP
  refine ⟨_, (pss_cons (ps_set (i := 3) sc_law_spoilt.nd rfl (.inl rfl) (pe_callB (LX.k_len (K := K)) (by rfl) n_len (by decide +kernel) (pa_cons (pv 0) pa_nil)))
        (pss_cons (ps_set (i := 4) sc_law_spoilt.nd rfl (.inl rfl) (pe_op op_mod (pe_callTy call_int1 (by rfl) n_int (by decide +kernel) (pa_cons (pv 2) pa_nil)) (pv 3)))
        (pss_cons (ps_set (i := 5) sc_law_spoilt.nd rfl (.inl rfl) (pe_callTy (LX.k_listOf (K := K)) (by rfl) n_list (by decide +kernel) (pa_cons (pv 0) pa_nil)))
        (pss_cons (ps_if (pt_cmpR op_eq (pv 1) pe_int (nomark _)) (pss_one (ps_asg (pe_ix (LX.k_ixl (K := K)) (pv 0) (pe_op op_mod (pe_callTy call_int1 (by rfl) n_int (by decide +kernel) (pa_cons (pe_op op_add (pe_op op_add (pv 4) pe_int) (pe_op op_mod (pe_op op_fdiv (pv 2) (pv 3)) (pe_op op_sub (pv 3) pe_int))) pa_nil)) (pv 3)) (fun _ _ => rfl)) (pg_sub (pv 5) (pv 4) set_list))) pss_nil)
        (pss_cons (ps_if (pt_cmpR op_eq (pv 1) pe_int (nomark _)) (pss_one (ps_expr (pe_bm PySem.F.plainAttrs_list PySem.F.slot_list_insert PySem.F.type_list_insert mt_insert (pv 5) (pa_cons (pv 4) (pa_cons (pe_ix (LX.k_ixl (K := K)) (pv 0) pe_int (fun _ _ => rfl)) pa_nil))))) pss_nil)
        (pss_cons (ps_if (pt_cmpR op_eq (pv 1) pe_int (nomark _)) (pss_one (ps_expr (pe_bm PySem.F.plainAttrs_list PySem.F.slot_list_pop PySem.F.type_list_pop mt_popAt (pv 5) (pa_cons (pv 4) pa_nil)))) pss_nil)
        (pss_cons (ps_if (pt_cmpR op_eq (pv 1) pe_int (nomark _)) (pss_one (ps_asg (pv 3) (pg_sub (pv 5) (pv 4) set_list))) pss_nil)
        (pss_cons (ps_if (pt_cmpR op_eq (pv 1) pe_int (nomark _)) (pss_one (ps_asg (pe_un un_neg pe_int) (pg_sub (pv 5) (pv 4) set_list))) pss_nil)
        (pss_one (ps_ret (pv 5))))))))))), ?_⟩
  have hlen := hos.len
  refine x_asgV (X := H) (B := B) (v := .int big) (ev_is (ev_len (ev_var rfl) hx) (by rw [List.length_map, hlen])) ?_ H e (Ex.refl H)
  obtain ⟨pl, hpl, hpl2⟩ : ∃ pl : Nat, at_ % big = (pl : Int) ∧ (pl : Int) < big := by
    have h1 := Int.emod_nonneg at_ (b := big) (by omega)
    have h2 := Int.emod_lt_of_pos at_ (b := big) (by omega)
    exact ⟨(at_ % big).toNat, by omega, by omega⟩
  refine x_asgV (v := .int (pl : Int)) (ev_is (ev_op (ev_int (ev_var rfl)) (ev_var rfl) (rv_mod (by omega))) (congrArg V.int hpl)) ?_
  have hpo : pl < os.length := by omega
  refine x_asg (P := fun z B' => ∃ p, z = .ref p ∧ B' p = some (.lst (os.map V.int)) ∧ B p = none) (EvR.imp (er_list (K := K) (Py := fun ys _ => ys = os.map V.int) inferInstance (rVp (ev_var rfl) ⟨a, _, rfl, .inl hx, rfl⟩)) fun z B' _ ⟨p, ys, q1, q2, q3, q4⟩ => ⟨p, q1, q4 ▸ q2, q3⟩) fun z B1 g1 ⟨p, hz, hp, hpB⟩ => ?_
  subst hz
  have hHp : H p = none := by
    cases c : H p with
    | none => rfl
    | some o => have := g1.av p hpB (by rw [c]; exact Option.some_ne_none _); rw [this] at hp; exact nomatch hp
  have sk : ∀ {k : Int} {tu tz : TS} {D : Ends} {Bx : Hp}, kind ≠ k → Sx H tz D [some (V.ref a), some (.int kind), some (.int at_), some (.int big), some (.int (pl : Int)), some (.ref p)] Bx → Sx H (tSeq (tIfS (tTest (tOp rEq (tVar 1) (tC (.int k)))) tu tNext) tz) D [some (V.ref a), some (.int kind), some (.int at_), some (.int big), some (.int (pl : Int)), some (.ref p)] Bx := fun {k tu tz D Bx} hk h =>
    x_when (b := false) (et_test (ev_is (ev_op (ev_var rfl) ev_c (rv_eq rfl)) (congrArg V.bl (decide_eq_false fun c => hk (V.int.inj c))))) (fun h => nomatch h) (fun _ => h)
  have yes : ∀ {k : Int} {Bx : Hp}, kind = k → EvT (tTest (tOp rEq (tVar 1) (tC (.int k)))) [some (V.ref a), some (.int kind), some (.int at_), some (.int big), some (.int (pl : Int)), some (.ref p)] Bx true := fun {k Bx} hk => et_test (ev_is (ev_op (ev_var rfl) ev_c (rv_eq rfl)) (congrArg V.bl (decide_eq_true (by rw [hk]))))
  have fin : ∀ {D : Ends} {ms : List Int}, D.rt = Q → BadOrd big ms → Sx H (tRet (tVar 5)) D [some (V.ref a), some (.int kind), some (.int at_), some (.int big), some (.int (pl : Int)), some (.ref p)] (upd B1 p (.lst (ms.map V.int))) := fun {D ms} hD hbad => by
    subst hD
    refine x_ret (rVp (P := fun z B' => ∃ p ms, z = .ref p ∧ B' p = some (.lst (ms.map V.int)) ∧ BadOrd big ms) (ev_var rfl) ⟨p, ms, rfl, upd_same, hbad⟩) (fun z B' H' g' p' e1 e2 => q z H' B' e2 (Gr.trans ⟨fun x o hx => ?_, fun x hx1 hx2 => ?_⟩ g') e1 p')
    · have c : x ≠ p := fun c => by subst c; rw [hpB] at hx; exact nomatch hx
      rw [upd_ne c]; exact g1.ex _ _ hx
    · have c : x ≠ p := fun c => by subst c; rw [hHp] at hx2; exact hx2 rfl
      rw [upd_ne c]; exact g1.av x hx1 hx2
  have hml : (os.map V.int).length < 100000 := by rw [List.length_map]; omega
  have hixN : ixN (os.map V.int).length (pl : Int) = some pl := by
    rw [List.length_map]
    unfold ixN
    simp [hpo]
  have hset : ∀ v : Int, (os.map V.int).set pl (.int v) = (os.set pl v).map V.int := fun v => by rw [List.map_set]
  have hkind : kind = 0 ∨ kind = 1 ∨ kind = 2 ∨ kind = 3 ∨ kind = 4 := by omega
  rcases hkind with c | c | c | c | c
  · obtain ⟨j, hj, hjb, hjp⟩ : ∃ j : Nat, ((pl : Int) + 1 + at_ / big % (big - 1)) % big = (j : Int) ∧ j < os.length ∧ pl ≠ j := by
      have h1 := Int.emod_nonneg (at_ / big) (b := big - 1) (by omega)
      have h2 := Int.emod_lt_of_pos (at_ / big) (b := big - 1) (by omega)
      generalize at_ / big % (big - 1) = t at h1 h2
      by_cases cc : (pl : Int) + 1 + t < big
      · rw [Int.emod_eq_of_lt (by omega) cc]
        exact ⟨((pl : Int) + 1 + t).toNat, by omega, by omega, by omega⟩
      · have e : ((pl : Int) + 1 + t) % big = (pl : Int) + 1 + t - big := by
          rw [← Int.sub_emod_right, Int.emod_eq_of_lt (by omega) (by omega)]
        rw [e]
        exact ⟨((pl : Int) + 1 + t - big).toNat, by omega, by omega, by omega⟩
    refine x_when (b := true) (yes c) (fun _ => ?_) (fun h => nomatch h)
    refine x_last (x_setL (l := p) (k := (pl : Int)) (j := pl) (v := .int (os.getD j 0)) hp hHp (ev_op (ev_var rfl) (ev_is (ev_op (ev_int (ev_op (ev_op (ev_var rfl) ev_c rv_I0) (ev_op (ev_op (ev_var rfl) (ev_var rfl) (rv_div (by omega))) (ev_op (ev_var rfl) ev_c rv_I0) (rv_mod (by omega))) rv_I0)) (ev_var rfl) (rv_mod (by omega))) (congrArg V.int hj)) (rv_ixL (ex_l g1.ex hx) (by have := atI_int (ns := os) (k := (j : Int)) (by omega) (by omega); rw [Int.toNat_natCast] at this; exact this))) (ev_var rfl) (ev_var rfl) hixN (x_end ?_))
    rw [hset]
    exact sk (by omega) (sk (by omega) (sk (by omega) (sk (by omega) (x_last (fin rfl (bad_of fun _ _ => set_dup hpo hjb hjp))))))
  · refine sk (by omega) (x_when (b := true) (yes c) (fun _ => ?_) (fun h => nomatch h))
    refine x_last (x_insV (l := p) (k := (pl : Int)) (v := .int (os.getD 0 0)) hp hHp (ev_var rfl) (ev_var rfl) (ev_op (ev_var rfl) ev_c (rv_ixL (ex_l g1.ex hx) (atI_int (k := 0) (by omega) (by omega)))) hml (by omega) (by omega) (x_end ?_))
    have e1 : (os.map V.int).take (pl : Int).toNat ++ [V.int (os.getD 0 0)] ++ (os.map V.int).drop (pl : Int).toNat = (os.take pl ++ [os.getD 0 0] ++ os.drop pl).map V.int := by
      rw [Int.toNat_natCast, List.map_append, List.map_append, List.map_take, List.map_drop]
      rfl
    rw [e1]
    exact sk (by omega) (sk (by omega) (sk (by omega) (x_last (fin rfl (bad_of fun hl _ => absurd hl (by rw [List.length_append, List.length_append, List.length_take, List.length_drop, List.length_singleton]; omega))))))
  · refine sk (by omega) (sk (by omega) (x_when (b := true) (yes c) (fun _ => ?_) (fun h => nomatch h)))
    refine x_last (x_popV (l := p) (k := pl) (y := .int os[pl]) hp hHp (ev_var rfl) (ev_var rfl) hml (by rw [List.getElem?_map, List.getElem?_eq_getElem hpo]; rfl) (x_end ?_))
    have e1 : (os.map V.int).eraseIdx pl = (os.eraseIdx pl).map V.int := by rw [List.eraseIdx_eq_take_drop_succ, List.eraseIdx_eq_take_drop_succ, List.map_append, List.map_take, List.map_drop]
    rw [e1]
    exact sk (by omega) (sk (by omega) (x_last (fin rfl (bad_of fun hl _ => absurd hl (by rw [List.length_eraseIdx_of_lt hpo]; omega)))))
  · refine sk (by omega) (sk (by omega) (sk (by omega) (x_when (b := true) (yes c) (fun _ => ?_) (fun h => nomatch h))))
    refine x_last (x_setL (l := p) (k := (pl : Int)) (j := pl) (v := .int big) hp hHp (ev_var rfl) (ev_var rfl) (ev_var rfl) hixN (x_end ?_))
    rw [hset]
    exact sk (by omega) (x_last (fin rfl (bad_of fun _ hb => absurd hb (set_bd hpo (.inr (Int.le_refl _))))))
  · refine sk (by omega) (sk (by omega) (sk (by omega) (sk (by omega) (x_when (b := true) (yes c) (fun _ => ?_) (fun h => nomatch h)))))
    refine x_last (x_setL (l := p) (k := (pl : Int)) (j := pl) (v := .int (-1)) hp hHp (fun H1 e Q q => ⟨1, rfl, q H1 (Ex.refl H1)⟩) (ev_var rfl) (ev_var rfl) hixN (x_end ?_))
    rw [hset]
    exact x_last (fin rfl (bad_of fun _ hb => absurd hb (set_bd hpo (.inl (by decide)))))
end Kx
namespace Kx
open PySem PySem.Spec PyProof.Rows L2 Evl LX T XV RX WS
/-! ### images of images -/
theorem getD_lt {os : List Int} {i : Nat} (h : i < os.length) : os.getD i 0 = os[i] := by rw [List.getD_eq_getElem?_getD, List.getElem?_eq_getElem h]; rfl
theorem OrdOk.at {size : Int} {os : List Int} (h : OrdOk size os) {t : Int} (h0 : 0 ≤ t) (h1 : t < size) : 0 ≤ os.getD t.toNat 0 ∧ os.getD t.toNat 0 < size := by
  have := h.len
  rw [getD_lt (by omega)]
  exact h.bd _ (List.getElem_mem _)
theorem OrdOk.inj {size : Int} {os : List Int} (h : OrdOk size os) {i j : Nat} (hi : i < os.length) (hj : j < os.length) (e : os.getD i 0 = os.getD j 0) : i = j := by
  rw [getD_lt hi, getD_lt hj] at e
  rcases Nat.lt_trichotomy i j with c | c | c
  · exact absurd e ((List.pairwise_iff_getElem.mp h.nd) i j hi hj c)
  · exact c
  · exact absurd e.symm ((List.pairwise_iff_getElem.mp h.nd) j i hj hi c)
def joinO (os os2 : List Int) : List Int := os.map fun t => os2.getD t.toNat 0
theorem joinO_ok {size : Int} {os os2 : List Int} (h : OrdOk size os) (h2 : OrdOk size os2) : OrdOk size (joinO os os2) := by
  have hl := h.len
  have hl2 := h2.len
  refine ⟨by unfold joinO; rw [List.length_map]; exact hl, fun m hm => ?_, ?_⟩
  · obtain ⟨t, ht, rfl⟩ := List.mem_map.mp hm
    obtain ⟨a, b⟩ := h.bd t ht
    exact h2.at a b
  · refine List.pairwise_map.mpr (List.Pairwise.imp_of_mem (fun {a b} ha hb hab c => hab ?_) h.nd)
    obtain ⟨a0, a1⟩ := h.bd a ha
    obtain ⟨b0, b1⟩ := h.bd b hb
    have := h2.inj (by omega) (by omega) c
    omega
theorem img_join {size : Int} {os os2 r : List Int} (h : OrdOk size os) (hr : TS.Bd size r) : img os2 (img os r) = img (joinO os os2) r := by
  unfold img
  rw [List.map_map]
  refine List.map_congr_left fun t ht => ?_
  obtain ⟨t0, t1⟩ := hr t ht
  have hl := h.len
  show os2.getD (os.getD t.toNat 0).toNat 0 = (joinO os os2).getD t.toNat 0
  unfold joinO
  rw [getD_lt (os := os.map fun t => os2.getD t.toNat 0) (i := t.toNat) (by rw [List.length_map]; omega), List.getElem_map, getD_lt (os := os) (i := t.toNat) (by omega)]
theorem oks_img {size : Int} {os : List Int} {r : Rel} (h : OrdOk size os) (k : RelOk size r) : ∀ x ∈ r.rows.map (img os), AS.Ok size r.ar.toNat x := fun x hx => by
  obtain ⟨q, hq, rfl⟩ := List.mem_map.mp hx
  obtain ⟨a, b⟩ := k.rows q hq
  exact ⟨by rw [img_len]; omega, img_bd h b⟩
theorem imgR_join {size : Int} {os os2 : List Int} {rels : List Rel} (h : OrdOk size os) (h2 : OrdOk size os2) (I : RelsInv size rels) : imgR size os2 (imgR size os rels) = imgR size (joinO os os2) rels := by
  unfold imgR
  rw [List.map_map]
  refine List.map_congr_left fun r hr => ?_
  have k := I.ok r hr
  show (⟨r.name, r.ar, AS.ascR size ((AS.ascR size (r.rows.map (img os))).map (img os2))⟩ : Rel) = ⟨r.name, r.ar, AS.ascR size (r.rows.map (img (joinO os os2)))⟩
  congr 1
  refine asc_same (oks_img (joinO_ok h h2) k) fun x => ?_
  rw [List.mem_map, List.mem_map]
  constructor
  · rintro ⟨y, hy, rfl⟩
    obtain ⟨q, hq, rfl⟩ := List.mem_map.mp (AS.mem_ascR.mp hy)
    exact ⟨q, hq, (img_join h (k.rows q hq).2).symm⟩
  · rintro ⟨q, hq, rfl⟩
    exact ⟨img os q, AS.mem_ascR.mpr (List.mem_map_of_mem hq), img_join h (k.rows q hq).2⟩
theorem imgR_id {size : Int} {os : List Int} {rels : List Rel} (hid : ∀ t : Int, 0 ≤ t → t < size → os.getD t.toNat 0 = t) (I : RelsInv size rels) : imgR size os rels = rels := by
  unfold imgR
  refine (List.map_congr_left fun r hr => ?_).trans (List.map_id rels)
  have k := I.ok r hr
  show (⟨r.name, r.ar, AS.ascR size (r.rows.map (img os))⟩ : Rel) = r
  have e : r.rows.map (img os) = r.rows := by
    refine (List.map_congr_left fun q hq => ?_).trans (List.map_id _)
    show img os q = q
    unfold img
    refine (List.map_congr_left fun t ht => ?_).trans (List.map_id q)
    obtain ⟨a, b⟩ := (k.rows q hq).2 t ht
    exact hid t a b
  rw [e, k.asc]
theorem find_imgR {size : Int} {os : List Int} (m : Str) : ∀ {rels : List Rel}, (imgR size os rels).find? (fun r => decide (r.name = m)) = (rels.find? (fun r => decide (r.name = m))).map (imgF size os)
  | [] => rfl
  | r :: rels => by
    show ((imgF size os r) :: imgR size os rels).find? _ = _
    rw [List.find?_cons, List.find?_cons]
    show (match decide (r.name = m) with | true => some (imgF size os r) | false => (imgR size os rels).find? (fun r => decide (r.name = m))) = _
    by_cases c : r.name = m
    · rw [decide_eq_true c]; rfl
    · rw [decide_eq_false c]
      exact find_imgR m
theorem imgR_fam {size : Int} {ns : List Str} {ar0 : Str → Int} {os : List Int} {rels : List Rel} {c : Nat} (h : OrdOk size os) (f : Fam size ns ar0 rels) (hc : ∀ r ∈ rels, r.rows.length ≤ c) : Fam size ns ar0 (imgR size os rels) ∧ ∀ r ∈ imgR size os rels, r.rows.length ≤ c := by
  have hnm : (imgR size os rels).map Rel.name = rels.map Rel.name := by unfold imgR; rw [List.map_map]; rfl
  refine ⟨⟨⟨by unfold imgR; rw [List.length_map]; exact f.inv.few, by rw [hnm]; exact f.inv.nd, fun r hr => ?_, f.inv.s2, f.inv.s4⟩, by rw [hnm]; exact f.nm, fun n => ?_⟩, fun r hr => ?_⟩
  · obtain ⟨r0, h0, rfl⟩ := List.mem_map.mp hr
    have k := f.inv.ok r0 h0
    exact ⟨k.nm, k.so, k.lo, k.hi, fun q hq => by
      obtain ⟨q0, hq0, rfl⟩ := List.mem_map.mp (AS.mem_ascR.mp hq)
      obtain ⟨a, b⟩ := k.rows q0 hq0
      exact ⟨by rw [img_len]; exact a, img_bd h b⟩, ascR_idem (oks_img h k)⟩
  · rw [← f.ar n]
    unfold arIn
    rw [find_imgR]
    cases rels.find? (fun r => decide (r.name = n)) with
    | none => rfl
    | some r => rfl
  · obtain ⟨r0, h0, rfl⟩ := List.mem_map.mp hr
    have q1 : (AS.ascR size (r0.rows.map (img os))).length ≤ (r0.rows.map (img os)).length := len_ascR
    rw [List.length_map] at q1
    have := hc r0 h0
    show (AS.ascR size (r0.rows.map (img os))).length ≤ c
    omega
end Kx
namespace Kx
open PySem PySem.Spec PyProof.Rows L2 Evl LX T XV RX WS
variable {P : Program} {w : World} {K : PySem.W.Frag} {mg : Str → Option Value} {base : Heap}
/-! ### _law_facts_meet -/
/-- all but m stays -/
def But (m : Addr) (B B' : Hp) : Prop := ∀ a o, B a = some o → a ≠ m → B' a = some o
theorem sqt_but {B B' : Hp} {m a : Addr} {xs : List V} {kvs : List (Key × V)} (e : But m B B') (hm : B m = some (.dK kvs)) (h : SqT K B a xs) : SqT K B' a xs := by
  refine h.imp (fun h => ?_) id
  rcases h with h | ⟨o, h⟩
  · exact .inl (e _ _ h fun c => by rw [c, hm] at h; exact nomatch h)
  · exact .inr ⟨o, e _ _ h fun c => by rw [c, hm] at h; exact nomatch h⟩
theorem WorldP.but {C : Addr} {size : Int} {rels : List Rel} {x m : Addr} {B B' : Hp} {kvs : List (Key × V)} (e : But m B B') (hm : B m = some (.dK kvs)) (hk : ∀ kv ∈ kvs, ∀ t xs, kv.2 = .ref t → ¬ SqT K B t xs) (h0 : kvs ≠ []) (h : WorldP K P w C size rels x B) : WorldP K P w C size rels x B' := by
  obtain ⟨rels', hp, dx, zn, pf, t, za, ps, kvs2, ys, st, ns, h1, ⟨p1, y1, r1, s1, q1⟩, h3, h4, h5, h6, ⟨p2, y2, r2, s2, q2⟩, h8, h9, h10, h11, h12⟩ := h
  have hz : t ≠ m := fun c => by
    rw [c, hm] at h5
    have : kvs = kvs2 := by cases h5; rfl
    subst this
    obtain ⟨kv, hkv⟩ : ∃ kv, kvs[0]? = some kv := by
      cases kvs with
      | nil => exact absurd rfl h0
      | cons kv r => exact ⟨kv, rfl⟩
    have hl : kvs.length = rels'.length := by
      have h1 := congrArg List.length h6.1
      rw [List.length_map, List.length_map] at h1
      exact h1
    obtain ⟨r, hr⟩ : ∃ r, rels'[0]? = some r := ⟨_, List.getElem?_eq_getElem (by rw [← hl]; exact (List.getElem?_eq_some_iff.mp hkv).1)⟩
    obtain ⟨t', q', zs, ha, hb, _⟩ := h6.2 0 kv r hkv hr
    exact hk kv (List.mem_of_getElem? hkv) t' _ ha hb
  refine ⟨rels', hp, dx, zn, pf, t, za, ps, kvs2, ys, st, ns, e _ _ h1 (fun c => by rw [c, hm] at h1; exact nomatch h1), ⟨p1, y1, r1, sqt_but e hm s1, q1⟩, sqt_but e hm h3, ⟨h4.1, fun k y d hy hd => ?_⟩, e _ _ h5 hz, ⟨h6.1, fun i p r hp hr => ?_⟩, ⟨p2, y2, r2, sqt_but e hm s2, q2⟩, e _ _ h8 (fun c => by rw [c, hm] at h8; exact nomatch h8), h9, h10, h11, h12⟩
  · obtain ⟨a, r, ha, hb, hc⟩ := h4.2 k y d hy hd
    exact ⟨a, r, ha, sqt_but e hm hb, sqt_but e hm hc⟩
  · obtain ⟨t', q', zs, ha, hb, hc, hd⟩ := h6.2 i p r hp hr
    refine ⟨t', q', zs, ha, sqt_but e hm hb, sqt_but e hm hc, hd.1, fun j y row hy hrow => ?_⟩
    obtain ⟨b, hb1, hb2⟩ := hd.2 j y row hy hrow
    exact ⟨b, hb1, sqt_but e hm hb2⟩
theorem ev_hasD {σ : L2.St} {B : Hp} {C : Addr} {ta tn tr : TE} {x : Addr} {v : V} {size : Int} {rels : List Rel} {n : Str} {d : PyData} (h : Ev ta σ B (.ref x)) (h1 : Ev tn σ B (.str n)) (h2 : Ev tr σ B v) (hW : WorldP K P w C size rels x B) (hI : RelsInv size rels) (hn : n ∈ rels.map Rel.name) (hd : Dp K B v d) (hr : rowD d (arIn rels n) size = true) : Ev (tOp (rInO C (spR (dHas K P w C))) (tTup (tCons tn (tCons tr tNil))) ta) σ B (.bl (decide (rowOf d ∈ rowsIn rels n))) := by
  refine ev_opR (P0 := fun z B' => ∃ p, z = .ref p ∧ B' p = some (.tup [.str n, v])) (EvR.imp (er_tupN (Pa := fun vs _ => vs = [V.str n, v]) inferInstance (rA (ea_cons h1 (ea_cons h2 ea_nil))) (fun vs _ h => by rw [h]; show (2 : Nat) ≤ 100000; decide)) fun z B' _ ⟨p, vs, a, c, d⟩ => ⟨p, a, d ▸ c⟩) h fun z B' e ⟨p, hz, hp⟩ => ?_
  subst hz
  obtain ⟨dx, fs, hx⟩ := hW.ins
  have hd : Dp K B' (.ref p) (.tuple [.str n, d]) := .tup (st_of hp) (.cons (.str n) (.cons (dp_ex e hd) .nil))
  exact fun H1 e1 Q k => ⟨x, dx, fs, rfl, e1 _ _ (e _ _ hx), B', IsV (.bl (decide (rowOf d ∈ rowsIn rels n))), e1, ⟨x, size, rels, n, .ref p, _, d, rfl, hW.mono e, hI, hn, hd, rfl, hr, rfl⟩, fun z H3 B'' e3 g e4 hz => ⟨_, hz, k H3 e3⟩⟩
def dMeet (K : PySem.W.Frag) (P : Program) (w : World) (C : Addr) : List V → Hp → (V → Hp → Prop) → Prop := fun vs B Pz => ∃ (x y m p : Addr) (size : Int) (rels : List Rel) (kvs : List (Key × V)) (os : List Int), vs = [.ref x, .ref y, .ref m, .ref p] ∧ B m = some (.dK kvs) ∧ MTab K rels kvs B ∧ RelsInv size rels ∧ RelsInv size (imgR size os rels) ∧ SqL K B p (os.map V.int) ∧ OrdOk size os ∧ (∀ r ∈ rels, r.rows.length < 63) ∧
  WorldP K P w C size rels x B ∧ WorldP K P w C size (imgR size os rels) y B ∧ Pz = IsV (.bl true)
theorem rowsIn_imgR {size : Int} {os : List Int} {rels : List Rel} {r : Rel} (hr : r ∈ rels) (hnd : (rels.map Rel.name).Nodup) : rowsIn (imgR size os rels) r.name = AS.ascR size (r.rows.map (img os)) ∧ arIn (imgR size os rels) r.name = r.ar ∧ rowsIn rels r.name = r.rows ∧ arIn rels r.name = r.ar := by
  have hf : rels.find? (fun q => decide (q.name = r.name)) = some r := find_self hnd hr
  have hf2 := find_imgR (size := size) (os := os) r.name (rels := rels)
  rw [hf] at hf2
  have hf2 : (imgR size os rels).find? (fun q => decide (q.name = r.name)) = some (imgF size os r) := hf2
  exact ⟨rowsIn_some hf2, arIn_some (r := imgF size os r) hf2, rowsIn_some hf, arIn_some hf⟩
theorem any_row {R : List (List Int)} {q : List Int} : ((R.map rowTD).any fun z => PyData.eqv z (rowTD q)) = decide (q ∈ R) := by
  rw [List.any_map, Bool.eq_iff_iff, List.any_eq_true, decide_eq_true_iff]
  constructor
  · rintro ⟨x, hx, h⟩
    have h : PyData.eqv (rowTD x) (rowTD q) = true := h
    rw [eqv_row] at h
    exact of_decide_eq_true h ▸ hx
  · intro h
    refine ⟨q, h, ?_⟩
    show PyData.eqv (rowTD q) (rowTD q) = true
    rw [eqv_row]
    exact decide_eq_true rfl
abbrev law_facts_meet_N : List Str := ["world", "other", "model", "order", "word", "row", "image", "thing"]
abbrev law_facts_meet_P : List Str := ["world", "other", "model", "order"]
theorem sc_law_facts_meet : FnScope ["world", "other", "model", "order", "word", "row", "image", "thing"] ["world", "other", "model", "order"] (defScope s_law_facts_meet) := ⟨rfl, rfl, rfl, by decide +kernel, rfl, by decide +kernel, by decide +kernel⟩
theorem ok_meet (T : TX K mg) : OkF P w K mg base 5 "_law_facts_meet" ["world", "other", "model", "order"] (spR (dMeet K P w (wC K))) := by
  have n_tuple := T.n "tuple" (by decide +kernel)
  refine T.okF 43 rfl (by decide +kernel) (fun f fd F => ?_) (fun _ _ _ _ _ _ us hl => match us, hl with | [_, _, _, _], _ => rfl)
  have O__law_is_truth := ok_truth (P := P) (w := w) (base := base) T
  have M___contains__ := w_has (P := P) (w := w) (base := base) T
  refine F.ok sc_law_facts_meet (fun vs H Q E h => spR_len h (by rintro B Pz ⟨x, y, m, p, s, r, k, os, rfl, _⟩; rfl)) (fun cdv A outer s H vs Q E hr ⟨B, Pz, e, ⟨x, y, m, po, size, rels, kvs, os, hvs, hm, hT, hI, hI2, hpo, hos, hall, hWx, hWy, hP⟩, q⟩ => ?_)
  subst hvs hP
  refine ⟨_, RX.pss_know (K := K) (pss_cons (ps_lock (ps_for PassesOwn.never rfl (pi_keys (pv 2)) (pg_name (i := 4) sc_law_facts_meet.nd rfl (.inl rfl)) (pss_one (ps_for PassesOwn.never rfl (RX.k_pil (K := K) (pe_ix (LX.k_ixl (K := K)) (pe_dget (LX.u1 hr) (pv 2) (pv 4) (fun _ _ => rfl)) pe_int (fun _ _ => rfl))) (pg_name (i := 5) sc_law_facts_meet.nd rfl (.inl rfl)) (pss_cons (ps_setLc (i := 6) (own := [("thing", 7)]) (g := gName 7) (tt := tYes) rfl sc_law_facts_meet.nd rfl rfl (sw_true rfl rfl rfl (by decide +kernel)) (RX.k_pit (K := K) (pv 5)) (blkOk_by (N := law_facts_meet_N) (sc := defScope s_law_facts_meet) (by decide +kernel)) (fun _ _ _ _ _ => pg_name (i := 7) sc_law_facts_meet.nd rfl (Or.inl rfl)) (fun _ _ _ _ _ => pts_nil) (fun _ _ _ _ _ => (pe_ix (LX.k_ixl (K := K)) (pv 3) (pv 7) (fun _ _ => rfl))))
        (pss_cons (ps_if (pw_or (pt_not (pt_val (LX.pe_f O__law_is_truth hr (by decide) (pa_cons (pe_cmpR (RX.op_inO M___contains__ hr (by decide)) (pe_tup (pa_cons (pv 4) (pa_cons (pv 5) pa_nil))) (pv 0) (by rfl)) (pa_cons pe_bl pa_nil))))) (pw_or1 (pt_not (pt_val (LX.pe_f O__law_is_truth hr (by decide) (pa_cons (pe_cmpR (RX.op_inO M___contains__ hr (by decide)) (pe_tup (pa_cons (pv 4) (pa_cons (pv 6) pa_nil))) (pv 1) (by rfl)) (pa_cons pe_bl pa_nil))))))).pt (pss_one (ps_ret pe_bl)) pss_nil)
        (pss_one (ps_if (pt_not (pt_val (LX.pe_f O__law_is_truth hr (by decide) (pa_cons (pe_cmpR (RX.op_inO M___contains__ hr (by decide)) (pe_tup (pa_cons (pv 4) (pa_cons (pv 6) pa_nil))) (pv 0) (by rfl)) (pa_cons (pe_cmpR (RX.k_inD (K := K) (RX.u65 hr)) (pe_callTy (LX.k_tupOf (K := K)) (by rfl) n_tuple (by decide +kernel) (pa_cons (pv 6) pa_nil)) (pe_ix (LX.k_ixl (K := K)) (pe_dget (LX.u1 hr) (pv 2) (pv 4) (fun _ _ => rfl)) pe_int (fun _ _ => rfl)) (by rfl)) pa_nil))))) (pss_one (ps_ret pe_bl)) pss_nil))))))))
        (pss_one (ps_ret pe_bl))), fun hKN => ?_⟩
  have hkn := hT.keys_nd hI.nd
  have hkl0 : kvs.length = rels.length := by
    have h1 := congrArg List.length hT.1
    rw [List.length_map, List.length_map] at h1
    exact h1
  have hfew := hI.few
  have hHm : H m = some (.dK kvs) := e _ _ hm
  refine x_lock (X := H) (B := B) (d := m) (u := .dK kvs) hm trivial (fun od => ?_) H e (Ex.refl H)
  have hFm : (upd B m (.frz od (.dK kvs))) m = some (.frz od (.dK kvs)) := upd_same
  have hbut : But m B (upd B m (.frz od (.dK kvs))) := fun a o ha c => by rw [upd_ne c]; exact ha
  have hNd : ∀ {a : Addr} {xs : List V}, B a = some (.lst xs) → (upd B m (.frz od (.dK kvs))) a = some (.lst xs) := fun {a xs} h => hbut _ _ h fun c => by subst c; rw [hm] at h; exact nomatch h
  have hTl : SqL K (upd B m (.frz od (.dK kvs))) po (os.map V.int) := hpo.imp (fun h => h.imp (fun h => hNd h) (fun ⟨o, h⟩ => ⟨o, hbut _ _ h fun c => by subst c; rw [hm] at h; exact nomatch h⟩)) id
  refine x_for (F := upd B m (.frz od (.dK kvs))) (Ex.refl _) (ei_keys (ev_var rfl) hFm) (fun F' ys i σ' B' => ∃ (y4 y5 y6 : Option V), σ' = [some (V.ref x), some (.ref y), some (.ref m), some (.ref po), y4, y5, y6, none] ∧ Ex F' B') (fun F' ys g hy av => ?_) (fun F' ys i σ' B' h => ?_) (fun F' ys i xx σ' B' g hy hxi h => ?_) (fun F' ys σ' B' g hy h => ?_)
  · exact ⟨none, none, none, rfl, by rw [NM.mrg_self g.ex]; exact Ex.refl _⟩
  · obtain ⟨y4, y5, y6, _, h⟩ := h
    exact h
  · obtain ⟨y4, y5, y6, rfl, eF⟩ := h
    rw [hy, List.getElem?_map] at hxi
    obtain ⟨kv, hkv, hxk⟩ : ∃ kv, kvs[i]? = some kv ∧ xx = kV kv.1 := by
      cases hq : kvs[i]? with
      | none => rw [hq] at hxi; exact nomatch hxi
      | some kv => rw [hq] at hxi; exact ⟨kv, rfl, (Option.some.inj hxi).symm⟩
    have hi : i < rels.length := by rw [← hkl0]; exact (List.getElem?_eq_some_iff.mp hkv).1
    have hri : rels[i]? = some rels[i] := List.getElem?_eq_getElem hi
    have hmem := List.getElem_mem hi
    generalize rels[i] = r at hri hmem
    have hk1 : kv.1 = Sum.inr r.name := by
      have := congrArg (fun l => l[i]?) hT.1
      simp only [List.getElem?_map] at this
      rw [hkv, hri] at this
      exact Option.some.inj this
    have hxo : xx = .str r.name := by rw [hxk, hk1]; rfl
    subst hxo
    have h0 : kvs ≠ [] := fun c => by rw [c] at hkv; exact nomatch hkv
    have hkd : ∀ kv ∈ kvs, ∀ t xs, kv.2 = .ref t → ¬ SqT K B t xs := fun kv hkv t xs hv hs => by
      obtain ⟨j, hj, hj2⟩ := List.mem_iff_getElem.mp hkv
      have hj3 : kvs[j]? = some kv := by rw [← hj2]; exact List.getElem?_eq_getElem hj
      obtain ⟨t', qq, zs, hv2, ht, _⟩ := hT.2 j kv _ hj3 (List.getElem?_eq_getElem (by rw [← hkl0]; exact hj))
      rw [hv] at hv2
      cases hv2
      exact sqt_no hKN e hs ht (fun _ c => nomatch c) (fun _ _ c => nomatch c)
    have gAll : Ex (upd B m (.frz od (.dK kvs))) B' := g.ex.trans eF
    have hBsm : B' m = some (.frz od (.dK kvs)) := gAll _ _ hFm
    have hWx' := (hWx.but hbut hm hkd h0).mono gAll
    have hWy' := (hWy.but hbut hm hkd h0).mono gAll
    have hval : valV kvs (Sum.inr r.name) = some kv.2 := by rw [← hk1]; exact valV_at hkn hkv
    obtain ⟨t, qq, zs, hv2, ht, hq, hzs⟩ := hT.2 i kv r hkv hri
    rw [hv2] at hval
    have ht := gAll _ _ (hNd ht)
    have hq := gAll _ _ (hNd hq)
    have hro := hI.ok r hmem
    have hRl := hall r hmem
    have hlo := hro.lo
    have hhi := hro.hi
    obtain ⟨hr1, hr2, hr3, hr4⟩ := rowsIn_imgR (size := size) (os := os) hmem hI.nd
    have hnm1 : r.name ∈ rels.map Rel.name := List.mem_map_of_mem hmem
    have hnm2 : r.name ∈ (imgR size os rels).map Rel.name := by
      unfold imgR
      rw [List.map_map]
      exact hnm1
    have tabR : ∀ {σ : L2.St} {B3 : Hp}, Ex B' B3 → σ[2]? = some (some (V.ref m)) → σ[4]? = some (some (V.str r.name)) → Ev (tOp (rIxL K) (tDGet (tVar 2) (tVar 4)) (tC (.int 1))) σ B3 (.ref qq) := fun {σ B3} e3 h2 h4 => ev_op (ev_dgetF (ev_var h2) (ev_var h4) (e3 _ _ hBsm) hval) ev_c (rv_ixL (sq_of (e3 _ _ ht)) (atI_nat (j := 1) rfl))
    refine x_last (x_for (F := B') (Ex.refl _) (ei_list (tabR (Ex.refl _) rfl rfl) (sq_of hq)) (fun F2 ys2 k σ2 B2 => ∃ (y5 y6 : Option V), σ2 = [some (V.ref x), some (.ref y), some (.ref m), some (.ref po), some (.str r.name), y5, y6, none] ∧ Ex F2 B2) (fun F2 ys2 g2 hy2 av2 => ?_) (fun F2 ys2 k σ2 B2 h => ?_) (fun F2 ys2 k x2 σ2 B2 g2 hy2 hx2 h => ?_) (fun F2 ys2 σ2 B2 g2 hy2 h => ?_))
    · exact ⟨_, _, rfl, by rw [NM.mrg_self g2.ex]; exact Ex.refl _⟩
    · obtain ⟨y5, y6, _, h⟩ := h
      exact h
    · obtain ⟨y5, y6, rfl, eF2⟩ := h
      rw [hy2] at hx2
      have hk := (List.getElem?_eq_some_iff.mp hx2).1
      obtain ⟨d, hdk⟩ : ∃ d, r.rows[k]? = some d := ⟨_, List.getElem?_eq_getElem (by rw [← hzs.1]; exact hk)⟩
      obtain ⟨b, rfl, hb⟩ := hzs.2 k x2 d hx2 hdk
      have hdm : d ∈ r.rows := List.mem_of_getElem? hdk
      have e2 : Ex B' B2 := g2.ex.trans eF2
      have hb := ex_t (gAll.trans e2) (sqt_but hbut hm hb)
      obtain ⟨hrl, hrb⟩ := hro.rows d hdm
      have hsl := hos.len
      refine x_asg (P := fun z B3 => ∃ p, z = .ref p ∧ B3 p = some (.lst ((img os d).map V.int))) (EvR.imp (er_lc1 (Pd := fun t => IsV (.int t)) (xs := d.map V.int) (ds := img os d) (fun _ => inferInstance) (ei_tup (ev_var rfl) hb) (by rw [List.length_map]; omega) (by rw [List.length_map, img_len]) (fun _ => rfl) (fun j yy B3 d3 e3 hyy hd3 => ?_)) fun z B3 _ ⟨p', ys, q1, q2, q3⟩ => ⟨p', q1, q3.vals ▸ q2⟩) fun z B3 g3 hz => ?_
      · rw [List.getElem?_map] at hyy
        unfold img at hd3
        rw [List.getElem?_map] at hd3
        cases hq2 : d[j]? with
        | none => rw [hq2] at hyy; exact nomatch hyy
        | some tt =>
          rw [hq2] at hyy hd3
          have hyy := Option.some.inj hyy
          have hd3 := Option.some.inj hd3
          subst hyy hd3
          obtain ⟨b0, b1⟩ := hrb tt (List.mem_of_getElem? hq2)
          exact eR_v (ev_op (ev_var rfl) (ev_var rfl) (rv_ixL (ex_l ((gAll.trans e2).trans e3) hTl) (atI_int b0 (by omega))))
      obtain ⟨pi, rfl, hpi⟩ := hz
      have e3 : Ex B' B3 := e2.trans g3.ex
      have hdp1 : Dp K B3 (.ref b) (rowTD d) := .tup (ex_t g3.ex hb) (dp_ints d)
      have hdp2 : Dp K B3 (.ref pi) (.list ((img os d).map PyData.int)) := .lst (sq_of hpi) (dp_ints (img os d))
      have hib := img_bd hos hrb
      have hil : ((img os d).length : Int) = r.ar := by rw [img_len]; exact hrl
      have hrow1 : rowD (rowTD d) (arIn rels r.name) size = true := by rw [hr4]; exact rowD_ints rfl hrl hrb
      have hrow2 : rowD (.list ((img os d).map PyData.int)) (arIn (imgR size os rels) r.name) size = true := by rw [hr2]; exact rowD_ints rfl hil hib
      have hrow3 : rowD (.list ((img os d).map PyData.int)) (arIn rels r.name) size = true := by rw [hr4]; exact rowD_ints rfl hil hib
      have ho1 : rowOf (rowTD d) = d := rowOf_T d
      have ho2 : rowOf (.list ((img os d).map PyData.int)) = img os d := rowOf_T (img os d)
      refine x_when (b := false) (et_is (et_or (a := false) (b := false) (et_not (a := true) (et_B (ev_is (ev_truth (ev_hasD (ev_var rfl) (ev_var rfl) (ev_var rfl) (hWx'.mono e3) hI hnm1 hdp1 hrow1) ev_c) (congrArg V.bl (by rw [ho1, hr3, decide_eq_true hdm]; rfl))))) (fun _ => et_not (a := true) (et_B (ev_is (ev_truth (ev_hasD (ev_var rfl) (ev_var rfl) (ev_var rfl) (hWy'.mono e3) hI2 hnm2 hdp2 hrow2) ev_c) (congrArg V.bl (by rw [ho2, hr1, decide_eq_true (AS.mem_ascR.mpr (List.mem_map_of_mem hdm))]; rfl)))))) rfl) (fun h => nomatch h) (fun _ => ?_)
      have hlq : SqL K B3 qq zs := sq_of (e3 _ _ hq)
      have hdl : Dp K B3 (.ref qq) (.list (r.rows.map rowTD)) := .lst hlq (by
        have h3 : A2 (IsTI K) r.rows zs B3 := by
          refine ⟨hzs.1, fun j y row hy hrow => ?_⟩
          obtain ⟨b0, rfl, hb0⟩ := hzs.2 j y row hy hrow
          exact ⟨b0, rfl, ex_t (gAll.trans e3) (sqt_but hbut hm hb0)⟩
        exact a2_dpsM (f := rowTD) (Pd := fun q => IsTI K q) (fun q y h => by
          obtain ⟨b0, rfl, hb0⟩ := h
          exact .tup hb0 (dp_ints q)) h3)
      have hsh : SeqAt.shaped (.list (r.rows.map rowTD)) = true := (Pl.list (k := 1) fun d hd => by
        obtain ⟨q0, hq0, rfl⟩ := List.mem_map.mp hd
        exact pl_row q0).shaped (by decide)
      refine x_last (x_when (b := false) (et_not (a := true) (et_B (ev_is (ev_truth (ev_hasD (ev_var rfl) (ev_var rfl) (ev_var rfl) (hWx'.mono e3) hI hnm1 hdp2 hrow3) (ev_opR (er_tup (K := K) (Py := fun ys _ => ys = (img os d).map V.int) inferInstance (rVp (ev_var rfl) ⟨pi, _, rfl, .inl (sq_of hpi), rfl⟩)) (tabR e3 rfl rfl) fun z B4 e4 ⟨p', ys, hz, hp', hys⟩ => by
        subst hz
        subst hys
        exact rv_inD (b := decide (img os d ∈ r.rows)) (.tup hp' (dp_ints (img os d))) (dp_ex e4 hdl) (shaped_intsT (img os d)) hsh any_row)) (congrArg V.bl (by rw [ho2, hr3]; exact decide_eq_true rfl))))) (fun h => nomatch h) (fun _ => x_nx rfl ⟨_, _, rfl, eF2.trans g3.ex⟩))
    · obtain ⟨y5, y6, rfl, eF2⟩ := h
      exact x_nx rfl ⟨_, _, _, rfl, eF.trans (g2.ex.trans eF2)⟩
  · obtain ⟨y4, y5, y6, rfl, eF⟩ := h
    have gAll : Ex (upd B m (.frz od (.dK kvs))) B' := g.ex.trans eF
    refine x_unlock (d := m) (u := .dK kvs) (od := od) (gAll _ _ hFm) (Or.inr hHm) ?_
    exact x_last (x_ret (eR_v (v := .bl true) ev_c) (fun z B' H' g p e1 e2 => q z H' B e2 (Gr.refl _ _) (e.trans e2) p))
end Kx
namespace Kx
open PySem PySem.Spec PyProof.Rows L2 Evl LX T XV RX WS
variable {P : Program} {w : World} {K : PySem.W.Frag} {mg : Str → Option Value} {base : Heap}
/-! ### _law_order -/
theorem el_eq {σ : L2.St} {B : Hp} {te : TE} {xs ys : List V} (h : EvL te σ B xs) (e : xs = ys) : EvL te σ B ys := e ▸ h
def intsN (n : Nat) : List Int := (List.range n).map fun (k : Nat) => (k : Int)
theorem intsN_len {n : Nat} : (intsN n).length = n := by unfold intsN; rw [List.length_map, List.length_range]
theorem rng_ints {n : Nat} : rngV 0 n = (intsN n).map V.int := by
  unfold rngV intsN
  rw [List.map_map]
  exact List.map_congr_left fun k _ => by show V.int (0 + (k : Int)) = V.int (k : Int); rw [Int.zero_add]
theorem nodup_map {n : Nat} {f : Nat → Int} (h : ∀ a b, a < n → b < n → f a = f b → a = b) : ((List.range n).map f).Nodup :=
  List.pairwise_map.mpr (List.Pairwise.imp_of_mem (fun {a b} ha hb hab c => hab (h a b (List.mem_range.mp ha) (List.mem_range.mp hb) c)) List.nodup_range)
theorem ints_nodup {n : Nat} : (intsN n).Nodup := nodup_map fun a b _ _ h => by omega
theorem ord_of {n : Nat} {f : Nat → Int} (h : ∀ k, k < n → 0 ≤ f k ∧ f k < n) (hi : ∀ a b, a < n → b < n → f a = f b → a = b) : OrdOk (n : Int) ((List.range n).map f) :=
  ⟨by rw [List.length_map, List.length_range], fun m hm => by
    obtain ⟨k, hk, rfl⟩ := List.mem_map.mp hm
    exact h k (List.mem_range.mp hk), nodup_map hi⟩
theorem ord_perm {n : Nat} {os : List Int} (h : os.Perm (intsN n)) : OrdOk (n : Int) os :=
  ⟨by rw [h.length_eq, intsN_len], fun m hm => by
    obtain ⟨k, hk, rfl⟩ := List.mem_map.mp (h.mem_iff.mp hm)
    have := List.mem_range.mp hk
    exact ⟨by omega, by omega⟩, h.nodup_iff.mpr ints_nodup⟩
theorem ord_swap {n i j : Nat} (hi : i < n) (hj : j < n) : OrdOk (n : Int) (((intsN n).set i (j : Int)).set j (i : Int)) := by
  have e : ((intsN n).set i (j : Int)).set j (i : Int) = (List.range n).map fun k => if k = j then (i : Int) else if k = i then (j : Int) else (k : Int) := by
    refine List.ext_getElem (by rw [List.length_set, List.length_set, intsN_len, List.length_map, List.length_range]) fun k h1 h2 => ?_
    have hk : k < n := by rw [List.length_map, List.length_range] at h2; exact h2
    have q : (intsN n)[k]'(by rw [intsN_len]; exact hk) = (k : Int) := by
      unfold intsN
      rw [List.getElem_map, List.getElem_range]
    rw [List.getElem_map, List.getElem_range, List.getElem_set]
    by_cases c : j = k
    · rw [if_pos c, if_pos c.symm]
    · rw [if_neg c, List.getElem_set, if_neg (fun h => c h.symm : ¬ k = j)]
      by_cases c2 : i = k
      · rw [if_pos c2, if_pos c2.symm]
      · rw [if_neg c2, if_neg (fun h => c2 h.symm : ¬ k = i), q]
  rw [e]
  refine ord_of (fun k hk => ?_) fun a b ha hb h => ?_
  · split
    · omega
    · split <;> omega
  · split at h <;> split at h <;> (try split at h) <;> (try split at h) <;> omega
theorem erase_perm {L : List Int} {k : Nat} {y : Int} (h : L[k]? = some y) : (y :: L.eraseIdx k).Perm L := by
  obtain ⟨hk, rfl⟩ := List.getElem?_eq_some_iff.mp h
  rw [List.eraseIdx_eq_take_drop_succ]
  have e : L = L.take k ++ L[k] :: L.drop (k + 1) := by
    rw [← List.drop_eq_getElem_cons hk, List.take_append_drop]
  exact List.perm_middle.symm.trans (List.Perm.of_eq e.symm)
theorem erase_map {L : List Int} {k : Nat} : (L.map V.int).eraseIdx k = (L.eraseIdx k).map V.int := by
  rw [List.eraseIdx_eq_take_drop_succ, List.eraseIdx_eq_take_drop_succ, List.map_append, List.map_take, List.map_drop]
def OrdP (big : Int) : V → Hp → Prop := fun z B => ∃ p os, z = .ref p ∧ B p = some (.lst (os.map V.int)) ∧ OrdOk big os
def dOrder (K : PySem.W.Frag) : List V → Hp → (V → Hp → Prop) → Prop := fun vs B Pz => ∃ (a : Addr) (sc : List Int) (at_ big kind one two : Int), vs = [.ref a, .int at_, .int big, .int kind, .int one, .int two] ∧ SqL K B a (sc.map V.int) ∧ sc.length < 100000 ∧ 0 ≤ at_ ∧ at_ ≤ 1000 ∧ 2 ≤ big ∧ big ≤ 400 ∧ 0 ≤ one ∧ 0 ≤ two ∧ Pz = OrdP big
abbrev law_order_N : List Str := ["script", "at", "big", "kind", "one", "two", "swapped", "left", "found", "j", "digits", "digit", "k"]
abbrev law_order_P : List Str := ["script", "at", "big", "kind", "one", "two"]
theorem sc_law_order : FnScope ["script", "at", "big", "kind", "one", "two", "swapped", "left", "found", "j", "digits", "digit", "k"] ["script", "at", "big", "kind", "one", "two"] (defScope s_law_order) := ⟨rfl, rfl, rfl, by decide +kernel, rfl, by decide +kernel, by decide +kernel⟩
theorem ok_order (T : TX K mg) : OkF P w K mg base 2 "_law_order" ["script", "at", "big", "kind", "one", "two"] (spR (dOrder K)) := by
  have n_list := T.n "list" (by decide +kernel)
  have n_range := T.n "range" (by decide +kernel)
  have n_int := T.n "int" (by decide +kernel)
  have n_min := T.n "min" (by decide +kernel)
  refine T.okF 39 rfl (by decide +kernel) (fun f fd F => ?_) (fun _ _ _ _ _ _ us hl => match us, hl with | [_, _, _, _, _, _], _ => rfl)
  have O__law_digits := ok_digits (P := P) (w := w) (base := base) T
  have O__law_cell := ok_cell (P := P) (w := w) (base := base) T
  refine F.ok sc_law_order (fun vs H Q E h => spR_len h (by rintro B Pz ⟨a, sc, at_, b, k, o, t, rfl, _⟩; rfl)) (fun cdv A outer s H vs Q E hr ⟨B, Pz, e, ⟨a, sc, at_, big, kind, one, two, hvs, hS, hsl, ha0, ha1, hb2, hb4, ho0, ht0, hP⟩, q⟩ => ?_)
  subst hvs hP
  refine ⟨_, (pss_cons (ps_if (pt_cmpR op_eq (pv 3) pe_int (nomark _)) (pss_cons (ps_set (i := 6) sc_law_order.nd rfl (.inl rfl) (pe_listRg rfl (by rfl) n_list (prg_1 (by rfl) n_range (pv 2))))
        (pss_cons (ps_asg (pe_op op_mod (pe_callTy call_int1 (by rfl) n_int (by decide +kernel) (pa_cons (pv 5) pa_nil)) (pv 2)) (pg_sub (pv 6) (pe_op op_mod (pe_callTy call_int1 (by rfl) n_int (by decide +kernel) (pa_cons (pv 4) pa_nil)) (pv 2)) set_list))
        (pss_cons (ps_asg (pe_op op_mod (pe_callTy call_int1 (by rfl) n_int (by decide +kernel) (pa_cons (pv 4) pa_nil)) (pv 2)) (pg_sub (pv 6) (pe_op op_mod (pe_callTy call_int1 (by rfl) n_int (by decide +kernel) (pa_cons (pv 5) pa_nil)) (pv 2)) set_list))
        (pss_one (ps_ret (pv 6)))))) pss_nil)
        (pss_cons (ps_if (pt_cmpR op_eq (pv 3) pe_int (nomark _)) (pss_one (ps_ret (pe_lc (own := [("k", 12)]) (g := gName 12) (tt := tYes) rfl sc_law_order.nd (pi_range1 (by rfl) n_range (pa_cons (pv 2) pa_nil)) (blkOk_by (N := law_order_N) (sc := defScope s_law_order) (by decide +kernel)) (fun _ _ _ _ _ => pg_name (i := 12) sc_law_order.nd rfl (Or.inl rfl)) (fun _ _ _ _ _ => pts_nil) (fun _ _ _ _ _ => (pe_op op_mod (pe_callTy call_int1 (by rfl) n_int (by decide +kernel) (pa_cons (pe_op op_add (pv 12) (pv 4)) pa_nil)) (pv 2)))))) pss_nil)
        (pss_cons (ps_if (pt_cmpR op_eq (pv 3) pe_int (nomark _)) (pss_one (ps_ret (pe_lc (own := [("k", 12)]) (g := gName 12) (tt := tYes) rfl sc_law_order.nd (pi_range1 (by rfl) n_range (pa_cons (pv 2) pa_nil)) (blkOk_by (N := law_order_N) (sc := defScope s_law_order) (by decide +kernel)) (fun _ _ _ _ _ => pg_name (i := 12) sc_law_order.nd rfl (Or.inl rfl)) (fun _ _ _ _ _ => pts_nil) (fun _ _ _ _ _ => (pe_op op_sub (pe_op op_sub (pv 2) pe_int) (pv 12)))))) pss_nil)
        (pss_cons (ps_set (i := 7) sc_law_order.nd rfl (.inl rfl) (pe_listRg rfl (by rfl) n_list (prg_1 (by rfl) n_range (pv 2))))
        (pss_cons (ps_set (i := 8) sc_law_order.nd rfl (.inl rfl) (pe_lst pa_nil))
        (pss_cons (ps_for PassesOwn.never rfl (pi_range1 (by rfl) n_range (pa_cons pe_int pa_nil)) (pg_name (i := 9) sc_law_order.nd rfl (.inl rfl)) (pss_cons (ps_set (i := 10) sc_law_order.nd rfl (.inl rfl) (LX.pe_f O__law_digits hr (by decide) (pa_cons (LX.pe_f O__law_cell hr (by decide) (pa_cons (pv 0) (pa_cons (pe_op op_add (pv 1) (pv 9)) pa_nil))) (pa_cons (pe_lc (own := [("k", 12)]) (g := gName 12) (tt := tYes) rfl sc_law_order.nd (pi_range2 (by rfl) n_range (pa_cons (pe_op op_mul pe_int (pv 9)) (pa_cons (pe_callB (call_min2 rfl) (by rfl) n_min (by decide +kernel) (pa_cons (pv 2) (pa_cons (pe_op op_add (pe_op op_mul pe_int (pv 9)) pe_int) pa_nil))) pa_nil))) (blkOk_by (N := law_order_N) (sc := defScope s_law_order) (by decide +kernel)) (fun _ _ _ _ _ => pg_name (i := 12) sc_law_order.nd rfl (Or.inl rfl)) (fun _ _ _ _ _ => pts_nil) (fun _ _ _ _ _ => (pe_op op_sub (pv 2) (pv 12)))) pa_nil))))
        (pss_one (ps_for PassesOwn.never rfl (RX.k_pil (K := K) (pv 10)) (pg_name (i := 11) sc_law_order.nd rfl (.inl rfl)) (pss_one (ps_expr (pe_bm PySem.F.plainAttrs_list PySem.F.slot_list_append PySem.F.type_list_append mt_append (pv 8) (pa_cons (pe_bm PySem.F.plainAttrs_list PySem.F.slot_list_pop PySem.F.type_list_pop mt_popAt (pv 7) (pa_cons (pv 11) pa_nil)) pa_nil))))))))
        (pss_one (ps_ret (pv 8))))))))), ?_⟩
  obtain ⟨n, rfl⟩ : ∃ n : Nat, big = (n : Int) := ⟨big.toNat, by omega⟩
  have hn0 : (0 : Int) < (n : Int) := by omega
  have md : ∀ x : Int, ∃ m : Nat, x % (n : Int) = (m : Int) ∧ m < n := fun x => ⟨(x % (n : Int)).toNat, by have := Int.emod_nonneg x (b := (n : Int)) (by omega); omega, by
    have h1 := Int.emod_nonneg x (b := (n : Int)) (by omega)
    have h2 := Int.emod_lt_of_pos x hn0
    omega⟩
  have im : ∀ {σ : L2.St} {B : Hp} {te : TE} {x : Int} {m : Nat}, Ev te σ B (.int x) → σ[2]? = some (some (V.int (n : Int))) → x % (n : Int) = (m : Int) → Ev (tOp (rI (fun _ j => 0 < j) fun i j => .int (i % j)) (tCB (fun xs H Q => (∃ i, xs = [.int i] ∧ Q (.int i) H) ∨ ∃ k, xs = [.bl k] ∧ Q (.int (if k then 1 else 0)) H) (tCons te tNil)) (tVar 2)) σ B (.int (m : Int)) := fun {σ B te x m} h1 h2 h3 => ev_is (ev_op (ev_int h1) (ev_var h2) (rv_mod hn0)) (congrArg V.int h3)
  have rg : ∀ {σ : L2.St} {B : Hp}, σ[2]? = some (some (V.int (n : Int))) → EvL (tLstRg (tRg1 (tVar 2))) σ B ((intsN n).map V.int) := fun {σ B} h2 => el_eq (el_rg1 (ev_var h2) ⟨by omega, by omega⟩) (by rw [Int.toNat_natCast, rng_ints])
  -- kind 3
  refine x_when (X := H) (B := B) (b := decide (kind = 3)) (et_test (ev_is (ev_op (ev_var rfl) ev_c (rv_eq rfl)) (by simp))) (fun _ => ?_) (fun _ => ?_) H e (Ex.refl H)
  · refine x_asgL (rg rfl) fun p hpB hpH => ?_
    obtain ⟨i, hi1, hi2⟩ := md one
    obtain ⟨j, hj1, hj2⟩ := md two
    have hl1 : (upd B p (.lst ((intsN n).map V.int))) p = some (.lst ((intsN n).map V.int)) := upd_same
    refine x_setL (l := p) (k := (i : Int)) (j := i) hl1 hpH (im (ev_var rfl) rfl hj1) (ev_var rfl) (im (ev_var rfl) rfl hi1) (by rw [List.length_map, intsN_len]; unfold ixN; rw [if_pos (by omega), if_pos (by omega)]; simp) ?_
    refine x_setL (l := p) (k := (j : Int)) (j := j) upd_same hpH (im (ev_var rfl) rfl hi1) (ev_var rfl) (im (ev_var rfl) rfl hj1) (by rw [List.length_set, List.length_map, intsN_len]; unfold ixN; rw [if_pos (by omega), if_pos (by omega)]; simp) ?_
    have hu : ∀ {o u v : HO}, upd (upd (upd B p o) p u) p v = upd B p v := fun {o u v} => by
      funext x
      by_cases c : x = p
      · subst c; rw [upd_same, upd_same]
      · rw [upd_ne c, upd_ne c, upd_ne c, upd_ne c]
    rw [hu]
    have he : (((intsN n).map V.int).set i (.int (j : Int))).set j (.int (i : Int)) = (((intsN n).set i (j : Int)).set j (i : Int)).map V.int := by rw [List.map_set, List.map_set]
    rw [he]
    exact x_last (x_ret (rVp (P := OrdP (n : Int)) (ev_var rfl) ⟨p, _, rfl, upd_same, ord_swap hi2 hj2⟩) (fun z B' H' g p' e1 e2 => q z H' B' e2 ((gr_new hpB hpH).trans g) e1 p'))
  -- kind 4
  refine x_when (b := decide (kind = 4)) (et_test (ev_is (ev_op (ev_var rfl) ev_c (rv_eq rfl)) (by simp))) (fun _ => ?_) (fun _ => ?_)
  · refine x_last (x_ret (EvR.imp (rL (xs := ((List.range n).map fun (k : Nat) => ((k : Int) + one) % (n : Int)).map V.int) (el_eq (el_lcR1 (n := (n : Int)) (fun _ => true) (fun k => .int (((k : Int) + one) % (n : Int))) (ea_cons (ev_var rfl) ea_nil) (by omega) (fun _ => rfl) (fun _ _ _ _ => et_yes) (fun i H1 e hi _ => ev_op (ev_int (ev_op (ev_var rfl) (ev_var rfl) rv_I0)) (ev_var rfl) (rv_mod hn0))) (by rw [given_all, Int.toNat_natCast, List.map_map]; rfl))) (P' := OrdP (n : Int)) fun z B' _ ⟨p, h1, h2⟩ => ⟨p, _, h1, h2, ord_of (fun k hk => ⟨Int.emod_nonneg _ (by omega), Int.emod_lt_of_pos _ hn0⟩) fun a b ha hb h => ?_⟩) (fun z B' H' g p' e1 e2 => q z H' B' e2 g e1 p'))
    have h1 : ((a : Int) + one - ((b : Int) + one)) % (n : Int) = 0 := Int.emod_eq_emod_iff_emod_sub_eq_zero.mp h
    have h2 : (n : Int) ∣ ((a : Int) - (b : Int)) := by
      have := Int.dvd_of_emod_eq_zero h1
      have e : (a : Int) + one - ((b : Int) + one) = (a : Int) - (b : Int) := by omega
      rw [e] at this
      exact this
    obtain ⟨c, hc⟩ := h2
    have : c = 0 := by
      rcases Int.lt_trichotomy c 0 with h | h | h
      · have : (n : Int) * c ≤ (n : Int) * (-1) := Int.mul_le_mul_of_nonneg_left (by omega) (by omega)
        omega
      · exact h
      · have : (n : Int) * 1 ≤ (n : Int) * c := Int.mul_le_mul_of_nonneg_left (by omega) (by omega)
        omega
    subst this
    omega
  -- kind 5
  refine x_when (b := decide (kind = 5)) (et_test (ev_is (ev_op (ev_var rfl) ev_c (rv_eq rfl)) (by simp))) (fun _ => ?_) (fun _ => ?_)
  · exact x_last (x_ret (EvR.imp (rL (xs := ((List.range n).map fun (k : Nat) => (n : Int) - 1 - (k : Int)).map V.int) (el_eq (el_lcR1 (n := (n : Int)) (fun _ => true) (fun k => .int ((n : Int) - 1 - (k : Int))) (ea_cons (ev_var rfl) ea_nil) (by omega) (fun _ => rfl) (fun _ _ _ _ => et_yes) (fun i H1 e hi _ => ev_op (ev_op (ev_var rfl) ev_c rv_I0) (ev_var rfl) rv_I0)) (by rw [given_all, Int.toNat_natCast, List.map_map]; rfl))) (P' := OrdP (n : Int)) fun z B' _ ⟨p, h1, h2⟩ => ⟨p, _, h1, h2, ord_of (fun k hk => by omega) fun a b ha hb h => by omega⟩) (fun z B' H' g p' e1 e2 => q z H' B' e2 g e1 p'))
  -- drawn
  refine x_asgL (rg rfl) fun pl hplB hplH => ?_
  refine x_asgL (xs := []) (el_lst ea_nil (by decide)) fun pf hpf1 hpfH => ?_
  have hne : pf ≠ pl := fun c => by rw [c, upd_same] at hpf1; exact nomatch hpf1
  have hpfB : B pf = none := by rw [upd_ne hne] at hpf1; exact hpf1
  have lay : ∀ {Bx : Hp} {o u : HO}, Bx pl = none → Bx pf = none → Ex Bx (upd (upd Bx pl o) pf u) := fun {Bx o u} h1 h2 x v hx => by
    have c1 : x ≠ pl := fun c => by rw [c, h1] at hx; exact nomatch hx
    have c2 : x ≠ pf := fun c => by rw [c, h2] at hx; exact nomatch hx
    rw [upd_ne c2, upd_ne c1]; exact hx
  refine x_for (F := B) (lay hplB hpfB) (ei_rng1 (n := ((7 : Nat) : Int)) (ea_cons ev_c ea_nil) (by omega)) (fun F' ys j σ' B' => ∃ (Bs : Hp) (L Fd : List Int) (y9 y10 y11 : Option V), σ' = [some (V.ref a), some (.int at_), some (.int (n : Int)), some (.int kind), some (.int one), some (.int two), none, some (.ref pl), some (.ref pf), y9, y10, y11, none] ∧ B' = upd (upd Bs pl (.lst (L.map V.int))) pf (.lst (Fd.map V.int)) ∧ Bs pl = none ∧ Bs pf = none ∧ Gr H F' Bs ∧ (Fd ++ L).Perm (intsN n) ∧ Fd.length = min n (60 * j)) (fun F' ys g hy av => ?_) (fun F' ys j σ' B' h => ?_) (fun F' ys j xx σ' B' g hy hxj h => ?_) (fun F' ys σ' B' g hy h => ?_)
  · have hFl : F' pl = none := av pl hplB (by rw [upd_ne hne.symm, upd_same]; exact Option.some_ne_none _)
    have hFf : F' pf = none := av pf hpfB (by rw [upd_same]; exact Option.some_ne_none _)
    exact ⟨F', intsN n, [], none, none, none, rfl, mrg2 g.ex hFl hFf, hFl, hFf, Gr.refl _ _, List.Perm.refl _, by simp⟩
  · obtain ⟨Bs, L, Fd, y9, y10, y11, rfl, rfl, h1, h2, g, _⟩ := h
    exact g.ex.trans (lay h1 h2)
  · obtain ⟨Bs, L, Fd, y9, y10, y11, rfl, rfl, hBl, hBf, gF, hperm, hlen⟩ := h
    rw [hy, Int.toNat_natCast] at hxj
    obtain ⟨rfl, hj⟩ := rng_get hxj
    have eB : Ex B Bs := g.ex.trans gF.ex
    have hSb := ex_l (eB.trans (lay (o := .lst (L.map V.int)) (u := .lst (Fd.map V.int)) hBl hBf)) hS
    have hLF : Fd.length + L.length = n := by rw [← List.length_append, hperm.length_eq, intsN_len]
    obtain ⟨hi, hhi, hhi2⟩ : ∃ hi : Nat, (if 60 * (j : Int) + 60 < (n : Int) then 60 * (j : Int) + 60 else (n : Int)) = (hi : Int) ∧ hi = min n (60 * j + 60) := ⟨min n (60 * j + 60), by split <;> omega, rfl⟩
    have hm : ((hi : Int) - 60 * (j : Int)).toNat = hi - 60 * j := by omega
    have hsz : ∀ s ∈ (List.range (hi - 60 * j)).map (fun (k : Nat) => (n : Int) - (60 * (j : Int) + (k : Int))), 0 < s ∧ s < 1073741824 := fun s hs => by
      obtain ⟨k, hk, rfl⟩ := List.mem_map.mp hs
      have := List.mem_range.mp hk
      omega
    refine x_asgL (xs := (digitsOf (cellOf sc (at_ + (j : Int))) ((List.range (hi - 60 * j)).map (fun (k : Nat) => (n : Int) - (60 * (j : Int) + (k : Int))))).map V.int) (el_digits (ev_cell (ev_var rfl) hSb (ev_op (ev_var rfl) (ev_var rfl) rv_I0) (by omega) (by omega) hsl) (el_eq (el_lcR2 (lo := 60 * (j : Int)) (hi := (hi : Int)) (fun _ => true) (fun k => .int ((n : Int) - (60 * (j : Int) + (k : Int)))) (ea_cons (ev_op ev_c (ev_var rfl) (rv_mulL (by omega))) (ea_cons (ev_is (ev_min2 (ev_var rfl) (ev_op (ev_op ev_c (ev_var rfl) (rv_mulL (by omega))) ev_c rv_I0)) (congrArg V.int hhi)) ea_nil)) (by omega) (by omega) (fun _ => rfl) (fun _ _ _ _ => et_yes) (fun i H1 e hi _ => ev_op (ev_var rfl) (ev_var rfl) rv_I0)) (by rw [given_all, hm, List.map_map]; rfl)) hsz (by rw [List.length_map, List.length_range]; omega)) fun pd hpd1 hpdH => ?_
    have hbd : ∀ i, i < hi - 60 * j → 0 ≤ (digitsOf (cellOf sc (at_ + (j : Int))) ((List.range (hi - 60 * j)).map (fun (k : Nat) => (n : Int) - (60 * (j : Int) + (k : Int))))).getD i 0 ∧ (digitsOf (cellOf sc (at_ + (j : Int))) ((List.range (hi - 60 * j)).map (fun (k : Nat) => (n : Int) - (60 * (j : Int) + (k : Int))))).getD i 0 < (n : Int) - (60 * (j : Int) + (i : Int)) := fun i hi' => dg_bd (fun s hs => (hsz s hs).1) (by rw [List.getElem?_map, List.getElem?_range hi']; rfl)
    have hdl : (digitsOf (cellOf sc (at_ + (j : Int))) ((List.range (hi - 60 * j)).map (fun (k : Nat) => (n : Int) - (60 * (j : Int) + (k : Int))))).length = hi - 60 * j := by rw [digits_len, List.length_map, List.length_range]
    generalize digitsOf (cellOf sc (at_ + (j : Int))) ((List.range (hi - 60 * j)).map (fun (k : Nat) => (n : Int) - (60 * (j : Int) + (k : Int)))) = ds at hbd hdl
    have hdf : pd ≠ pf := fun c => by rw [c, upd_same] at hpd1; exact nomatch hpd1
    have hdl2 : pd ≠ pl := fun c => by rw [c, upd_ne hne.symm, upd_same] at hpd1; exact nomatch hpd1
    have hpdB : Bs pd = none := by rw [upd_ne hdf, upd_ne hdl2] at hpd1; exact hpd1
    have heq : upd (upd (upd Bs pl (.lst (L.map V.int))) pf (.lst (Fd.map V.int))) pd (.lst (ds.map V.int)) = upd (upd (upd Bs pd (.lst (ds.map V.int))) pl (.lst (L.map V.int))) pf (.lst (Fd.map V.int)) := by
      rw [RX.upd_comm (a := pf) (b := pd) hdf.symm, RX.upd_comm (a := pl) (b := pd) hdl2.symm]
    rw [heq]
    have hDl : (upd Bs pd (.lst (ds.map V.int))) pl = none := by rw [upd_ne hdl2.symm]; exact hBl
    have hDf : (upd Bs pd (.lst (ds.map V.int))) pf = none := by rw [upd_ne hdf.symm]; exact hBf
    have hDd : (upd Bs pd (.lst (ds.map V.int))) pd = some (.lst (ds.map V.int)) := upd_same
    have gD : Gr H F' (upd Bs pd (.lst (ds.map V.int))) := gF.trans (gr_new hpdB hpdH)
    generalize upd Bs pd (.lst (ds.map V.int)) = Bd at hDl hDf hDd gD
    refine x_last (x_for (F := Bd) (lay hDl hDf) (ei_list (ev_var rfl) (sq_of hDd)) (fun F2 ys2 i σ2 B2 => ∃ (Bs2 : Hp) (L2 Fd2 : List Int) (y11 : Option V), σ2 = [some (V.ref a), some (.int at_), some (.int (n : Int)), some (.int kind), some (.int one), some (.int two), none, some (.ref pl), some (.ref pf), some (.int (j : Int)), some (.ref pd), y11, none] ∧ B2 = upd (upd Bs2 pl (.lst (L2.map V.int))) pf (.lst (Fd2.map V.int)) ∧ Bs2 pl = none ∧ Bs2 pf = none ∧ Gr H F2 Bs2 ∧ (Fd2 ++ L2).Perm (intsN n) ∧ Fd2.length = min n (60 * j) + i) (fun F2 ys2 g2 hy2 av2 => ?_) (fun F2 ys2 i σ2 B2 h => ?_) (fun F2 ys2 i xx σ2 B2 g2 hy2 hxi h => ?_) (fun F2 ys2 σ2 B2 g2 hy2 h => ?_))
    · have hFl : F2 pl = none := av2 pl hDl (by rw [upd_ne hne.symm, upd_same]; exact Option.some_ne_none _)
      have hFf : F2 pf = none := av2 pf hDf (by rw [upd_same]; exact Option.some_ne_none _)
      exact ⟨F2, L, Fd, _, rfl, mrg2 g2.ex hFl hFf, hFl, hFf, Gr.refl _ _, hperm, hlen⟩
    · obtain ⟨Bs2, L2, Fd2, y11', rfl, rfl, h1, h2, g3, _⟩ := h
      exact g3.ex.trans (lay h1 h2)
    · obtain ⟨Bs2, L2, Fd2, y11', rfl, rfl, h1, h2, g3, hperm2, hlen2⟩ := h
      rw [hy2, List.getElem?_map] at hxi
      have hil : i < ds.length := by
        cases c : ds[i]? with
        | none => rw [c] at hxi; exact nomatch hxi
        | some x => exact (List.getElem?_eq_some_iff.mp c).1
      have hgi : ds[i]? = some (ds.getD i 0) := by rw [List.getD_eq_getElem?_getD, List.getElem?_eq_getElem hil]; rfl
      rw [hgi] at hxi
      have hxi := Option.some.inj hxi
      subst hxi
      obtain ⟨b0, b1⟩ := hbd i (by omega)
      obtain ⟨k, hk⟩ : ∃ k : Nat, ds.getD i 0 = (k : Int) := ⟨(ds.getD i 0).toNat, by omega⟩
      rw [hk] at b1
      have hLF2 : Fd2.length + L2.length = n := by rw [← List.length_append, hperm2.length_eq, intsN_len]
      have hkl : k < L2.length := by omega
      have hky : L2[k]? = some L2[k] := List.getElem?_eq_getElem hkl
      generalize L2[k] = y at hky
      refine x_last (x_appPop (l1 := pf) (l2 := pl) (xs := Fd2.map V.int) (ys := L2.map V.int) (k := k) (y := .int y) upd_same hpfH (by rw [upd_ne hne.symm, upd_same]) hplH hne (ev_var rfl) (ev_var rfl) (ev_is (ev_var rfl) (congrArg V.int hk)) (by rw [List.getElem?_map, hky]; rfl) (by rw [List.length_map]; omega) (by rw [List.length_map]; omega) ?_)
      refine x_nx rfl ⟨Bs2, L2.eraseIdx k, Fd2 ++ [y], _, rfl, ?_, h1, h2, g3, ?_, by rw [List.length_append, hlen2]; rfl⟩
      · rw [List.map_append, erase_map]
        funext x
        by_cases c1 : x = pf
        · subst c1; rw [upd_same, upd_same]; rfl
        · rw [upd_ne c1, upd_ne c1]
          by_cases c2 : x = pl
          · subst c2; rw [upd_same, upd_same]
          · rw [upd_ne c2, upd_ne c2, upd_ne c1, upd_ne c2]
      · rw [List.append_assoc]
        exact (List.Perm.append_left Fd2 (erase_perm hky)).trans hperm2
    · obtain ⟨Bs2, L2, Fd2, y11', rfl, rfl, h1, h2, g3, hperm2, hlen2⟩ := h
      rw [hy2, List.length_map, hdl] at hlen2
      exact x_nx rfl ⟨Bs2, L2, Fd2, _, _, _, rfl, rfl, h1, h2, gD.trans (g2.trans g3), hperm2, by omega⟩
  · obtain ⟨Bs, L, Fd, y9, y10, y11, rfl, rfl, hBl, hBf, gF, hperm, hlen⟩ := h
    have hyl : ys.length = 7 := by rw [hy, Int.toNat_natCast, rngV_len]
    rw [hyl] at hlen
    have hLF : Fd.length + L.length = n := by rw [← List.length_append, hperm.length_eq, intsN_len]
    have hL0 : L = [] := List.length_eq_zero_iff.mp (by omega)
    subst hL0
    rw [List.append_nil] at hperm
    have hBf' : (upd Bs pl (.lst (([] : List Int).map V.int))) pf = none := by rw [upd_ne hne]; exact hBf
    exact x_last (x_ret (rVp (P := OrdP (n : Int)) (ev_var rfl) ⟨pf, Fd, rfl, upd_same, ord_perm hperm⟩) (fun z B' H' g' p' e1 e2 => q z H' B' e2 ((g.trans gF).trans ((gr_new hBl hplH).trans ((gr_new hBf' hpfH).trans g'))) e1 p'))
end Kx
namespace Kx
open PySem PySem.Spec PyProof.Rows L2 Evl LX T XV RX WS
variable {P : Program} {w : World} {K : PySem.W.Frag} {mg : Str → Option Value} {base : Heap}
/-! ### for the law -/
def ModelAt (K : PySem.W.Frag) (rels : List Rel) : V → Hp → Prop := fun v B => ∃ m kvs, v = .ref m ∧ B m = some (.dK kvs) ∧ MTab K rels kvs B
instance {rels : List Rel} : Mo (ModelAt K rels) := ⟨fun e ⟨m, kvs, a, b, c⟩ => ⟨m, kvs, a, e _ _ b, c.mono e⟩⟩
theorem w_moved (T : TX K mg) : OkM P w K mg base 9 (wC K) "moved" ["self", "order"] (spR (dMoved K P w (wC K))) := by
  obtain ⟨fd, F⟩ := T.t.d _ (List.mem_of_getElem? (i := 15) rfl)
  have F2 : Fun K "moved" "World.moved" s_World_moved (He.ma K (wC K) "moved") fd := fun_of F
  exact ⟨_, fd, w_meth T (by decide +kernel), fn_moved T F2 (w_cls T) (w_noat T) (w_arity T) (w_rows T) (w_mk2 T), F2.binds fun _ _ _ _ _ _ us hl => match us, hl with | [_, _], _ => rfl⟩
theorem wX_moved (T : TX K mg) : OkMX P w K mg base 9 (wC K) "moved" ["self", "order"] (spRefuse K P w (wC K)) := by
  obtain ⟨fd, F⟩ := T.t.d _ (List.mem_of_getElem? (i := 15) rfl)
  have F2 : Fun K "moved" "World.moved" s_World_moved (He.ma K (wC K) "moved") fd := fun_of F
  exact ⟨_, fd, w_meth T (by decide +kernel), fnX_moved T F2 (w_cls T) (w_noat T) (w_arity T) (w_rows T) (w_mk2 T), F2.binds fun _ _ _ _ _ _ us hl => match us, hl with | [_, _], _ => rfl⟩
theorem ord_onto {n : Nat} {os : List Int} (h : OrdOk (n : Int) os) {s : Nat} (hs : s < n) : ∃ t, t < n ∧ os.getD t 0 = (s : Int) := by
  have hl := h.len
  by_cases c : (s : Int) ∈ os
  · obtain ⟨t, ht, e⟩ := List.mem_iff_getElem.mp c
    exact ⟨t, by omega, by rw [getD_lt ht, e]⟩
  · exfalso
    have h1 : ((s : Int) :: os).Nodup := List.nodup_cons.mpr ⟨c, h.nd⟩
    have h2 : ((s : Int) :: os).length ≤ (intsN n).length := NM.pigeon h1 fun x hx => by
      rcases List.mem_cons.mp hx with e | e
      · subst e
        exact List.mem_map.mpr ⟨s, List.mem_range.mpr hs, rfl⟩
      · obtain ⟨a, b⟩ := h.bd x e
        exact List.mem_map.mpr ⟨x.toNat, List.mem_range.mpr (by omega), by omega⟩
    rw [intsN_len, List.length_cons] at h2
    omega
/-- what back holds when every thing has been put -/
theorem back_ok {n : Nat} {os bk : List Int} (h : OrdOk (n : Int) os) (hl : bk.length = n) (hb : ∀ t, t < n → bk.getD (os.getD t 0).toNat 0 = (t : Int)) : OrdOk (n : Int) bk := by
  have hol := h.len
  have at_ : ∀ s (hs : s < bk.length), ∃ t, t < n ∧ os.getD t 0 = (s : Int) ∧ bk[s] = (t : Int) := fun s hs => by
    obtain ⟨t, ht, e⟩ := ord_onto h (s := s) (by omega)
    refine ⟨t, ht, e, ?_⟩
    have := hb t ht
    rw [e, Int.toNat_natCast, getD_lt hs] at this
    exact this
  refine ⟨by omega, fun m hm => ?_, List.pairwise_iff_getElem.mpr fun i j hi hj hij e => ?_⟩
  · obtain ⟨s, hs, rfl⟩ := List.mem_iff_getElem.mp hm
    obtain ⟨t, ht, _, e⟩ := at_ s hs
    rw [e]
    omega
  · obtain ⟨t1, ht1, e1, f1⟩ := at_ i hi
    obtain ⟨t2, ht2, e2, f2⟩ := at_ j hj
    rw [f1, f2] at e
    have : t1 = t2 := by omega
    rw [this, e2] at e1
    omega
theorem back_id {n : Nat} {os bk : List Int} {rels : List Rel} (h : OrdOk (n : Int) os) (hl : bk.length = n) (hb : ∀ t, t < n → bk.getD (os.getD t 0).toNat 0 = (t : Int)) (I : RelsInv (n : Int) rels) : imgR (n : Int) bk (imgR (n : Int) os rels) = rels := by
  rw [imgR_join h (back_ok h hl hb) I]
  refine imgR_id (fun t h0 h1 => ?_) I
  have hol := h.len
  unfold joinO
  rw [getD_lt (by rw [List.length_map]; omega), List.getElem_map]
  have := hb t.toNat (by omega)
  rw [getD_lt (os := os) (by omega)] at this
  rw [this]
  omega
theorem ints_id {n : Nat} {rels : List Rel} (I : RelsInv (n : Int) rels) : imgR (n : Int) (intsN n) rels = rels := imgR_id (fun t h0 h1 => by
  rw [getD_lt (by rw [intsN_len]; omega)]
  unfold intsN
  rw [List.getElem_map, List.getElem_range]
  omega) I
/-- _law_is_world of a world that is told -/
theorem ev_lworldX {C : Addr} {σ : L2.St} {B : Hp} {ta tb tc : TE} {m : Addr} {kvs : List (Key × V)} {big : Int} {rels : List Rel} (h1 : EvR ta σ B (WorldQ K P w C big rels)) (h2 : Ev tb σ B (.int big)) (h3 : Ev tc σ B (.ref m)) (hm : B m = some (.dK kvs)) (hT : MTab K rels kvs B) (hI : RelsInv big rels) (hl : ∀ r ∈ rels, r.rows.length ≤ 63) : Ev (tCall (spR (dIsWorld K P w C)) [] E0 (tCons ta (tCons tb (tCons tc tNil)))) σ B (.bl true) := by
  refine EvR.val (er_callP (Pz := IsV (.bl true)) (Pa := fun vs B' => ∃ x, vs = [.ref x, .int big, .ref m] ∧ WorldP K P w C big rels x B') (EvAR.imp (ear (Pr := fun r B' => ∃ z2 r2, r = z2 :: r2 ∧ IsV (.int big) z2 B' ∧ ∃ z3 r3, r2 = z3 :: r3 ∧ IsV (.ref m) z3 B' ∧ r3 = []) inferInstance h1 (ear inferInstance (eR_v h2) (ear inferInstance (eR_v h3) ear_nil))) ?_) ?_)
  · rintro vs B' _ ⟨z1, r1, rfl, ⟨x, rfl, hW⟩, z2, r2, rfl, hz2, z3, r3, rfl, hz3, rfl⟩
    have hz2 : z2 = .int big := hz2
    have hz3 : z3 = .ref m := hz3
    subst hz2 hz3
    exact ⟨x, rfl, hW⟩
  · rintro vs B' e ⟨x, rfl, hW⟩
    obtain ⟨rels', hp, hWA⟩ := hW
    have hfit := hI.fit hl
    have hfit' : RelsFit rels' := ⟨by rw [hp.length_eq]; exact hfit.few, (hp.map _).nodup_iff.mpr hfit.nd, fun n => by rw [rowsIn_perm hp hI.nd]; exact hfit.rows n, fun n q hq => hfit.row n q (by rw [rowsIn_perm hp hI.nd] at hq; exact hq)⟩
    exact ⟨_, ⟨x, m, big, rels', kvs, rfl, hWA, e _ _ hm, ⟨rels, hp.symm, hT.mono e⟩, hfit', rfl⟩, fun z B'' _ h => h⟩
/-- == of a world that is told and one that is known -/
theorem ev_eqWR {σ : L2.St} {B : Hp} {C : Addr} {ta tb : TE} {y : Addr} {size : Int} {rels rels2 : List Rel} (h1 : EvR ta σ B (WorldQ K P w C size rels)) (h2 : Ev tb σ B (.ref y)) (hW2 : WorldP K P w C size rels2 y B) (hI : RelsInv size rels) (hI2 : RelsInv size rels2) (hnm : rels2.map Rel.name = rels.map Rel.name) (har : ∀ n, arIn rels2 n = arIn rels n) : Ev (tOp (rEqO C (spR (dEqW K P w C))) ta tb) σ B (.bl (sameR rels rels2)) := by
  obtain ⟨dy, gs, hy⟩ := hW2.ins
  refine Kx.ev_opR h1 h2 fun z B' e ⟨x, hz, hW⟩ => ?_
  subst hz
  obtain ⟨dx, fs, hx⟩ := hW.ins
  exact fun H1 e1 Q k => ⟨x, dx, fs, y, dy, gs, rfl, rfl, e1 _ _ hx, e1 _ _ (e _ _ hy), B', IsV (.bl (sameR rels rels2)), e1, ⟨x, y, size, rels, rels2, rfl, hW, hW2.mono e, hI, hI2, hnm, har, rfl⟩, fun z H3 B'' e3 g e4 hz => ⟨_, hz, k H3 e3⟩⟩
theorem sameR_refl {rels : List Rel} : sameR rels rels = true := by
  unfold sameR
  exact List.all_eq_true.mpr fun x _ => decide_eq_true rfl
/-- w.moved(order) -/
theorem er_moved {σ : L2.St} {B : Hp} {C : Addr} {ta tr : TE} {x : Addr} {big : Int} {rels : List Rel} {d : PyData} {os : List Int} {E : XK} {P0 : V → Hp → Prop} (h : Ev ta σ B (.ref x)) (h1 : EvR tr σ B P0) (hd : ∀ z B', Ex B B' → P0 z B' → Dp K B' z d) (hs : seqD d = some (os.map PyData.int)) (hos : OrdOk big os) (hW : WorldP K P w C big rels x B) (hI : RelsInv big rels) (hall : ∀ r ∈ rels, r.rows.length < 63) :
    EvR (tMeth C "moved" (spR (dMoved K P w C)) [] E ta (tCons tr tNil)) σ B (WorldQ K P w C big (imgR big os rels)) := by
  obtain ⟨dx, fs, hx, _, _, hp⟩ := hW.ins2
  refine er_methP (Pa := fun vs B' => ∃ z, vs = [z] ∧ Dp K B' z d) h hx hp (EvAR.imp (ear (P := IsDp K d) inferInstance (EvR.imp h1 fun z B' e p => hd z B' e p) ear_nil) ?_) ?_
  · rintro vs B' _ ⟨z, r, rfl, hz, rfl⟩
    exact ⟨z, rfl, hz⟩
  · rintro vs B' e ⟨z, rfl, hz⟩
    exact ⟨x, big, rels, z, d, os, rfl, hW.mono e, hI, hz, hs, hos, hall, rfl⟩
theorem shaped_L (r : List Int) : SeqAt.shaped (.list (r.map PyData.int)) = true := (Pl.list (k := 0) fun x hx => by
  obtain ⟨i, _, rfl⟩ := List.mem_map.mp hx
  exact .int i).shaped (by decide)
theorem rv_neL {B : Hp} {a b : Addr} {r : List Int} (ha : SqL K B a (r.map V.int)) (hb : SqL K B b (r.map V.int)) : RV (rNeD K) (.ref a) (.ref b) B (.bl false) := fun H1 e Q k => by
  refine ⟨.list (r.map PyData.int), .list (r.map PyData.int), .lst (ex_l e ha) (dp_ints r), .lst (ex_l e hb) (dp_ints r), shaped_L r, shaped_L r, ?_⟩
  rw [SeqAt.eqv_refl _ (SeqAt.canLay_of_shaped (shaped_L r))]
  exact k H1 (Ex.refl _)
theorem x_whenG {X B : Hp} {σ : L2.St} {D : Ends} {t : TT} {tu tz : TS} {b : Bool} {P0 : L2.St → Hp → Prop} (h : EvT t σ B b) (h1 : b = true → AnyS X tu σ B P0) (h2 : b = false → P0 σ B) (k : ∀ σ' B', P0 σ' B' → Sx X tz D σ' B') : Sx X (tSeq (tIfS t tu tNext) tz) D σ B :=
  x_when h (fun hb => x_last (h1 hb fun σ' B' p => x_end (k σ' B' p))) (fun hb => k σ B (h2 hb))
theorem WorldP.del {C : Addr} {size : Int} {rels : List Rel} {x a : Addr} {B : Hp} {xs : List V} (ha : B a = some (.lst xs)) (h : WorldP K P w C size rels x B) : WorldP K P w C size rels x (RX.del B a) := h.nl (nl_del ha)
end Kx
namespace Kx
open PySem PySem.Spec PyProof.Rows L2 Evl LX T XV RX WS
variable {P : Program} {w : World} {K : PySem.W.Frag} {mg : Str → Option Value} {base : Heap}
/-- what is handed in -/
theorem handed_ent {fl : List Int} {ns : List Str} {gs : List (Int × List (List Int))} (i : Nat) (d : PyData) (n : Str) (g : Int × List (List Int)) (h1 : (entsDt fl ns gs)[i]? = some d) (h2 : ns[i]? = some n) (h3 : gs[i]? = some g) : EntD d n g := by
  have hi := (List.getElem?_eq_some_iff.mp h2).1
  unfold entsDt at h1
  rw [List.getElem?_map, List.getElem?_range hi] at h1
  have h1 : entDt fl i (ns.getD i "") (gs.getD i (0, [])) = d := Option.some.inj h1
  rw [List.getD_eq_getElem?_getD, h2, List.getD_eq_getElem?_getD, h3] at h1
  have h1 : entDt fl i n g = d := h1
  subst h1
  refine ⟨_, _, formD_seq, formD_seq, by unfold rowsDt; rw [List.length_map, List.length_range], fun k rd r hk hr => ?_⟩
  have hk' := (List.getElem?_eq_some_iff.mp hr).1
  unfold rowsDt at hk
  rw [List.getElem?_map, List.getElem?_range hk'] at hk
  have hk := Option.some.inj hk
  subst hk
  show seqD (formD _ ((g.2.getD k []).map PyData.int)) = _
  rw [formD_seq, List.getD_eq_getElem?_getD, hr]
  rfl
theorem handed_ok {big : Int} {fl : List Int} {ns : List Str} {gs : List (Int × List (List Int))} (hg : gs.length = ns.length) (hn : ∀ s ∈ ns, nameOkS s = true) (hnd : ns.Nodup) (h12 : ns.length ≤ 12) (hok : ∀ g ∈ gs, GivenOk big g) : RelsOk big (entsDt fl ns gs) ∧ (entsDt fl ns gs).map (relOf big) = relsG big ns gs :=
  rels_of (by unfold entsDt; rw [List.length_map, List.length_range]) hg handed_ent hn hnd h12 hok
theorem nam_ok2 {s : Str} (h : NM.Nam s) : PySem.PyData.strOk s = true := by
  show s.cps.all (· < 0x110000) = true
  rw [← Array.all_toList]
  refine List.all_eq_true.mpr fun c hc => decide_eq_true ?_
  rcases h.all c hc with ⟨_, q⟩ | ⟨_, q⟩ <;> omega
section
variable {B : Hp}
instance {big : Int} : Mo (GivenAt K big) := ⟨fun e ⟨⟨p, l, ar, ys, R, h1, h2, h3, h4, h5⟩⟩ => ⟨⟨p, l, ar, ys, R, h1, e _ _ h2, e _ _ h3, A2.mono (fun _ => inferInstance) e h4, h5⟩⟩⟩
theorem given_all2 {big : Int} : ∀ {ys : List V}, (∀ y ∈ ys, GivenAt K big y B) → ∃ gs, A2 (GivenR K) gs ys B ∧ ∀ g ∈ gs, GivenOk big g
  | [], _ => ⟨[], a2_nil, fun g h => nomatch h⟩
  | y :: ys, h => by
    obtain ⟨gs, h1, h2⟩ := given_all2 (ys := ys) fun y hy => h y (List.mem_cons_of_mem _ hy)
    obtain ⟨p, l, ar, zs, R, e1, e2, e3, e4, e5⟩ := h y List.mem_cons_self
    refine ⟨(ar, R) :: gs, A2.cons ⟨p, l, zs, e1, e2, e3, e4⟩ h1, fun g hg => ?_⟩
    rcases List.mem_cons.mp hg with c | c
    · rw [c]; exact e5
    · exact h2 g c
/-- [_law_given(_law_cell(script, k + j), big) for j in range(len(names))] -/
def IsGivens (K : PySem.W.Frag) (big : Int) (n : Nat) : V → Hp → Prop := fun z B => ∃ (p : Addr) (ts : List V) (gs : List (Int × List (List Int))), z = .ref p ∧ B p = some (.lst ts) ∧ A2 (GivenR K) gs ts B ∧ gs.length = n ∧ ∀ g ∈ gs, GivenOk big g
end
def dLaw (K : PySem.W.Frag) : List V → Hp → V → Prop := fun vs H z => ∃ (a : Addr) (sc : List Int), vs = [.ref a] ∧ SqL K H a (sc.map V.int) ∧ sc.length ≤ 63 ∧ z = .bl true
end Kx
namespace Kx
open PySem PySem.Spec PyProof.Rows L2 Evl LX T XV RX WS
variable {P : Program} {w : World} {K : PySem.W.Frag} {mg : Str → Option Value} {base : Heap}
def SZ5 : List Int := [8, 399, 13, 6, 400, 400, 6, 400, 400, 5, 160000, 2, 5]
theorem SZ5_ok : ∀ s ∈ SZ5, 0 < s ∧ s < 1073741824 := by decide
abbrev law_N : List Str := ["script", "shape", "wide", "big", "names", "tables", "k", "flags", "model", "world", "order", "then", "handed", "other", "due", "kind", "spoilt", "back", "again", "twice", "joined", "text", "row", "j", "i"]
abbrev law_P : List Str := ["script"]
theorem sc_law : FnScope ["script", "shape", "wide", "big", "names", "tables", "k", "flags", "model", "world", "order", "then", "handed", "other", "due", "kind", "spoilt", "back", "again", "twice", "joined", "text", "row", "j", "i"] ["script"] (defScope s_law) := ⟨rfl, rfl, rfl, by decide +kernel, rfl, by decide +kernel, by decide +kernel⟩
theorem fn_law (T : TX K mg) {f : Addr} {fd : FuncData} (F : Fun K "law" "law" s_law f fd) : FnOk P w K mg base CX0 13 f fd ["script"] (spV (dLaw K)) := by
  have n_int := T.n "int" (by decide +kernel)
  have n_range := T.n "range" (by decide +kernel)
  have n_len := T.n "len" (by decide +kernel)
  have n_list := T.n "list" (by decide +kernel)
  have n_isinstance := T.n "isinstance" (by decide +kernel)
  have n_tuple := T.n "tuple" (by decide +kernel)
  have O__law_digits := ok_digits (P := P) (w := w) (base := base) T
  have O__law_cell := ok_cell (P := P) (w := w) (base := base) T
  have O__law_names := ok_names (P := P) (w := w) (base := base) T
  have O__law_given := ok_given (P := P) (w := w) (base := base) T
  have O__law_model := ok_model (P := P) (w := w) (base := base) T
  have O__law_handed := ok_handed (P := P) (w := w) (base := base) T
  have O__law_form := ok_form (P := P) (w := w) (base := base) T
  have O__law_order := ok_order (P := P) (w := w) (base := base) T
  have O__law_image := ok_image (P := P) (w := w) (base := base) T
  have O__law_spoilt := ok_spoilt (P := P) (w := w) (base := base) T
  have O__law_refuses := ok_refuses (P := P) (w := w) (base := base) T (w_cls T) (wX_moved T)
  have O__law_is_truth := ok_truth (P := P) (w := w) (base := base) T
  have O__law_is_gone_over := ok_gone (P := P) (w := w) (base := base) T
  have O__law_goes_on := ok_goes (P := P) (w := w) (base := base) T
  have O__law_facts_meet := ok_meet (P := P) (w := w) (base := base) T
  have O__law_is_world := ok_lworld (P := P) (w := w) (base := base) T (w_cls T) (w_noat T) (w_arity T) (w_rows T)
  have I_World2 := w_mk2 (P := P) (w := w) (base := base) T
  have M_moved := w_moved (P := P) (w := w) (base := base) T
  have M___eq__ := w_eq (P := P) (w := w) (base := base) T
  have hC := w_cls T
  refine F.ok sc_law (fun vs H Q E h => by obtain ⟨z, ⟨a, ns, rfl, _⟩, _⟩ := h; rfl) (fun cdv A outer s H vs Q E hr h => ?_)
  obtain ⟨z, ⟨a, sc, hvs, hS, hl, hz⟩, q⟩ := h
  subst hvs hz
  refine ⟨_, (pss_cons (ps_set (i := 1) sc_law.nd rfl (.inr rfl) (LX.pe_f O__law_digits hr (by decide) (pa_cons (LX.pe_f O__law_cell hr (by decide) (pa_cons (pv 0) (pa_cons pe_int pa_nil))) (pa_cons (pe_lst (pa_cons pe_int (pa_cons pe_int (pa_cons pe_int (pa_cons pe_int (pa_cons pe_int (pa_cons pe_int (pa_cons pe_int (pa_cons pe_int (pa_cons pe_int (pa_cons pe_int (pa_cons pe_int (pa_cons pe_int (pa_cons pe_int pa_nil)))))))))))))) pa_nil))))
        (pss_cons (ps_set (i := 2) sc_law.nd rfl (.inl rfl) (pe_ix (LX.k_ixl (K := K)) (pv 1) pe_int (fun _ _ => rfl)))
        (pss_cons (ps_set (i := 3) sc_law.nd rfl (.inr rfl) (pe_ix (LX.k_ixl (K := K)) (pe_lst (pa_cons (pe_op op_add pe_int (pe_op op_mod (pe_callTy call_int1 (by rfl) n_int (by decide +kernel) (pa_cons (pv 2) pa_nil)) pe_int)) (pa_cons pe_int (pa_cons pe_int (pa_cons (pe_op op_add pe_int (pe_op op_mod (pe_callTy call_int1 (by rfl) n_int (by decide +kernel) (pa_cons (pv 2) pa_nil)) pe_int)) (pa_cons (pe_op op_add pe_int (pe_op op_mod (pe_callTy call_int1 (by rfl) n_int (by decide +kernel) (pa_cons (pv 2) pa_nil)) pe_int)) (pa_cons (pe_op op_add pe_int (pv 2)) (pa_cons (pe_op op_add pe_int (pv 2)) (pa_cons (pe_op op_sub pe_int (pe_op op_mod (pe_callTy call_int1 (by rfl) n_int (by decide +kernel) (pa_cons (pv 2) pa_nil)) pe_int)) pa_nil))))))))) (pe_ix (LX.k_ixl (K := K)) (pv 1) pe_int (fun _ _ => rfl)) (fun _ _ => rfl)))
        (pss_cons (ps_set (i := 4) sc_law.nd rfl (.inl rfl) (LX.pe_f O__law_names hr (by decide) (pa_cons (pv 0) (pa_cons pe_int (pa_cons (pe_op op_mod (pe_callTy call_int1 (by rfl) n_int (by decide +kernel) (pa_cons (pe_op op_add (pe_ix (LX.k_ixl (K := K)) (pv 1) pe_int (fun _ _ => rfl)) pe_int) pa_nil)) pe_int) pa_nil)))))
        (pss_cons (ps_setLc (i := 5) (own := [("j", 23)]) (g := gName 23) (tt := tYes) rfl sc_law.nd rfl rfl (sw_true rfl rfl rfl (by decide +kernel)) (pi_range1 (by rfl) n_range (pa_cons (pe_callB (LX.k_len (K := K)) (by rfl) n_len (by decide +kernel) (pa_cons (pv 4) pa_nil)) pa_nil)) (blkOk_by (N := law_N) (sc := defScope s_law) (by decide +kernel)) (fun _ _ _ _ _ => pg_name (i := 23) sc_law.nd rfl (Or.inl rfl)) (fun _ _ _ _ _ => pts_nil) (fun _ _ _ _ _ => (LX.pe_f O__law_given hr (by decide) (pa_cons (LX.pe_f O__law_cell hr (by decide) (pa_cons (pv 0) (pa_cons (pe_op op_add pe_int (pv 23)) pa_nil))) (pa_cons (pv 3) pa_nil)))))
        (pss_cons (ps_set (i := 7) sc_law.nd rfl (.inl rfl) (LX.pe_f O__law_digits hr (by decide) (pa_cons (LX.pe_f O__law_cell hr (by decide) (pa_cons (pv 0) (pa_cons pe_int pa_nil))) (pa_cons (pe_lc (own := [("k", 6)]) (g := gName 6) (tt := tYes) rfl sc_law.nd (pi_range1 (by rfl) n_range (pa_cons pe_int pa_nil)) (blkOk_by (N := law_N) (sc := defScope s_law) (by decide +kernel)) (fun _ _ _ _ _ => pg_name (i := 6) sc_law.nd rfl (Or.inl rfl)) (fun _ _ _ _ _ => pts_nil) (fun _ _ _ _ _ => pe_int)) pa_nil))))
        (pss_cons (ps_set (i := 8) sc_law.nd rfl (.inl rfl) (LX.pe_f O__law_model hr (by decide) (pa_cons (pv 4) (pa_cons (pv 5) pa_nil))))
        (pss_cons (ps_set (i := 9) sc_law.nd rfl (.inl rfl) (pe_i I_World2 hr (by decide) (pa_cons (pv 3) (pa_cons (LX.pe_f O__law_handed hr (by decide) (pa_cons (pv 4) (pa_cons (pv 5) (pa_cons (pv 7) pa_nil)))) pa_nil))))
        (pss_cons (ps_set (i := 10) sc_law.nd rfl (.inr rfl) (LX.pe_f O__law_order hr (by decide) (pa_cons (pv 0) (pa_cons pe_int (pa_cons (pv 3) (pa_cons (pe_ix (LX.k_ixl (K := K)) (pv 1) pe_int (fun _ _ => rfl)) (pa_cons (pe_ix (LX.k_ixl (K := K)) (pv 1) pe_int (fun _ _ => rfl)) (pa_cons (pe_ix (LX.k_ixl (K := K)) (pv 1) pe_int (fun _ _ => rfl)) pa_nil))))))))
        (pss_cons (ps_set (i := 11) sc_law.nd rfl (.inr rfl) (LX.pe_f O__law_order hr (by decide) (pa_cons (pv 0) (pa_cons pe_int (pa_cons (pv 3) (pa_cons (pe_ix (LX.k_ixl (K := K)) (pv 1) pe_int (fun _ _ => rfl)) (pa_cons (pe_ix (LX.k_ixl (K := K)) (pv 1) pe_int (fun _ _ => rfl)) (pa_cons (pe_ix (LX.k_ixl (K := K)) (pv 1) pe_int (fun _ _ => rfl)) pa_nil))))))))
        (pss_cons (ps_set (i := 12) sc_law.nd rfl (.inl rfl) (LX.pe_f O__law_form hr (by decide) (pa_cons (pv 10) (pa_cons (pe_ix (LX.k_ixl (K := K)) (pv 1) pe_int (fun _ _ => rfl)) pa_nil))))
        (pss_cons (ps_set (i := 13) sc_law.nd rfl (.inl rfl) (RX.pe_m M_moved hC hr (by decide) (pv 9) (pa_cons (pv 12) pa_nil)))
        (pss_cons (ps_set (i := 14) sc_law.nd rfl (.inl rfl) (LX.pe_f O__law_image hr (by decide) (pa_cons (pv 8) (pa_cons (pv 10) pa_nil))))
        (pss_cons (ps_if (pw_or (pt_not (pt_val (LX.pe_f O__law_is_world hr (by decide) (pa_cons (pv 13) (pa_cons (pv 3) (pa_cons (pv 14) pa_nil)))))) (pw_or (pt_cmpR (LX.k_neD (K := K) hr.units) (pe_callTy (LX.k_listOf (K := K)) (by rfl) n_list (by decide +kernel) (pa_cons (pv 12) pa_nil)) (pv 10) (nomark _)) (pw_or1 (pt_not (pt_val (LX.pe_f O__law_is_world hr (by decide) (pa_cons (pv 9) (pa_cons (pv 3) (pa_cons (pv 8) pa_nil))))))))).pt (pss_one (ps_ret pe_bl)) pss_nil)
        (pss_cons (ps_if (pt_val (pe_callB (LX.k_isi (K := K)) (by rfl) n_isinstance (by decide +kernel) (pa_cons (pv 12) (pa_cons (pe_bltn (v := .ty "list") (u := .type "list") (by rfl) n_list (by decide +kernel) rfl) pa_nil)))) (pss_cons (ps_asg (pe_ix (LX.k_ixl (K := K)) (pv 10) (pe_op op_sub (pv 3) pe_int) (fun _ _ => rfl)) (pg_sub (pv 12) pe_int set_list))
        (pss_one (ps_asg (pe_ix (LX.k_ixl (K := K)) (pv 10) pe_int (fun _ _ => rfl)) (pg_sub (pv 12) (pe_op op_sub (pv 3) pe_int) set_list)))) pss_nil)
        (pss_cons (ps_for PassesOwn.never rfl (RX.k_pil (K := K) (pe_lst (pa_cons (pe_ix (LX.k_ixl (K := K)) (pv 1) pe_int (fun _ _ => rfl)) (pa_cons (pe_ix (LX.k_ixl (K := K)) (pv 1) pe_int (fun _ _ => rfl)) pa_nil)))) (pg_name (i := 15) sc_law.nd rfl (.inl rfl)) (pss_cons (ps_set (i := 16) sc_law.nd rfl (.inl rfl) (LX.pe_f O__law_spoilt hr (by decide) (pa_cons (pv 10) (pa_cons (pv 15) (pa_cons (pe_ix (LX.k_ixl (K := K)) (pv 1) pe_int (fun _ _ => rfl)) pa_nil)))))
        (pss_one (ps_if (pw_or (pt_not (pt_val (LX.pe_f O__law_refuses hr (by decide) (pa_cons (pv 9) (pa_cons (pe_callTy (LX.k_tupOf (K := K)) (by rfl) n_tuple (by decide +kernel) (pa_cons (pv 16) pa_nil)) pa_nil))))) (pw_or1 (pt_not (pt_val (LX.pe_f O__law_refuses hr (by decide) (pa_cons (pv 13) (pa_cons (pv 16) pa_nil))))))).pt (pss_one (ps_ret pe_bl)) pss_nil))))
        (pss_cons (ps_setLc (i := 17) (own := [("k", 6)]) (g := gName 6) (tt := tYes) rfl sc_law.nd rfl rfl (sw_true rfl rfl rfl (by decide +kernel)) (pi_range1 (by rfl) n_range (pa_cons (pv 3) pa_nil)) (blkOk_by (N := law_N) (sc := defScope s_law) (by decide +kernel)) (fun _ _ _ _ _ => pg_name (i := 6) sc_law.nd rfl (Or.inl rfl)) (fun _ _ _ _ _ => pts_nil) (fun _ _ _ _ _ => pe_int))
        (pss_cons (ps_for PassesOwn.never rfl (pi_range1 (by rfl) n_range (pa_cons (pv 3) pa_nil)) (pg_name (i := 6) sc_law.nd rfl (.inl rfl)) (pss_one (ps_asg (pv 6) (pg_sub (pv 17) (pe_ix (LX.k_ixl (K := K)) (pv 10) (pv 6) (fun _ _ => rfl)) set_list))))
        (pss_cons (ps_set (i := 18) sc_law.nd rfl (.inl rfl) (RX.pe_m M_moved hC hr (by decide) (pv 13) (pa_cons (pe_callTy (LX.k_tupOf (K := K)) (by rfl) n_tuple (by decide +kernel) (pa_cons (pv 17) pa_nil)) pa_nil)))
        (pss_cons (ps_set (i := 19) sc_law.nd rfl (.inl rfl) (RX.pe_m M_moved hC hr (by decide) (pv 13) (pa_cons (pv 11) pa_nil)))
        (pss_cons (ps_set (i := 20) sc_law.nd rfl (.inl rfl) (RX.pe_m M_moved hC hr (by decide) (pv 9) (pa_cons (pe_lc (own := [("k", 6)]) (g := gName 6) (tt := tYes) rfl sc_law.nd (pi_range1 (by rfl) n_range (pa_cons (pv 3) pa_nil)) (blkOk_by (N := law_N) (sc := defScope s_law) (by decide +kernel)) (fun _ _ _ _ _ => pg_name (i := 6) sc_law.nd rfl (Or.inl rfl)) (fun _ _ _ _ _ => pts_nil) (fun _ _ _ _ _ => (pe_ix (LX.k_ixl (K := K)) (pv 11) (pe_ix (LX.k_ixl (K := K)) (pv 10) (pv 6) (fun _ _ => rfl)) (fun _ _ => rfl)))) pa_nil)))
        (pss_cons (ps_if (pw_or (pt_not (pt_val (LX.pe_f O__law_is_world hr (by decide) (pa_cons (pv 18) (pa_cons (pv 3) (pa_cons (pv 8) pa_nil)))))) (pw_or1 (pt_not (pt_val (LX.pe_f O__law_is_world hr (by decide) (pa_cons (pv 19) (pa_cons (pv 3) (pa_cons (LX.pe_f O__law_image hr (by decide) (pa_cons (pv 14) (pa_cons (pv 11) pa_nil))) pa_nil)))))))).pt (pss_one (ps_ret pe_bl)) pss_nil)
        (pss_cons (ps_if (pw_or (pt_not (pt_val (LX.pe_f O__law_is_truth hr (by decide) (pa_cons (pe_cmpR (RX.op_eqO M___eq__ hr (by decide) hr.units0) (pv 18) (pv 9) (nomark _)) (pa_cons pe_bl pa_nil))))) (pw_or1 (pt_not (pt_val (LX.pe_f O__law_is_truth hr (by decide) (pa_cons (pe_cmpR (RX.op_eqO M___eq__ hr (by decide) hr.units0) (pv 19) (pv 20) (nomark _)) (pa_cons pe_bl pa_nil))))))).pt (pss_one (ps_ret pe_bl)) pss_nil)
        (pss_cons (ps_if (pw_or (pt_not (pt_val (LX.pe_f O__law_is_truth hr (by decide) (pa_cons (pe_cmpR (RX.op_eqO M___eq__ hr (by decide) hr.units0) (pv 13) (pv 9) (nomark _)) (pa_cons (pe_cmpR (RX.op_eqKd (K := K) hr.units) (pv 14) (pv 8) (nomark _)) pa_nil))))) (pw_or1 (pt_not (pt_val (LX.pe_f O__law_is_truth hr (by decide) (pa_cons (pe_cmpR (RX.op_eqO M___eq__ hr (by decide) hr.units0) (RX.pe_m M_moved hC hr (by decide) (pv 9) (pa_cons (pe_listRg rfl (by rfl) n_list (prg_1 (by rfl) n_range (pv 3))) pa_nil)) (pv 9) (nomark _)) (pa_cons pe_bl pa_nil))))))).pt (pss_one (ps_ret pe_bl)) pss_nil)
        (pss_cons (ps_if (pt_cmpR op_gt (pe_callB (LX.k_len (K := K)) (by rfl) n_len (by decide +kernel) (pa_cons (pv 4) pa_nil)) pe_int (nomark _)) (pss_cons (ps_set (i := 21) sc_law.nd rfl (.inl rfl) (pe_ix (LX.k_ixl (K := K)) (pv 4) (pe_op op_mod (pe_callTy call_int1 (by rfl) n_int (by decide +kernel) (pa_cons (pe_ix (LX.k_ixl (K := K)) (pv 1) pe_int (fun _ _ => rfl)) pa_nil)) (pe_callB (LX.k_len (K := K)) (by rfl) n_len (by decide +kernel) (pa_cons (pv 4) pa_nil))) (fun _ _ => rfl)))
        (pss_cons (ps_set (i := 22) sc_law.nd rfl (.inl rfl) (pe_callTy (LX.k_tupOf (K := K)) (by rfl) n_tuple (by decide +kernel) (pa_cons (pe_lc (own := [("i", 24)]) (g := gName 24) (tt := tYes) rfl sc_law.nd (pi_range1 (by rfl) n_range (pa_cons (pe_ix (LX.k_ixl (K := K)) (pe_dget (LX.u1 hr) (pv 8) (pv 21) (fun _ _ => rfl)) pe_int (fun _ _ => rfl)) pa_nil)) (blkOk_by (N := law_N) (sc := defScope s_law) (by decide +kernel)) (fun _ _ _ _ _ => pg_name (i := 24) sc_law.nd rfl (Or.inl rfl)) (fun _ _ _ _ _ => pts_nil) (fun _ _ _ _ _ => (pe_op op_mod (pe_callTy call_int1 (by rfl) n_int (by decide +kernel) (pa_cons (pe_op op_add (pe_ix (LX.k_ixl (K := K)) (pv 1) pe_int (fun _ _ => rfl)) (pe_op op_mul (pe_op op_add (pe_ix (LX.k_ixl (K := K)) (pv 1) pe_int (fun _ _ => rfl)) pe_int) (pv 24))) pa_nil)) (pv 3)))) pa_nil)))
        (pss_one (ps_if (pt_not (pt_val (LX.pe_f O__law_goes_on hr (by decide) (pa_cons (pv 9) (pa_cons (pv 13) (pa_cons (pv 3) (pa_cons (pv 8) (pa_cons (pv 14) (pa_cons (pv 21) (pa_cons (pv 22) pa_nil)))))))))) (pss_one (ps_ret pe_bl)) pss_nil)))) pss_nil)
        (pss_cons (ps_if (pw_or (pt_not (pt_val (LX.pe_f O__law_is_world hr (by decide) (pa_cons (pv 13) (pa_cons (pv 3) (pa_cons (pv 14) pa_nil)))))) (pw_or1 (pt_not (pt_val (LX.pe_f O__law_is_world hr (by decide) (pa_cons (RX.pe_m M_moved hC hr (by decide) (pv 9) (pa_cons (pv 10) pa_nil)) (pa_cons (pv 3) (pa_cons (pv 14) pa_nil)))))))).pt (pss_one (ps_ret pe_bl)) pss_nil)
        (pss_cons (ps_if (pw_or (pt_not (pt_val (LX.pe_f O__law_is_world hr (by decide) (pa_cons (pv 9) (pa_cons (pv 3) (pa_cons (pv 8) pa_nil)))))) (pw_or (pt_not (pt_val (LX.pe_f O__law_is_gone_over hr (by decide) (pa_cons (pv 13) (pa_cons (pv 14) pa_nil))))) (pw_or1 (pt_not (pt_val (LX.pe_f O__law_is_gone_over hr (by decide) (pa_cons (pv 9) (pa_cons (pv 8) pa_nil)))))))).pt (pss_one (ps_ret pe_bl)) pss_nil)
        (pss_one (ps_ret (LX.pe_f O__law_facts_meet hr (by decide) (pa_cons (pv 9) (pa_cons (pv 13) (pa_cons (pv 8) (pa_cons (pv 10) pa_nil)))))))))))))))))))))))))))))))))), ?_⟩
  have cell : ∀ {σ : L2.St} {B' : Hp} {te : TE} {k : Int}, Ex H B' → σ[0]? = some (some (V.ref a)) → Ev te σ B' (.int k) → 0 ≤ k → k < 1000 → Ev (tCall (spV (dCell K)) [] E0 (tCons (tVar 0) (tCons te tNil))) σ B' (.int (cellOf sc k)) := fun e h hk h0 h1 => ev_cell (ev_var h) (ex_l e hS) hk h0 (by omega) (by omega)
  -- shape
  refine x_asgL (X := H) (B := H) (xs := (digitsOf (cellOf sc 0) SZ5).map V.int) (el_digits (cell (Ex.refl _) rfl ev_c (by decide) (by decide)) (el_lst (ea_cons ev_c (ea_cons ev_c (ea_cons ev_c (ea_cons ev_c (ea_cons ev_c (ea_cons ev_c (ea_cons ev_c (ea_cons ev_c (ea_cons ev_c (ea_cons ev_c (ea_cons ev_c (ea_cons ev_c (ea_cons ev_c ea_nil))))))))))))) (show (13 : Nat) ≤ 100000 by decide)) SZ5_ok (by decide)) (fun p1 h1B h1H => ?_) H (Ex.refl H) (Ex.refl H)
  have hb1 : ∀ i s, SZ5[i]? = some s → 0 ≤ (digitsOf (cellOf sc 0) SZ5).getD i 0 ∧ (digitsOf (cellOf sc 0) SZ5).getD i 0 < s := fun i s h => dg_bd (fun s hs => (SZ5_ok s hs).1) h
  have hl1 : (digitsOf (cellOf sc 0) SZ5).length = 13 := digits_len _ SZ5
  have d0 := hb1 0 8 rfl
  have d1 := hb1 1 399 rfl
  have d2 := hb1 2 13 rfl
  have d3 := hb1 3 6 rfl
  have d4 := hb1 4 400 rfl
  have d5 := hb1 5 400 rfl
  have d6 := hb1 6 6 rfl
  have d7 := hb1 7 400 rfl
  have d8 := hb1 8 400 rfl
  have d9 := hb1 9 5 rfl
  have d10 := hb1 10 160000 rfl
  have d12 := hb1 12 5 rfl
  clear hb1
  generalize digitsOf (cellOf sc 0) SZ5 = ds at d0 d1 d2 d3 d4 d5 d6 d7 d8 d9 d10 d12 hl1
  have e1 : Ex H (upd H p1 (.lst (ds.map V.int))) := Ex.new h1B
  have hp1 : (upd H p1 (.lst (ds.map V.int))) p1 = some (.lst (ds.map V.int)) := upd_same
  have g1 : Gr H H (upd H p1 (.lst (ds.map V.int))) := gr_new h1B h1H
  generalize upd H p1 (.lst (ds.map V.int)) = B1 at e1 hp1 g1
  -- wide, big
  refine x_asgV (v := .int (ds.getD 1 0)) (ev_dg (k := 1) (ev_var rfl) (sq_of hp1) ev_c (by omega)) ?_
  generalize hwide : ds.getD 1 0 = wide at d1
  obtain ⟨n, hn2, hn4, hat⟩ : ∃ b : Nat, 2 ≤ b ∧ b ≤ 400 ∧ atI [V.int (2 + wide % 14), .int 3, .int 2, .int (2 + wide % 5), .int (10 + wide % 40), .int (2 + wide), .int (2 + wide), .int (400 - wide % 3)] (ds.getD 0 0) = some (.int (b : Int)) := by
    generalize ds.getD 0 0 = kind at d0
    have fin : ∀ (v : Int) (j : Nat), [V.int (2 + wide % 14), .int 3, .int 2, .int (2 + wide % 5), .int (10 + wide % 40), .int (2 + wide), .int (2 + wide), .int (400 - wide % 3)][j]? = some (.int v) → 2 ≤ v → v ≤ 400 → kind = (j : Int) → ∃ b : Nat, 2 ≤ b ∧ b ≤ 400 ∧ atI [V.int (2 + wide % 14), .int 3, .int 2, .int (2 + wide % 5), .int (10 + wide % 40), .int (2 + wide), .int (2 + wide), .int (400 - wide % 3)] kind = some (.int (b : Int)) := fun v j h1 h2 h3 h4 => by
      refine ⟨v.toNat, by omega, by omega, ?_⟩
      rw [show ((v.toNat : Nat) : Int) = v by omega, h4]
      exact Kx.atI_get h1
    have hc : kind = 0 ∨ kind = 1 ∨ kind = 2 ∨ kind = 3 ∨ kind = 4 ∨ kind = 5 ∨ kind = 6 ∨ kind = 7 := by omega
    rcases hc with c | c | c | c | c | c | c | c
    · exact fin _ 0 rfl (by omega) (by omega) c
    · exact fin _ 1 rfl (by omega) (by omega) c
    · exact fin _ 2 rfl (by omega) (by omega) c
    · exact fin _ 3 rfl (by omega) (by omega) c
    · exact fin _ 4 rfl (by omega) (by omega) c
    · exact fin _ 5 rfl (by omega) (by omega) c
    · exact fin _ 6 rfl (by omega) (by omega) c
    · exact fin _ 7 rfl (by omega) (by omega) c
  have im : ∀ {σ : L2.St} {m : Int}, 0 < m → σ[2]? = some (some (V.int wide)) → Ev (tOp (rI (fun _ j => 0 < j) fun i j => .int (i % j)) (tCB (fun xs H Q => (∃ i, xs = [.int i] ∧ Q (.int i) H) ∨ ∃ k, xs = [.bl k] ∧ Q (.int (if k then 1 else 0)) H) (tCons (tVar 2) tNil)) (tC (.int m))) σ B1 (.int (wide % m)) := fun {σ m} hm h => ev_op (ev_int (ev_var h)) ev_c (rv_mod hm)
  refine x_asgV (v := .int (n : Int)) (ev_opL1 (el_lst (ea_cons (ev_op ev_c (im (by decide) rfl) rv_I0) (ea_cons ev_c (ea_cons ev_c (ea_cons (ev_op ev_c (im (by decide) rfl) rv_I0) (ea_cons (ev_op ev_c (im (by decide) rfl) rv_I0) (ea_cons (ev_op ev_c (ev_var rfl) rv_I0) (ea_cons (ev_op ev_c (ev_var rfl) rv_I0) (ea_cons (ev_op ev_c (im (by decide) rfl) rv_I0) ea_nil)))))))) (show (8 : Nat) ≤ 100000 by decide)) (fun H1 e1' => ev_dg (k := 0) (ev_var rfl) (ex_l e1' (sq_of hp1)) ev_c (by omega)) (fun p H1 hp _ => rv_ixL (sq_of hp) hat)) ?_
  clear hat im
  have hb2 : 2 ≤ (n : Int) := by omega
  have hb4 : (n : Int) ≤ 400 := by omega
  show Sx H _ _ [some (V.ref a), some (.ref p1), some (.int wide), some (.int (n : Int)), none, none, none, none, none, none, none, none, none, none, none, none, none, none, none, none, none, none, none, none, none] _
  -- names
  refine x_asg (er_callB (Dd := dNames K) (Pz := IsNames ((ds.getD 2 0 + 6) % 13).toNat) (ea_cons (ev_var rfl) (ea_cons ev_c (ea_cons (ev_op (ev_int (ev_op (ev_dg (k := 2) (ev_var rfl) (sq_of hp1) ev_c (by omega)) ev_c rv_I0)) ev_c (rv_mod (by decide))) ea_nil))) ⟨a, sc, 1, _, rfl, ex_l e1 hS, by omega, by decide, by decide, by omega, by omega, rfl⟩) fun z B3 g3 ⟨pn, ns, hz, hpn, hnl, hnd, hnm⟩ => ?_
  subst hz
  have e3 := e1.trans g3.ex
  have h12 : ns.length ≤ 12 := by omega
  have hnok : ∀ s ∈ ns, nameOkS s = true ∧ PySem.PyData.strOk s = true := fun s hs => ⟨nam_ok (hnm s hs).1 (hnm s hs).2, nam_ok2 (hnm s hs).1⟩
  have hp1 := g3.ex _ _ hp1
  clear hnl
  show Sx H _ _ [some (V.ref a), some (.ref p1), some (.int wide), some (.int (n : Int)), some (.ref pn), none, none, none, none, none, none, none, none, none, none, none, none, none, none, none, none, none, none, none, none] _
  -- tables
  refine x_asg (P := IsGivens K (n : Int) ns.length) (EvR.imp (er_lc0 (Pe := fun _ => GivenAt K (n : Int)) (xs := rngV 0 ns.length) (fun _ => inferInstance) (ei_rng1 (n := (ns.length : Int)) (ea_cons (ev_is (ev_len (ev_var rfl) (sq_of hpn)) (by rw [List.length_map])) ea_nil) (by omega)) (by rw [rngV_len]; omega) (fun _ => rfl) (fun k x B' e1 hx => ?_)) fun z B' _ ⟨p, ts, h1, h2, h3, h4⟩ => ?_) fun z B4 g4 hz => ?_
  · obtain ⟨rfl, hk⟩ := rng_get hx
    exact er_callB (Dd := dGiven K) (Pz := GivenAt K (n : Int)) (ea_cons (cell (e3.trans e1) rfl (ev_op ev_c (ev_var rfl) rv_I0) (by omega) (by omega)) (ea_cons (ev_var rfl) ea_nil)) ⟨_, (n : Int), rfl, hb2, hb4, rfl⟩
  · obtain ⟨gs, q1, q2⟩ := given_all2 (K := K) (big := (n : Int)) (B := B') (ys := ts) (fun y hy => by
      obtain ⟨k, hk, rfl⟩ := List.mem_iff_getElem.mp hy
      exact h4 k _ (List.getElem?_eq_getElem hk))
    exact ⟨p, ts, gs, h1, h2, q1, by rw [← q1.1, h3, rngV_len], q2⟩
  obtain ⟨pt, ts, gs, rfl, hpt, hG, hgl, hok⟩ := hz
  have e4 := e3.trans g4.ex
  -- flags
  refine x_asgL (xs := (digitsOf (cellOf sc 26) (List.replicate 32 2)).map V.int) (el_digits (cell e4 rfl ev_c (by decide) (by decide)) (el_eq (el_lcR1 (n := 32) (fun _ => true) (fun _ => .int 2) (ea_cons ev_c ea_nil) (by decide) (fun _ => rfl) (fun _ _ _ _ => et_yes) (fun i H1 e hi _ => ev_c)) (by rw [given_all]; rfl)) (fun s hs => by rw [(List.mem_replicate.mp hs).2]; decide) (by rw [List.length_replicate]; decide)) fun pf hfB hfH => ?_
  have hfl : (digitsOf (cellOf sc 26) (List.replicate 32 2)).length = 32 := by rw [digits_len, List.length_replicate]
  generalize digitsOf (cellOf sc 26) (List.replicate 32 2) = fl at hfl
  have e5' : Ex B4 (upd B4 pf (.lst (fl.map V.int))) := Ex.new hfB
  have hpf : (upd B4 pf (.lst (fl.map V.int))) pf = some (.lst (fl.map V.int)) := upd_same
  have g5 : Gr H B4 (upd B4 pf (.lst (fl.map V.int))) := gr_new hfB hfH
  generalize upd B4 pf (.lst (fl.map V.int)) = B5 at e5' hpf g5
  have hpn := e5' _ _ (g4.ex _ _ hpn)
  have hpt := e5' _ _ hpt
  have hG : A2 (GivenR K) gs ts B5 := A2.mono (fun _ => inferInstance) e5' hG
  have hp1 := e5' _ _ (g4.ex _ _ hp1)
  have gA : Gr H H B5 := ((g1.trans g3).trans g4).trans g5
  show Sx H _ _ [some (V.ref a), some (.ref p1), some (.int wide), some (.int (n : Int)), some (.ref pn), some (.ref pt), none, some (.ref pf), none, none, none, none, none, none, none, none, none, none, none, none, none, none, none, none, none] _
  -- model
  obtain ⟨hinv0, hrl0⟩ := relsG_inv (big := (n : Int)) hgl hnd h12 hnok hok hb2 hb4
  refine x_asg (er_callB (Dd := dModel K) (Pz := ModelAt K (relsG (n : Int) ns gs)) (ea_cons (ev_var rfl) (ea_cons (ev_var rfl) ea_nil)) ⟨(n : Int), pn, pt, ns, gs, ts, rfl, hpn, hnd, h12, hpt, hG, hgl, hok, rfl⟩) fun z B6 g6 ⟨m0, kvs, hz, hm0, hT0⟩ => ?_
  subst hz
  -- world
  obtain ⟨hro, hre⟩ := handed_ok (big := (n : Int)) (fl := fl) hgl (fun s hs => (hnok s hs).1) hnd h12 hok
  have e6 := g6.ex
  refine x_asg (EvR.imp (er_make (C := wC K) (P := P) (w := w) (d := handedDt fl ns gs) (EvAR.imp (ear inferInstance (eR_v (v := .int (n : Int)) (ev_var rfl)) (ear (P := IsDp K (handedDt fl ns gs)) inferInstance (EvR.imp (er_callB (Dd := dHanded K) (ea_cons (ev_var rfl) (ea_cons (ev_var rfl) (ea_cons (ev_var rfl) ea_nil))) ⟨(n : Int), pn, pt, pf, ns, gs, ts, fl, rfl, e6 _ _ hpn, h12, e6 _ _ hpt, A2.mono (fun _ => inferInstance) e6 hG, hgl, hok, sq_of (e6 _ _ hpf), hfl, rfl⟩) fun z B' _ ⟨hd, hz, hdp, _⟩ => hdp) ear_nil)) fun vs B' _ ⟨z1, r1, h1, h2, z2, r2, h3, h4, h5⟩ => ⟨z2, by
    have h2 : z1 = .int (n : Int) := h2
    rw [h1, h3, h5, h2]; rfl, h4⟩) formD_seq hro hb2 hb4) (P' := WorldQ K P w (wC K) (n : Int) (relsG (n : Int) ns gs)) fun z B' _ ⟨x1, hz, hW⟩ => ⟨x1, hz, _, List.Perm.refl _, by rw [← hre]; exact hW⟩) fun z B7 g7 ⟨x, hz, hWx⟩ => ?_
  subst hz
  have hfam0 : Fam (n : Int) ns (fun m => arIn (relsG (n : Int) ns gs) m) (relsG (n : Int) ns gs) := ⟨hinv0, relsG_names hgl, fun m => rfl⟩
  generalize relsG (n : Int) ns gs = rels at hfam0 hrl0 hWx hT0 hinv0
  have har0 : ∀ m, arIn rels m = (fun m => arIn rels m) m := fun m => rfl
  generalize (fun m => arIn rels m) = ar0 at hfam0 har0
  have hall : ∀ r ∈ rels, r.rows.length < 63 := fun r hr => by have := hrl0 r hr; omega
  have gB : Gr H H B7 := (gA.trans g6).trans g7
  have hm0 := g7.ex _ _ hm0
  have hT0 := hT0.mono g7.ex
  have hp1 := (g6.ex.trans g7.ex) _ _ hp1
  have hpn := (g6.ex.trans g7.ex) _ _ hpn
  clear g3 g4 g5 e5' g6 g7 hpt hG e3 e4 e6 gA hpf hro hre hok hgl g1 e1
  show Sx H _ _ [some (V.ref a), some (.ref p1), some (.int wide), some (.int (n : Int)), some (.ref pn), some (.ref pt), none, some (.ref pf), some (.ref m0), some (.ref x), none, none, none, none, none, none, none, none, none, none, none, none, none, none, none] _
  -- orders
  refine x_asg (er_callB (Dd := dOrder K) (Pz := OrdP (n : Int)) (ea_cons (ev_var rfl) (ea_cons ev_c (ea_cons (ev_var rfl) (ea_cons (ev_dg (k := 3) (ev_var rfl) (sq_of hp1) ev_c (by omega)) (ea_cons (ev_dg (k := 4) (ev_var rfl) (sq_of hp1) ev_c (by omega)) (ea_cons (ev_dg (k := 5) (ev_var rfl) (sq_of hp1) ev_c (by omega)) ea_nil)))))) ⟨a, sc, 27, (n : Int), _, _, _, rfl, ex_l gB.ex hS, by omega, by decide, by decide, hb2, hb4, by omega, by omega, rfl⟩) fun z B8 g8 ⟨po, os, hz, hpo, hos⟩ => ?_
  subst hz
  have hp1 := g8.ex _ _ hp1
  refine x_asg (er_callB (Dd := dOrder K) (Pz := OrdP (n : Int)) (ea_cons (ev_var rfl) (ea_cons ev_c (ea_cons (ev_var rfl) (ea_cons (ev_dg (k := 6) (ev_var rfl) (sq_of hp1) ev_c (by omega)) (ea_cons (ev_dg (k := 7) (ev_var rfl) (sq_of hp1) ev_c (by omega)) (ea_cons (ev_dg (k := 8) (ev_var rfl) (sq_of hp1) ev_c (by omega)) ea_nil)))))) ⟨a, sc, 34, (n : Int), _, _, _, rfl, ex_l (gB.ex.trans g8.ex) hS, by omega, by decide, by decide, hb2, hb4, by omega, by omega, rfl⟩) fun z B9 g9 ⟨pth, th, hz, hpth, hth⟩ => ?_
  subst hz
  have e89 := g8.ex.trans g9.ex
  have hp1 := g9.ex _ _ hp1
  have hpn := e89 _ _ hpn
  have hm0 := e89 _ _ hm0
  have hT0 := hT0.mono e89
  have hWx := hWx.mono e89
  have hpo := g9.ex _ _ hpo
  have gC : Gr H H B9 := (gB.trans g8).trans g9
  clear gB g8 g9 e89
  show Sx H _ _ [some (V.ref a), some (.ref p1), some (.int wide), some (.int (n : Int)), some (.ref pn), some (.ref pt), none, some (.ref pf), some (.ref m0), some (.ref x), some (.ref po), some (.ref pth), none, none, none, none, none, none, none, none, none, none, none, none, none] _
  -- handed
  refine x_asg (er_callB (Dd := dForm K) (Pz := fun z B' => ∃ p, z = .ref p ∧ if ds.getD 11 0 = 1 then (B' p = some (.lst (os.map V.int)) ∧ B9 p = none) else SqT K B' p (os.map V.int)) (ea_cons (ev_var rfl) (ea_cons (ev_dg (k := 11) (ev_var rfl) (sq_of hp1) ev_c (by omega)) ea_nil)) ⟨po, _, os.map V.int, rfl, .inl (sq_of hpo), rfl⟩) fun z B10 g10 hz => ?_
  obtain ⟨ph, rfl, hph⟩ := hz
  generalize ds.getD 11 0 = flag at hph
  have hsa : SqA K B10 ph (os.map V.int) := by
    split at hph
    · exact .inl (sq_of hph.1)
    · exact .inr hph
  have hdp : Dp K B10 (.ref ph) (formD flag (os.map PyData.int)) := by
    unfold formD
    split at hph
    · rename_i c
      rw [if_pos c]
      exact .lst (sq_of hph.1) (dp_ints os)
    · rename_i c
      rw [if_neg c]
      exact .tup hph (dp_ints os)
  have hphH : flag = 1 → H ph = none := fun c => by
    rw [if_pos c] at hph
    cases q2 : H ph with
    | none => rfl
    | some o =>
      have := gC.ex _ _ q2
      rw [hph.2] at this
      exact nomatch this
  -- other
  refine x_asg (er_moved (ev_var rfl) (eR_v (ev_var rfl)) (fun z B' e h => by
    have h : z = .ref ph := h
    subst h
    exact dp_ex e hdp) formD_seq hos (hWx.mono g10.ex) hinv0 hall) fun z B11 g11 ⟨y, hz, hWy⟩ => ?_
  subst hz
  have e911 := g10.ex.trans g11.ex
  obtain ⟨B0, hB0, hB9, hWy0, hno⟩ : ∃ B0, Ex B0 B11 ∧ Ex B9 B0 ∧ WorldP K P w (wC K) (n : Int) (imgR (n : Int) os rels) y B0 ∧ (flag = 1 → B0 ph = none ∧ B11 ph = some (.lst (os.map V.int))) := by
    by_cases c : flag = 1
    · rw [if_pos c] at hph
      have h11 := g11.ex _ _ hph.1
      refine ⟨RX.del B11 ph, del_ex, fun a' o ha' => ?_, hWy.del h11, fun _ => ⟨RX.del_same, h11⟩⟩
      have c2 : a' ≠ ph := fun c => by rw [c, hph.2] at ha'; exact nomatch ha'
      rw [RX.del_ne c2]
      exact e911 _ _ ha'
    · exact ⟨B11, Ex.refl _, e911, hWy, fun h => absurd h c⟩
  -- due
  refine x_callS (B0 := B0) hB0 (ea_cons (ev_var rfl) (ea_cons (ev_var rfl) ea_nil)) (Dd := dImage K) (Pz := ModelAt K (imgR (n : Int) os rels)) ⟨m0, po, (n : Int), rels, kvs, os, rfl, hB9 _ _ hm0, hT0.mono hB9, hinv0, sq_of (hB9 _ _ hpo), hos, hall, rfl⟩ fun z B4 g4 av4 ⟨pd, kvd, hz, hpd, hTd⟩ => ?_
  subst hz
  have e94 := hB9.trans g4.ex
  have hm0 := e94 _ _ hm0
  have hT0 := hT0.mono e94
  have hpo := e94 _ _ hpo
  have hpth := e94 _ _ hpth
  have hp1 := e94 _ _ hp1
  have hpn := e94 _ _ hpn
  have hWx := hWx.mono e94
  have hWy := hWy0.mono g4.ex
  have eM : Ex B4 (mrg B4 B11) := mrg_l
  have e11M : Ex B11 (mrg B4 B11) := fun a' o ha' => by
    cases c : B4 a' with
    | none => rw [mrg_none c]; exact ha'
    | some u =>
      rw [mrg_some c]
      cases c2 : B0 a' with
      | some v =>
        rw [hB0 _ _ c2] at ha'
        rw [g4.ex _ _ c2] at c
        rw [← c, ha']
      | none =>
        have := av4 a' c2 (by rw [ha']; exact Option.some_ne_none _)
        rw [this] at c
        exact nomatch c
  have hsaM := ex_a (g11.ex.trans e11M) hsa
  have hnoM : flag = 1 → B4 ph = none ∧ (mrg B4 B11) ph = some (.lst (os.map V.int)) := fun c => by
    obtain ⟨h1, h2⟩ := hno c
    exact ⟨av4 ph h1 (by rw [h2]; exact Option.some_ne_none _), e11M _ _ h2⟩
  have hphM : flag ≠ 1 → SqT K (mrg B4 B11) ph (os.map V.int) := fun c => by
    rw [if_neg c] at hph
    exact ex_t (g11.ex.trans e11M) hph
  have eHM : Ex H (mrg B4 B11) := (gC.ex.trans e911).trans e11M
  obtain ⟨hfamI, hrlI⟩ := imgR_fam hos hfam0 hrl0
  have hrl63 : ∀ r ∈ rels, r.rows.length ≤ 63 := fun r hr => by have := hrl0 r hr; omega
  have hrI63 : ∀ r ∈ imgR (n : Int) os rels, r.rows.length ≤ 63 := fun r hr => by have := hrlI r hr; omega
  have hallI : ∀ r ∈ imgR (n : Int) os rels, r.rows.length < 63 := fun r hr => by have := hrlI r hr; omega
  generalize mrg B4 B11 = BM at eM e11M hsaM hnoM hphM eHM
  clear hno hph hB0 hB9 hWy0 e94 e911 hdp hsa av4 g11 g10 e11M
  show Sx H _ _ [some (V.ref a), some (.ref p1), some (.int wide), some (.int (n : Int)), some (.ref pn), some (.ref pt), none, some (.ref pf), some (.ref m0), some (.ref x), some (.ref po), some (.ref pth), some (.ref ph), some (.ref y), some (.ref pd), none, none, none, none, none, none, none, none, none, none] _
  refine x_when (b := false) (et_is (et_or (a := false) (b := false) (et_not (a := true) (et_B (ev_lworldP (ev_var rfl) (ev_var rfl) (ev_var rfl) (eM _ _ hpd) (hTd.mono eM) (hWy.mono eM) hfamI.inv hrI63))) (fun _ => et_is (et_or (a := false) (b := false) (et_test (Kx.ev_opR (er_list (Py := fun ys _ => ys = os.map V.int) inferInstance (rVp (ev_var rfl) ⟨ph, _, rfl, hsaM, rfl⟩)) (ev_var rfl) fun z B' e ⟨p, ys, h1, h2, h3, h4⟩ => by
    subst h1 h4
    exact rv_neL (sq_of h2) (sq_of (e _ _ (eM _ _ hpo))))) (fun _ => et_not (a := true) (et_B (ev_lworldP (ev_var rfl) (ev_var rfl) (ev_var rfl) (eM _ _ hm0) (hT0.mono eM) (hWx.mono eM) hinv0 hrl63)))) rfl)) rfl) (fun h => nomatch h) (fun _ => ?_)
  -- the list that was handed in is changed
  have hol := hos.len
  have oix : ∀ {σ : L2.St} {B' : Hp} {te : TE} {k : Nat}, Ex B4 B' → σ[10]? = some (some (V.ref po)) → Ev te σ B' (.int (k : Int)) → k < n → Ev (tOp (rIxL K) (tVar 10) te) σ B' (.int (os.getD k 0)) := fun {σ B' te k} e h10 hte hk => ev_op (ev_var h10) hte (rv_ixL (sq_of (e _ _ hpo)) (by
    have := atI_int (ns := os) (k := (k : Int)) (by omega) (by omega)
    rw [Int.toNat_natCast] at this
    exact this))
  refine x_whenG (b := decide (flag = 1)) (P0 := fun σ' B' => Ex B4 B' ∧ σ' = [some (V.ref a), some (.ref p1), some (.int wide), some (.int (n : Int)), some (.ref pn), some (.ref pt), none, some (.ref pf), some (.ref m0), some (.ref x), some (.ref po), some (.ref pth), some (.ref ph), some (.ref y), some (.ref pd), none, none, none, none, none, none, none, none, none, none]) ?_ (fun hb => ?_) (fun hb => ⟨eM, rfl⟩) fun σ' B' ⟨eB, hσ⟩ => ?_
  · by_cases c : flag = 1
    · rw [decide_eq_true c]
      exact et_B (ev_isL (ev_var rfl) (hnoM c).2)
    · rw [decide_eq_false c]
      exact et_B (ev_isLt (ev_var rfl) (hphM c))
  · have c : flag = 1 := of_decide_eq_true hb
    obtain ⟨h1, h2⟩ := hnoM c
    intro D tz k
    refine x_assoc (x_setL (l := ph) (k := ((0 : Nat) : Int)) (j := 0) (v := .int (os.getD (n - 1) 0)) h2 (hphH c) (oix eM rfl (ev_is (ev_op (ev_var rfl) ev_c rv_I0) (congrArg V.int (by omega))) (by omega)) (ev_var rfl) ev_c (by rw [List.length_map]; unfold ixN; rw [if_pos (by omega), if_pos (by omega)]; rfl) ?_)
    have e2 : Ex B4 (upd BM ph (.lst ((os.map V.int).set 0 (.int (os.getD (n - 1) 0))))) := fun a' o ha' => by
      have c2 : a' ≠ ph := fun c => by rw [c, h1] at ha'; exact nomatch ha'
      rw [upd_ne c2]
      exact eM _ _ ha'
    refine x_setL (l := ph) (k := (((n - 1 : Nat) : Nat) : Int)) (j := n - 1) (v := .int (os.getD 0 0)) upd_same (hphH c) (oix (k := 0) e2 rfl ev_c (by omega)) (ev_var rfl) (ev_is (ev_op (ev_var rfl) ev_c rv_I0) (congrArg V.int (by omega))) (by rw [List.length_set, List.length_map]; unfold ixN; rw [if_pos (by omega), if_pos (by omega)]; simp) (k _ _ ⟨fun a' o ha' => ?_, rfl⟩)
    have c2 : a' ≠ ph := fun c => by rw [c, h1] at ha'; exact nomatch ha'
    rw [upd_ne c2]
    exact e2 _ _ ha'
  subst hσ
  refine Sx.mono eB ?_
  clear eB eM hsaM hnoM hphM eHM hphH
  -- spoilt orders
  refine x_for (F := B4) (Ex.refl _) (ei_listR (Pxs := fun ys _ => ys = [V.int (ds.getD 9 0), .int (ds.getD 12 0)]) (EvR.imp (rL (el_lst (ea_cons (ev_dg (k := 9) (ev_var rfl) (sq_of hp1) ev_c (by omega)) (ea_cons (ev_dg (k := 12) (ev_var rfl) (sq_of hp1) ev_c (by omega)) ea_nil)) (show (2 : Nat) ≤ 100000 by decide))) fun z B' _ ⟨p, h1, h2⟩ => ⟨p, _, h1, sq_of h2, rfl⟩)) (fun F' ys i σ' B' => Ex F' B' ∧ ∃ y15 y16 : Option V, σ' = [some (V.ref a), some (.ref p1), some (.int wide), some (.int (n : Int)), some (.ref pn), some (.ref pt), none, some (.ref pf), some (.ref m0), some (.ref x), some (.ref po), some (.ref pth), some (.ref ph), some (.ref y), some (.ref pd), y15, y16, none, none, none, none, none, none, none, none]) (fun F' ys g hy av => ⟨by rw [NM.mrg_self g.ex]; exact Ex.refl _, none, none, rfl⟩) (fun F' ys i σ' B' h => h.1) (fun F' ys i xx σ' B' g hy hxi h => ?_) (fun F' ys σ' B' g hy h => ?_)
  · obtain ⟨eB, y15, y16, rfl⟩ := h
    have e4 := g.ex.trans eB
    obtain ⟨kk, rfl, hk0, hk5⟩ : ∃ kk : Int, xx = .int kk ∧ 0 ≤ kk ∧ kk < 5 := by
      rw [hy] at hxi
      match i, hxi with
      | 0, h => exact ⟨_, (Option.some.inj h).symm, d9.1, d9.2⟩
      | 1, h => exact ⟨_, (Option.some.inj h).symm, d12.1, d12.2⟩
      | k + 2, h => exact nomatch h
    refine x_asg (er_callB (Dd := dSpoilt K) (Pz := fun z B' => ∃ p ms, z = .ref p ∧ B' p = some (.lst (ms.map V.int)) ∧ BadOrd (n : Int) ms) (ea_cons (ev_var rfl) (ea_cons (ev_var rfl) (ea_cons (ev_dg (k := 10) (ev_var rfl) (sq_of (e4 _ _ hp1)) ev_c (by omega)) ea_nil))) ⟨po, (n : Int), kk, _, os, rfl, sq_of (e4 _ _ hpo), hos, hb2, hb4, hk0, hk5, d10.1, rfl⟩) fun z B5 g5 ⟨ps, ms, hz, hps, hbad⟩ => ?_
    subst hz
    have e5 := e4.trans g5.ex
    have bd1 : rowD (.tuple (ms.map PyData.int)) (n : Int) (n : Int) = false ∨ ∃ os : List Int, seqD (.tuple (ms.map PyData.int)) = some (os.map PyData.int) ∧ rowD (.tuple (ms.map PyData.int)) (n : Int) (n : Int) = true ∧ ¬ os.Nodup := hbad.imp id fun h => ⟨ms, rfl, h.1, h.2⟩
    have bd2 : rowD (.list (ms.map PyData.int)) (n : Int) (n : Int) = false ∨ ∃ os : List Int, seqD (.list (ms.map PyData.int)) = some (os.map PyData.int) ∧ rowD (.list (ms.map PyData.int)) (n : Int) (n : Int) = true ∧ ¬ os.Nodup := hbad.imp id fun h => ⟨ms, rfl, h.1, h.2⟩
    exact x_last (x_when (b := false) (et_is (et_or (a := false) (b := false) (et_not (a := true) (et_B (EvR.val (er_callP (Dd := dRefuses K P w (wC K)) (Pz := IsV (.bl true)) (Pa := fun vs B' => ∃ p, vs = [.ref x, p] ∧ Dp K B' p (.tuple (ms.map PyData.int))) (EvAR.imp (ear (P := IsV (.ref x)) inferInstance (eR_v (ev_var rfl)) (ear (P := IsDp K (.tuple (ms.map PyData.int))) inferInstance (EvR.imp (er_tup (K := K) (Py := fun ys _ => ys = ms.map V.int) inferInstance (rVp (ev_var rfl) ⟨ps, _, rfl, .inl (sq_of hps), rfl⟩)) fun z B' _ ⟨p, ys, h1, h2, h3⟩ => by
        subst h1 h3
        exact .tup h2 (dp_ints ms)) ear_nil)) fun vs B' _ ⟨z1, r1, h1, h2, z2, r2, h3, h4, h6⟩ => ⟨z2, by
        have h2 : z1 = .ref x := h2
        rw [h1, h2, h3, h6], h4⟩) fun vs B' e ⟨p, h1, h2⟩ => ⟨_, ⟨x, (n : Int), rels, p, _, h1, (hWx.mono e5).mono e, hinv0, h2, bd1, rfl⟩, fun z B'' _ h => h⟩)))) (fun _ => et_not (a := true) (et_B (er_callB (Dd := dRefuses K P w (wC K)) (Pz := IsV (.bl true)) (ea_cons (ev_var rfl) (ea_cons (ev_var rfl) ea_nil)) ⟨y, (n : Int), imgR (n : Int) os rels, .ref ps, _, rfl, hWy.mono e5, hfamI.inv, .lst (sq_of hps) (dp_ints ms), bd2, rfl⟩).val))) rfl) (fun h => nomatch h) (fun _ => x_nx rfl ⟨eB.trans g5.ex, _, _, rfl⟩))
  obtain ⟨eB, y15, y16, rfl⟩ := h
  have e4 := g.ex.trans eB
  have hm0 := e4 _ _ hm0
  have hT0 := hT0.mono e4
  have hpo := e4 _ _ hpo
  have hpth := e4 _ _ hpth
  have hp1 := e4 _ _ hp1
  have hpn := e4 _ _ hpn
  have hpd := e4 _ _ hpd
  have hTd := hTd.mono e4
  have hWx := hWx.mono e4
  have hWy := hWy.mono e4
  clear e4 eB g hy oix ys F' g4
  -- back
  refine x_asgL (xs := (List.replicate n (0 : Int)).map V.int) (el_eq (el_lcR1 (n := (n : Int)) (fun _ => true) (fun _ => .int 0) (ea_cons (ev_var rfl) ea_nil) (by omega) (fun _ => rfl) (fun _ _ _ _ => et_yes) (fun i H1 e hi _ => ev_c)) (by
    rw [given_all, Int.toNat_natCast, List.map_replicate]
    exact List.map_const' ..|>.trans (by rw [List.length_range]))) fun pb hbB hbH => ?_
  show Sx H _ _ [some (V.ref a), some (.ref p1), some (.int wide), some (.int (n : Int)), some (.ref pn), some (.ref pt), none, some (.ref pf), some (.ref m0), some (.ref x), some (.ref po), some (.ref pth), some (.ref ph), some (.ref y), some (.ref pd), y15, y16, some (.ref pb), none, none, none, none, none, none, none] _
  refine x_for (F := B') (Ex.new hbB) (ei_rng1 (n := (n : Int)) (ea_cons (ev_var rfl) ea_nil) (by omega)) (fun F2 ys2 i σ2 B2 => ∃ (Bs : Hp) (bk : List Int) (y6 : Option V), σ2 = [some (V.ref a), some (.ref p1), some (.int wide), some (.int (n : Int)), some (.ref pn), some (.ref pt), y6, some (.ref pf), some (.ref m0), some (.ref x), some (.ref po), some (.ref pth), some (.ref ph), some (.ref y), some (.ref pd), y15, y16, some (.ref pb), none, none, none, none, none, none, none] ∧ B2 = upd Bs pb (.lst (bk.map V.int)) ∧ Bs pb = none ∧ Ex F2 Bs ∧ bk.length = n ∧ ∀ t, t < i → bk.getD (os.getD t 0).toNat 0 = (t : Int)) (fun F2 ys2 g hy av => ?_) (fun F2 ys2 i σ2 B2 h => ?_) (fun F2 ys2 i xx σ2 B2 g hy hxi h => ?_) (fun F2 ys2 σ2 B2 g hy h => ?_)
  · have hF : F2 pb = none := av pb hbB (by rw [upd_same]; exact Option.some_ne_none _)
    exact ⟨F2, List.replicate n 0, none, rfl, mrg_upd g.ex hF, hF, Ex.refl _, List.length_replicate, fun t ht => nomatch ht⟩
  · obtain ⟨Bs, bk, y6, rfl, rfl, h1, h2, _⟩ := h
    exact h2.trans (Ex.new h1)
  · obtain ⟨Bs, bk, y6, rfl, rfl, h1, h2, h3, h4⟩ := h
    rw [hy, Int.toNat_natCast] at hxi
    obtain ⟨rfl, hi⟩ := rng_get hxi
    have eS := (g.ex.trans h2).trans (Ex.new (o := .lst (bk.map V.int)) h1)
    obtain ⟨b0, b1⟩ := hos.at (t := (i : Int)) (by omega) (by omega)
    rw [Int.toNat_natCast] at b0 b1
    refine x_last (x_setL (l := pb) (k := os.getD i 0) (j := (os.getD i 0).toNat) (v := .int (i : Int)) upd_same hbH (ev_var rfl) (ev_var rfl) (ev_op (ev_var rfl) (ev_var rfl) (rv_ixL (sq_of (eS _ _ hpo)) (by
      have := atI_int (ns := os) (k := (i : Int)) (by omega) (by omega)
      rw [Int.toNat_natCast] at this
      exact this))) (by rw [List.length_map, h3]; unfold ixN; rw [if_pos b0, if_pos b1]) ?_)
    refine x_nx rfl ⟨Bs, bk.set (os.getD i 0).toNat (i : Int), _, rfl, ?_, h1, h2, by rw [List.length_set]; exact h3, fun t ht => ?_⟩
    · rw [List.map_set]
      funext z
      by_cases c : z = pb
      · subst c; rw [upd_same, upd_same]
      · rw [upd_ne c, upd_ne c, upd_ne c]
    · rw [List.getD_eq_getElem?_getD, List.getElem?_set]
      by_cases c : t = i
      · subst c
        rw [if_pos rfl, if_pos (by omega)]
        rfl
      · have hne : (os.getD i 0).toNat ≠ (os.getD t 0).toNat := fun e => c (hos.inj (i := t) (j := i) (by omega) (by omega) (by
          obtain ⟨q0, q1⟩ := hos.at (t := (t : Int)) (by omega) (by omega)
          rw [Int.toNat_natCast] at q0 q1
          omega))
        rw [if_neg hne, ← List.getD_eq_getElem?_getD]
        exact h4 t (by omega)
  obtain ⟨Bs, bk, y6, rfl, rfl, h1, h2, hbl, hbk⟩ := h
  have hyl : ys2.length = n := by rw [hy, Int.toNat_natCast, rngV_len]
  rw [hyl] at hbk
  have e4 := (g.ex.trans h2).trans (Ex.new (o := .lst (bk.map V.int)) h1)
  have hpb : (upd Bs pb (.lst (bk.map V.int))) pb = some (.lst (bk.map V.int)) := upd_same
  have hm0 := e4 _ _ hm0
  have hT0 := hT0.mono e4
  have hpo := e4 _ _ hpo
  have hpth := e4 _ _ hpth
  have hp1 := e4 _ _ hp1
  have hpn := e4 _ _ hpn
  have hpd := e4 _ _ hpd
  have hTd := hTd.mono e4
  have hWx := hWx.mono e4
  have hWy := hWy.mono e4
  clear e4 h2 g hy hyl ys2 F2
  generalize upd Bs pb (.lst (bk.map V.int)) = B5 at hm0 hT0 hpo hpth hp1 hpn hpd hTd hWx hWy hpb
  obtain ⟨hfamT, hrlT⟩ := imgR_fam hth hfamI hrlI
  have hrT63 : ∀ r ∈ imgR (n : Int) th (imgR (n : Int) os rels), r.rows.length ≤ 63 := fun r hr => by have := hrlT r hr; omega
  have hbkid := back_id hos hbl hbk hinv0
  have hbko := back_ok hos hbl hbk
  have hnmI : (imgR (n : Int) os rels).map Rel.name = rels.map Rel.name := by rw [hfamI.nm, hfam0.nm]
  have harI : ∀ m, arIn (imgR (n : Int) os rels) m = arIn rels m := fun m => by rw [hfamI.ar, hfam0.ar]
  have hdL : ∀ {p : Addr} {r : List Int} {z : V} {Ba B' : Hp}, Ba p = some (.lst (r.map V.int)) → Ex Ba B' → z = .ref p → Dp K B' z (.list (r.map PyData.int)) := fun {p r z Ba B'} h e hz => by
    subst hz
    exact .lst (sq_of (e _ _ h)) (dp_ints r)
  -- again, twice, joined
  refine x_asg (er_moved (d := .tuple (bk.map PyData.int)) (ev_var rfl) (er_tup (K := K) (Py := fun ys _ => ys = bk.map V.int) inferInstance (rVp (ev_var rfl) ⟨pb, _, rfl, .inl (sq_of hpb), rfl⟩)) (fun z B' e ⟨p, ys, h1, h2, h3⟩ => by
    subst h1 h3
    exact .tup h2 (dp_ints bk)) rfl hbko hWy hfamI.inv hallI) fun z B6 g6 ⟨x2, hz, hW2⟩ => ?_
  subst hz
  rw [hbkid] at hW2
  refine x_asg (er_moved (d := .list (th.map PyData.int)) (ev_var rfl) (eR_v (ev_var rfl)) (fun z B' e h => hdL (g6.ex _ _ hpth) e h) rfl hth (hWy.mono g6.ex) hfamI.inv hallI) fun z B7 g7 ⟨x3, hz, hW3⟩ => ?_
  subst hz
  have e57 := g6.ex.trans g7.ex
  have hjl : ((List.range n).map fun k => V.int (th.getD (os.getD k 0).toNat 0)) = (joinO os th).map V.int := by
    unfold joinO
    rw [List.map_map]
    refine List.ext_getElem (by rw [List.length_map, List.length_range, List.length_map]; omega) fun k h1 h2 => ?_
    rw [List.getElem_map, List.getElem_map, List.getElem_range]
    rw [List.length_map] at h2
    rw [getD_lt (os := os) h2]
    rfl
  refine x_asg (er_moved (d := .list ((joinO os th).map PyData.int)) (ev_var rfl) (rL (el_eq (el_lcR1 (n := (n : Int)) (fun _ => true) (fun k => .int (th.getD (os.getD k 0).toNat 0)) (ea_cons (ev_var rfl) ea_nil) (by omega) (fun _ => rfl) (fun _ _ _ _ => et_yes) (fun i H1 e hi _ => ?_)) (by rw [given_all, Int.toNat_natCast]; exact hjl))) (fun z B' e ⟨p, h1, h2⟩ => hdL h2 (Ex.refl _) h1) rfl (joinO_ok hos hth) (hWx.mono e57) hinv0 hall) fun z B8 g8 ⟨x4, hz, hW4⟩ => ?_
  · obtain ⟨b0, b1⟩ := hos.at (t := (i : Int)) (by omega) hi
    rw [Int.toNat_natCast] at b0 b1
    have htl := hth.len
    exact ev_op (ev_var rfl) (ev_op (ev_var rfl) (ev_var rfl) (rv_ixL (sq_of ((e57.trans e) _ _ hpo)) (by
      have := atI_int (ns := os) (k := (i : Int)) (by omega) (by omega)
      rw [Int.toNat_natCast] at this
      exact this))) (rv_ixL (sq_of ((e57.trans e) _ _ hpth)) (atI_int b0 (by omega)))
  subst hz
  rw [← imgR_join hos hth hinv0] at hW4
  have e58 := e57.trans g8.ex
  have hW2 := hW2.mono (g7.ex.trans g8.ex)
  have hW3 := hW3.mono g8.ex
  have hm0 := e58 _ _ hm0
  have hT0 := hT0.mono e58
  have hpo := e58 _ _ hpo
  have hpth := e58 _ _ hpth
  have hp1 := e58 _ _ hp1
  have hpn := e58 _ _ hpn
  have hpd := e58 _ _ hpd
  have hTd := hTd.mono e58
  have hWx := hWx.mono e58
  have hWy := hWy.mono e58
  clear e58 e57 g6 g7 g8 hpb
  show Sx H _ _ [some (V.ref a), some (.ref p1), some (.int wide), some (.int (n : Int)), some (.ref pn), some (.ref pt), y6, some (.ref pf), some (.ref m0), some (.ref x), some (.ref po), some (.ref pth), some (.ref ph), some (.ref y), some (.ref pd), y15, y16, some (.ref pb), some (.ref x2), some (.ref x3), some (.ref x4), none, none, none, none] _
  refine x_when (b := false) (et_is (et_or (a := false) (b := false) (et_not (a := true) (et_B (ev_lworldP (ev_var rfl) (ev_var rfl) (ev_var rfl) hm0 hT0 hW2 hinv0 hrl63))) (fun _ => et_not (a := true) (et_B (ev_lworldR (ev_var rfl) (ev_var rfl) (er_callB (Dd := dImage K) (Pz := fun z B' => ∃ p kvs, z = .ref p ∧ B' p = some (.dK kvs) ∧ MTab K (imgR (n : Int) th (imgR (n : Int) os rels)) kvs B') (ea_cons (ev_var rfl) (ea_cons (ev_var rfl) ea_nil)) ⟨pd, pth, (n : Int), _, kvd, th, rfl, hpd, hTd, hfamI.inv, sq_of hpth, hth, hallI, rfl⟩) hW3 hfamT.inv hrT63)))) rfl) (fun h => nomatch h) (fun _ => ?_)
  refine x_when (b := false) (et_is (et_or (a := false) (b := false) (et_not (a := true) (et_B (ev_is (ev_truth (ev_eqW (ev_var rfl) (ev_var rfl) hW2 hWx hinv0 hinv0 rfl fun _ => rfl) ev_c) (congrArg V.bl (by rw [sameR_refl]; rfl))))) (fun _ => et_not (a := true) (et_B (ev_is (ev_truth (ev_eqW (ev_var rfl) (ev_var rfl) hW3 hW4 hfamT.inv hfamT.inv rfl fun _ => rfl) ev_c) (congrArg V.bl (by rw [sameR_refl]; rfl)))))) rfl) (fun h => nomatch h) (fun _ => ?_)
  have hid := ints_id (n := n) hinv0
  have hWid : EvR (tMeth (wC K) "moved" (spR (dMoved K P w (wC K))) [] E0 (tVar 9) (tCons (tLstRg (tRg1 (tVar 3))) tNil)) [some (V.ref a), some (.ref p1), some (.int wide), some (.int (n : Int)), some (.ref pn), some (.ref pt), y6, some (.ref pf), some (.ref m0), some (.ref x), some (.ref po), some (.ref pth), some (.ref ph), some (.ref y), some (.ref pd), y15, y16, some (.ref pb), some (.ref x2), some (.ref x3), some (.ref x4), none, none, none, none] B8 (WorldQ K P w (wC K) (n : Int) rels) := by
    have := er_moved (E := E0) (σ := [some (V.ref a), some (.ref p1), some (.int wide), some (.int (n : Int)), some (.ref pn), some (.ref pt), y6, some (.ref pf), some (.ref m0), some (.ref x), some (.ref po), some (.ref pth), some (.ref ph), some (.ref y), some (.ref pd), y15, y16, some (.ref pb), some (.ref x2), some (.ref x3), some (.ref x4), none, none, none, none]) (d := .list ((intsN n).map PyData.int)) (ev_var rfl : Ev (tVar 9) _ B8 (.ref x)) (rL (el_eq (el_rg1 (te := tVar 3) (ev_var rfl) ⟨by omega, by omega⟩) (by rw [Int.toNat_natCast, rng_ints]))) (fun z B' e ⟨p, h1, h2⟩ => hdL h2 (Ex.refl _) h1) rfl (ord_perm (n := n) (List.Perm.refl _)) hWx hinv0 hall
    rw [hid] at this
    exact this
  refine x_when (b := false) (et_is (et_or (a := false) (b := false) (et_not (a := true) (et_B (ev_is (ev_truth (ev_eqW (ev_var rfl) (ev_var rfl) hWy hWx hfamI.inv hinv0 hnmI.symm fun m => (harI m).symm) (ev_eqM (ev_var rfl) (ev_var rfl) hpd hm0 hTd hT0 hfamI.inv.nd hnmI.symm fun m => (harI m).symm)) (congrArg V.bl (decide_eq_true rfl))))) (fun _ => et_not (a := true) (et_B (ev_is (ev_truth (ev_eqWR hWid (ev_var rfl) hWx hinv0 hinv0 rfl fun _ => rfl) ev_c) (congrArg V.bl (by rw [sameR_refl]; rfl)))))) rfl) (fun h => nomatch h) (fun _ => ?_)
  -- one more row
  refine x_whenG (b := decide (0 < ns.length)) (P0 := fun σ' B' => Ex B8 B' ∧ ∃ y21 y22 : Option V, σ' = [some (V.ref a), some (.ref p1), some (.int wide), some (.int (n : Int)), some (.ref pn), some (.ref pt), y6, some (.ref pf), some (.ref m0), some (.ref x), some (.ref po), some (.ref pth), some (.ref ph), some (.ref y), some (.ref pd), y15, y16, some (.ref pb), some (.ref x2), some (.ref x3), some (.ref x4), y21, y22, none, none]) (et_test (ev_is (ev_op (ev_is (ev_len (ev_var rfl) (sq_of hpn)) (by rw [List.length_map])) ev_c rv_I0) (congrArg V.bl (decide_eq_decide.mpr (by omega))))) (fun hb => ?_) (fun hb => ⟨Ex.refl _, none, none, rfl⟩) fun σ' B' ⟨eB, y21, y22, hσ⟩ => ?_
  · have hn0 : 0 < ns.length := of_decide_eq_true hb
    obtain ⟨j, hj, hjl⟩ : ∃ j : Nat, ds.getD 4 0 % (ns.length : Int) = (j : Int) ∧ j < ns.length := ⟨(ds.getD 4 0 % (ns.length : Int)).toNat, by have := Int.emod_nonneg (ds.getD 4 0) (b := (ns.length : Int)) (by omega); omega, by
      have h1 := Int.emod_nonneg (ds.getD 4 0) (b := (ns.length : Int)) (by omega)
      have h2 := Int.emod_lt_of_pos (ds.getD 4 0) (b := (ns.length : Int)) (by omega)
      omega⟩
    have hnj : ns[j]? = some ns[j] := List.getElem?_eq_getElem hjl
    have hnm1 : ns[j] ∈ ns := List.getElem_mem hjl
    generalize ns[j] = nm at hnj hnm1
    obtain ⟨r, v, hf, hv, t, q0, ys0, rfl, ht, _⟩ := hT0.get (s := nm) (by rw [hfam0.nm]; exact hnm1)
    have hro := hinv0.ok r (List.mem_of_find?_eq_some hf)
    have hlo := hro.lo
    have hhi := hro.hi
    have har : ar0 nm = r.ar := by rw [← hfam0.ar]; exact arIn_some hf
    intro D tz k
    refine x_assoc (x_asgV (v := .str nm) (ev_op (ev_var rfl) (ev_is (ev_op (ev_int (ev_dg (k := 4) (ev_var rfl) (sq_of hp1) ev_c (by omega))) (ev_is (ev_len (ev_var rfl) (sq_of hpn)) (by rw [List.length_map])) (rv_mod (by omega))) (congrArg V.int hj)) (rv_ixL (sq_of hpn) (Kx.atI_get (by rw [List.getElem?_map, hnj]; rfl)))) ?_)
    refine x_assoc (x_asg (P := TpP K fun ys _ => ys = ((List.range r.ar.toNat).map fun (i : Nat) => (ds.getD 5 0 + (ds.getD 7 0 + 1) * (i : Int)) % (n : Int)).map V.int) (er_tup (K := K) inferInstance (EvR.imp (rL (el_eq (el_lcR1 (n := r.ar) (fun _ => true) (fun i => .int ((ds.getD 5 0 + (ds.getD 7 0 + 1) * (i : Int)) % (n : Int))) (ea_cons (ev_op (ev_dget (ev_var rfl) (ev_var rfl) hm0 hv) ev_c (rv_ixL (sq_of ht) (atI_nat (j := 0) rfl))) ea_nil) (by omega) (fun _ => rfl) (fun _ _ _ _ => et_yes) (fun i H1 e hi _ => ev_op (ev_int (ev_op (ev_dg (k := 5) (ev_var rfl) (sq_of (e _ _ hp1)) ev_c (by omega)) (ev_op (ev_op (ev_dg (k := 7) (ev_var rfl) (sq_of (e _ _ hp1)) ev_c (by omega)) ev_c rv_I0) (ev_var rfl) (rv_mulR (by omega))) rv_I0)) (ev_var rfl) (rv_mod (by omega)))) (by rw [given_all, List.map_map]; rfl))) fun z B' _ ⟨p, h1, h2⟩ => ⟨p, _, h1, .inl (sq_of h2), rfl⟩)) fun z B9 g9 ⟨b, ys, hz, hb1, hys⟩ => ?_)
    subst hz hys
    refine x_when (b := false) (et_not (a := true) (et_B (er_callB (Dd := dGoes K P w (wC K)) (Pz := IsV (.bl true)) (ea_cons (ev_var rfl) (ea_cons (ev_var rfl) (ea_cons (ev_var rfl) (ea_cons (ev_var rfl) (ea_cons (ev_var rfl) (ea_cons (ev_var rfl) (ea_cons (ev_var rfl) ea_nil))))))) ⟨x, y, m0, pd, b, (n : Int), ns, ar0, rels, imgR (n : Int) os rels, nm, _, rfl, ⟨hWx.mono g9.ex, ⟨kvs, g9.ex _ _ hm0, hT0.mono g9.ex⟩, hfam0, fun r hr => by have := hrl0 r hr; omega⟩, ⟨hWy.mono g9.ex, ⟨kvd, g9.ex _ _ hpd, hTd.mono g9.ex⟩, hfamI, fun r hr => by have := hrlI r hr; omega⟩, hnm1, hb1, by rw [List.length_map, List.length_range, har]; omega, fun m hm => by
      obtain ⟨i, _, rfl⟩ := List.mem_map.mp hm
      exact ⟨Int.emod_nonneg _ (by omega), Int.emod_lt_of_pos _ (by omega)⟩, rfl⟩).val)) (fun h => nomatch h) (fun _ => k _ _ ⟨g9.ex, _, _, rfl⟩)
  subst hσ
  refine Sx.mono eB ?_
  have hWm : EvR (tMeth (wC K) "moved" (spR (dMoved K P w (wC K))) [] E0 (tVar 9) (tCons (tVar 10) tNil)) [some (V.ref a), some (.ref p1), some (.int wide), some (.int (n : Int)), some (.ref pn), some (.ref pt), y6, some (.ref pf), some (.ref m0), some (.ref x), some (.ref po), some (.ref pth), some (.ref ph), some (.ref y), some (.ref pd), y15, y16, some (.ref pb), some (.ref x2), some (.ref x3), some (.ref x4), y21, y22, none, none] B8 (WorldQ K P w (wC K) (n : Int) (imgR (n : Int) os rels)) := er_moved (d := .list (os.map PyData.int)) (ev_var rfl) (eR_v (ev_var rfl)) (fun z B' e h => hdL hpo e h) rfl hos hWx hinv0 hall
  refine x_when (b := false) (et_is (et_or (a := false) (b := false) (et_not (a := true) (et_B (ev_lworldP (ev_var rfl) (ev_var rfl) (ev_var rfl) hpd hTd hWy hfamI.inv hrI63))) (fun _ => et_not (a := true) (et_B (ev_lworldX hWm (ev_var rfl) (ev_var rfl) hpd hTd hfamI.inv hrI63)))) rfl) (fun h => nomatch h) (fun _ => ?_)
  refine x_when (b := false) (et_is (et_or (a := false) (b := false) (et_not (a := true) (et_B (ev_lworldP (ev_var rfl) (ev_var rfl) (ev_var rfl) hm0 hT0 hWx hinv0 hrl63))) (fun _ => et_is (et_or (a := false) (b := false) (et_not (a := true) (et_B (ev_goneP (ev_var rfl) (ev_var rfl) hpd hTd hWy hfamI.inv hrI63))) (fun _ => et_not (a := true) (et_B (ev_goneP (ev_var rfl) (ev_var rfl) hm0 hT0 hWx hinv0 hrl63)))) rfl)) rfl) (fun h => nomatch h) (fun _ => ?_)
  exact x_last (x_ret (er_callB (Dd := dMeet K P w (wC K)) (Pz := IsV (.bl true)) (ea_cons (ev_var rfl) (ea_cons (ev_var rfl) (ea_cons (ev_var rfl) (ea_cons (ev_var rfl) ea_nil)))) ⟨x, y, m0, po, (n : Int), rels, kvs, os, rfl, hm0, hT0, hinv0, hfamI.inv, sq_of hpo, hos, hall, hWx, hWy, rfl⟩) (fun z B' H' g p e1 e2 => by
    have p : z = .bl true := p
    subst p
    exact q H' e2))
end Kx
/-! ### the head -/
namespace Kx
open PySem PySem.Spec PyProof.Rows L2 Evl LX T XV RX
abbrev hk : PySem.W.Hook := KH.hook 5 fa fnD (exC intN tupN ex)
def ob (s : PySem.W.SharedT) : KH.Al := KH.obs 5 fa fnD (exC intN tupN ex) (HandSHeadRun.getT s)
theorem ob_eq (s : PySem.W.SharedT) : ob s = hk.obs s.abs := KH.obs_eq (HandSHeadRun.getT_eq s)
theorem run (w : World) : HandSHeadRun.RunEq R (PySem.W.view R.prog [lawAt]) hk ob 14000 loose w := by
  intro os
  kernel_rfl
theorem facts {P : Program} {w : World} {K : PySem.W.Frag} {h : Heap} {mg : Str → Option Value} {f : Addr} (X : K.In h) (G : h.Ns mainGlobals mg) (hfa : mg ("law" : Str) = some (.ref f)) (c : He.SaysD fa fnD K) (cx : exC intN tupN ex K = true) :
    ∃ fd : FuncData, (∀ (s : Shared) (v : Value), BindsTo s fd ⟨[v], []⟩ [("script", v)]) ∧ ∀ base : Heap, K.In base → base.Ns mainGlobals mg → FnOk P w K mg base CX0 13 f fd ["script"] (spV (dLaw K)) := by
  have T : TX K mg := RX.TxC.of (n := 0) X G c cx
  obtain ⟨fd, F⟩ := T.t.d (KH.dat ("law", none) "law" s_law) (List.mem_of_getElem? (i := lawIx) rfl)
  have e := hfa.symm.trans (T.g "law" (by decide +kernel))
  cases e
  have b := FunD.bindsA (ps := ["script"]) F fun _ _ _ _ _ _ us hl => match us, hl with | [_], _ => rfl
  exact ⟨fd, fun s v => b s [v] rfl, fun base _ _ => fn_law T (fun_of F)⟩
end Kx
open PySem PySem.W PySem.Calls PyProof.Rows
theorem PySem.Challenge.cw_onceread_k03_moved_whole_holds : PySem.Challenge.rw_onceread_k03_moved_whole.Holds := by
  w_on; o_law
  refine HandSHeadRun.head_any (r := OpenLaw.row PySem.Challenge.rw_onceread_k03_moved_whole) (q := view (OpenLaw.row PySem.Challenge.rw_onceread_k03_moved_whole).prog [T.lawAt]) (H := Kx.hk) (ob := Kx.ob) (M := 14000) (loose := T.loose) (d := HandSHeadRun.topDef (OpenLaw.row PySem.Challenge.rw_onceread_k03_moved_whole).prog T.lawAt) (kwd := []) Kx.ob_eq
    (by kernel_rfl) (fun s => by kernel_rfl) Kx.run (by kernel_rfl) (by kernel_rfl) (by kernel_rfl) (by rfl) (by first | assumption | decide +kernel) (by decide +kernel) ⟨rfl, rfl, rfl, rfl, rfl, by decide +kernel⟩ ?hw ?hc
  case hw => w_witness2
  case hc =>
    refine L2.walk_ofE (l := PySem.Challenge.rw_onceread_k03_moved_whole) (n := 63) (k := 13) (x := "script") (CX := L2.CX0) rfl (by decide) (by kernel_rfl) ⟨rfl, by decide, by decide⟩ ?F (fun _ _ _ _ z => z)
    intro w mg fa h Y G hmg0
    obtain ⟨K, KX, c, cx⟩ := Y
    have hmg : mg ("law" : PySem.Str) = some (.ref fa) := by
      have e : (HandSHeadRun.topDef (OpenLaw.row PySem.Challenge.rw_onceread_k03_moved_whole).prog T.lawAt).name = ("law" : PySem.Str) := by kernel_rfl
      rw [← e]
      exact hmg0
    obtain ⟨fd, hb, hF⟩ := Kx.facts (P := (PySem.Challenge.rw_onceread_k03_moved_whole).prog) (w := w) KX G hmg c cx
    exact ⟨K, fd, _, KX, hb, fun H a ns hl _ hS => ⟨.bl true, ⟨a, ns, rfl, hS, hl, rfl⟩, fun _ _ => rfl⟩, hF⟩
