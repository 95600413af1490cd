import PyProof.Rows.All
import Wide.All
import OpenK.AllK
import Wide.FinOn
import KE.KExcIs
import HandS.ForMost
import HandS.Exc
import HandS.ExcInit
import HandS.ExcIs
import HandS.ExcField
import HandS.IsInst
import HandS.WordsExc
import HandS.ExcValue
import KE.KStateDown
import HandS.Defaults
import HandS.Head0
import HandS.Head1
import HandS.Head2
import HandS.HeadEnd
import HandS.HeadHook1
import HandS.HeadHook2
import HandS.Evl
import HandS.TupAny
import HandS.SortInts
import HandS.Wide
import HandS.HeadHook4
import KE.KxText
import HandS.SetBool
import HandS.TupSets
import HandS.DictComp
import KE.KDictKeyed
import KE.KeyNested
import HandS.StrMore
import HandS.ExcOwn
import HandS.Codes
import HandS.MakeKw
import PySem.Challenge.RW_onceread_k00_world_facts
set_option Elab.async false
set_option linter.all false
set_option maxRecDepth 100000
set_option maxHeartbeats 0
/-! own exceptions of the program as values: made, told apart, their fields read -/
namespace XV
open PySem PySem.Spec PyProof.Rows L2

def veB : List Value := [.type "ValueError", .type "Exception", .type "BaseException", .type "object"]
/-- an exception of the class at C with the fields fs -/
def ExAt (H : Hp) (a C : Addr) (fs : List (Str × V)) : Prop :=
  (fs = [] ∧ H a = some (exo a C none)) ∨ ∃ dx, H a = some (exo a C (some dx)) ∧ H dx = some (exd dx fs)
theorem ExAt.same {H H' : Hp} {a C : Addr} {fs : List (Str × V)} (s : Same H H') (h : ExAt H a C fs) : ExAt H' a C fs := by
  rcases h with ⟨e, h⟩ | ⟨dx, h1, h2⟩
  · exact .inl ⟨e, s _ _ h⟩
  · exact .inr ⟨dx, s _ _ h1, s _ _ h2⟩

/-- what the written part says of such a class -/
structure ExK (K : PySem.W.Frag) (C : Addr) : Prop where
  o : OexC K C
  e : ExcC K C
  clsv : (PySem.W.clsIn K C).isSome = true
def exCB (K : PySem.W.Frag) (C : Addr) : Bool := match K.lookup C with
  | some ⟨.type t, _, .cls cd, sl⟩ => (match cd.mro, sl.toList with
    | .ref C' :: bm, [_, _, _, _, some (.builtin n), _] => decide (t = "type") && (decide (C' = C) && (n == "ValueError.__new__" && (!cd.hasDel && (cd.hasDict && PySem.HandSPX.refsVE bm))))
    | _, _ => false)
  | _ => false
theorem exCB_ok {K : PySem.W.Frag} {C : Addr} (h : exCB K C = true) :
    ∃ nm q N bs bm sn sub ab col dd k0 k1 k2 k3 k5, K.lookup C = some (excClassObj nm q C N bs bm true sn sub ab col dd k0 k1 k2 k3 k5 "ValueError.__new__") ∧ PySem.HandSPX.refsVE bm = true := by
  unfold exCB at h
  split at h
  · rename_i t dd cd sl ho
    split at h
    · rename_i C' bm k0 k1 k2 k3 n k5 hm hs
      simp only [Bool.and_eq_true, beq_iff_eq, Bool.not_eq_true', decide_eq_true_eq] at h
      obtain ⟨rfl, rfl, rfl, hdel, hdict, hbm⟩ := h
      obtain ⟨nm, bs, mro, ns, qn, hd, sn, sub, ab, col, del⟩ := cd
      dsimp only at hm hdel hdict
      subst hm hdel hdict
      have hsl : sl = #[k0, k1, k2, k3, some (.builtin "ValueError.__new__"), k5] := by
        obtain ⟨l⟩ := sl
        simp only at hs
        rw [hs]
      subst hsl
      exact ⟨nm, qn, ns, bs, bm, sn, sub, ab, col, dd, k0, k1, k2, k3, k5, ho, hbm⟩
    · cases h
  · cases h
def exB (K : PySem.W.Frag) (C : Addr) : Bool :=
  exCB K C && (decide (PySem.W.findIn K (.ref C) "__setattr__" = some (some (.builtin "object.__setattr__"))) && (decide (PySem.W.subIn K (.ref C) (.type "BaseException") = some true) && (decide (PySem.W.typeIn K (.ref C) = some (.type "type")) && (PySem.W.keepIn K (.ref C) &&
  (decide (PySem.W.findIn K (.ref C) "__getattribute__" = some (some (.builtin "BaseException.__getattribute__"))) && (decide (PySem.W.findIn K (.ref C) "__getattr__" = some none) && (PySem.W.hasDictIn K C && (decide (PySem.W.findIn K (.ref C) "__class__" = some (some (.builtin "object.__class__"))) &&
  (decide (PySem.W.specialIn K (.builtin "object.__class__") "__get__" = some (some (.builtin "getset_descriptor.__get__"))) && (decide (PySem.W.takesIn K (.builtin "object.__class__") = some true) && (decide (PySem.W.mroIn K C (.type "object") = some true) && (PySem.W.clsIn K C).isSome)))))))))))
theorem exB_ok {K : PySem.W.Frag} {C : Addr} (h : exB K C = true) : ExK K C := by
  unfold exB at h
  simp only [Bool.and_eq_true, decide_eq_true_eq] at h
  obtain ⟨h1, h2, h3, h4, h5, h6, h7, h8, h9, h10, h11, h12, h13⟩ := h
  exact ⟨⟨exCB_ok h1, h2, h3, h4, h5⟩, ⟨h6, h7, h3, h8, h9, h10, h11, h12⟩, h13⟩
theorem ExK.x {K : PySem.W.Frag} {C : Addr} (T : ExK K C) : XfC K C := ⟨T.e.hg, T.e.hk, T.e.hs, T.e.hd⟩

section
variable {X : Cx} {e : Expr} {es : List Expr} {ta : TA} {te : TE} {p pos : Pos}
/-- X(e, ..), a class with its own __init__, as a value -/
def tMkV (C : Addr) (sp : Sp) (ta : TA) : TE := fun σ H Q => ta σ H fun vs H1 => vs.length ≤ 1000 ∧ ∀ a, H1 a = none → sp (.ref a :: vs) (upd H1 a (exo a C none)) (fun v H2 => v = .non ∧ Q (.ref a) H2) (fun _ _ _ => False)
theorem pe_oex {CX : CXT} {x : Str} {C fI : Addr} {k : Nat} {fd : FuncData} {ps : List Str} {sp : Sp} (T : OexC X.K C) (iC : PySem.W.findIn X.K (.ref C) "__init__" = some (some (.ref fI))) (tI : PySem.W.typeIn X.K (.ref fI) = some (.type "function"))
    (F1 : FnOk X.prog X.w X.K X.mg X.base CX k fI fd ps sp) (hr : Room (k + 1) X.A) (hb : Binds X.K fd ps []) (hx : Passes CX X (fun _ _ _ => False)) (hg : Gl X x) (hm : X.mg x = some (.ref C)) (ha : PA X (e :: es) ta)
    (hdb : (x == ("__debug__" : Str)) = false := by decide) (he : starEach (e :: es) X.env = (false, eval e X.env) :: starEach es X.env := by rfl) (hpl : (backTo pos (starEach es X.env)).any (·.1) = false := by rfl) :
    PE X (.Call (.Name x p) (e :: es) [] pos) (tMkV C sp ta) := by
  refine ⟨fun pins s σ H Q I h => ?_⟩
  obtain ⟨nm, q, N, bs, bm, sn, sub, ab, col, dd, k0, k1, k2, k3, k5, hC, hbm⟩ := T.cls
  refine wpAny_Call_Name_kw (ld_glob I hg hm ?_ hdb)
  refine PySem.W.callWith_K (h₀ := X.base) I.ok.mod.kin T.kC (thn (ha.run pos pins s σ H _ I h) fun us s1 ⟨vs, H1, I1, r1, hz, q1⟩ => ⟨I1.kIn, ?_⟩) he hpl
  show wpAny _ _ (call (.ref C) us) _ _ _
  obtain ⟨hp, g, dr, tk, os⟩ := s1
  have hsz : hp.objs.size ≤ hp.objs.size + 1 := Nat.le_succ _
  have hn : H1 (hp.objs.size + 1) = none := I1.hok.fresh hsz
  have hq := q1 (hp.objs.size + 1) hn
  have kk : ∀ b o, hp.get? b = some o → ((hp.push (PySem.W.kdv_tup us)).push (PySem.HandSPX.excO C hp.objs.size)).get? b = some o := fun b o e => Heap.get?_push_of_some _ (Heap.get?_push_of_some _ e)
  have hget : ((hp.push (PySem.W.kdv_tup us)).push (PySem.HandSPX.excO C hp.objs.size)).get? (hp.objs.size + 1) = some (PySem.HandSPX.excO C hp.objs.size) := by heap_get
  have I2 : Inv X pins σ (upd H1 (hp.objs.size + 1) (exo (hp.objs.size + 1) C none)) ⟨(hp.push (PySem.W.kdv_tup us)).push (PySem.HandSPX.excO C hp.objs.size), g, dr, tk, os⟩ :=
    I1.laid (t' := tk) (a := hp.objs.size + 1) (o := exo (hp.objs.size + 1) C none) (h' := (hp.push (PySem.W.kdv_tup us)).push (PySem.HandSPX.excO C hp.objs.size)) kk hsz (exo_ok hget)
  have r2 : Vals (V.ref (hp.objs.size + 1) :: vs) (Value.ref (hp.objs.size + 1) :: us) := .cons rfl r1
  have hl : (Value.ref (hp.objs.size + 1) :: us ++ []).length = ps.length := by
    have e := r2.length
    rw [F1.len _ _ _ _ hq] at e
    rw [List.append_nil]
    exact e.symm
  have hus : us.length ≤ sizeLine := by
    rw [← Paired.length r1, sizeLine_eq]
    omega
  have hbb := hb ⟨(hp.push (PySem.W.kdv_tup us)).push (PySem.HandSPX.excO C hp.objs.size), g, dr, tk, os⟩ (Value.ref (hp.objs.size + 1) :: us) I2.kIn hl
  rw [List.append_nil] at hbb
  refine wpAny_call (PySem.HandSPX.call_own F.excBase_ValueError (fun Y => PySem.HandSPX.refsVE_contains Y bm hbm) (I1.kIn _ _ hC) (PySem.W.looks_findIn I1.kIn iC) (fun self => PySem.W.bind_fn I1.kIn self tI) hus
    (codeAny_mono (F1.run _ X.stack _ _ ⟨Value.ref (hp.objs.size + 1) :: us, []⟩ (Value.ref (hp.objs.size + 1) :: us) _ _ (fun _ _ _ => False) (hr.make C us []) (I2.env0.make C us []) hbb r2 hq) fun r s' hq' => ?_))
  cases r with
  | error er => exact hx pins σ _ _ er s' I2 hq'
  | ok fl =>
    cases fl with
    | ret u =>
      obtain ⟨v, H2, os2, bare2, un2, hok2, rv, ev, q2⟩ := hq'
      subst ev
      have hend : EP X pins σ Q (.ref (hp.objs.size + 1)) s' := by
        have z := I2.after (Q := fun v H2 => Q v H2) (u := .ref (hp.objs.size + 1)) (s' := s') ⟨.ref (hp.objs.size + 1), H2, os2, bare2, un2, hok2, rfl, q2⟩
        exact z
      exact ⟨rv, hend⟩
    | next => exact False.elim hq'
    | brk => exact False.elim hq'
    | cont => exact False.elim hq'
/-- X(), a class without __init__ of its own -/
theorem pe_ex0 {x : Str} {C : Addr} (T : OexC X.K C) (q : PySem.W.excIn X.K C veB "ValueError.__new__" = true) (hg : Gl X x) (hm : X.mg x = some (.ref C)) (hdb : (x == ("__debug__" : Str)) = false := by decide) :
    PE X (.Call (.Name x p) [] [] pos) (fun _ H Q => ∀ a, H a = none → Q (.ref a) (upd H a (exo a C none))) := by
  refine ⟨fun pins s σ H Q I h => ?_⟩
  refine wpAny_Call_Name_kw (ld_glob I hg hm ?_ hdb)
  refine PySem.W.callWith_K0 I.kIn T.kC ?_
  show wpAny _ _ (call (.ref C) []) _ _ _
  obtain ⟨bm, N, nm, qn, bs, hdct, sn, sub, ab, col, dd, k0, k1, k2, k3, k5, mN, hC, hN, hni, T2⟩ := exc_obj I.kIn q
  refine wpAny_call_exc_subT F.excBase_ValueError T2 hC hN hni (fun h' a hm => ?_) (by show 0 ≤ sizeLine; omega)
  have hn : H a = none := I.hok.gone hm.new
  obtain ⟨t, ht, _, _⟩ := hm.there
  exact ⟨.ref a, upd H a (exo a C none), I.laidN hm.keeps hm.new hn (exo_ok ht), rfl, h a hn⟩
end
section
variable {X : Cx} {pins : List (Addr × Obj)} {σ : L2.St} {H : Hp} {s : Shared}
/-- such an exception as the library's instance -/
theorem ExAt.inst {a C : Addr} {fs : List (Str × V)} (h : ExAt H a C fs) (I : Inv X pins σ H s) : ∃ ox od, PySem.W.InstAt s.heap a ox C od := by
  rcases h with ⟨_, h⟩ | ⟨dx, h1, h2⟩
  · obtain ⟨t1, ho⟩ := exo_at I.hok h
    exact ⟨_, none, ho, rfl, rfl, trivial⟩
  · obtain ⟨t1, ho⟩ := exo_at I.hok h1
    obtain ⟨mA, hns, _⟩ := exd_at I.hok h2
    obtain ⟨od, hod, _⟩ := lookIn_ns hns
    exact ⟨_, some od, ho, rfl, rfl, hod⟩
end
/-- isinstance(e, c), e an exception of the program as a value -/
def rIsX (K : PySem.W.Frag) : List V → Hp → VK → Prop := fun xs H Q => ∃ (a C : Addr) (fs : List (Str × V)) (c : V) (cv : Value) (b : Bool), xs = [.ref a, c] ∧ ExAt H a C fs ∧ ExK K C ∧ ClsV c cv ∧ PySem.W.kitOne K (.ref C) cv = some b ∧ Q (.bl b) H
theorem call_isX {X : Cx} : CallR X (.builtin "isinstance") (rIsX X.K) := by
  intro pins s σ H xs us Q I r h
  obtain ⟨a, C, fs, c, cv, b, rfl, hE, T, k, e, q⟩ := h
  obtain ⟨u1, u2, rfl, r1, r2⟩ := vals2 r
  cases (show u1 = Value.ref a from r1)
  have e2 := k.eq r2
  subst e2
  obtain ⟨ox, od, J⟩ := hE.inst I
  exact PySem.W.kia_one (PySem.W.kitx_exc T.clsv T.e.hg T.e.hk T.e.hs T.e.ha T.e.hn T.e.ht T.e.hm) I.kIn J e (fun z => nomatch z) fun tk => ⟨.bl b, H, I.tok tk, rfl, q⟩
/-- e.f of such -/
def tXfV (K : PySem.W.Frag) (f : Str) (te : TE) : TE := fun σ H Q => te σ H fun x H1 => ∃ (a C dx : Addr) (fs : List (Str × V)) (v : V), x = .ref a ∧ H1 a = some (exo a C (some dx)) ∧ H1 dx = some (exd dx fs) ∧ ExK K C ∧ PySem.W.findIn K (.ref C) f = some none ∧ fs.lookup f = some v ∧ Q v H1
theorem pe_xfV {X : Cx} {e : Expr} {te : TE} {pos : Pos} {n : Str} (he : PE X e te) (hb : attributeBase e n X.env (eval e X.env) = eval e X.env := by rfl) :
    PE X (.Attribute e n pos) (tXfV X.K n te) := by
  refine ⟨fun pins s σ H Q I h => ?_⟩
  refine attr_of hb (thn (he.run pins s σ H _ I h) fun u s1 hh => ?_)
  obtain ⟨x, H1, I1, rx, a, C, dx, fs, v, rfl, ea, ed, T, hno, l, q⟩ := hh
  obtain rfl : u = Value.ref a := rx
  obtain ⟨t1, ho⟩ := exo_at I1.hok ea
  obtain ⟨mA, hns, hr⟩ := exd_at I1.hok ed
  obtain ⟨od, hod, hl⟩ := lookIn_ns hns
  obtain ⟨u, hu, ru⟩ := RelO.some_of (v := v) (o := mA n) (by rw [← l]; exact hr n)
  have J : PySem.W.InstAt s1.heap a _ C (some od) := ⟨ho, rfl, rfl, hod⟩
  exact HandSPX.exc_get I1.kIn J T.x.ga T.x.gg T.x.exC (PySem.W.findObj_own T.x.hdC hno rfl (by rw [hl, hu])) (handed_of ru) ⟨v, H1, I1.tok _, ru, q⟩
end XV
/-! a head by facts: He.hookD and one more Bool of the written part -/
namespace KH
open PySem PySem.Spec PyProof.Rows L2
abbrev Al : Type := He.AlD × Bool
def obs (n : Nat) (fa : List He.Fa) (fn : List He.DefD) (ex : PySem.W.Frag → Bool) (g : Addr → Option Obj) : Al := (He.obsD fa fn (He.frG g (He.asD g n)), ex (He.frG g (He.asD g n)))
def hook (n : Nat) (fa : List He.Fa) (fn : List He.DefD) (ex : PySem.W.Frag → Bool) : PySem.W.Hook where
  α := Al
  obs := fun s => obs n fa fn ex s.heap.get?
  val := fun _ => (He.valD fn, true)
  says := fun _ h => ∃ K : PySem.W.Frag, K.In h ∧ He.SaysD fa fn K ∧ ex K = true
  of := fun _ _ e => ⟨_, He.frG_in, congrArg (fun z : Al => z.1) e, congrArg (fun z : Al => z.2) e⟩
  keeps := fun _ _ _ ⟨K, hK, c, d⟩ k => ⟨K, PySem.W.Frag.In.keeps hK k, c, d⟩
theorem obs_eq {n : Nat} {fa : List He.Fa} {fn : List He.DefD} {ex : PySem.W.Frag → Bool} {g : Addr → Option Obj} {s : Shared} (h : ∀ a, g a = s.heap.get? a) : obs n fa fn ex g = (hook n fa fn ex).obs s := by
  have e : g = s.heap.get? := funext h
  rw [e] <;> rfl
/-- the def at a place of the text, as a datum -/
def dat (at_ : Str × Option Str) (qual : Str) (st : Stmt) (dfl : List He.Dv := []) : He.DefD := ⟨at_, (match at_.2 with | none => at_.1 | some m => m), qual, defArgs st, defBody st, defScope st, dfl, []⟩
end KH
/-! calls by contract, and readings that keep one base heap -/
namespace LX
open PySem PySem.Spec PyProof.Rows L2 Evl
/-! ### a def by its name -/
structure OkF (P : Program) (w : World) (K : PySem.W.Frag) (mg : Str → Option Value) (base : Heap) (k : Nat) (x : Str) (ps : List Str) (sp : Sp) : Prop where
  ex : ∃ (f : Addr) (fd : FuncData), mg x = some (.ref f) ∧ PySem.W.keepIn K (.ref f) = true ∧ FnOk P w K mg base CX0 k f fd ps sp ∧ Binds K fd ps []
theorem pe_f {X : Cx} {x : Str} {e : Expr} {es : List Expr} {p pos : Pos} {k j : Nat} {ps : List Str} {sp : Sp} {t : TA} (O : OkF X.prog X.w X.K X.mg X.base k x ps sp) (hr : Room j X.A) (hj : k ≤ j) (ha : PA X (e :: es) t) (hg : Gl X x := by rfl)
    (hdb : (x == ("__debug__" : Str)) = false := by decide) (he : starEach (e :: es) X.env = (false, eval e X.env) :: starEach es X.env := by rfl) (hpl : (backTo pos (starEach es X.env)).any (·.1) = false := by rfl) :
    PE X (.Call (.Name x p) (e :: es) [] pos) (tCall sp [] E0 t) := by
  obtain ⟨f, fd, gm, kp, F, b⟩ := O.ex
  exact pe_call F (hr.mono hj) hg gm kp b .nil pass0 ha hdb he hpl
/-- from a def of the text -/
theorem fun_of {K : PySem.W.Frag} {x qual : Str} {st : Stmt} {f : Addr} {fd : FuncData} (F : FunD K x qual (defArgs st) (defBody st) (defScope st) [] [] f fd) : Fun K x qual st f fd := by
  obtain ⟨⟨oc, od, dV, kV, doc, pm, an, cdv, ct, osl, rfl, lk, hcd, hD, _⟩, kp⟩ := F
  rcases hD with ⟨_, rfl⟩ | ⟨e, _⟩
  · exact ⟨⟨oc, od, kV, doc, pm, an, cdv, ct, osl, rfl, lk, hcd⟩, kp⟩
  · exact absurd rfl e

/-! ### readings over one base heap -/
/-- whatever stands besides H -/
def Sg (ts : TS) (D : Ends) (σ : L2.St) (H : Hp) : Prop := ∀ H1, Ex H H1 → ts D σ H1
section
variable {K : PySem.W.Frag} {σ : L2.St} {H H' : Hp} {ta tb te tx : TE} {t u : TT} {x y z v : V} {r : R2} {D : Ends} {tu tw tz : TS} {g : TG}
theorem Sg.mono (e : Ex H H') (h : Sg tu D σ H) : Sg tu D σ H' := fun H1 a => h H1 (e.trans a)
theorem g_asg {i : Nat} (h : Ev te σ H v) (k : Sg tz D (σ.set i (some v)) H) : Sg (tSeq (tAsg te (gName i)) tz) D σ H := fun H1 e => q_asg (h.mono e) fun H2 e2 => k H2 (e.trans e2)
theorem g_asgL {i : Nat} {xs : List V} (h : EvL te σ H xs) (k : ∀ p H1, H p = none → Ex H H1 → H1 p = some (.lst xs) → Sg tz D (σ.set i (some (.ref p))) H1) : Sg (tSeq (tAsg te (gName i)) tz) D σ H :=
  fun H1 e => q_asgL (h.mono e) fun p H2 hp e2 h2 => k p H2 (fresh_back e hp) (e.trans e2) h2 H2 (Ex.refl H2)
theorem EvU.mono {xs : List V} (e : Ex H H') (h : EvU te σ H xs) : EvU te σ H' xs := fun H1 a Q q => h H1 (e.trans a) Q q
theorem g_asgU {i : Nat} {xs : List V} (h : EvU te σ H xs) (k : ∀ p H1, H p = none → Ex H H1 → H1 p = some (.tup xs) → Sg tz D (σ.set i (some (.ref p))) H1) : Sg (tSeq (tAsg te (gName i)) tz) D σ H :=
  fun H1 e => q_asgU (EvU.mono e h) fun p H2 hp e2 h2 => k p H2 (fresh_back e hp) (e.trans e2) h2 H2 (Ex.refl H2)
theorem g_ret (h : Ev te σ H v) (k : ∀ H1, Ex H H1 → D.rt v H1) : Sg (tRet te) D σ H := fun H1 e => s_ret (h.mono e) fun H2 e2 => k H2 (e.trans e2)
theorem g_retL {xs : List V} (h : EvL te σ H xs) (k : ∀ p H1, H p = none → Ex H H1 → H1 p = some (.lst xs) → D.rt (.ref p) H1) : Sg (tRet te) D σ H := fun H1 e => s_retL (h.mono e) fun p H2 hp e2 h2 => k p H2 (fresh_back e hp) (e.trans e2) h2
theorem g_retU {xs : List V} (h : EvU te σ H xs) (k : ∀ p H1, H p = none → Ex H H1 → H1 p = some (.tup xs) → D.rt (.ref p) H1) : Sg (tRet te) D σ H := fun H1 e => s_retU (EvU.mono e h) fun p H2 hp e2 h2 => k p H2 (fresh_back e hp) (e.trans e2) h2
theorem g_if {b : Bool} (h : EvT t σ H b) (h1 : b = true → Sg tu { D with nx := tz D } σ H) (h2 : b = false → Sg tw { D with nx := tz D } σ H) : Sg (tSeq (tIfS t tu tw) tz) D σ H := fun H1 e =>
  q_if (h.mono e) (fun hb H2 e2 => h1 hb H2 (e.trans e2)) fun hb H2 e2 => h2 hb H2 (e.trans e2)
/-- an if without else -/
theorem g_when {b : Bool} (h : EvT t σ H b) (h1 : b = true → Sg tu { D with nx := tz D } σ H) (h2 : b = false → Sg tz D σ H) : Sg (tSeq (tIfS t tu tNext) tz) D σ H := fun H1 e =>
  q_when (h.mono e) (fun hb H2 e2 => h1 hb H2 (e.trans e2)) fun hb H2 e2 => h2 hb H2 (e.trans e2)
/-- the last statement of a block -/
theorem g1_asg {i : Nat} (h : Ev te σ H v) (k : ∀ H1, Ex H H1 → D.nx (σ.set i (some v)) H1) : Sg (tAsg te (gName i)) D σ H := fun H1 e => s_asg (h.mono e) fun H2 e2 => k H2 (e.trans e2)
theorem g1_if {b : Bool} (h : EvT t σ H b) (h1 : b = true → Sg tu D σ H) (h2 : b = false → Sg tw D σ H) : Sg (tIfS t tu tw) D σ H := fun H1 e => s_if (h.mono e) (fun hb H2 e2 => h1 hb H2 (e.trans e2)) fun hb H2 e2 => h2 hb H2 (e.trans e2)
theorem g1_when {b : Bool} (h : EvT t σ H b) (h1 : b = true → Sg tu D σ H) (h2 : b = false → ∀ H1, Ex H H1 → D.nx σ H1) : Sg (tIfS t tu tNext) D σ H := fun H1 e => s_when (h.mono e) (fun hb H2 e2 => h1 hb H2 (e.trans e2)) fun hb H2 e2 => h2 hb H2 (e.trans e2)
theorem g_nil (k : ∀ H1, Ex H H1 → D.nx σ H1) : Sg tNext D σ H := k
/-- xs.append(e) where H knows nothing of xs: H0 the base, H the heap now -/
theorem g_drop (h : Ev te σ H v) (k : Sg tz D σ H) : Sg (tSeq (tDrop te) tz) D σ H := fun H1 e => q_drop (h.mono e) fun H2 e2 => k H2 (e.trans e2)

/-! ### evaluation -/
theorem ev_int {i : Int} (h : Ev te σ H (.int i)) : Ev (tCB (fun xs H Q => (∃ i, xs = [.int i] ∧ Q (.int i) H) ∨ ∃ k, xs = [.bl k] ∧ Q (.int (if k then 1 else 0)) H) (tCons te tNil)) σ H (.int i) :=
  ev_cb (ea_cons h ea_nil) fun H1 _ Q q => .inl ⟨i, rfl, q H1 (Ex.refl H1)⟩
theorem ev_isi {c : V} {tt uu : Value} {b : Bool} (h : Ev te σ H x) (hc : ClsV c uu) (ht : ∀ H1, Ex H H1 → TyX K H1 x tt) (hk : PySem.W.kitOne K tt uu = some b) : Ev (tCB (rIsi K) (tCons te (tCons (tC c) tNil))) σ H (.bl b) :=
  ev_cb (ea_cons h (ea_cons ev_c ea_nil)) fun H1 e Q q => ⟨x, c, tt, uu, b, rfl, hc, ht H1 e, hk, q H1 (Ex.refl H1)⟩
theorem ev_isi_int {i : Int} {n : String} {b : Bool} (h : Ev te σ H (.int i)) (hk : kitB "int" n = some b) : Ev (tCB (rIsi K) (tCons te (tCons (tC (.ty n)) tNil))) σ H (.bl b) :=
  ev_isi h (.ty n) (fun _ _ => .base (.int i)) (kit_ty hk)
theorem ev_isi_str {i : Str} {n : String} {b : Bool} (h : Ev te σ H (.str i)) (hk : kitB "str" n = some b) : Ev (tCB (rIsi K) (tCons te (tCons (tC (.ty n)) tNil))) σ H (.bl b) :=
  ev_isi h (.ty n) (fun _ _ => .base (.str i)) (kit_ty hk)
theorem ev_isi_tup {a : Addr} {xs : List V} {n : String} {b : Bool} (h : Ev te σ H (.ref a)) (ha : H a = some (.tup xs)) (hk : kitB "tuple" n = some b) : Ev (tCB (rIsi K) (tCons te (tCons (tC (.ty n)) tNil))) σ H (.bl b) :=
  ev_isi h (.ty n) (fun H1 e => .base (.tup (e _ _ ha))) (kit_ty hk)
theorem ev_isi_lst {a : Addr} {xs : List V} {n : String} {b : Bool} (h : Ev te σ H (.ref a)) (ha : H a = some (.lst xs)) (hk : kitB "list" n = some b) : Ev (tCB (rIsi K) (tCons te (tCons (tC (.ty n)) tNil))) σ H (.bl b) :=
  ev_isi h (.ty n) (fun H1 e => .base (.lst (e _ _ ha))) (kit_ty hk)
end
section
variable {H : Hp} {i j : Int}
theorem rv_mulR (h : -(2 ^ 64) < j ∧ j < 2 ^ 64) : RV (rI CMul fun i j => .int (i * j)) (.int i) (.int j) H (.int (i * j)) := rv_I (Or.inr h)
theorem rv_mulL (h : -(2 ^ 64) < i ∧ i < 2 ^ 64) : RV (rI CMul fun i j => .int (i * j)) (.int i) (.int j) H (.int (i * j)) := rv_I (Or.inl h)
theorem rv_mod (h : 0 < j) : RV (rI (fun _ j => 0 < j) fun i j => .int (i % j)) (.int i) (.int j) H (.int (i % j)) := rv_I h
theorem rv_div (h : 0 < j ∧ j < 1073741824) : RV (rI CDiv fun i j => .int (i / j)) (.int i) (.int j) H (.int (i / j)) := rv_I h
theorem rv_pow (h : 0 ≤ j ∧ j ≤ 1000000 ∧ i.natAbs < 2 ^ 64) : RV (rI CPow fun i j => .int (i ^ j.toNat)) (.int i) (.int j) H (.int (i ^ j.toNat)) := rv_I h
end
/-! ### the text's facts -/
structure Tx (gloN freeN : List Str) (fnD : List He.DefD) (ex : PySem.W.Frag → Bool) (K : PySem.W.Frag) (mg : Str → Option Value) : Prop where
  g : ∀ x ∈ gloN, mg x = some (.ref (He.ga K x))
  n : ∀ x ∈ freeN, mg x = none
  d : ∀ d ∈ fnD, ∃ fd, FunD K d.name d.qual d.params d.body d.scope (d.dvs K) (d.kws K) (He.fAd K d.at_) fd
  x : ex K = true
theorem Tx.fn {gloN freeN : List Str} {fnD : List He.DefD} {ex : PySem.W.Frag → Bool} {K : PySem.W.Frag} {mg : Str → Option Value} (T : Tx gloN freeN fnD ex K mg) (i : Nat) {x : Str} {st : Stmt} (h : fnD[i]? = some (KH.dat (x, none) x st)) : ∃ fd, Fun K x x st (He.ga K x) fd := by
  obtain ⟨fd, F⟩ := T.d _ (List.mem_of_getElem? h)
  exact ⟨fd, fun_of F⟩
theorem Tx.okF {gloN freeN : List Str} {fnD : List He.DefD} {ex : PySem.W.Frag → Bool} {K : PySem.W.Frag} {mg : Str → Option Value} {P : Program} {w : World} {base : Heap} {k : Nat} {ps : List Str} {sp : Sp} (T : Tx gloN freeN fnD ex K mg) (i : Nat) {x : Str} {st : Stmt}
    (h : fnD[i]? = some (KH.dat (x, none) x st)) (hx : x ∈ gloN) (hF : ∀ f fd, Fun K x x st f fd → FnOk P w K mg base CX0 k f fd ps sp)
    (hb : ∀ (kV doc pm : Value) (an : Option Addr) (cdv ct : Value) (us : List Value), us.length = ps.length → bindArgs (PySem.W.fnOf x x (defArgs st) (defBody st) (defScope st) .none kV doc pm an cdv ct) ⟨us, []⟩ = pure (ps.zip us)) : OkF P w K mg base k x ps sp := by
  obtain ⟨fd, F⟩ := T.fn i h
  exact ⟨_, fd, T.g x hx, F.kp, hF _ fd F, F.binds hb⟩
theorem Tx.of {n : Nat} {gloN freeN : List Str} {fnD : List He.DefD} {ex : PySem.W.Frag → Bool} {K : PySem.W.Frag} {h : Heap} {mg : Str → Option Value} (X : K.In h) (G : h.Ns mainGlobals mg) (c : He.SaysD (gloN.map He.Fa.glo ++ freeN.map He.Fa.free) fnD K) (cx : ex K = true) : Tx gloN freeN fnD ex K mg where
  g := fun x hx => He.glo_ok X G (c.facts (List.mem_append_left _ (List.mem_map_of_mem hx)))
  n := fun x hx => He.free_ok X G (c.facts (List.mem_append_right _ (List.mem_map_of_mem hx)))
  d := fun d hd => c.defs hd
  x := cx
/-! ### rules whose reading names the written part by a letter -/
section
variable {X : Cx} {K : PySem.W.Frag}
theorem k_ixl (h : X.K = K := by rfl) : IxR X (rIxL K) := by subst h; exact ix_list
theorem k_ixt (h : X.K = K := by rfl) : IxR X (rIxT K) := by subst h; exact ix_tup
theorem k_len (h : X.K = K := by rfl) : CallR X (.builtin "len") (rLenS K) := by subst h; exact call_len_seq
theorem k_isi (h : X.K = K := by rfl) : CallR X (.builtin "isinstance") (rIsi K) := by subst h; exact call_isi
theorem k_isX (h : X.K = K := by rfl) : CallR X (.builtin "isinstance") (XV.rIsX K) := by subst h; exact XV.call_isX
def rTupOf (K : PySem.W.Frag) : List V → Hp → VK → Prop := fun xs H Q => ∃ p ys, xs = [.ref p] ∧ ((SqL K H p ys ∧ ∀ l, H l = none → Q (.ref l) (upd H l (.tup ys))) ∨ (SqT K H p ys ∧ Q (.ref p) H))
theorem k_tupOf (h : X.K = K := by rfl) : CallR X (.type "tuple") (rTupOf K) := by subst h; exact call_tuple_of
theorem k_listOf (h : X.K = K := by rfl) : CallR X (.type "list") (rListS K) := by subst h; exact call_list_of
theorem k_in (h : X.K = K := by rfl) : OpR X (compareOp .In) (rIn K false) := by subst h; exact op_in_seq
theorem k_notIn (h : X.K = K := by rfl) : OpR X (compareOp .NotIn) (rIn K true) := by subst h; exact op_notIn_seq
theorem k_eqD (hu : X.A.units + 64 < cLine) (h : X.K = K := by rfl) : OpR X (compareOp .Eq) (rEqD K) := by subst h; exact op_eqD hu
theorem k_neD (hu : X.A.units + 64 < cLine) (h : X.K = K := by rfl) : OpR X (compareOp .NotEq) (rNeD K) := by subst h; exact op_neD hu
theorem k_catA (h : X.K = K := by rfl) : OpR X (binaryOp .Add) (rCatA K) := by subst h; exact op_catA
theorem k_sll (h : X.K = K := by rfl) : SlR X (rSlL K) := by subst h; exact sl_list
end
end LX
/-! own exceptions as values, over the readings -/
namespace LX
open PySem PySem.Spec PyProof.Rows L2 Evl XV
/-- a class with its own __init__ -/
structure OkC (P : Program) (w : World) (K : PySem.W.Frag) (mg : Str → Option Value) (base : Heap) (k : Nat) (x : Str) (ps : List Str) (sp : Sp) : Prop where
  g : mg x = some (.ref (He.ga K x))
  o : OexC K (He.ga K x)
  ex : ∃ (fI : Addr) (fd : FuncData), PySem.W.findIn K (.ref (He.ga K x)) "__init__" = some (some (.ref fI)) ∧ PySem.W.typeIn K (.ref fI) = some (.type "function") ∧ FnOk P w K mg base CX0 k fI fd ps sp ∧ Binds K fd ps []
theorem pe_c {X : Cx} {x : Str} {e : Expr} {es : List Expr} {p pos : Pos} {k j : Nat} {ps : List Str} {sp : Sp} {t : TA} (O : OkC X.prog X.w X.K X.mg X.base k x ps sp) (hr : Room j X.A) (hj : k + 1 ≤ j) (ha : PA X (e :: es) t) (hg : Gl X x := by rfl)
    (hdb : (x == ("__debug__" : Str)) = false := by decide) (he : starEach (e :: es) X.env = (false, eval e X.env) :: starEach es X.env := by rfl) (hpl : (backTo pos (starEach es X.env)).any (·.1) = false := by rfl) :
    PE X (.Call (.Name x p) (e :: es) [] pos) (tMkV (He.ga X.K x) sp t) := by
  obtain ⟨fI, fd, iC, tI, F, b⟩ := O.ex
  exact pe_oex O.o iC tI F (hr.mono hj) b pass0 hg O.g ha hdb he hpl
/-- a class without one -/
structure OkC0 (K : PySem.W.Frag) (mg : Str → Option Value) (x : Str) : Prop where
  g : mg x = some (.ref (He.ga K x))
  o : OexC K (He.ga K x)
  q : PySem.W.excIn K (He.ga K x) veB "ValueError.__new__" = true
def tMk0 (C : Addr) : TE := fun _ H Q => ∀ a, H a = none → Q (.ref a) (upd H a (exo a C none))
theorem pe_c0 {X : Cx} {x : Str} {p pos : Pos} (O : OkC0 X.K X.mg x) (hg : Gl X x := by rfl) (hdb : (x == ("__debug__" : Str)) = false := by decide) :
    PE X (.Call (.Name x p) [] [] pos) (tMk0 (He.ga X.K x)) := pe_ex0 O.o O.q hg O.g hdb
section
variable {K : PySem.W.Frag} {σ : L2.St} {H H' : Hp} {te : TE} {ta : TA} {D : Ends} {C a : Addr} {fs : List (Str × V)}
/-- a new exception -/
def EvX (te : TE) (σ : L2.St) (H : Hp) (C : Addr) (fs : List (Str × V)) : Prop := ∀ H1, Ex H H1 → ∀ Q : VK, (∀ p H2, H1 p = none → Ex H1 H2 → ExAt H2 p C fs → Q (.ref p) H2) → te σ H1 Q
theorem EvX.mono (e : Ex H H') (h : EvX te σ H C fs) : EvX te σ H' C fs := fun H1 a Q q => h H1 (e.trans a) Q q
theorem ev_mk0 : EvX (tMk0 C) σ H C [] := fun H1 _ Q q a ha => q a _ ha (Ex.new ha) (.inl ⟨rfl, upd_same⟩)
/-- what __init__ does of one field f -/
def spInit (K : PySem.W.Frag) (C : Addr) (f : Str) (ok : V → Hp → Prop) : Sp := fun vs H Q _ => ∃ (a : Addr) (y : V), vs = [.ref a, y] ∧ ok y H ∧ H a = some (exo a C none) ∧
  ∀ dx, H dx = none → dx ≠ a → Q .non (upd (upd H dx (exd dx [(f, y)])) a (exo a C (some dx)))
theorem ev_mkV {f : Str} {y : V} {ok : V → Hp → Prop} (h : EvA ta σ H [y]) (hy : ∀ H1, Ex H H1 → ok y H1) : EvX (tMkV C (spInit K C f ok) ta) σ H C [(f, y)] := fun H1 e1 Q q =>
  h H1 e1 _ fun H2 e2 => ⟨by show 1 ≤ 1000; decide, fun a ha => ⟨a, y, rfl, hy _ ((e1.trans e2).trans (Ex.new ha)), upd_same, fun dx hdx hne => ⟨rfl, by
    have hdx2 : H2 dx = none := by rw [upd_ne hne] at hdx; exact hdx
    refine q a _ (fresh_back e2 ha) (e2.trans ?_) (.inr ⟨dx, upd_same, ?_⟩)
    · intro b o hb
      have hba : b ≠ a := ne_of_none hb ha
      have hbd : b ≠ dx := ne_of_none hb hdx2
      rw [upd_ne hba, upd_ne hbd, upd_ne hba]
      exact hb
    · rw [upd_ne hne, upd_same]⟩⟩⟩
theorem g_retX (h : EvX te σ H C fs) (k : ∀ p H1, H p = none → Ex H H1 → ExAt H1 p C fs → D.rt (.ref p) H1) : Sg (tRet te) D σ H := fun H1 e => h H1 e _ fun p H2 hp e2 hx => k p H2 (fresh_back e hp) (e.trans e2) hx
theorem ev_isX {c : V} {cv : Value} {b : Bool} (h : Ev te σ H (.ref a)) (hE : ExAt H a C fs) (T : ExK K C) (hc : ClsV c cv) (hk : PySem.W.kitOne K (.ref C) cv = some b) : Ev (tCB (rIsX K) (tCons te (tCons (tC c) tNil))) σ H (.bl b) :=
  ev_cb (ea_cons h (ea_cons ev_c ea_nil)) fun H1 e Q q => ⟨a, C, fs, c, cv, b, rfl, ExAt.same e hE, T, hc, hk, q H1 (Ex.refl H1)⟩
theorem ev_fld {f : Str} {v : V} {dx : Addr} (h : Ev te σ H (.ref a)) (h1 : H a = some (exo a C (some dx))) (h2 : H dx = some (exd dx fs)) (T : ExK K C) (hno : PySem.W.findIn K (.ref C) f = some none) (hl : fs.lookup f = some v) : Ev (tXfV K f te) σ H v := fun H1 e Q q =>
  h H1 e _ fun H2 e2 => ⟨a, C, dx, fs, v, rfl, (e.trans e2) _ _ h1, (e.trans e2) _ _ h2, T, hno, hl, q H2 e2⟩
end
theorem Tx.okC {gloN freeN : List Str} {fnD : List He.DefD} {ex : PySem.W.Frag → Bool} {K : PySem.W.Frag} {mg : Str → Option Value} {P : Program} {w : World} {base : Heap} {k : Nat} {ps : List Str} {sp : Sp} (T : Tx gloN freeN fnD ex K mg) (i : Nat) {x q : Str} {st : Stmt}
    (h : fnD[i]? = some (KH.dat (x, some "__init__") q st)) (o : mg x = some (.ref (He.ga K x)) ∧ OexC K (He.ga K x)) (hi : PySem.W.findIn K (.ref (He.ga K x)) "__init__" = some (some (.ref (He.ma K (He.ga K x) "__init__"))) ∧ PySem.W.typeIn K (.ref (He.ma K (He.ga K x) "__init__")) = some (.type "function"))
    (hF : ∀ f fd, Fun K "__init__" q st f fd → FnOk P w K mg base CX0 k f fd ps sp)
    (hb : ∀ (kV doc pm : Value) (an : Option Addr) (cdv ct : Value) (us : List Value), us.length = ps.length → bindArgs (PySem.W.fnOf "__init__" q (defArgs st) (defBody st) (defScope st) .none kV doc pm an cdv ct) ⟨us, []⟩ = pure (ps.zip us)) : OkC P w K mg base k x ps sp := by
  obtain ⟨fd, F⟩ := T.d _ (List.mem_of_getElem? h)
  have F2 : Fun K "__init__" q st (He.ma K (He.ga K x) "__init__") fd := fun_of F
  exact ⟨o.1, o.2, _, fd, hi.1, hi.2, hF _ fd F2, F2.binds hb⟩
section
variable {K : PySem.W.Frag} {σ : L2.St} {H H' : Hp} {ta tb te : TE} {x y z v : V}
theorem el_cat {l : Addr} {xs ys : List V} (ha : Ev ta σ H (.ref l)) (hl : H l = some (.lst xs)) (hb : EvL tb σ H ys) (hz : xs.length + ys.length ≤ 100000) : EvL (tOp rCat ta tb) σ H (xs ++ ys) := fun H1 e Q q =>
  ha H1 e _ fun H2 e2 => hb H2 (e.trans e2) _ fun b H3 hb0 e3 hb3 => ⟨l, b, xs, ys, rfl, rfl, ((e.trans e2).trans e3) _ _ hl, hb3, sz_of hz, fun p hp => q p _ (fresh_back (e2.trans e3) hp) ((e2.trans e3).trans (Ex.new hp)) upd_same⟩
theorem el_catN {xs ys : List V} (ha : EvL ta σ H xs) (hb : EvL tb σ H ys) (hz : xs.length + ys.length ≤ 100000) : EvL (tOp rCat ta tb) σ H (xs ++ ys) := fun H1 e Q q =>
  ha H1 e _ fun l H2 hl0 e2 hl => hb H2 (e.trans e2) _ fun b H3 hb0 e3 hb3 => ⟨l, b, xs, ys, rfl, rfl, e3 _ _ hl, hb3, sz_of hz, fun p hp => q p _ (fresh_back (e2.trans e3) hp) ((e2.trans e3).trans (Ex.new hp)) upd_same⟩
theorem dp_ints {K : PySem.W.Frag} {H : Hp} : ∀ ns : List Int, DpAll K H (ns.map V.int) (ns.map PyData.int)
  | [] => .nil
  | n :: r => .cons (.int n) (dp_ints r)
theorem ints_lay (ns : List Int) : PyData.canLayAll0 (ns.map PyData.int) = true := by
  induction ns with
  | nil => rfl
  | cons n r ih =>
    show (PyData.canLay0 (.int n) && PyData.canLayAll0 (r.map PyData.int)) = true
    rw [ih]
    rfl
theorem ints_depth (ns : List Int) : PyData.depthAll (ns.map PyData.int) = 0 := by
  induction ns with
  | nil => rfl
  | cons n r ih =>
    show max (PyData.depth (.int n)) (PyData.depthAll (r.map PyData.int)) = 0
    rw [ih]
    rfl
theorem shaped_ints (ns : List Int) : SeqAt.shaped (.list (ns.map PyData.int)) = true := by
  show (PyData.canLayAll0 (ns.map PyData.int) && decide (PyData.depthAll (ns.map PyData.int) + 1 ≤ 64)) = true
  rw [ints_lay, ints_depth]
  rfl
theorem shaped_intsT (ns : List Int) : SeqAt.shaped (.tuple (ns.map PyData.int)) = true := shaped_ints ns
theorem eqv_ints : ∀ ns ms : List Int, PyData.eqvAll (ns.map PyData.int) (ms.map PyData.int) = decide (ns = ms)
  | [], [] => rfl
  | n :: r, [] => rfl
  | [], m :: t => rfl
  | n :: r, m :: t => by
    have e : PyData.eqvAll ((n :: r).map PyData.int) ((m :: t).map PyData.int) = ((n == m) && PyData.eqvAll (r.map PyData.int) (t.map PyData.int)) := rfl
    rw [e, eqv_ints r t]
    by_cases h : n = m
    · by_cases h2 : r = t
      · simp [h, h2]
      · simp [h, h2]
    · simp [h]
end
end LX
/-! more of evaluation: values told by a property, new tuples, calls whose arguments are new objects -/
namespace LX
open PySem PySem.Spec PyProof.Rows L2 Evl XV
section
variable {K : PySem.W.Frag} {σ : L2.St} {H H' : Hp} {ta tb te : TE} {t : TT} {tr : TA} {x y z v : V} {D : Ends} {tz : TS}
/-- a value with a property -/
def EvP (te : TE) (σ : L2.St) (H : Hp) (P : V → Prop) : Prop := ∀ H1, Ex H H1 → ∀ Q : VK, (∀ z H2, Ex H1 H2 → P z → Q z H2) → te σ H1 Q
theorem EvP.mono {P : V → Prop} (e : Ex H H') (h : EvP te σ H P) : EvP te σ H' P := fun H1 a Q q => h H1 (e.trans a) Q q
theorem Ev.p {P : V → Prop} (h : Ev te σ H v) (hp : P v) : EvP te σ H P := fun H1 e Q q => h H1 e Q fun H2 e2 => q v H2 e2 hp
def spP (D : List V → Hp → (V → Prop) → Prop) : Sp := fun vs H Q _ => ∃ Pz, D vs H Pz ∧ ∀ z H', Ex H H' → Pz z → Q z H'
theorem g_asgP {i : Nat} {P : V → Prop} (h : EvP te σ H P) (k : ∀ z, P z → Sg tz D (σ.set i (some z)) H) : Sg (tSeq (tAsg te (gName i)) tz) D σ H := fun H1 e => h H1 e _ fun z H2 e2 hz => k z hz H2 (e.trans e2)
theorem g_asgX {i : Nat} {C : Addr} {fs : List (Str × V)} (h : EvX te σ H C fs) (k : ∀ p H1, H p = none → Ex H H1 → ExAt H1 p C fs → Sg tz D (σ.set i (some (.ref p))) H1) : Sg (tSeq (tAsg te (gName i)) tz) D σ H :=
  fun H1 e => h H1 e _ fun p H2 hp e2 hx => k p H2 (fresh_back e hp) (e.trans e2) hx H2 (Ex.refl H2)
theorem g_retP {P : V → Prop} (h : EvP te σ H P) (k : ∀ z H1, Ex H H1 → P z → D.rt z H1) : Sg (tRet te) D σ H := fun H1 e => h H1 e _ fun z H2 e2 hz => k z H2 (e.trans e2) hz
/-- arguments some of which are new objects -/
def EvAP (ta : TA) (σ : L2.St) (H : Hp) (P : List V → Hp → Prop) : Prop := ∀ H1, Ex H H1 → ∀ Q : List V → Hp → Prop, (∀ vs H2, Ex H1 H2 → P vs H2 → Q vs H2) → ta σ H1 Q
theorem eap_nil : EvAP tNil σ H fun vs _ => vs = [] := fun H1 _ Q q => q [] H1 (Ex.refl H1) rfl
theorem eap_cons {P : List V → Hp → Prop} (h : Ev te σ H v) (hr : EvAP tr σ H P) : EvAP (tCons te tr) σ H fun vs H2 => ∃ r, vs = v :: r ∧ P r H2 := fun H1 e Q q =>
  h H1 e _ fun H2 e2 => hr H2 (e.trans e2) _ fun r H3 e3 hP => q _ H3 (e2.trans e3) ⟨r, rfl, hP⟩
theorem eap_consU {P : List V → Hp → Prop} {xs : List V} (h : EvU te σ H xs) (hr : EvAP tr σ H P) : EvAP (tCons te tr) σ H fun vs H2 => ∃ p r, vs = .ref p :: r ∧ H2 p = some (.tup xs) ∧ P r H2 := fun H1 e Q q =>
  h H1 e _ fun p H2 _ e2 hp => hr H2 (e.trans e2) _ fun r H3 e3 hP => q _ H3 (e2.trans e3) ⟨p, r, rfl, e3 _ _ hp, hP⟩
theorem eap_consL {P : List V → Hp → Prop} {xs : List V} (h : EvL te σ H xs) (hr : EvAP tr σ H P) : EvAP (tCons te tr) σ H fun vs H2 => ∃ p r, vs = .ref p :: r ∧ H2 p = some (.lst xs) ∧ P r H2 := fun H1 e Q q =>
  h H1 e _ fun p H2 _ e2 hp => hr H2 (e.trans e2) _ fun r H3 e3 hP => q _ H3 (e2.trans e3) ⟨p, r, rfl, e3 _ _ hp, hP⟩
theorem el_callP {sp : Sp} {E : XK} {ta : TA} {P : List V → Hp → Prop} {xs : List V} (h : EvAP ta σ H P) (hs : ∀ vs H1, Ex H H1 → P vs H1 → SpL sp vs H1 xs) : EvL (tCall sp [] E ta) σ H xs := fun H1 e Q q =>
  h H1 e _ fun vs H2 e2 hP => by
    show sp (vs ++ []) H2 Q E
    rw [List.append_nil]
    exact hs vs H2 (e.trans e2) hP H2 (Ex.refl H2) Q (fun p H3 hp e3 h3 => q p H3 (fresh_back e2 hp) (e2.trans e3) h3) E
theorem ev_callP {sp : Sp} {E : XK} {ta : TA} {P : List V → Hp → Prop} (h : EvAP ta σ H P) (hs : ∀ vs H1, Ex H H1 → P vs H1 → SpV sp vs H1 z) : Ev (tCall sp [] E ta) σ H z := fun H1 e Q q =>
  h H1 e _ fun vs H2 e2 hP => by
    show sp (vs ++ []) H2 Q E
    rw [List.append_nil]
    exact hs vs H2 (e.trans e2) hP H2 (Ex.refl H2) Q (fun H3 e3 => q H3 (e2.trans e3)) E
theorem ep_callP {Dz : List V → Hp → (V → Prop) → Prop} {E : XK} {ta : TA} {P : List V → Hp → Prop} {Pz : V → Prop} (h : EvAP ta σ H P) (hs : ∀ vs H1, Ex H H1 → P vs H1 → Dz vs H1 Pz) : EvP (tCall (spP Dz) [] E ta) σ H Pz := fun H1 e Q q =>
  h H1 e _ fun vs H2 e2 hP => by
    show spP Dz (vs ++ []) H2 Q E
    rw [List.append_nil]
    exact ⟨Pz, hs vs H2 (e.trans e2) hP, fun z H3 e3 hz => q z H3 (e2.trans e3) hz⟩
/-! texts -/
theorem ev_lenS {s : Str} (h : Ev te σ H (.str s)) (hz : s.length ≤ 100000) : Ev (tCB (fun xs H Q => ∃ z, xs = [.str z] ∧ z.length ≤ sizeLine ∧ Q (.int z.length) H) (tCons te tNil)) σ H (.int (s.length : Int)) :=
  ev_cb (ea_cons h ea_nil) fun H1 _ Q q => ⟨s, rfl, sz_of hz, q H1 (Ex.refl H1)⟩
theorem rv_addS {i j : Str} (h : i.length + j.length ≤ 100000) : RV (fun x y H Q => ∃ i j, x = .str i ∧ y = .str j ∧ i.length + j.length ≤ sizeLine ∧ Q (.str (i ++ j)) H) (.str i) (.str j) H (.str (i ++ j)) := fun H1 _ Q q => ⟨i, j, rfl, rfl, sz_of h, q H1 (Ex.refl H1)⟩
theorem ev_join {K : PySem.W.Frag} {a : Str} {ys : List Str} (h : Ev ta σ H (.str a)) (hl : EvL te σ H (ys.map V.str)) (hz : (ys.map (·.length)).sum + ys.length * a.length ≤ 16777216) :
    Ev (tM1 (fun x xs H Q => ∃ a p, ∃ ys : List Str, x = .str a ∧ xs = [.ref p] ∧ (SqL K H p (ys.map V.str) ∨ SqT K H p (ys.map V.str)) ∧ (ys.map (·.length)).sum + ys.length * a.length ≤ 16777216 ∧ Q (.str (Txt.join a ys)) H) ta te) σ H (.str (Txt.join a ys)) := fun H1 e Q q =>
  h H1 e _ fun H2 e2 => ⟨⟨a, rfl⟩, hl H2 (e.trans e2) _ fun p H3 _ e3 hp => ⟨a, p, ys, rfl, rfl, .inl (sq_of hp), hz, q H3 (e2.trans e3)⟩⟩
/-! comprehensions -/
theorem et_yes : EvT tYes σ H true := fun H1 _ _ q => q H1 (Ex.refl H1)
theorem given_all (n : Nat) (v : Nat → V) : given n (fun _ => true) v = (List.range n).map v := by
  unfold given
  rw [List.filter_eq_self.mpr fun _ _ => rfl]
/-! tuples -/
theorem eu_tupL {xs : List V} (h : EvL te σ H xs) : EvU (tCB (rTupOf K) (tCons te tNil)) σ H xs := fun H1 e Q q =>
  h H1 e _ fun p H2 hp0 e2 hp => ⟨p, xs, rfl, .inl ⟨sq_of hp, fun l hl => q l _ (fresh_back e2 hl) (e2.trans (Ex.new hl)) upd_same⟩⟩
theorem eu_catR {a : Addr} {xs ys : List V} (h1 : Ev ta σ H (.ref a)) (h2 : EvU tb σ H ys) (ha : SqT K H a xs) (hy : ys ≠ []) (hz : xs.length + ys.length ≤ 100000) : EvU (tOp (rCatA K) ta tb) σ H (xs ++ ys) := fun H1 e Q q =>
  h1 H1 e _ fun H2 e2 => h2 H2 (e.trans e2) _ fun b H3 hb0 e3 hb => ⟨a, b, xs, ys, rfl, rfl, ex_t ((e.trans e2).trans e3) ha, st_of hb, sz_of hz,
    fun hx => by
      subst hx
      exact q b H3 (fresh_back e2 hb0) (e2.trans e3) hb, fun _ h => absurd h hy, fun _ _ p hp => q p _ (fresh_back (e2.trans e3) hp) ((e2.trans e3).trans (Ex.new hp)) upd_same⟩
theorem eu_catL {b : Addr} {xs ys : List V} (h1 : EvU ta σ H xs) (h2 : Ev tb σ H (.ref b)) (hb : SqT K H b ys) (hx : xs ≠ []) (hz : xs.length + ys.length ≤ 100000) : EvU (tOp (rCatA K) ta tb) σ H (xs ++ ys) := fun H1 e Q q =>
  h1 H1 e _ fun a H2 ha0 e2 ha => h2 H2 (e.trans e2) _ fun H3 e3 => ⟨a, b, xs, ys, rfl, rfl, st_of (e3 _ _ ha), ex_t ((e.trans e2).trans e3) hb, sz_of hz,
    fun h => absurd h hx, fun _ hy => by
      subst hy
      have hq := q a H3 ha0 (e2.trans e3) (by rw [List.append_nil]; exact e3 _ _ ha)
      exact hq, fun _ _ p hp => q p _ (fresh_back (e2.trans e3) hp) ((e2.trans e3).trans (Ex.new hp)) upd_same⟩
end
end LX
/-! comprehensions of sets and dicts whose container is told by a reading of its own -/
namespace WS
open PySem PySem.Spec PyProof.Rows L2 PpSet
/-- what adding the element y to the container at D asks, and how it goes on -/
abbrev AddR := V → Hp → Addr → (Hp → Prop) → Prop
section
variable {X : Cx}
/-- {elt for target in iter if ..}: D the new set, O0 what it is told as at first -/
def tScG (O0 : Addr → HO) (add : AddR) (wi : TI) (g : TG) (tt : TT) (te : TE) (vs : List Nat) : TE := fun σ H Q => wi σ H fun J H1 => ∀ D, H1 D = none → ∃ W : Nat → Nat → Hp → Prop, (∃ m, W 0 m (upd H1 D (O0 D))) ∧ ∀ i m H, W i m H →
  (J.stop i H ∧ Q (.ref D) H) ∨ (J.go i H ∧ ∃ Nx : Hp → Prop, (∀ H', Nx H' → ∃ m', m' < m ∧ W (i + 1) m' H') ∧ ∀ x H', J.yld i H x H' → g x (wipe σ vs) H' fun σ2 H2 => wipe σ2 vs = wipe σ vs ∧ tt σ2 H2 fun b H3 =>
    if b = true then te σ2 H3 fun y H4 => add y H4 D Nx else Nx H3)
/-- set.add keeps to add, wherever X's block stands -/
def AddOk (X : Cx) (add : AddR) : Prop := ∀ (Y : Cx), Y.prog = X.prog → Y.w = X.w → Y.K = X.K → Y.A = X.A → Y.calm = X.calm → ∀ (pins : List (Addr × Obj)) (σ : L2.St) (H : Hp) (s : Shared) (D : Addr) (y : V) (u : Value) (Nx : Hp → Prop) (E : Value → Shared → Prop),
  Inv Y pins σ H s → RelV y u → add y H D Nx → wpAny (model X.prog X.w) X.A (call (.builtin "set.add") [.ref D, u]) (fun _ s' => ∃ H', Inv Y pins σ H' s' ∧ Nx H') E s
/-- the fresh set may be told so -/
def NewOk (X : Cx) (O0 : Addr → HO) : Prop := ∀ (H : Hp) (h : Heap), ObjOk X.prog X.w H (h.push { cls := .type "set", dict := none, data := .set #[] 0 (.fresh 0 0 (!X.w.params.followText "set-order")) }) h.objs.size (O0 h.objs.size)
theorem scG_core {O0 : Addr → HO} {add : AddR} {pins : List (Addr × Obj)} {s : Shared} {σ : L2.St} {H : Hp} {Q : VK} {elt tg iter : Expr} {ifs : List Expr} {scope : Scope} {own : List (PySem.Str × Nat)} {pos pos' : Pos} {wi : TI} {g : TG} {tt : TT} {te : TE} {use : Option (Value → Sem Unit)} {Qf : Value → Shared → Prop}
    (hA : AddOk X add) (h0 : NewOk X O0) (hc : X.calm = true) (hN : X.N.Nodup) (I : Inv X pins σ H s) (hi : PI X tg iter wi) (ok : BlkOk X.N X.env.scope scope own)
    (hg : ∀ (s : Shared) (H : Hp) (C : Addr) (cl : List (PySem.Str × Addr)) (fp : List Addr), PG (X.blk s H scope (compEnvC scope cl C X.env) fp) tg g) (ht : ∀ (s : Shared) (H : Hp) (C : Addr) (cl : List (PySem.Str × Addr)) (fp : List Addr), PTs (X.blk s H scope (compEnvC scope cl C X.env) fp) ifs tt)
    (he : ∀ (s : Shared) (H : Hp) (C : Addr) (cl : List (PySem.Str × Addr)) (fp : List Addr), PE (X.blk s H scope (compEnvC scope cl C X.env) fp) elt te) (hs : ∀ x, foldedSetIterable iter X.env x = pure x)
    (h : tScG O0 add wi g tt te (own.map (·.2)) σ H Q)
    (hRR : ∀ D C s' m H', Inv X pins σ H' s' → Q (.ref D) H' → s'.heap.Ns C m → FpOk X pins H' C → compPost (model X.prog X.w) X.A X.xe use Qf (.ref D) C (.ok .next) s') :
    wpAny (model X.prog X.w) X.A (comprehension (.SetComp elt [⟨tg, iter, ifs, 0⟩] scope pos) scope X.env pos' (newSet (.type "set")) false (eval iter X.env) use) Qf X.xe s := by
  have hfree : ∀ y ∈ scope.names, y.2 = .free → ∃ c, X.env.cells.lookup y.1 = some c := fun y hy e => (ok.free y hy e).elim (fun k => I.ok.has _ (.inl k)) fun k => I.ok.has _ (.inr k)
  refine wpAny_comprehension_free (use := use) rfl hs (closure_ok hfree) ok.kind (fun y hy e => by rw [ok.uniq y hy, e])
    (thn (hi.run pins s σ H _ I h) fun xv s1 hx => thn hx fun itv s2 h2 => ?_)
  obtain ⟨it, fp, tn, J, H2, rfl, I2, T, st2, f2, q⟩ := h2
  refine newSet_ok (newEnv_comp ?_)
  have hDn : H2 s2.heap.objs.size = none := I2.hok.fresh (Nat.le_refl _)
  obtain ⟨W, ⟨m0, w0⟩, turn⟩ := q _ hDn
  have hO := h0 (upd H2 s2.heap.objs.size (O0 s2.heap.objs.size)) s2.heap
  have I3 : Inv X pins σ (upd H2 s2.heap.objs.size (O0 s2.heap.objs.size)) { s2 with heap := s2.heap.push { cls := .type "set", dict := none, data := .set #[] 0 (.fresh 0 0 (!X.w.params.followText "set-order")) } } :=
    I2.laid (t' := s2.toks) (fun b o e => Heap.get?_push_of_some _ e) (Nat.le_refl _) hO
  generalize hD : s2.heap.objs.size = D at *
  generalize hs3 : ({ s2 with heap := s2.heap.push { cls := .type "set", dict := none, data := .set #[] 0 (.fresh 0 0 (!X.w.params.followText "set-order")) } } : Shared) = s3 at *
  have h3 : s3.heap = s2.heap.push { cls := .type "set", dict := none, data := .set #[] 0 (.fresh 0 0 (!X.w.params.followText "set-order")) } := by rw [← hs3]
  have sz : ∀ b ∈ fp, b < s2.heap.objs.size := fun b hb => by
    obtain ⟨o, e, _⟩ := T.obj _ _ st2 b hb
    exact Heap.lt_size e
  have f3 : ∀ b ∈ fp, FpOk X pins (upd H2 D (O0 D)) b ∧ b < s3.heap.objs.size := fun b hb => by
    have hlt := sz b hb
    refine ⟨⟨?_, (f2 b hb).2⟩, by rw [h3, Heap.size_push]; exact Nat.lt_succ_of_lt hlt⟩
    rw [upd_ne (by rw [← hD]; exact Nat.ne_of_lt hlt)]
    exact (f2 b hb).1
  have st3 : tn 0 s3.heap := T.keep _ _ _ st2 fun b _ o e => by rw [h3]; exact Heap.get?_push_of_some _ e
  have I4 := block_start I3 ok hN f3
  have pg := hg s3 (upd H2 D (O0 D)) s3.heap.objs.size (cellsFrom (s3.heap.objs.size + 1) scope.names (cloFrom X.env.cells scope.names [])) fp
  have pt := ht s3 (upd H2 D (O0 D)) s3.heap.objs.size (cellsFrom (s3.heap.objs.size + 1) scope.names (cloFrom X.env.cells scope.names [])) fp
  have pe := he s3 (upd H2 D (O0 D)) s3.heap.objs.size (cellsFrom (s3.heap.objs.size + 1) scope.names (cloFrom X.env.cells scope.names [])) fp
  show codeAny _ _ (.compStart (.SetComp elt [⟨tg, iter, ifs, 0⟩] scope pos) 0 (.ref it) (.ref D) (compEnvC scope (cellsFrom (s3.heap.objs.size + 1) scope.names (cloFrom X.env.cells scope.names [])) s3.heap.objs.size X.env)) (compPost (model X.prog X.w) X.A X.xe use Qf (.ref D) s3.heap.objs.size) { s3 with heap := pushCells (s3.heap.push { cls := .type "dict", data := .dict #[] }) scope.names }
  have nfp : ∀ b ∈ fp, (upd H2 D (O0 D)) b = none := fun b hb => (f3 b hb).1.1
  generalize hce : compEnvC scope (cellsFrom (s3.heap.objs.size + 1) scope.names (cloFrom X.env.cells scope.names [])) s3.heap.objs.size X.env = ce at I4 pg pt pe ⊢
  have cL : ce.locals = s3.heap.objs.size := by subst hce; rfl
  generalize hH3 : upd H2 D (O0 D) = H3 at I3 I4 pg pt pe w0 nfp f3
  generalize hs4 : ({ s3 with heap := pushCells (s3.heap.push { cls := .type "dict", data := .dict #[] }) scope.names } : Shared) = s4 at I4 ⊢
  have st4 : tn 0 s4.heap := T.keep _ _ _ st3 fun b _ o e => by rw [← hs4]; exact pushCells_keeps _ _ _ _ (Heap.get?_push_of_some _ e)
  have stat : ∀ {σ' : L2.St} {H' : Hp} {s' : Shared}, Inv (X.blk s3 H3 scope ce fp) [] σ' H' s' → (∀ b ∈ fp, H' b = none) → ∀ b ∈ fp, FpOk (X.blk s3 H3 scope ce fp) [] H' b := fun {σ' H' s'} I' hn b hb =>
    ⟨hn b hb, (I'.ok.exf b hb).1, I'.ok.exfs b hb, .inl hb, fun x c e => (I'.ok.exf b hb).2 x c e, fun p hp => absurd (show p ∈ ([] : List (Addr × Obj)) ++ [] from hp) (by simp)⟩
  have loop : codeAny (model X.prog X.w) X.A (.compLoop (.SetComp elt [⟨tg, iter, ifs, 0⟩] scope pos) 0 (.ref it) (.ref D) ce) (compPost (model X.prog X.w) X.A X.xe use Qf (.ref D) s3.heap.objs.size) s4 := by
    refine compLoopS_any (fun n s' => ∃ i H', Inv (X.blk s3 H3 scope ce fp) [] (wipe σ (own.map (·.2))) H' s' ∧ tn i s'.heap ∧ (∀ b ∈ fp, H' b = none) ∧ W i n H') ?_ m0 ⟨0, H3, I4, st4, nfp, w0⟩
    rintro n s5 ⟨i, H5, I5, st5, n5, w5⟩
    rcases turn i n H5 w5 with ⟨stop, qq⟩ | ⟨go, Nx, hNx, step⟩
    · have td := T.done (X.blk s3 H3 scope ce fp) rfl rfl rfl hc i [] s5 _ H5 (fun _ _ => False) I5 (stat I5 n5) st5 stop
      refine thnF td fun r s6 ⟨hr, I6⟩ => ?_
      subst hr
      have I7 : Inv X pins σ H5 s6 := I3.call' (ch := fp) I6.os I6.base I6.hok I6.bare fun b hb => ⟨(f3 b hb).1.2.2.2.1, (f3 b hb).1.2.1, (f3 b hb).1.2.2.2.2.1, (f3 b hb).1.2.2.2.2.2⟩
      have nC : H5 s3.heap.objs.size = none := by
        have z : H5 ce.locals = none := I6.free
        rw [cL] at z
        exact z
      obtain ⟨m, hn, _⟩ := I6.loc
      have hn : s6.heap.Ns ce.locals m := hn
      rw [cL] at hn
      exact hRR D s3.heap.objs.size s6 m H5 I7 qq hn (I3.fpOk (Nat.le_refl _) nC)
    · have ti := T.item (X.blk s3 H3 scope ce fp) rfl rfl rfl hc i [] s5 _ H5 (fun _ _ => False) I5 (stat I5 n5) st5 go
      refine thnF ti fun r s6 ⟨u, hr, h6⟩ => ?_
      subst hr
      refine thnF h6 fun _ s7 ⟨x, H7, I7, r7, y7, st7, n7⟩ => ?_
      have I7' := I7.pinned (stat I7 n7) (T.obj _ _ st7)
      refine thnF (pg.run _ s7 _ H7 x u _ I7' r7 (step x H7 y7)) fun _ s8 ⟨σ8, H8, I8, hw8, q8⟩ => ?_
      refine thnF (pt.run _ s8 σ8 H8 _ I8 q8) fun b s9 ⟨H9, I9, q9⟩ => ?_
      have fin : ∀ {s' : Shared} {H' : Hp}, Inv (X.blk s3 H3 scope ce fp) ([] ++ pinsAt fp s7.heap) σ8 H' s' → Nx H' → ∃ m, m < n ∧ ∃ i H', Inv (X.blk s3 H3 scope ce fp) [] (wipe σ (own.map (·.2))) H' s' ∧ tn i s'.heap ∧ (∀ b ∈ fp, H' b = none) ∧ W i m H' := fun {s' H'} I' nx => by
        obtain ⟨m', hm, w'⟩ := hNx H' nx
        have pin' : ∀ b ∈ fp, ∀ o, s7.heap.get? b = some o → s'.heap.get? b = some o ∧ H' b = none := fun b hb o e =>
          let z := I'.pin (b, o) (List.mem_append_right _ (List.mem_append_right _ (mem_pinsAt hb e)))
          ⟨z.1, z.2.1⟩
        have hl : (wipe σ (own.map (·.2))).length = σ8.length := by rw [← hw8, wipe_length]
        refine ⟨m', hm, i + 1, H', (I'.unpinned (pins := [])).weak hl (fun j v e => ?_), T.keep _ _ _ st7 fun b hb o e => (pin' b hb o e).1, fun b hb => ?_, w'⟩
        · rw [← hw8] at e
          exact (wipe_some e).1
        · obtain ⟨o, e, _⟩ := T.obj _ _ st7 b hb
          exact (pin' b hb o e).2
      cases b with
      | false =>
        simp only [Bool.false_eq_true, if_false] at q9 ⊢
        exact fin I9 q9
      | true =>
        simp only [if_true] at q9 ⊢
        refine thnF (pe.run _ s9 σ8 H9 _ I9 q9) fun z s10 ⟨yv, H10, I10, r10, ad⟩ => ?_
        exact wpAny_mono (hA (X.blk s3 H3 scope ce fp) rfl rfl rfl rfl rfl _ _ _ _ _ _ _ _ _ I10 r10 ad) (fun _ s11 ⟨H11, I11, nx⟩ => fin I11 nx) fun _ _ z => z
  exact codeAny_compStart_set loop (T.self X.A 0 _ _ _ st4 loop)
theorem pe_scG {O0 : Addr → HO} {add : AddR} {elt tg iter : Expr} {ifs : List Expr} {scope : Scope} {own : List (PySem.Str × Nat)} {pos : Pos} {wi : TI} {g : TG} {tt : TT} {te : TE} (hA : AddOk X add) (h0 : NewOk X O0) (hc : X.calm = true) (hN : X.N.Nodup) (hi : PI X tg iter wi) (ok : BlkOk X.N X.env.scope scope own)
    (hg : ∀ (s : Shared) (H : Hp) (C : Addr) (cl : List (PySem.Str × Addr)) (fp : List Addr), PG (X.blk s H scope (compEnvC scope cl C X.env) fp) tg g) (ht : ∀ (s : Shared) (H : Hp) (C : Addr) (cl : List (PySem.Str × Addr)) (fp : List Addr), PTs (X.blk s H scope (compEnvC scope cl C X.env) fp) ifs tt)
    (he : ∀ (s : Shared) (H : Hp) (C : Addr) (cl : List (PySem.Str × Addr)) (fp : List Addr), PE (X.blk s H scope (compEnvC scope cl C X.env) fp) elt te) (hs : ∀ x, foldedSetIterable iter X.env x = pure x := by intro _; rfl) :
    PE X (.SetComp elt [⟨tg, iter, ifs, 0⟩] scope pos) (tScG O0 add wi g tt te (own.map (·.2))) := by
  refine ⟨fun pins s σ H Q I h => ?_⟩
  rw [eval_SetComp]
  refine scG_core hA h0 hc hN I hi ok hg ht he hs h fun D C s' m H' I' q hn f => ⟨m, hn, fun h'' sb => ?_⟩
  obtain ⟨f0, f1, f2, f3, f4, f5⟩ := f
  exact ⟨.ref D, H', I'.turned (t' := s'.toks) (fun b o hb e => (sb.2 b hb).trans e) f0 f1 f3 f4 f5, rfl, q⟩
end
end WS
/-! sets of tuples of ints by a comprehension -/
namespace WS
open PySem PySem.Spec PyProof.Rows L2 PpSet
section
variable {X : Cx}
/-- the set's members, told by the addresses and the ints -/
def addTup (K : PySem.W.Frag) (P : Program) (w : World) : AddR := fun y H D Nx => ∃ (b : Addr) (k : List Int) (L : List (Addr × List Int)), y = .ref b ∧ SqT K H b (k.map V.int) ∧ H D = some (SetTO P w D L) ∧ (∀ p ∈ L, SqT K H p.1 (p.2.map V.int)) ∧ L.length + 1 < 64 ∧
  (∀ L', (k ∈ L.map (·.2) → L' = L) → (k ∉ L.map (·.2) → L'.Perm ((b, k) :: L)) → Nx (upd H D (SetTO P w D L')))
theorem addTup_ok (hu : X.A.units + 64 < cLine) : AddOk X (addTup X.K X.prog X.w) := by
  intro Y hP hw hK hA hcm pins σ H s D y u Nx E I r h
  obtain ⟨b, k, L, rfl, hb, hD, hL, hfew, q⟩ := h
  obtain rfl : u = Value.ref b := r
  have R0 : SetT0 X.prog X.w s.heap D L := (I.hok D _ hD).1
  rw [← hP, ← hw] at R0 ⊢
  rw [← hA] at hu ⊢
  rw [← hK] at hb hL
  obtain ⟨es, ep, t, R⟩ := R0.full fun p hp => I.isT (hL p hp)
  have hx := I.isT hb
  have hT : s.TypeIs (.ref D) "set" := by
    obtain ⟨o, ho, hex, _⟩ := R.ob
    exact ⟨o, ho, hex.1⟩
  refine wpAny_call_entry F.slot_set_add hT F.entry_set_add ?_ (F.args_set_add_2 _ _)
  unfold Builtin.«set.add» Builtin.Frozenset.oneOther
  simp only [List.isEmpty_nil, bind_assoc]
  unfold Builtin.Frozenset.addrOf setAdd
  refine wpAny_bind (wpAny_pure ?_)
  try dsimp only
  refine wpAny_bind (wpAny_pure ?_)
  try dsimp only
  refine wpAny_bind ?_
  refine wpAny_holding ?_
  refine wpAny_bind (wpAny_pyHash_tuple (by have := hu; simp only [Around.in1_units]; omega) hx ?_)
  have R' : SetTR Y.prog Y.w ({ s with toks := s.toks + (k.length + 1) } : Shared).heap D L es ep t := R
  refine add_at (s := { s with toks := s.toks + (k.length + 1) }) R' hx (by have := hu; simp only [Around.in1_units]; omega) hfew fun c h' L' es' ep' t' sb R2 c1 c2 => ?_
  show wpAny _ _ (ret Value.none) _ _ _
  have he : ∃ q, h'.get? D = some q := let ⟨o, ho, _⟩ := R2.ob; ⟨o, ho⟩
  refine wpAny_pure ⟨_, rfl, upd H D (SetTO X.prog X.w D L'), ?_, q L' c1 c2⟩
  have nw := setTO_new (H := upd H D (SetTO Y.prog Y.w D L')) R2.t0
  rw [hP, hw] at nw
  refine I.write (x := D) (e := D) (t' := s.toks + (k.length + 1)) (by rw [hD]; trivial) (.inl rfl) (fun a q hb' z => (sb.2 a hb').trans z) he ?_
  rw [hP, hw]
  exact nw
theorem newTup_ok : NewOk X fun a => SetTO X.prog X.w a [] := fun H h => setTO_new (setTR_fresh (Heap.get?_push_size _ rfl)).t0
/-- over a list that the block leaves as it is -/
theorem scG_list {O0 : Addr → HO} {add : AddR} {K : PySem.W.Frag} {a : Addr} {xs : List V} {g : TG} {tt : TT} {te : TE} {vs : List Nat} {σ : L2.St} {H1 : Hp} {D : Addr} {Qd : Hp → Prop} (Pv : Nat → Hp → Prop) (h0 : Pv 0 (upd H1 D (O0 D))) (hl : ∀ i H, i ≤ xs.length → Pv i H → SqL K H a xs)
    (hs : ∀ i x H, xs[i]? = some x → Pv i H → g x (wipe σ vs) H fun σ2 H2 => wipe σ2 vs = wipe σ vs ∧ tt σ2 H2 fun b H3 =>
      if b = true then te σ2 H3 fun y H4 => add y H4 D (Pv (i + 1)) else Pv (i + 1) H3) (hd : ∀ H, Pv xs.length H → Qd H) :
    ∃ W : Nat → Nat → Hp → Prop, (∃ m, W 0 m (upd H1 D (O0 D))) ∧ ∀ i m H, W i m H →
      ((Itl K a).stop i H ∧ Qd H) ∨ ((Itl K a).go i H ∧ ∃ Nx : Hp → Prop, (∀ H', Nx H' → ∃ m', m' < m ∧ W (i + 1) m' H') ∧ ∀ x H', (Itl K a).yld i H x H' → g x (wipe σ vs) H' fun σ2 H2 => wipe σ2 vs = wipe σ vs ∧ tt σ2 H2 fun b H3 =>
        if b = true then te σ2 H3 fun y H4 => add y H4 D Nx else Nx H3) := by
  refine ⟨fun i m H => m = xs.length - i ∧ i ≤ xs.length ∧ Pv i H, ⟨xs.length, by simp, Nat.zero_le _, h0⟩, ?_⟩
  rintro i m H ⟨rfl, hi, p⟩
  have q := hl i H hi p
  by_cases hlt : i < xs.length
  · refine .inr ⟨⟨xs, xs[i], q, by simp [hlt]⟩, Pv (i + 1), fun H' p' => ⟨xs.length - (i + 1), by omega, rfl, hlt, p'⟩, fun x H' y => ?_⟩
    obtain ⟨e, y⟩ := y
    subst e
    exact hs i x _ (y xs q) p
  · have e : i = xs.length := by omega
    subst e
    exact .inl ⟨⟨xs, q, Nat.le_refl _⟩, hd H p⟩
theorem scG_tup {O0 : Addr → HO} {add : AddR} {K : PySem.W.Frag} {a : Addr} {xs : List V} {g : TG} {tt : TT} {te : TE} {vs : List Nat} {σ : L2.St} {H1 : Hp} {D : Addr} {Qd : Hp → Prop} (Pv : Nat → Hp → Prop) (h0 : Pv 0 (upd H1 D (O0 D))) (hl : ∀ i H, i ≤ xs.length → Pv i H → SqT K H a xs)
    (hs : ∀ i x H, xs[i]? = some x → Pv i H → g x (wipe σ vs) H fun σ2 H2 => wipe σ2 vs = wipe σ vs ∧ tt σ2 H2 fun b H3 =>
      if b = true then te σ2 H3 fun y H4 => add y H4 D (Pv (i + 1)) else Pv (i + 1) H3) (hd : ∀ H, Pv xs.length H → Qd H) :
    ∃ W : Nat → Nat → Hp → Prop, (∃ m, W 0 m (upd H1 D (O0 D))) ∧ ∀ i m H, W i m H →
      ((Itt K a).stop i H ∧ Qd H) ∨ ((Itt K a).go i H ∧ ∃ Nx : Hp → Prop, (∀ H', Nx H' → ∃ m', m' < m ∧ W (i + 1) m' H') ∧ ∀ x H', (Itt K a).yld i H x H' → g x (wipe σ vs) H' fun σ2 H2 => wipe σ2 vs = wipe σ vs ∧ tt σ2 H2 fun b H3 =>
        if b = true then te σ2 H3 fun y H4 => add y H4 D Nx else Nx H3) := by
  refine ⟨fun i m H => m = xs.length - i ∧ i ≤ xs.length ∧ Pv i H, ⟨xs.length, by simp, Nat.zero_le _, h0⟩, ?_⟩
  rintro i m H ⟨rfl, hi, p⟩
  have q := hl i H hi p
  by_cases hlt : i < xs.length
  · refine .inr ⟨⟨xs, xs[i], q, by simp [hlt]⟩, Pv (i + 1), fun H' p' => ⟨xs.length - (i + 1), by omega, rfl, hlt, p'⟩, fun x H' y => ?_⟩
    obtain ⟨e, y⟩ := y
    subst e
    exact hs i x _ (y xs q) p
  · have e : i = xs.length := by omega
    subst e
    exact .inl ⟨⟨xs, q, Nat.le_refl _⟩, hd H p⟩
end
end WS
/-! comprehensions of dicts whose container is told by a reading of its own; dicts with nested keys -/
namespace WS
open PySem PySem.Spec PyProof.Rows L2 PpSet
/-- what putting z at the key y of the container at D asks, and how it goes on -/
abbrev PutR := V → V → Hp → Addr → (Hp → Prop) → Prop
section
variable {X : Cx}
def tDcG (O0 : Addr → HO) (put : PutR) (wi : TI) (g : TG) (tt : TT) (tk tv : TE) (vs : List Nat) : TE := fun σ H Q => wi σ H fun J H1 => ∀ D, H1 D = none → ∃ W : Nat → Nat → Hp → Prop, (∃ m, W 0 m (upd H1 D (O0 D))) ∧ ∀ i m H, W i m H →
  (J.stop i H ∧ Q (.ref D) H) ∨ (J.go i H ∧ ∃ Nx : Hp → Prop, (∀ H', Nx H' → ∃ m', m' < m ∧ W (i + 1) m' H') ∧ ∀ x H', J.yld i H x H' → g x (wipe σ vs) H' fun σ2 H2 => wipe σ2 vs = wipe σ vs ∧ tt σ2 H2 fun b H3 =>
    if b = true then tk σ2 H3 fun y H4 => tv σ2 H4 fun z H5 => put y z H5 D Nx else Nx H3)
def PutOk (X : Cx) (put : PutR) : Prop := ∀ (Y : Cx), Y.prog = X.prog → Y.w = X.w → Y.K = X.K → Y.A = X.A → Y.calm = X.calm → ∀ (pins : List (Addr × Obj)) (σ : L2.St) (H : Hp) (s : Shared) (D : Addr) (y z : V) (u r : Value) (Nx : Hp → Prop) (E : Value → Shared → Prop),
  Inv Y pins σ H s → RelV y u → RelV z r → put y z H D Nx → wpAny (model X.prog X.w) X.A (dictSet D u r) (fun _ s' => ∃ H', Inv Y pins σ H' s' ∧ Nx H') E s
def NewDOk (X : Cx) (O0 : Addr → HO) : Prop := ∀ (H : Hp) (h : Heap), sysModules < h.objs.size → ObjOk X.prog X.w H (h.push { cls := .type "dict", data := .dict #[] }) h.objs.size (O0 h.objs.size)
theorem dcG_core {O0 : Addr → HO} {put : PutR} {pins : List (Addr × Obj)} {s : Shared} {σ : L2.St} {H : Hp} {Q : VK} {kx vx tg iter : Expr} {ifs : List Expr} {scope : Scope} {own : List (PySem.Str × Nat)} {pos pos' : Pos} {wi : TI} {g : TG} {tt : TT} {tk tv : TE} {use : Option (Value → Sem Unit)} {Qf : Value → Shared → Prop}
    (hA : PutOk X put) (h0 : NewDOk X O0) (hc : X.calm = true) (hN : X.N.Nodup) (I : Inv X pins σ H s) (hi : PI X tg iter wi) (ok : BlkOk X.N X.env.scope scope own)
    (hg : ∀ (s : Shared) (H : Hp) (C : Addr) (cl : List (PySem.Str × Addr)) (fp : List Addr), PG (X.blk s H scope (compEnvC scope cl C X.env) fp) tg g) (ht : ∀ (s : Shared) (H : Hp) (C : Addr) (cl : List (PySem.Str × Addr)) (fp : List Addr), PTs (X.blk s H scope (compEnvC scope cl C X.env) fp) ifs tt)
    (hk : ∀ (s : Shared) (H : Hp) (C : Addr) (cl : List (PySem.Str × Addr)) (fp : List Addr), PE (X.blk s H scope (compEnvC scope cl C X.env) fp) kx tk)
    (he : ∀ (s : Shared) (H : Hp) (C : Addr) (cl : List (PySem.Str × Addr)) (fp : List Addr), PE (X.blk s H scope (compEnvC scope cl C X.env) fp) vx tv) (hs : ∀ x, foldedSetIterable iter X.env x = pure x)
    (h : tDcG O0 put wi g tt tk tv (own.map (·.2)) σ H Q)
    (hRR : ∀ D C s' m H', Inv X pins σ H' s' → Q (.ref D) H' → s'.heap.Ns C m → FpOk X pins H' C → compPost (model X.prog X.w) X.A X.xe use Qf (.ref D) C (.ok .next) s') :
    wpAny (model X.prog X.w) X.A (comprehension (.DictComp kx vx [⟨tg, iter, ifs, 0⟩] scope pos) scope X.env pos' newDict false (eval iter X.env) use) Qf X.xe s := by
  have hfree : ∀ y ∈ scope.names, y.2 = .free → ∃ c, X.env.cells.lookup y.1 = some c := fun y hy e => (ok.free y hy e).elim (fun k => I.ok.has _ (.inl k)) fun k => I.ok.has _ (.inr k)
  refine wpAny_comprehension_free (use := use) rfl hs (closure_ok hfree) ok.kind (fun y hy e => by rw [ok.uniq y hy, e])
    (thn (hi.run pins s σ H _ I h) fun xv s1 hx => thn hx fun itv s2 h2 => ?_)
  obtain ⟨it, fp, tn, J, H2, rfl, I2, T, st2, f2, q⟩ := h2
  refine wpAny_newObj_type (newEnv_comp ?_)
  have hDn : H2 s2.heap.objs.size = none := I2.hok.fresh (Nat.le_refl _)
  obtain ⟨W, ⟨m0, w0⟩, turn⟩ := q _ hDn
  have hO := h0 (upd H2 s2.heap.objs.size (O0 s2.heap.objs.size)) s2.heap I2.big
  have I3 : Inv X pins σ (upd H2 s2.heap.objs.size (O0 s2.heap.objs.size)) { s2 with heap := s2.heap.push { cls := .type "dict", data := .dict #[] } } :=
    I2.laid (t' := s2.toks) (fun b o e => Heap.get?_push_of_some _ e) (Nat.le_refl _) hO
  generalize hD : s2.heap.objs.size = D at *
  generalize hs3 : ({ s2 with heap := s2.heap.push { cls := .type "dict", data := .dict #[] } } : Shared) = s3 at *
  have h3 : s3.heap = s2.heap.push { cls := .type "dict", data := .dict #[] } := by rw [← hs3]
  have sz : ∀ b ∈ fp, b < s2.heap.objs.size := fun b hb => by
    obtain ⟨o, e, _⟩ := T.obj _ _ st2 b hb
    exact Heap.lt_size e
  have f3 : ∀ b ∈ fp, FpOk X pins (upd H2 D (O0 D)) b ∧ b < s3.heap.objs.size := fun b hb => by
    have hlt := sz b hb
    refine ⟨⟨?_, (f2 b hb).2⟩, by rw [h3, Heap.size_push]; exact Nat.lt_succ_of_lt hlt⟩
    rw [upd_ne (by rw [← hD]; exact Nat.ne_of_lt hlt)]
    exact (f2 b hb).1
  have st3 : tn 0 s3.heap := T.keep _ _ _ st2 fun b _ o e => by rw [h3]; exact Heap.get?_push_of_some _ e
  have I4 := block_start I3 ok hN f3
  have pg := hg s3 (upd H2 D (O0 D)) s3.heap.objs.size (cellsFrom (s3.heap.objs.size + 1) scope.names (cloFrom X.env.cells scope.names [])) fp
  have pt := ht s3 (upd H2 D (O0 D)) s3.heap.objs.size (cellsFrom (s3.heap.objs.size + 1) scope.names (cloFrom X.env.cells scope.names [])) fp
  have pk := hk s3 (upd H2 D (O0 D)) s3.heap.objs.size (cellsFrom (s3.heap.objs.size + 1) scope.names (cloFrom X.env.cells scope.names [])) fp
  have pe := he s3 (upd H2 D (O0 D)) s3.heap.objs.size (cellsFrom (s3.heap.objs.size + 1) scope.names (cloFrom X.env.cells scope.names [])) fp
  show codeAny _ _ (.compStart (.DictComp kx vx [⟨tg, iter, ifs, 0⟩] scope pos) 0 (.ref it) (.ref D) (compEnvC scope (cellsFrom (s3.heap.objs.size + 1) scope.names (cloFrom X.env.cells scope.names [])) s3.heap.objs.size X.env)) (compPost (model X.prog X.w) X.A X.xe use Qf (.ref D) s3.heap.objs.size) { s3 with heap := pushCells (s3.heap.push { cls := .type "dict", data := .dict #[] }) scope.names }
  have nfp : ∀ b ∈ fp, (upd H2 D (O0 D)) b = none := fun b hb => (f3 b hb).1.1
  generalize hce : compEnvC scope (cellsFrom (s3.heap.objs.size + 1) scope.names (cloFrom X.env.cells scope.names [])) s3.heap.objs.size X.env = ce at I4 pg pt pk pe ⊢
  have cL : ce.locals = s3.heap.objs.size := by subst hce; rfl
  generalize hH3 : upd H2 D (O0 D) = H3 at I3 I4 pg pt pk pe w0 nfp f3
  generalize hs4 : ({ s3 with heap := pushCells (s3.heap.push { cls := .type "dict", data := .dict #[] }) scope.names } : Shared) = s4 at I4 ⊢
  have st4 : tn 0 s4.heap := T.keep _ _ _ st3 fun b _ o e => by rw [← hs4]; exact pushCells_keeps _ _ _ _ (Heap.get?_push_of_some _ e)
  have stat : ∀ {σ' : L2.St} {H' : Hp} {s' : Shared}, Inv (X.blk s3 H3 scope ce fp) [] σ' H' s' → (∀ b ∈ fp, H' b = none) → ∀ b ∈ fp, FpOk (X.blk s3 H3 scope ce fp) [] H' b := fun {σ' H' s'} I' hn b hb =>
    ⟨hn b hb, (I'.ok.exf b hb).1, I'.ok.exfs b hb, .inl hb, fun x c e => (I'.ok.exf b hb).2 x c e, fun p hp => absurd (show p ∈ ([] : List (Addr × Obj)) ++ [] from hp) (by simp)⟩
  have loop : codeAny (model X.prog X.w) X.A (.compLoop (.DictComp kx vx [⟨tg, iter, ifs, 0⟩] scope pos) 0 (.ref it) (.ref D) ce) (compPost (model X.prog X.w) X.A X.xe use Qf (.ref D) s3.heap.objs.size) s4 := by
    refine compLoop_anyD (fun n s' => ∃ i H', Inv (X.blk s3 H3 scope ce fp) [] (wipe σ (own.map (·.2))) H' s' ∧ tn i s'.heap ∧ (∀ b ∈ fp, H' b = none) ∧ W i n H') ?_ m0 ⟨0, H3, I4, st4, nfp, w0⟩
    rintro n s5 ⟨i, H5, I5, st5, n5, w5⟩
    rcases turn i n H5 w5 with ⟨stop, qq⟩ | ⟨go, Nx, hNx, step⟩
    · have td := T.done (X.blk s3 H3 scope ce fp) rfl rfl rfl hc i [] s5 _ H5 (fun _ _ => False) I5 (stat I5 n5) st5 stop
      refine thnF td fun r s6 ⟨hr, I6⟩ => ?_
      subst hr
      have I7 : Inv X pins σ H5 s6 := I3.call' (ch := fp) I6.os I6.base I6.hok I6.bare fun b hb => ⟨(f3 b hb).1.2.2.2.1, (f3 b hb).1.2.1, (f3 b hb).1.2.2.2.2.1, (f3 b hb).1.2.2.2.2.2⟩
      have nC : H5 s3.heap.objs.size = none := by
        have z : H5 ce.locals = none := I6.free
        rw [cL] at z
        exact z
      obtain ⟨m, hn, _⟩ := I6.loc
      have hn : s6.heap.Ns ce.locals m := hn
      rw [cL] at hn
      exact hRR D s3.heap.objs.size s6 m H5 I7 qq hn (I3.fpOk (Nat.le_refl _) nC)
    · have ti := T.item (X.blk s3 H3 scope ce fp) rfl rfl rfl hc i [] s5 _ H5 (fun _ _ => False) I5 (stat I5 n5) st5 go
      refine thnF ti fun r s6 ⟨u, hr, h6⟩ => ?_
      subst hr
      refine thnF h6 fun _ s7 ⟨x, H7, I7, r7, y7, st7, n7⟩ => ?_
      have I7' := I7.pinned (stat I7 n7) (T.obj _ _ st7)
      refine thnF (pg.run _ s7 _ H7 x u _ I7' r7 (step x H7 y7)) fun _ s8 ⟨σ8, H8, I8, hw8, q8⟩ => ?_
      refine thnF (pt.run _ s8 σ8 H8 _ I8 q8) fun b s9 ⟨H9, I9, q9⟩ => ?_
      have fin : ∀ {s' : Shared} {H' : Hp}, Inv (X.blk s3 H3 scope ce fp) ([] ++ pinsAt fp s7.heap) σ8 H' s' → Nx H' → ∃ m, m < n ∧ ∃ i H', Inv (X.blk s3 H3 scope ce fp) [] (wipe σ (own.map (·.2))) H' s' ∧ tn i s'.heap ∧ (∀ b ∈ fp, H' b = none) ∧ W i m H' := fun {s' H'} I' nx => by
        obtain ⟨m', hm, w'⟩ := hNx H' nx
        have pin' : ∀ b ∈ fp, ∀ o, s7.heap.get? b = some o → s'.heap.get? b = some o ∧ H' b = none := fun b hb o e =>
          let z := I'.pin (b, o) (List.mem_append_right _ (List.mem_append_right _ (mem_pinsAt hb e)))
          ⟨z.1, z.2.1⟩
        have hl : (wipe σ (own.map (·.2))).length = σ8.length := by rw [← hw8, wipe_length]
        refine ⟨m', hm, i + 1, H', (I'.unpinned (pins := [])).weak hl (fun j v e => ?_), T.keep _ _ _ st7 fun b hb o e => (pin' b hb o e).1, fun b hb => ?_, w'⟩
        · rw [← hw8] at e
          exact (wipe_some e).1
        · obtain ⟨o, e, _⟩ := T.obj _ _ st7 b hb
          exact (pin' b hb o e).2
      cases b with
      | false =>
        simp only [Bool.false_eq_true, if_false] at q9 ⊢
        exact fin I9 q9
      | true =>
        simp only [if_true] at q9 ⊢
        refine thnF (pk.run _ s9 σ8 H9 _ I9 q9) fun z s10 ⟨yk, H10, I10, r10, q10⟩ => ?_
        refine thnF (pe.run _ s10 σ8 H10 _ I10 q10) fun z2 s11 ⟨yv, H11, I11, r11, ad⟩ => ?_
        exact wpAny_mono (hA (X.blk s3 H3 scope ce fp) rfl rfl rfl rfl rfl _ _ _ _ _ _ _ _ _ _ _ I11 r10 r11 ad) (fun _ s12 ⟨H12, I12, nx⟩ => fin I12 nx) fun _ _ z => z
  exact codeAny_compStart_dict loop (T.self X.A 0 _ _ _ st4 loop)
theorem pe_dcG {O0 : Addr → HO} {put : PutR} {kx vx tg iter : Expr} {ifs : List Expr} {scope : Scope} {own : List (PySem.Str × Nat)} {pos : Pos} {wi : TI} {g : TG} {tt : TT} {tk tv : TE} (hA : PutOk X put) (h0 : NewDOk X O0) (hc : X.calm = true) (hN : X.N.Nodup) (hi : PI X tg iter wi) (ok : BlkOk X.N X.env.scope scope own)
    (hg : ∀ (s : Shared) (H : Hp) (C : Addr) (cl : List (PySem.Str × Addr)) (fp : List Addr), PG (X.blk s H scope (compEnvC scope cl C X.env) fp) tg g) (ht : ∀ (s : Shared) (H : Hp) (C : Addr) (cl : List (PySem.Str × Addr)) (fp : List Addr), PTs (X.blk s H scope (compEnvC scope cl C X.env) fp) ifs tt)
    (hk : ∀ (s : Shared) (H : Hp) (C : Addr) (cl : List (PySem.Str × Addr)) (fp : List Addr), PE (X.blk s H scope (compEnvC scope cl C X.env) fp) kx tk)
    (he : ∀ (s : Shared) (H : Hp) (C : Addr) (cl : List (PySem.Str × Addr)) (fp : List Addr), PE (X.blk s H scope (compEnvC scope cl C X.env) fp) vx tv) (hs : ∀ x, foldedSetIterable iter X.env x = pure x := by intro _; rfl) :
    PE X (.DictComp kx vx [⟨tg, iter, ifs, 0⟩] scope pos) (tDcG O0 put wi g tt tk tv (own.map (·.2))) := by
  refine ⟨fun pins s σ H Q I h => ?_⟩
  rw [arm_eval_DictComp]
  refine dcG_core hA h0 hc hN I hi ok hg ht hk he hs h fun D C s' m H' I' q hn f => ⟨m, hn, fun h'' sb => ?_⟩
  obtain ⟨f0, f1, f2, f3, f4, f5⟩ := f
  exact ⟨.ref D, H', I'.turned (t' := s'.toks) (fun b o hb e => (sb.2 b hb).trans e) f0 f1 f3 f4 f5, rfl, q⟩
end
/-! ### dicts whose keys are nested tuples of whole numbers and texts -/
mutual
inductive NK (K : PySem.W.Frag) (H : Hp) : V → NestedKey → Prop
  | num (i : Int) : NK K H (.int i) (.num i)
  | text (s : Str) : NK K H (.str s) (.text s)
  | tup {a : Addr} {xs : List V} {ks : List NestedKey} : SqT K H a xs → NKs K H xs ks → NK K H (.ref a) (.tup ks)
inductive NKs (K : PySem.W.Frag) (H : Hp) : List V → List NestedKey → Prop
  | nil : NKs K H [] []
  | cons {x : V} {k : NestedKey} {xs : List V} {ks : List NestedKey} : NK K H x k → NKs K H xs ks → NKs K H (x :: xs) (k :: ks)
end
section
variable {X : Cx} {pins : List (Addr × Obj)} {σ : L2.St} {H : Hp} {s : Shared}
mutual
theorem NK.at (I : Inv X pins σ H s) : ∀ {k : NestedKey} {x : V} {u : Value}, NK X.K H x k → RelV x u → NestedIs s.heap k u
  | .num i, _, u, .num _, r => by
    obtain ⟨t, rfl⟩ := r
    exact .int i t
  | .text y, _, u, .text _, r => by
    obtain ⟨t, rfl⟩ := r
    exact .text y t
  | .tup ks, _, u, .tup (a := a) h hs, r => by
    obtain rfl : u = Value.ref a := r
    obtain ⟨its, rv, ⟨o, ho, hc, n, hd⟩, _⟩ := I.tuple h
    exact .tup ho hc hd (by simpa using NKs.at I hs rv)
theorem NKs.at (I : Inv X pins σ H s) : ∀ {ks : List NestedKey} {xs : List V} {us : List Value}, NKs X.K H xs ks → Vals xs us → NestedAll s.heap ks us
  | [], _, _, .nil, r => by cases r; exact .nil
  | k :: ks, _, _, .cons h hs, r => by
    cases r with
    | cons r1 r2 => exact .cons (NK.at I h r1) (NKs.at I hs r2)
end
theorem nks_ints {K : PySem.W.Frag} {H : Hp} : ∀ ns : List Int, NKs K H (ns.map V.int) (ns.map NestedKey.num)
  | [] => .nil
  | n :: r => .cons (.num n) (nks_ints r)
/-- the dict, without its keys' tuples -/
def DnRel (kvs : List (NestedKey × Addr × V)) (xs : List (NestedKey × Addr × Value)) : Prop := Paired (fun (p : NestedKey × Addr × V) (q : NestedKey × Addr × Value) => p.1 = q.1 ∧ p.2.1 = q.2.1 ∧ RelV p.2.2 q.2.2) kvs xs
def DnAt (P : Program) (w : World) (D : Addr) (kvs : List (NestedKey × Addr × V)) (h : Heap) : Prop := ∃ xs : List (NestedKey × Addr × Value), DnRel kvs xs ∧ kvs.length ≤ sizeLine ∧ (D == sysModules) = false ∧ ∃ o es ep, h.get? D = some o ∧ o.ExactDict ∧ o.data = .dict es ep ∧ es.toList = xs.map (entryOfKey (nestedKind P w)) ∧ (xs.map (·.1)).Nodup
def DnO (P : Program) (w : World) (D : Addr) (kvs : List (NestedKey × Addr × V)) : HO := .ext (DnAt P w D kvs)
def fitN (k : NestedKey) : Prop := k.depth ≤ 8 ∧ ∃ ks, k = .tup ks
def putN (kvs : List (NestedKey × Addr × V)) (k : NestedKey) (a : Addr) (z : V) : List (NestedKey × Addr × V) :=
  if (kvs.find? fun p => decide (p.1 = k)).isSome then kvs.map (fun p => if p.1 = k then (p.1, p.2.1, z) else p) else kvs ++ [(k, a, z)]
theorem DnRel.find {k : NestedKey} : ∀ {kvs : List (NestedKey × Addr × V)} {xs : List (NestedKey × Addr × Value)}, DnRel kvs xs → (atKey xs k).isSome = (kvs.find? fun p => decide (p.1 = k)).isSome
  | _, _, .nil => rfl
  | _, _, .cons (a := p) (b := q) r t => by
    have ih := DnRel.find (k := k) t
    unfold atKey at ih ⊢
    rw [List.find?_cons, List.find?_cons, ← r.1]
    by_cases h : p.1 = k
    · simp [h]
    · simpa [h] using ih
theorem DnRel.mapPut {k : NestedKey} {z : V} {r : Value} (rz : RelV z r) : ∀ {kvs : List (NestedKey × Addr × V)} {xs : List (NestedKey × Addr × Value)}, DnRel kvs xs → DnRel (kvs.map (fun p => if p.1 = k then (p.1, p.2.1, z) else p)) (xs.map (putAt k r))
  | _, _, .nil => .nil
  | _, _, .cons (a := p) (b := q) rr t => by
    refine .cons ?_ (DnRel.mapPut rz t)
    unfold putAt
    dsimp only
    by_cases h : p.1 = k
    · rw [if_pos h, if_pos (rr.1 ▸ h)]
      exact ⟨rr.1, rr.2.1, rz⟩
    · rw [if_neg h, if_neg (rr.1 ▸ h)]
      exact rr
theorem DnRel.snoc {k : NestedKey} {a : Addr} {z : V} {r : Value} (rz : RelV z r) : ∀ {kvs : List (NestedKey × Addr × V)} {xs : List (NestedKey × Addr × Value)}, DnRel kvs xs → DnRel (kvs ++ [(k, a, z)]) (xs ++ [(k, a, r)])
  | _, _, .nil => .cons ⟨rfl, rfl, rz⟩ .nil
  | _, _, .cons rr t => .cons rr (DnRel.snoc rz t)
theorem DnRel.put {k : NestedKey} {a : Addr} {z : V} {r : Value} (rz : RelV z r) {kvs : List (NestedKey × Addr × V)} {xs : List (NestedKey × Addr × Value)} (h : DnRel kvs xs) : DnRel (putN kvs k a z) (storedH xs k a r) := by
  unfold putN storedH
  rw [h.find]
  split
  · exact h.mapPut rz
  · exact h.snoc rz
theorem DnRel.length {kvs : List (NestedKey × Addr × V)} {xs : List (NestedKey × Addr × Value)} (h : DnRel kvs xs) : kvs.length = xs.length := Paired.length h
theorem DnRel.mem {kvs : List (NestedKey × Addr × V)} : ∀ {xs : List (NestedKey × Addr × Value)}, DnRel kvs xs → ∀ x ∈ xs, ∃ p ∈ kvs, p.1 = x.1 ∧ p.2.1 = x.2.1
  | _, .nil, x, hx => nomatch hx
  | _, .cons (a := p) rr t, x, hx => by
    rcases List.mem_cons.mp hx with e | e
    · subst e
      exact ⟨p, List.mem_cons_self, rr.1, rr.2.1⟩
    · obtain ⟨p', hp, q⟩ := DnRel.mem t x e
      exact ⟨p', List.mem_cons_of_mem _ hp, q⟩
theorem dn_new {P : Program} {w : World} {H : Hp} {h : Heap} {D : Addr} {kvs : List (NestedKey × Addr × V)} (R : DnAt P w D kvs h) : ObjOk P w H h D (DnO P w D kvs) := by
  have R' := R
  obtain ⟨xs, r, z, hd, o, es, ep, ho, q⟩ := R
  refine ⟨R', ⟨o, ho⟩, fun h1 h2 p k => ?_⟩
  obtain ⟨xs', r', z', hd', o', es', ep', ho', q'⟩ := p
  exact ⟨xs', r', z', hd', o', es', ep', k o' ho', q'⟩
/-- every key's tuple is there -/
def DnKeys (K : PySem.W.Frag) (H : Hp) (kvs : List (NestedKey × Addr × V)) : Prop := ∀ p ∈ kvs, NK K H (.ref p.2.1) p.1 ∧ p.1.depth ≤ 8
theorem DnAt.full (I : Inv X pins σ H s) {D : Addr} {kvs : List (NestedKey × Addr × V)} (R : DnAt X.prog X.w D kvs s.heap) (hk : DnKeys X.K H kvs) : ∃ xs, DnRel kvs xs ∧ s.heap.DictOfH (nestedKind X.prog X.w) D xs ∧ xs.length ≤ sizeLine ∧ (D == sysModules) = false := by
  obtain ⟨xs, r, z, hd, o, es, ep, ho, hx, hdat, he, hn⟩ := R
  refine ⟨xs, r, ⟨o, es, ep, ho, hx, hdat, he, fun x hx' => ?_, hn⟩, by rw [← r.length]; exact z, hd⟩
  obtain ⟨p, hp, e1, e2⟩ := r.mem x hx'
  obtain ⟨nk, dd⟩ := hk p hp
  rw [← e1, ← e2]
  exact ⟨NK.at I nk rfl, dd⟩
def putNk (K : PySem.W.Frag) (P : Program) (w : World) : PutR := fun y z H D Nx => ∃ (a : Addr) (k : NestedKey) (kvs : List (NestedKey × Addr × V)), y = .ref a ∧ NK K H y k ∧ k.depth ≤ 8 ∧ H D = some (DnO P w D kvs) ∧ DnKeys K H kvs ∧ (putN kvs k a z).length ≤ sizeLine ∧ Nx (upd H D (DnO P w D (putN kvs k a z)))
theorem putNk_ok (hu : X.A.units + 64 < cLine) : PutOk X (putNk X.K X.prog X.w) := by
  intro Y hP hw hK hA hcm pins σ H s D y z u r Nx E I ry rz h
  obtain ⟨a, k, kvs, rfl, hk, hdep, hD, hks, hlen, q⟩ := h
  obtain rfl : u = Value.ref a := ry
  have R0 : DnAt X.prog X.w D kvs s.heap := (I.hok D _ hD).1
  rw [← hP, ← hw] at R0 ⊢
  rw [← hA] at hu ⊢
  rw [← hK] at hk hks
  obtain ⟨xs, rel, dd, hz, hsm⟩ := R0.full I hks
  refine wpAny_dictSet_heap (knd := nestedKind Y.prog Y.w) (k := k) (hsz := hz) (by show Y.A.units + 8 < cLine; omega) ⟨NK.at I hk rfl, hdep⟩ dd fun h' dd' sb => ?_
  refine ⟨upd H D (DnO X.prog X.w D (putN kvs k a z)), ?_, q⟩
  obtain ⟨o, es, ep, ho, hx, hdat, he, _, hn⟩ := dd'
  have nw := dn_new (P := Y.prog) (w := Y.w) (H := upd H D (DnO Y.prog Y.w D (putN kvs k a z))) (h := h') (D := D) ⟨_, rel.put rz, hlen, hsm, o, es, ep, ho, hx, hdat, he, hn⟩
  rw [hP, hw] at nw
  refine I.write (x := D) (e := D) (by rw [hD]; trivial) (.inl rfl) (fun a q hb' z => (sb.2 a hb').trans z) ⟨o, ho⟩ ?_
  rw [hP, hw]
  exact nw
theorem newNk_ok : NewDOk X fun a => DnO X.prog X.w a [] := fun H h hb => dn_new ⟨[], .nil, Nat.zero_le _, beq_eq_false_iff_ne.mpr (Ne.symm (Nat.ne_of_lt hb)), _, #[], 0, Heap.get?_push_size _ rfl, ⟨rfl, rfl, rfl⟩, rfl, rfl, List.nodup_nil⟩
theorem dcG_tup {O0 : Addr → HO} {put : PutR} {K : PySem.W.Frag} {a : Addr} {xs : List V} {g : TG} {tt : TT} {tk tv : TE} {vs : List Nat} {σ : L2.St} {H1 : Hp} {D : Addr} {Qd : Hp → Prop} (Pv : Nat → Hp → Prop) (h0 : Pv 0 (upd H1 D (O0 D))) (hl : ∀ i H, i ≤ xs.length → Pv i H → SqT K H a xs)
    (hs : ∀ i x H, xs[i]? = some x → Pv i H → g x (wipe σ vs) H fun σ2 H2 => wipe σ2 vs = wipe σ vs ∧ tt σ2 H2 fun b H3 =>
      if b = true then tk σ2 H3 fun y H4 => tv σ2 H4 fun z H5 => put y z H5 D (Pv (i + 1)) else Pv (i + 1) H3) (hd : ∀ H, Pv xs.length H → Qd H) :
    ∃ W : Nat → Nat → Hp → Prop, (∃ m, W 0 m (upd H1 D (O0 D))) ∧ ∀ i m H, W i m H →
      ((Itt K a).stop i H ∧ Qd H) ∨ ((Itt K a).go i H ∧ ∃ Nx : Hp → Prop, (∀ H', Nx H' → ∃ m', m' < m ∧ W (i + 1) m' H') ∧ ∀ x H', (Itt K a).yld i H x H' → g x (wipe σ vs) H' fun σ2 H2 => wipe σ2 vs = wipe σ vs ∧ tt σ2 H2 fun b H3 =>
        if b = true then tk σ2 H3 fun y H4 => tv σ2 H4 fun z H5 => put y z H5 D Nx else Nx H3) := by
  refine ⟨fun i m H => m = xs.length - i ∧ i ≤ xs.length ∧ Pv i H, ⟨xs.length, by simp, Nat.zero_le _, h0⟩, ?_⟩
  rintro i m H ⟨rfl, hi, p⟩
  have q := hl i H hi p
  by_cases hlt : i < xs.length
  · refine .inr ⟨⟨xs, xs[i], q, by simp [hlt]⟩, Pv (i + 1), fun H' p' => ⟨xs.length - (i + 1), by omega, rfl, hlt, p'⟩, fun x H' y => ?_⟩
    obtain ⟨e, y⟩ := y
    subst e
    exact hs i x _ (y xs q) p
  · have e : i = xs.length := by omega
    subst e
    exact .inl ⟨⟨xs, q, Nat.le_refl _⟩, hd H p⟩
end
end WS
/-! readings whose results are described by a relation on the heap that is known: B the heap that is known, H the heap that is, X the heap at the call -/
namespace RX
open PySem PySem.Spec PyProof.Rows L2 Evl LX
/-- what B' knows besides B does not stand in X -/
def Av (X B B' : Hp) : Prop := ∀ a, B a = none → X a ≠ none → B' a = none
structure Gr (X B B' : Hp) : Prop where
  ex : Ex B B'
  av : Av X B B'
theorem ex_ne {H H' : Hp} {a : Addr} (e : Ex H H') (h : H a ≠ none) : H' a ≠ none := by
  cases q : H a with
  | none => exact absurd q h
  | some o => rw [e a o q]; exact Option.some_ne_none o
theorem Av.back {X H B B' : Hp} (e : Ex X H) (h : Av H B B') : Av X B B' := fun a ha hx => h a ha (ex_ne e hx)
theorem Gr.refl (X B : Hp) : Gr X B B := ⟨Ex.refl B, fun _ h _ => h⟩
theorem Gr.trans {X B B' B'' : Hp} (a : Gr X B B') (b : Gr X B' B'') : Gr X B B'' := ⟨a.ex.trans b.ex, fun x h hx => b.av x (a.av x h hx) hx⟩
theorem Gr.back {X H B B' : Hp} (e : Ex X H) (h : Gr H B B') : Gr X B B' := ⟨h.ex, h.av.back e⟩
/-- both together -/
def mrg (B1 B2 : Hp) : Hp := fun a => match B1 a with | some o => some o | none => B2 a
theorem mrg_some {B1 B2 : Hp} {a : Addr} {o : HO} (h : B1 a = some o) : mrg B1 B2 a = some o := by unfold mrg; rw [h]
theorem mrg_none {B1 B2 : Hp} {a : Addr} (h : B1 a = none) : mrg B1 B2 a = B2 a := by unfold mrg; rw [h]
theorem mrg_l {B1 B2 : Hp} : Ex B1 (mrg B1 B2) := fun _ _ h => mrg_some h
theorem mrg_le {B1 B2 H : Hp} (e1 : Ex B1 H) (e2 : Ex B2 H) : Ex (mrg B1 B2) H := fun a o h => by
  cases q : B1 a with
  | none => rw [mrg_none q] at h; exact e2 a o h
  | some u => rw [mrg_some q] at h; rw [← h]; exact e1 a u q
theorem mrg_r {B1 B2 H : Hp} (e1 : Ex B1 H) (e2 : Ex B2 H) : Ex B2 (mrg B1 B2) := fun a o h => by
  cases q : B1 a with
  | none => rw [mrg_none q]; exact h
  | some u => rw [mrg_some q, ← e1 a u q, e2 a o h]
theorem mrg_av {H B B1 B2 : Hp} (a : Av H B B1) (b : Av H B B2) : Av H B (mrg B1 B2) := fun x h hx => by
  rw [mrg_none (a x h hx)]
  exact b x h hx
/-- a new object -/
theorem gr_new {X B : Hp} {p : Addr} {o : HO} (hb : B p = none) (hx : X p = none) : Gr X B (upd B p o) := ⟨Ex.new hb, fun a ha hxa => by
  by_cases e : a = p
  · subst e; exact absurd hx hxa
  · rw [upd_ne e]; exact ha⟩
theorem ex_upd {B H : Hp} {p : Addr} {o : HO} (e : Ex B H) (h : H p = some o) : Ex (upd B p o) H := fun a u q => by
  by_cases e2 : a = p
  · subst e2; rw [upd_same] at q; rw [← q]; exact h
  · rw [upd_ne e2] at q; exact e a u q
theorem none_of {B H : Hp} {p : Addr} (e : Ex B H) (h : H p = none) : B p = none := fresh_back e h
/-- a description that stays -/
class Mo (P : V → Hp → Prop) : Prop where
  mo : ∀ {z H H'}, Ex H H' → P z H → P z H'
class MoA (P : List V → Hp → Prop) : Prop where
  mo : ∀ {z H H'}, Ex H H' → P z H → P z H'
def IsV (v : V) : V → Hp → Prop := fun z _ => z = v
def IsNL (xs : List V) : V → Hp → Prop := fun z H => ∃ p, z = .ref p ∧ H p = some (.lst xs)
def IsNU (xs : List V) : V → Hp → Prop := fun z H => ∃ p, z = .ref p ∧ H p = some (.tup xs)
/-- a list whose items are described -/
def IsLP (n : Nat) (P : Nat → V → Hp → Prop) : V → Hp → Prop := fun z H => ∃ p ys, z = .ref p ∧ H p = some (.lst ys) ∧ ys.length = n ∧ ∀ i y, ys[i]? = some y → P i y H
def IsUP (n : Nat) (P : Nat → V → Hp → Prop) : V → Hp → Prop := fun z H => ∃ p ys, z = .ref p ∧ H p = some (.tup ys) ∧ ys.length = n ∧ ∀ i y, ys[i]? = some y → P i y H
def IsD (K : PySem.W.Frag) (d : PyData) : V → Hp → Prop := fun z H => Dp K H z d
mutual
theorem dp_ex {K : PySem.W.Frag} {H H' : Hp} (e : Ex H H') : ∀ {v : V} {d : PyData}, Dp K H v d → Dp K H' v d
  | _, _, .non => .non
  | _, _, .bl b => .bl b
  | _, _, .int i => .int i
  | _, _, .str x => .str x
  | _, _, .lst h hs => .lst (ex_l e h) (dps_ex e hs)
  | _, _, .tup h hs => .tup (ex_t e h) (dps_ex e hs)
theorem dps_ex {K : PySem.W.Frag} {H H' : Hp} (e : Ex H H') : ∀ {vs : List V} {ds : List PyData}, DpAll K H vs ds → DpAll K H' vs ds
  | _, _, .nil => .nil
  | _, _, .cons h hs => .cons (dp_ex e h) (dps_ex e hs)
end
instance {v : V} : Mo (IsV v) := ⟨fun _ h => h⟩
instance {xs : List V} : Mo (IsNL xs) := ⟨fun e ⟨p, h, q⟩ => ⟨p, h, e _ _ q⟩⟩
instance {xs : List V} : Mo (IsNU xs) := ⟨fun e ⟨p, h, q⟩ => ⟨p, h, e _ _ q⟩⟩
instance {K : PySem.W.Frag} {d : PyData} : Mo (IsD K d) := ⟨fun e h => dp_ex e h⟩
instance {n : Nat} {P : Nat → V → Hp → Prop} [m : ∀ i, Mo (P i)] : Mo (IsLP n P) := ⟨fun e ⟨p, ys, h, q, l, k⟩ => ⟨p, ys, h, e _ _ q, l, fun i y hi => (m i).mo e (k i y hi)⟩⟩
instance {n : Nat} {P : Nat → V → Hp → Prop} [m : ∀ i, Mo (P i)] : Mo (IsUP n P) := ⟨fun e ⟨p, ys, h, q, l, k⟩ => ⟨p, ys, h, e _ _ q, l, fun i y hi => (m i).mo e (k i y hi)⟩⟩
def EvR (te : TE) (σ : L2.St) (B : Hp) (P : V → Hp → Prop) : Prop := ∀ H1, Ex B H1 → ∀ Q : VK, (∀ z H2 B', Ex H1 H2 → Gr H1 B B' → Ex B' H2 → P z B' → Q z H2) → te σ H1 Q
def EvAR (ta : TA) (σ : L2.St) (B : Hp) (P : List V → Hp → Prop) : Prop := ∀ H1, Ex B H1 → ∀ Q : List V → Hp → Prop, (∀ z H2 B', Ex H1 H2 → Gr H1 B B' → Ex B' H2 → P z B' → Q z H2) → ta σ H1 Q
section
variable {K : PySem.W.Frag} {σ : L2.St} {B B' H X : Hp} {ta tb te : TE} {t : TT} {tr : TA} {x y z v : V} {D : Ends} {tz tu tw : TS} {P : V → Hp → Prop} {xs : List V}
theorem EvR.mono (e : Ex B B') (m : Mo P) (h : EvR te σ B P) : EvR te σ B' P := fun H1 e1 Q q => h H1 (e.trans e1) Q fun z H2 B2 e2 g g2 p =>
  q z H2 (mrg B' B2) e2 ⟨mrg_l, fun a ha hx => by rw [mrg_none ha]; exact g.av a (none_of e ha) hx⟩ (mrg_le (e1.trans e2) g2) (m.mo (mrg_r (e1.trans e2) g2) p)
theorem EvR.imp {P' : V → Hp → Prop} (h : EvR te σ B P) (i : ∀ z B', Ex B B' → P z B' → P' z B') : EvR te σ B P' := fun H1 e1 Q q => h H1 e1 Q fun z H2 B2 e2 g g2 p => q z H2 B2 e2 g g2 (i z B2 g.ex p)
theorem eR_v (h : Ev te σ B v) : EvR te σ B (IsV v) := fun H1 e Q q => h H1 e Q fun H2 e2 => q v H2 B e2 (Gr.refl _ _) (e.trans e2) rfl
theorem rVp (h : Ev te σ B v) (hp : P v B) : EvR te σ B P := fun H1 e Q q => h H1 e Q fun H2 e2 => q v H2 B e2 (Gr.refl _ _) (e.trans e2) hp
theorem rL (h : EvL te σ B xs) : EvR te σ B (IsNL xs) := fun H1 e Q q => h H1 e Q fun p H2 hp e2 h2 => q _ H2 (upd B p (.lst xs)) e2 (gr_new (none_of e hp) hp) (ex_upd (e.trans e2) h2) ⟨p, rfl, upd_same⟩
theorem rU (h : EvU te σ B xs) : EvR te σ B (IsNU xs) := fun H1 e Q q => h H1 e Q fun p H2 hp e2 h2 => q _ H2 (upd B p (.tup xs)) e2 (gr_new (none_of e hp) hp) (ex_upd (e.trans e2) h2) ⟨p, rfl, upd_same⟩
theorem EvR.val (h : EvR te σ B (IsV v)) : Ev te σ B v := fun H1 e Q q => h H1 e Q fun z H2 B' e2 _ _ hz => by
  have hz : z = v := hz
  subst hz
  exact q H2 e2
theorem rA (h : EvA tr σ B xs) : EvAR tr σ B (fun vs _ => vs = xs) := fun H1 e Q q => h H1 e Q fun H2 e2 => q xs H2 B e2 (Gr.refl _ _) (e.trans e2) rfl
theorem ear_nil : EvAR tNil σ B fun vs _ => vs = [] := fun H1 e Q q => q [] H1 B (Ex.refl H1) (Gr.refl _ _) e rfl
theorem ear_cons {Pr : List V → Hp → Prop} (m : Mo P) (mr : MoA Pr) (h : EvR te σ B P) (hr : EvAR tr σ B Pr) : EvAR (tCons te tr) σ B fun vs B' => ∃ z r, vs = z :: r ∧ P z B' ∧ Pr r B' := fun H1 e Q q =>
  h H1 e _ fun z H2 B1 e2 g1 e3 p => hr H2 (e.trans e2) _ fun r H3 B2 e4 g2 e5 pr =>
    q _ H3 (mrg B1 B2) (e2.trans e4) ⟨g1.ex.trans mrg_l, mrg_av g1.av (g2.av.back e2)⟩ (mrg_le (e3.trans e4) e5) ⟨z, r, rfl, m.mo mrg_l p, mr.mo (mrg_r (e3.trans e4) e5) pr⟩
instance moA_nil : MoA fun vs _ => vs = ([] : List V) := ⟨fun _ h => h⟩
instance moA_eq {xs : List V} : MoA fun vs _ => vs = xs := ⟨fun _ h => h⟩
instance moA_cons {Pr : List V → Hp → Prop} [m : Mo P] [mr : MoA Pr] : MoA fun vs B' => ∃ z r, vs = z :: r ∧ P z B' ∧ Pr r B' := ⟨fun e ⟨z, r, h, p, q⟩ => ⟨z, r, h, m.mo e p, mr.mo e q⟩⟩
theorem ear (m : Mo P) {Pr : List V → Hp → Prop} [mr : MoA Pr] (h : EvR te σ B P) (hr : EvAR tr σ B Pr) : EvAR (tCons te tr) σ B fun vs B' => ∃ z r, vs = z :: r ∧ P z B' ∧ Pr r B' := ear_cons m mr h hr
/-- calls by contract -/
def spR (D : List V → Hp → (V → Hp → Prop) → Prop) : Sp := fun vs H1 Q _ => ∃ B P, Ex B H1 ∧ D vs B P ∧ ∀ z H2 B', Ex H1 H2 → Gr H1 B B' → Ex B' H2 → P z B' → Q z H2
theorem er_call {Dd : List V → Hp → (V → Hp → Prop) → Prop} {E : XK} {Pa : List V → Hp → Prop} (h : EvAR tr σ B Pa) (hs : ∀ vs B', Ex B B' → Pa vs B' → Dd vs B' P) : EvR (tCall (spR Dd) [] E tr) σ B P := fun H1 e Q q =>
  h H1 e _ fun vs H2 B1 e2 g1 e3 pa => by
    show spR Dd (vs ++ []) H2 Q E
    rw [List.append_nil]
    exact ⟨B1, P, e3, hs vs B1 g1.ex pa, fun z H3 B' e4 g2 e5 p => q z H3 B' (e2.trans e4) (g1.trans (g2.back e2)) e5 p⟩
theorem er_callV {Dd : List V → Hp → (V → Hp → Prop) → Prop} {E : XK} {vs : List V} (h : EvA tr σ B vs) (hs : Dd vs B P) (hm : ∀ B', Ex B B' → Dd vs B' P := by intros; assumption) : EvR (tCall (spR Dd) [] E tr) σ B P := er_call (rA h) fun vs' B' e q => by
  subst q
  exact hm B' e
/-- statements -/
def Sx (X : Hp) (ts : TS) (D : Ends) (σ : L2.St) (B : Hp) : Prop := ∀ H, Ex B H → Ex X H → ts D σ H
theorem Sx.mono (e : Ex B B') (h : Sx X tu D σ B) : Sx X tu D σ B' := fun H a b => h H (e.trans a) b
theorem x_last (h : Sx X (tSeq tu tNext) D σ B) : Sx X tu D σ B := h
theorem x_asg {i : Nat} (h : EvR te σ B P) (k : ∀ z B', Gr X B B' → P z B' → Sx X tz D (σ.set i (some z)) B') : Sx X (tSeq (tAsg te (gName i)) tz) D σ B := fun H e eX => h H e _ fun z H2 B' e2 g e3 p => k z B' (g.back eX) p H2 e3 (eX.trans e2)
theorem x_asgV {i : Nat} (h : Ev te σ B v) (k : Sx X tz D (σ.set i (some v)) B) : Sx X (tSeq (tAsg te (gName i)) tz) D σ B := fun H e eX => h H e _ fun H2 e2 => k H2 (e.trans e2) (eX.trans e2)
/-- a new list: X does not know it -/
theorem x_asgL {i : Nat} (h : EvL te σ B xs) (k : ∀ p, B p = none → X p = none → Sx X tz D (σ.set i (some (.ref p))) (upd B p (.lst xs))) : Sx X (tSeq (tAsg te (gName i)) tz) D σ B := fun H e eX => h H e _ fun p H2 hp e2 h2 => k p (none_of e hp) (none_of eX hp) H2 (ex_upd (e.trans e2) h2) (eX.trans e2)
theorem x_ret (h : EvR te σ B P) (k : ∀ z B' H, Gr X B B' → P z B' → Ex B' H → Ex X H → D.rt z H) : Sx X (tRet te) D σ B := fun H e eX => h H e _ fun z H2 B' e2 g e3 p => k z B' H2 (g.back eX) p e3 (eX.trans e2)
theorem x_when {b : Bool} (h : EvT t σ B b) (h1 : b = true → Sx X tu { D with nx := tz D } σ B) (h2 : b = false → Sx X tz D σ B) : Sx X (tSeq (tIfS t tu tNext) tz) D σ B := fun H e eX => h H e _ fun H2 e2 => by
  cases b with
  | true => exact h1 rfl H2 (e.trans e2) (eX.trans e2)
  | false => exact h2 rfl H2 (e.trans e2) (eX.trans e2)
theorem x_if {b : Bool} (h : EvT t σ B b) (h1 : b = true → Sx X tu { D with nx := tz D } σ B) (h2 : b = false → Sx X tw { D with nx := tz D } σ B) : Sx X (tSeq (tIfS t tu tw) tz) D σ B := fun H e eX => h H e _ fun H2 e2 => by
  cases b with
  | true => exact h1 rfl H2 (e.trans e2) (eX.trans e2)
  | false => exact h2 rfl H2 (e.trans e2) (eX.trans e2)
theorem x_end (h : Sx X tz D σ B) : Sx X tNext { D with nx := tz D } σ B := h
theorem x_drop (h : Ev te σ B v) (k : Sx X tz D σ B) : Sx X (tSeq (tDrop te) tz) D σ B := fun H e eX => h H e _ fun H2 e2 => k H2 (e.trans e2) (eX.trans e2)
/-- what a loop's turn hands on -/
def NxS (X : Hp) (R : L2.St → Hp → Prop) : L2.St → Hp → Prop := fun σ H => ∃ B, R σ B ∧ Ex B H ∧ Ex X H
theorem x_nx {R : L2.St → Hp → Prop} (hD : D.nx = NxS X R) (h : R σ B) : Sx X tNext D σ B := fun H e eX => by
  show D.nx σ H
  rw [hD]
  exact ⟨B, h, e, eX⟩
def del (B : Hp) (l : Addr) : Hp := fun a => if a = l then none else B a
theorem del_ex : Ex (del B x') B := fun a o h => by
  unfold del at h
  split at h
  · exact nomatch h
  · exact h
theorem del_same {l : Addr} : del B l l = none := by unfold del; rw [if_pos rfl]
theorem del_ne {l a : Addr} (h : a ≠ l) : del B l a = B a := by unfold del; rw [if_neg h]
/-- xs.append(e), e not told by xs -/
theorem x_app {l : Addr} (m : Mo P) (hl : B l = some (.lst xs)) (hX : X l = none) (ha : Ev ta σ B (.ref l)) (h : EvR te σ (del B l) P) (hz : xs.length < 100000)
    (k : ∀ z B', Gr X (del B l) B' → B' l = none → P z B' → Sx X tz D σ (upd B' l (.lst (xs ++ [z])))) : Sx X (tSeq (tDrop (tBM K "list" rAppend ta (tCons te tNil))) tz) D σ B := fun H e eX => by
  refine ha H e _ fun H1 e1 => ⟨Or.inl ⟨rfl, xs, sq_of (e1 l _ (e l _ hl))⟩, h H1 (del_ex.trans (e.trans e1)) _ fun z H2 B' e2 g e3 p => ?_⟩
  have hH1 : H1 l = some (.lst xs) := e1 l _ (e l _ hl)
  have hB' : B' l = none := g.av l del_same (by rw [hH1]; exact Option.some_ne_none _)
  refine ⟨l, xs, z, rfl, rfl, e2 l _ hH1, sz_lt hz, ?_⟩
  refine k z B' (g.back (eX.trans e1)) hB' p _ (fun a u q => ?_) (fun a u q => ?_)
  · by_cases c : a = l
    · subst c; rw [upd_same] at q ⊢; exact q
    · rw [upd_ne c] at q ⊢; exact e3 a u q
  · have c : a ≠ l := fun c => by subst c; rw [hX] at q; exact nomatch q
    rw [upd_ne c]
    exact e2 a u (e1 a u (eX a u q))
/-- what is given one after another -/
structure FIt (J : It) (xs : List V) (F : Hp) : Prop where
  go : ∀ i H, Ex F H → i < xs.length → J.go i H
  stop : ∀ H, Ex F H → J.stop xs.length H
  yld : ∀ i H x H', Ex F H → J.yld i H x H' → i < xs.length → H' = H ∧ xs[i]? = some x
def EvI (wi : TI) (σ : L2.St) (B : Hp) (Pxs : List V → Hp → Prop) : Prop := ∀ H1, Ex B H1 → ∀ R : It → Hp → Prop, (∀ J H2 B' xs, Ex H1 H2 → Gr H1 B B' → Ex B' H2 → Pxs xs B' → FIt J xs B' → R J H2) → wi σ H1 R
theorem fit_l {a : Addr} (h : SqL K B a xs) : FIt (Itl K a) xs B :=
  ⟨fun i H e hi => ⟨xs, xs[i], ex_l e h, by simp [hi]⟩, fun H e => ⟨xs, ex_l e h, Nat.le_refl _⟩, fun i H x H' e ⟨e1, y⟩ _ => ⟨e1, y xs (ex_l e h)⟩⟩
theorem fit_t {a : Addr} (h : SqT K B a xs) : FIt (Itt K a) xs B :=
  ⟨fun i H e hi => ⟨xs, xs[i], ex_t e h, by simp [hi]⟩, fun H e => ⟨xs, ex_t e h, Nat.le_refl _⟩, fun i H x H' e ⟨e1, y⟩ _ => ⟨e1, y xs (ex_t e h)⟩⟩
def rngV (lo : Int) (n : Nat) : List V := (List.range n).map fun (i : Nat) => V.int (lo + (i : Int))
theorem rngV_len {lo : Int} {n : Nat} : (rngV lo n).length = n := by unfold rngV; simp
theorem fit_r {lo : Int} {n : Nat} : FIt (Itr lo n) (rngV lo n) B := by
  refine ⟨fun i H e hi => by rw [rngV_len] at hi; exact hi, fun H e => by show n ≤ _; rw [rngV_len]; exact Nat.le_refl _, fun i H x H' e ⟨e1, y⟩ hi => ⟨e1, ?_⟩⟩
  rw [rngV_len] at hi
  unfold rngV
  rw [List.getElem?_map, List.getElem?_range hi, y]
  rfl
theorem ei_list {a : Addr} (h : Ev te σ B (.ref a)) (hx : SqL K B a xs) : EvI (iList K te) σ B fun ys _ => ys = xs := fun H1 e R q =>
  h H1 e _ fun H2 e2 => ⟨a, rfl, ⟨xs, ex_l (e.trans e2) hx⟩, q _ H2 B xs e2 (Gr.refl _ _) (e.trans e2) rfl (fit_l hx)⟩
theorem ei_tup {a : Addr} (h : Ev te σ B (.ref a)) (hx : SqT K B a xs) : EvI (iTup K te) σ B fun ys _ => ys = xs := fun H1 e R q =>
  h H1 e _ fun H2 e2 => ⟨a, rfl, ⟨xs, ex_t (e.trans e2) hx⟩, q _ H2 B xs e2 (Gr.refl _ _) (e.trans e2) rfl (fit_t hx)⟩
theorem ei_rng1 {n : Int} (h : EvA tr σ B [.int n]) (hn : 0 ≤ n ∧ n ≤ 1000000000) : EvI (iRng1 tr) σ B fun ys _ => ys = rngV 0 n.toNat := fun H1 e R q =>
  h H1 e _ fun H2 e2 => ⟨n, rfl, by omega, by omega, q _ H2 B _ e2 (Gr.refl _ _) (e.trans e2) rfl fit_r⟩
/-- over a list that is told -/
theorem ei_listR {Pxs : List V → Hp → Prop} (h : EvR te σ B fun z B' => ∃ a ys, z = .ref a ∧ SqL K B' a ys ∧ Pxs ys B') : EvI (iList K te) σ B Pxs := fun H1 e R q =>
  h H1 e _ fun z H2 B' e2 g e3 ⟨a, ys, hz, hs, hp⟩ => ⟨a, hz, ⟨ys, ex_l e3 hs⟩, q _ H2 B' ys e2 g e3 hp (fit_l hs)⟩
theorem ei_tupR {Pxs : List V → Hp → Prop} (h : EvR te σ B fun z B' => ∃ a ys, z = .ref a ∧ SqT K B' a ys ∧ Pxs ys B') : EvI (iTup K te) σ B Pxs := fun H1 e R q =>
  h H1 e _ fun z H2 B' e2 g e3 ⟨a, ys, hz, hs, hp⟩ => ⟨a, hz, ⟨ys, ex_t e3 hs⟩, q _ H2 B' ys e2 g e3 hp (fit_t hs)⟩
/-- for: F what stays, B the heap at the loop's start -/
theorem x_for {F : Hp} {wi : TI} {j : Nat} {Pxs : List V → Hp → Prop} (hF : Ex F B) (hi : EvI wi σ F Pxs) (Pv : Hp → List V → Nat → L2.St → Hp → Prop) (h0 : ∀ F' xs, Gr X F F' → Pxs xs F' → (∀ a, F a = none → B a ≠ none → F' a = none) → Pv F' xs 0 σ (mrg F' B))
    (hl : ∀ F' xs i σ' B', Pv F' xs i σ' B' → Ex F' B')
    (hs : ∀ F' xs i x σ' B', Gr X F F' → Pxs xs F' → xs[i]? = some x → Pv F' xs i σ' B' → Sx X tu { D with nx := NxS X (Pv F' xs (i + 1)), ct := NxS X (Pv F' xs (i + 1)), bk := tz D } (σ'.set j (some x)) B')
    (hd : ∀ F' xs σ' B', Gr X F F' → Pxs xs F' → Pv F' xs xs.length σ' B' → Sx X tz D σ' B') : Sx X (tSeq (tFor wi (gName j) tu) tz) D σ B := fun H e eX => by
  refine hi H (hF.trans e) _ fun J H2 F' xs e2 g e3 px ft => ?_
  have gX := g.back eX
  refine ⟨fun i m σ' H' => m = xs.length - i ∧ i ≤ xs.length ∧ ∃ B', Pv F' xs i σ' B' ∧ Ex B' H' ∧ Ex X H', ⟨xs.length, by simp, Nat.zero_le _, mrg F' B, h0 F' xs gX px (fun a ha hb => g.av a ha (ex_ne e hb)), mrg_le e3 (e.trans e2), eX.trans e2⟩, ?_⟩
  rintro i m σ' H' ⟨rfl, hi', B', p, eB, eX'⟩
  have eF := (hl F' xs i σ' B' p).trans eB
  by_cases hlt : i < xs.length
  · refine .inr ⟨ft.go i H' eF hlt, NxS X (Pv F' xs (i + 1)), fun σ2 H3 ⟨B3, p3, e4, e5⟩ => ⟨xs.length - (i + 1), by omega, rfl, hlt, B3, p3, e4, e5⟩, fun x H3 y => ?_⟩
    obtain ⟨r, hx⟩ := ft.yld i H' x H3 eF y hlt
    subst r
    exact hs F' xs i x σ' B' gX px hx p H3 eB eX'
  · have c : i = xs.length := by omega
    subst c
    exact .inl ⟨ft.stop H' eF, hd F' xs σ' B' gX px p H' eB eX'⟩
/-- the items that stood the test, as described -/
def Told (f : Nat → Bool) (Pe : Nat → V → Hp → Prop) (i : Nat) (ys : List V) (B : Hp) : Prop := ys.length = ((List.range i).filter f).length ∧ ∀ (k : Nat) (y : V) (n : Nat), ys[k]? = some y → ((List.range i).filter f)[k]? = some n → Pe n y B
theorem told_nil {f : Nat → Bool} {Pe : Nat → V → Hp → Prop} : Told f Pe 0 [] B := ⟨rfl, fun k y n h => nomatch h⟩
theorem told_no {f : Nat → Bool} {Pe : Nat → V → Hp → Prop} {i : Nat} {ys : List V} (h : Told f Pe i ys B) (hf : f i = false) : Told f Pe (i + 1) ys B := by
  unfold Told
  rw [List.range_succ, List.filter_append, List.filter_cons_of_neg (by simp [hf]), List.filter_nil, List.append_nil]
  exact h
theorem told_yes {f : Nat → Bool} {Pe : Nat → V → Hp → Prop} {i : Nat} {ys : List V} (h : Told f Pe i ys B) (hf : f i = true) (hy : Pe i y B) : Told f Pe (i + 1) (ys ++ [y]) B := by
  obtain ⟨hl, hp⟩ := h
  have e : (List.range (i + 1)).filter f = (List.range i).filter f ++ [i] := by
    rw [List.range_succ, List.filter_append, List.filter_cons_of_pos (by simp [hf]), List.filter_nil]
  unfold Told
  rw [e]
  refine ⟨by rw [List.length_append, List.length_append, hl]; rfl, fun k u n hk hn => ?_⟩
  by_cases c : k < ys.length
  · rw [List.getElem?_append_left c] at hk
    rw [List.getElem?_append_left (by omega)] at hn
    exact hp k u n hk hn
  · have c2 : k < (ys ++ [y]).length := (List.getElem?_eq_some_iff.mp hk).1
    rw [List.length_append, List.length_singleton] at c2
    have c3 : k = ys.length := by omega
    subst c3
    rw [List.getElem?_append_right (Nat.le_refl _), Nat.sub_self] at hk
    rw [hl, List.getElem?_append_right (Nat.le_refl _), Nat.sub_self] at hn
    cases hk
    cases hn
    exact hy
theorem Told.mono {f : Nat → Bool} {Pe : Nat → V → Hp → Prop} (mo : ∀ i, Mo (Pe i)) {i : Nat} {ys : List V} (e : Ex B B') (h : Told f Pe i ys B) : Told f Pe i ys B' := ⟨h.1, fun k y n a b => (mo n).mo e (h.2 k y n a b)⟩
theorem Told.len {f : Nat → Bool} {Pe : Nat → V → Hp → Prop} {i : Nat} {ys : List V} (h : Told f Pe i ys B) : ys.length ≤ i := by
  rw [h.1]
  have := List.length_filter_le f (List.range i)
  rw [List.length_range] at this
  exact this
/-- no test -/
theorem Told.all {Pe : Nat → V → Hp → Prop} {i : Nat} {ys : List V} (h : Told (fun _ => true) Pe i ys B) : ys.length = i ∧ ∀ (k : Nat) (y : V), ys[k]? = some y → Pe k y B := by
  obtain ⟨hl, hp⟩ := h
  have e : (List.range i).filter (fun _ => true) = List.range i := List.filter_eq_self.mpr fun _ _ => rfl
  rw [e] at hl hp
  rw [List.length_range] at hl
  refine ⟨hl, fun k y hk => hp k y k hk ?_⟩
  have := (List.getElem?_eq_some_iff.mp hk).1
  rw [List.getElem?_range (by omega)]
/-- [e for x in it if ..]: f which of them, Pe what each is -/
theorem er_lc {wi : TI} {j : Nat} {vs : List Nat} {Pxs : List V → Hp → Prop} (f : List V → Nat → Bool) (Pe : List V → Nat → V → Hp → Prop) (mo : ∀ xs i, Mo (Pe xs i)) (mp : MoA Pxs) (hi : EvI wi σ B Pxs) (hw : ∀ x, wipe ((wipe σ vs).set j (some x)) vs = wipe σ vs)
    (hz : ∀ xs B', Pxs xs B' → xs.length ≤ 40000)
    (ht : ∀ xs i x B', Ex B B' → Pxs xs B' → xs[i]? = some x → EvT t ((wipe σ vs).set j (some x)) B' (f xs i)) (he : ∀ xs i x B', Ex B B' → Pxs xs B' → xs[i]? = some x → f xs i = true → EvR te ((wipe σ vs).set j (some x)) B' (Pe xs i)) :
    EvR (tLc wi (gName j) t te vs) σ B fun z B' => ∃ (xs : List V) (p : Addr) (ys : List V), Pxs xs B' ∧ z = .ref p ∧ B' p = some (.lst ys) ∧ Told (f xs) (Pe xs) xs.length ys B' := fun H1 e Q q => by
  refine hi H1 e _ fun J H2 B1 xs e2 g e3 px ft => fun Dl hD => ?_
  have hD1 : B1 Dl = none := none_of e3 hD
  refine ⟨fun i m H' => m = xs.length - i ∧ i ≤ xs.length ∧ ∃ Bs ys, Gr H2 B1 Bs ∧ Bs Dl = none ∧ Ex Bs H' ∧ H' Dl = some (.lst ys) ∧ Told (f xs) (Pe xs) i ys Bs ∧ Ex H2 H', ⟨xs.length, by simp, Nat.zero_le _, B1, [], Gr.refl _ _, hD1, e3.trans (Ex.new hD), upd_same, told_nil, Ex.new hD⟩, ?_⟩
  rintro i m H' ⟨rfl, hi', Bs, ys, gs, hDs, es, hDl, td, e2'⟩
  have eF : Ex B1 H' := gs.ex.trans es
  by_cases hlt : i < xs.length
  · refine .inr ⟨ft.go i H' eF hlt, fun H'' => (xs.length - (i + 1)) = xs.length - (i + 1) ∧ i + 1 ≤ xs.length ∧ ∃ Bs ys, Gr H2 B1 Bs ∧ Bs Dl = none ∧ Ex Bs H'' ∧ H'' Dl = some (.lst ys) ∧ Told (f xs) (Pe xs) (i + 1) ys Bs ∧ Ex H2 H'', fun H'' h => ⟨_, by omega, h⟩, fun x H3 y => ?_⟩
    obtain ⟨r, hx⟩ := ft.yld i H' x H3 eF y hlt
    subst r
    refine ⟨hw x, ht xs i x B1 g.ex px hx H3 eF _ fun H4 e4 => ?_⟩
    cases hf : f xs i with
    | false => exact ⟨rfl, hlt, Bs, ys, gs, hDs, es.trans e4, e4 _ _ hDl, told_no td hf, e2'.trans e4⟩
    | true =>
      refine he xs i x B1 g.ex px hx hf H4 (eF.trans e4) _ fun z H5 B' e5 g5 e6 pz => ⟨ys, e5 _ _ (e4 _ _ hDl), sz_lt (by have := td.len; have := hz xs B1 px; omega), rfl, hlt, mrg Bs B', ys ++ [z], ?_⟩
      have hB' : B' Dl = none := g5.av Dl hD1 (by rw [e4 _ _ hDl]; exact Option.some_ne_none _)
      have hM : mrg Bs B' Dl = none := by rw [mrg_none hDs]; exact hB'
      have eM : Ex (mrg Bs B') H5 := mrg_le ((es.trans e4).trans e5) e6
      refine ⟨⟨gs.ex.trans mrg_l, mrg_av gs.av (g5.av.back (e2'.trans e4))⟩, hM, fun a o ha => ?_, upd_same, told_yes (td.mono (mo xs) mrg_l) hf ((mo xs i).mo (mrg_r ((es.trans e4).trans e5) e6) pz), fun a o ha => ?_⟩
      · have c : a ≠ Dl := fun c => by subst c; rw [hM] at ha; exact nomatch ha
        rw [upd_ne c]; exact eM a o ha
      · have c : a ≠ Dl := fun c => by subst c; rw [hD] at ha; exact nomatch ha
        rw [upd_ne c]; exact e5 a o (e4 a o (e2' a o ha))
  · have c : i = xs.length := by omega
    subst c
    refine .inl ⟨ft.stop H' eF, q (.ref Dl) H' (upd Bs Dl (.lst ys)) (e2.trans e2') ⟨(g.ex.trans gs.ex).trans (Ex.new hDs), fun a ha hx => ?_⟩ (ex_upd es hDl) ⟨xs, Dl, ys, mp.mo (gs.ex.trans (Ex.new hDs)) px, rfl, upd_same, td.mono (mo xs) (Ex.new hDs)⟩⟩
    have c : a ≠ Dl := fun c => by subst c; exact ex_ne e2 hx hD
    rw [upd_ne c]
    exact gs.av a (g.av a ha hx) (ex_ne e2 hx)
end
end RX
/-! lists and tuples alike; values by their data -/
namespace RX
open PySem PySem.Spec PyProof.Rows L2 Evl LX
def SqA (K : PySem.W.Frag) (H : Hp) (a : Addr) (xs : List V) : Prop := SqL K H a xs ∨ SqT K H a xs
theorem ex_a {K : PySem.W.Frag} {H H' : Hp} {a : Addr} {xs : List V} (e : Ex H H') (h : SqA K H a xs) : SqA K H' a xs := h.imp (ex_l e) (ex_t e)
def LsP (K : PySem.W.Frag) (Py : List V → Hp → Prop) : V → Hp → Prop := fun z B => ∃ p ys, z = .ref p ∧ SqL K B p ys ∧ Py ys B
def TpP (K : PySem.W.Frag) (Py : List V → Hp → Prop) : V → Hp → Prop := fun z B => ∃ p ys, z = .ref p ∧ SqT K B p ys ∧ Py ys B
def SqP (K : PySem.W.Frag) (Py : List V → Hp → Prop) : V → Hp → Prop := fun z B => ∃ p ys, z = .ref p ∧ SqA K B p ys ∧ Py ys B
instance {K : PySem.W.Frag} {Py : List V → Hp → Prop} [m : MoA Py] : Mo (LsP K Py) := ⟨fun e ⟨p, ys, h, s, q⟩ => ⟨p, ys, h, ex_l e s, m.mo e q⟩⟩
instance {K : PySem.W.Frag} {Py : List V → Hp → Prop} [m : MoA Py] : Mo (TpP K Py) := ⟨fun e ⟨p, ys, h, s, q⟩ => ⟨p, ys, h, ex_t e s, m.mo e q⟩⟩
instance {K : PySem.W.Frag} {Py : List V → Hp → Prop} [m : MoA Py] : Mo (SqP K Py) := ⟨fun e ⟨p, ys, h, s, q⟩ => ⟨p, ys, h, ex_a e s, m.mo e q⟩⟩
/-! ### data -/
def tyD : PyData → String
  | .none => "NoneType"
  | .bool _ => "bool"
  | .int _ => "int"
  | .str _ => "str"
  | .list _ => "list"
  | .tuple _ => "tuple"
  | _ => ""
def seqD : PyData → Option (List PyData)
  | .list ds => some ds
  | .tuple ds => some ds
  | _ => none
def wholeD : PyData → Bool
  | .int _ => true
  | _ => false
def betweenD (d : PyData) (lo hi : Int) : Bool := match d with
  | .int i => decide (lo ≤ i) && decide (i ≤ hi)
  | _ => false
section
variable {K : PySem.W.Frag} {H : Hp} {v : V} {d : PyData}
theorem sql_ty {a : Addr} {xs : List V} (h : SqL K H a xs) : TyX K H (.ref a) (.type "list") := by
  rcases h with (h | ⟨o, h⟩) | ⟨o, its, n, hk, hc, _⟩
  · exact .base (.lst h)
  · exact .base (.frz h)
  · exact .kList hk hc
theorem sqt_ty {a : Addr} {xs : List V} (h : SqT K H a xs) : TyX K H (.ref a) (.type "tuple") := by
  rcases h with (h | ⟨o, h⟩) | ⟨o, its, n, hk, hc, _⟩
  · exact .base (.tup h)
  · exact .fTuple h
  · exact .kTuple hk hc
theorem dp_ty : Dp K H v d → TyX K H v (.type (tyD d))
  | .non => .base .non
  | .bl b => .base (.bl b)
  | .int i => .base (.int i)
  | .str x => .base (.str x)
  | .lst h _ => sql_ty h
  | .tup h _ => sqt_ty h
theorem dp_seq {ds : List PyData} (h : Dp K H v d) (hs : seqD d = some ds) : ∃ a xs, v = .ref a ∧ SqA K H a xs ∧ DpAll K H xs ds := by
  cases h with
  | lst h hs' => cases hs; exact ⟨_, _, rfl, .inl h, hs'⟩
  | tup h hs' => cases hs; exact ⟨_, _, rfl, .inr h, hs'⟩
  | _ => exact nomatch hs
theorem dps_len {vs : List V} {ds : List PyData} : DpAll K H vs ds → vs.length = ds.length
  | .nil => rfl
  | .cons _ t => by rw [List.length_cons, List.length_cons, dps_len t]
theorem dps_get : ∀ {vs : List V} {ds : List PyData} {i : Nat} {x : V}, DpAll K H vs ds → vs[i]? = some x → ∃ d, ds[i]? = some d ∧ Dp K H x d
  | _, _, 0, x, .cons (v := v) (d := d) h t, e => by
    have e : v = x := Option.some.inj e
    exact ⟨d, rfl, e ▸ h⟩
  | _, _, i + 1, x, .cons h t, e => dps_get (i := i) t e
end
/-! ### rules -/
section
variable {X : Cx} {K : PySem.W.Frag}
def rIxA (K : PySem.W.Frag) : R2 := fun x y H Q => rIxL K x y H Q ∨ rIxT K x y H Q
theorem k_ixa (h : X.K = K := by rfl) : IxR X (rIxA K) := (k_ixl h).or (k_ixt h)
theorem k_isiT (h : X.K = K := by rfl) : CallR X (.builtin "isinstance") (rIsiT K) := by subst h; exact call_isiT
theorem k_all (hc : X.calm = true) (h : X.K = K := by rfl) : CallR X (.builtin "all") (rAll K) := by subst h; exact cr_all hc
theorem k_any (hc : X.calm = true) (h : X.K = K := by rfl) : CallR X (.builtin "any") (rAny K) := by subst h; exact cr_any hc
def gOr (t u : TG) : TG := fun v σ H Q => t v σ H Q ∨ u v σ H Q
theorem pg_or {tg : Expr} {t u : TG} (a : PG X tg t) (b : PG X tg u) : PG X tg (gOr t u) := ⟨fun pins s σ H v u' Q I r h => h.elim (a.run pins s σ H v u' Q I r) (b.run pins s σ H v u' Q I r)⟩
def iOr (t u : TI) : TI := fun σ H R => t σ H R ∨ u σ H R
theorem pi_or {tg e : Expr} {t u : TI} (a : PI X tg e t) (b : PI X tg e u) : PI X tg e (iOr t u) := ⟨fun pins s σ H R I h => h.elim (a.run pins s σ H R I) (b.run pins s σ H R I)⟩
/-- list or tuple -/
def iSeq (K : PySem.W.Frag) (te : TE) : TI := iOr (iList K te) (iTup K te)
theorem pi_seq {tg e : Expr} {te : TE} (he : PE X e te) (h : X.K = K := by rfl) : PI X tg e (iSeq K te) := by subst h; exact pi_or (pi_list he) (pi_tup he)
def gSeq (K : PySem.W.Frag) (n : Nat) (t : TGs) : TG := gOr (gTup K n t) (gUnl K n t)
theorem pg_seq {es : List Expr} {k : Nat} {pos : Pos} {t : TGs} {n : Nat} (hc : X.calm = true) (hs : PGs X es t) (hn : (assignEach es X.env).length = n := by rfl) (hst : (assignEach es X.env).findIdx? (·.1) = none := by rfl) (h : X.K = K := by rfl) : PG X (.Tuple es k pos) (gSeq K n t) := by
  subst h; exact pg_or (pg_tup hc hs hn hst) (pg_unl hc hs hn hst)
end
/-! ### readings -/
section
variable {K : PySem.W.Frag} {σ : L2.St} {B X : Hp} {ta tb tc te : TE} {t : TT} {tr : TA} {x y z v : V} {D : Ends} {tz : TS} {P : V → Hp → Prop} {xs : List V} {d : PyData}
theorem ei_seq {a : Addr} (h : Ev te σ B (.ref a)) (hx : SqA K B a xs) : EvI (iSeq K te) σ B fun ys _ => ys = xs := fun H1 e R q => by
  rcases hx with hx | hx
  · exact .inl (ei_list h hx H1 e R q)
  · exact .inr (ei_tup h hx H1 e R q)
theorem ev_isiD {n : String} {b : Bool} (h : Ev te σ B x) (hd : Dp K B x d) (hk : kitB (tyD d) n = some b) : Ev (tCB (rIsi K) (tCons te (tCons (tC (.ty n)) tNil))) σ B (.bl b) :=
  ev_isi h (.ty n) (fun _ e => dp_ty (dp_ex e hd)) (kit_ty hk)
theorem ev_isiT2 {n m : String} {a b : Bool} (h : Ev te σ B x) (hd : Dp K B x d) (ha : kitB (tyD d) n = some a) (hb : kitB (tyD d) m = some b) : Ev (tCB (rIsiT K) (tCons te (tCons (tTup (tCons (tC (.ty n)) (tCons (tC (.ty m)) tNil))) tNil))) σ B (.bl (a || b)) := fun H1 e Q q => by
  refine h H1 e _ fun H2 e2 => ?_
  refine (eu_tup (vs := [.ty n, .ty m]) (ea_cons ev_c (ea_cons ev_c ea_nil)) (show (2 : Nat) ≤ 100000 by decide)) H2 (Ex.refl H2) _ fun p H3 hp e3 h3 => ?_
  refine ⟨x, p, [.ty n, .ty m], .type (tyD d), [.type n, .type m], a || b, rfl, h3, .cons (.ty n) (.cons (.ty m) .nil), dp_ty (dp_ex ((e.trans e2).trans e3) hd), ?_, q H3 (e2.trans e3)⟩
  cases a with
  | true => exact kitAny_cons (kit_ty ha) (fun z => nomatch z) fun _ => rfl
  | false => exact kitAny_cons (kit_ty ha) (fun _ => kitAny_cons (kit_ty hb) (fun z => by subst z; exact kitAny_nil) fun z => by subst z; rfl) fun z => nomatch z
theorem ev_lenA {a : Addr} (ha : Ev ta σ B (.ref a)) (h : SqA K B a xs) : Ev (tCB (rLenS K) (tCons ta tNil)) σ B (.int (xs.length : Int)) := fun H1 e Q q =>
  ha H1 e _ fun H2 e2 => ⟨a, xs, rfl, h.imp (ex_l (e.trans e2)) (ex_t (e.trans e2)), q H2 e2⟩
theorem rv_ixA {p : Addr} {i : Int} (h : SqA K B p xs) (ha : atI xs i = some v) : RV (rIxA K) (.ref p) (.int i) B v := fun H1 e Q q => by
  rcases h with h | h
  · exact .inl (rv_ixL h ha H1 e Q q)
  · exact .inr (rv_ixT h ha H1 e Q q)
theorem ev_chain {f g : Int → Int → Bool} {i j k : Int} (ha : Ev ta σ B (.int i)) (hb : Ev tb σ B (.int j)) (hc : Ev tc σ B (.int k)) : Ev (tChain (rI0 fun i j => .bl (f i j)) (rI0 fun i j => .bl (g i j)) ta tb tc) σ B (.bl (f i j && g j k)) := fun H1 e Q q =>
  ha H1 e _ fun H2 e2 => hb H2 (e.trans e2) _ fun H3 e3 => ⟨i, j, rfl, rfl, f i j, rfl, by
    cases hf : f i j with
    | true =>
      rw [if_pos rfl]
      refine hc H3 ((e.trans e2).trans e3) _ fun H4 e4 => ⟨j, k, rfl, rfl, ?_⟩
      have z := q H4 ((e2.trans e3).trans e4)
      rw [hf] at z
      exact z
    | false =>
      rw [if_neg (by decide)]
      have z := q H3 (e2.trans e3)
      rw [hf] at z
      exact z⟩
theorem ev_m0 {r : V → List V → Hp → VK → Prop} {s : Str} (h : Ev te σ B (.str s)) (hr : ∀ H Q, Q v H → r (.str s) [] H Q) : Ev (tM0 r te) σ B v := fun H1 e Q q =>
  h H1 e _ fun H2 e2 => ⟨⟨s, rfl⟩, hr H2 _ (q H2 e2)⟩
theorem ev_all {n : Nat} {b : Nat → Bool} (h : EvR te σ B fun z B' => ∃ p ys, z = .ref p ∧ B' p = some (.lst ys) ∧ ys = (List.range n).map fun i => V.bl (b i)) : Ev (tCB (rAll K) (tCons te tNil)) σ B (.bl ((List.range n).all b)) := fun H1 e Q q =>
  h H1 e _ fun z H2 B' e2 g e3 ⟨p, ys, hz, hp, hy⟩ => by
    subst hz
    refine ⟨p, (List.range n).map b, rfl, sq_of ?_, ?_⟩
    · rw [e3 _ _ hp, hy, List.map_map]; rfl
    · have c : ((List.range n).map b).all id = (List.range n).all b := by rw [List.all_map]; rfl
      rw [c]
      exact q H2 e2
/-- tuple(e) -/
theorem er_tup {Py : List V → Hp → Prop} (m : MoA Py) (h : EvR te σ B (SqP K Py)) : EvR (tCB (rTupOf K) (tCons te tNil)) σ B (TpP K Py) := fun H1 e Q q =>
  h H1 e _ fun z H2 B' e2 g e3 ⟨p, ys, hz, hs, hp⟩ => by
    subst hz
    refine ⟨p, ys, rfl, ?_⟩
    rcases hs with hs | hs
    · refine .inl ⟨ex_l e3 hs, fun l hl => ?_⟩
      have hB : B' l = none := none_of e3 hl
      refine q _ _ (upd B' l (.tup ys)) (e2.trans (Ex.new hl)) ⟨g.ex.trans (Ex.new hB), fun a ha hx => ?_⟩ (fun a o ha => ?_) ⟨l, ys, rfl, st_of upd_same, m.mo (Ex.new hB) hp⟩
      · have c : a ≠ l := fun c => by subst c; exact ex_ne e2 hx hl
        rw [upd_ne c]; exact g.av a ha hx
      · by_cases c : a = l
        · subst c; rw [upd_same] at ha ⊢; exact ha
        · rw [upd_ne c] at ha ⊢; exact e3 a o ha
    · exact .inr ⟨ex_t e3 hs, q _ _ B' e2 g e3 ⟨p, ys, rfl, hs, hp⟩⟩
/-- list(e) -/
theorem er_list {Py : List V → Hp → Prop} (m : MoA Py) (h : EvR te σ B (SqP K Py)) : EvR (tCB (rListS K) (tCons te tNil)) σ B (fun z B' => ∃ p ys, z = .ref p ∧ B' p = some (.lst ys) ∧ B p = none ∧ Py ys B') := fun H1 e Q q =>
  h H1 e _ fun z H2 B' e2 g e3 ⟨p, ys, hz, hs, hp⟩ => by
    subst hz
    refine ⟨p, ys, rfl, hs.imp (ex_l e3) (ex_t e3), fun l hl => ?_⟩
    have hB : B' l = none := none_of e3 hl
    refine q _ _ (upd B' l (.lst ys)) (e2.trans (Ex.new hl)) ⟨g.ex.trans (Ex.new hB), fun a ha hx => ?_⟩ (fun a o ha => ?_) ⟨l, ys, rfl, upd_same, none_of g.ex hB, m.mo (Ex.new hB) hp⟩
    · have c : a ≠ l := fun c => by subst c; exact ex_ne e2 hx hl
      rw [upd_ne c]; exact g.av a ha hx
    · by_cases c : a = l
      · subst c; rw [upd_same] at ha ⊢; exact ha
      · rw [upd_ne c] at ha ⊢; exact e3 a o ha
/-- (e, ..) -/
theorem er_tupN {Pa : List V → Hp → Prop} (m : MoA Pa) (h : EvAR tr σ B Pa) (hl : ∀ vs B', Pa vs B' → vs.length ≤ 100000) : EvR (tTup tr) σ B (fun z B' => ∃ p vs, z = .ref p ∧ B' p = some (.tup vs) ∧ Pa vs B') := fun H1 e Q q =>
  h H1 e _ fun vs H2 B' e2 g e3 pa => ⟨sz_of (hl vs B' pa), fun p hp => by
    have hB : B' p = none := none_of e3 hp
    refine q _ _ (upd B' p (.tup vs)) (e2.trans (Ex.new hp)) ⟨g.ex.trans (Ex.new hB), fun a ha hx => ?_⟩ (fun a o ha => ?_) ⟨p, vs, rfl, upd_same, m.mo (Ex.new hB) pa⟩
    · have c : a ≠ p := fun c => by subst c; exact ex_ne e2 hx hp
      rw [upd_ne c]; exact g.av a ha hx
    · by_cases c : a = p
      · subst c; rw [upd_same] at ha ⊢; exact ha
      · rw [upd_ne c] at ha ⊢; exact e3 a o ha⟩
theorem er_lstN {Pa : List V → Hp → Prop} (m : MoA Pa) (h : EvAR tr σ B Pa) (hl : ∀ vs B', Pa vs B' → vs.length ≤ 100000) : EvR (tLst tr) σ B (fun z B' => ∃ p vs, z = .ref p ∧ B' p = some (.lst vs) ∧ Pa vs B') := fun H1 e Q q =>
  h H1 e _ fun vs H2 B' e2 g e3 pa => ⟨sz_of (hl vs B' pa), fun p hp => by
    have hB : B' p = none := none_of e3 hp
    refine q _ _ (upd B' p (.lst vs)) (e2.trans (Ex.new hp)) ⟨g.ex.trans (Ex.new hB), fun a ha hx => ?_⟩ (fun a o ha => ?_) ⟨p, vs, rfl, upd_same, m.mo (Ex.new hB) pa⟩
    · have c : a ≠ p := fun c => by subst c; exact ex_ne e2 hx hp
      rw [upd_ne c]; exact g.av a ha hx
    · by_cases c : a = p
      · subst c; rw [upd_same] at ha ⊢; exact ha
      · rw [upd_ne c] at ha ⊢; exact e3 a o ha⟩
/-- a, b, c = e -/
theorem x_unp {n : Nat} {a : Addr} {t : TGs} (h : Ev te σ B (.ref a)) (hx : SqA K B a xs) (hn : xs.length = n) (k : ∀ H Q, Ex B H → Ex X H → (∀ σ', (∀ H', Ex B H' → Ex X H' → tz D σ' H') → Q σ' H) → t xs σ H Q) : Sx X (tSeq (tAsg te (gSeq K n t)) tz) D σ B := fun H e eX => h H e _ fun H2 e2 => by
  rcases hx with hx | hx
  · exact .inr ⟨a, xs, rfl, ex_l (e.trans e2) hx, hn, k H2 _ (e.trans e2) (eX.trans e2) fun σ' q => q H2 (e.trans e2) (eX.trans e2)⟩
  · exact .inl ⟨a, xs, rfl, ex_t (e.trans e2) hx, hn, k H2 _ (e.trans e2) (eX.trans e2) fun σ' q => q H2 (e.trans e2) (eX.trans e2)⟩
end
end RX
/-! the text's facts, with its constants -/
namespace RX
open PySem PySem.Spec PyProof.Rows L2 Evl LX XV
def exC (intN : List (Str × Int)) (tupN : List (Str × List He.Dv)) (ex : PySem.W.Frag → Bool) (K : PySem.W.Frag) : Bool := (intN.all fun p => (He.Fa.int p.1 p.2).ok K) && ((tupN.all fun p => He.tupB K p.1 p.2) && ex K)
structure TxC (gloN freeN : List Str) (fnD : List He.DefD) (intN : List (Str × Int)) (tupN : List (Str × List He.Dv)) (ex : PySem.W.Frag → Bool) (K : PySem.W.Frag) (mg : Str → Option Value) : Prop where
  t : Tx gloN freeN fnD ex K mg
  i : ∀ p ∈ intN, ∃ tk, mg p.1 = some (.int p.2 tk)
  u : ∀ p ∈ tupN, ∀ H, SqT K H (He.ga K p.1) (p.2.map (He.Dv.v K))
section
variable {gloN freeN : List Str} {fnD : List He.DefD} {intN : List (Str × Int)} {tupN : List (Str × List He.Dv)} {ex : PySem.W.Frag → Bool} {K : PySem.W.Frag} {mg : Str → Option Value}
theorem TxC.of {n : Nat} {h : Heap} (X : K.In h) (G : h.Ns mainGlobals mg) (c : He.SaysD (gloN.map He.Fa.glo ++ freeN.map He.Fa.free) fnD K) (cx : exC intN tupN ex K = true) : TxC gloN freeN fnD intN tupN ex K mg where
  t := Tx.of (n := n) X G c (He.ba (He.ba cx).2).2
  i := fun p hp => He.int_ok X G (List.all_eq_true.mp (He.ba cx).1 p hp)
  u := fun p hp H => He.tupB_ok (List.all_eq_true.mp (He.ba (He.ba cx).2).1 p hp) H
theorem TxC.n (T : TxC gloN freeN fnD intN tupN ex K mg) (x : Str) (h : x ∈ freeN) : mg x = none := T.t.n x h
theorem TxC.g (T : TxC gloN freeN fnD intN tupN ex K mg) (x : Str) (h : x ∈ gloN) : mg x = some (.ref (He.ga K x)) := T.t.g x h
theorem TxC.okF {P : Program} {w : World} {base : Heap} {k : Nat} {ps : List Str} {sp : Sp} (T : TxC gloN freeN fnD intN tupN ex K mg) (i : Nat) {x : Str} {st : Stmt}
    (h : fnD[i]? = some (KH.dat (x, none) x st)) (hx : x ∈ gloN) (hF : ∀ f fd, Fun K x x st f fd → FnOk P w K mg base CX0 k f fd ps sp)
    (hb : ∀ (kV doc pm : Value) (an : Option Addr) (cdv ct : Value) (us : List Value), us.length = ps.length → bindArgs (PySem.W.fnOf x x (defArgs st) (defBody st) (defScope st) .none kV doc pm an cdv ct) ⟨us, []⟩ = pure (ps.zip us)) : OkF P w K mg base k x ps sp := T.t.okF i h hx hF hb
theorem TxC.okC {P : Program} {w : World} {base : Heap} {k : Nat} {ps : List Str} {sp : Sp} (T : TxC gloN freeN fnD intN tupN ex K mg) (i : Nat) {x q : Str} {st : Stmt}
    (h : fnD[i]? = some (KH.dat (x, some "__init__") q st)) (o : mg x = some (.ref (He.ga K x)) ∧ OexC K (He.ga K x)) (hi : PySem.W.findIn K (.ref (He.ga K x)) "__init__" = some (some (.ref (He.ma K (He.ga K x) "__init__"))) ∧ PySem.W.typeIn K (.ref (He.ma K (He.ga K x) "__init__")) = some (.type "function"))
    (hF : ∀ f fd, Fun K "__init__" q st f fd → FnOk P w K mg base CX0 k f fd ps sp)
    (hb : ∀ (kV doc pm : Value) (an : Option Addr) (cdv ct : Value) (us : List Value), us.length = ps.length → bindArgs (PySem.W.fnOf "__init__" q (defArgs st) (defBody st) (defScope st) .none kV doc pm an cdv ct) ⟨us, []⟩ = pure (ps.zip us)) : OkC P w K mg base k x ps sp := T.t.okC i h o hi hF hb
end
/-- a def that hands back one of two truth values, or whatever is described: the start of its proof -/
theorem spR_len {D : List V → Hp → (V → Hp → Prop) → Prop} {vs : List V} {H : Hp} {Q : VK} {E : XK} {n : Nat} (h : spR D vs H Q E) (hn : ∀ B P, D vs B P → vs.length = n) : vs.length = n := let ⟨B, P, _, d, _⟩ := h; hn B P d
end RX
/-! all of a comprehension; data of bounded size -/
namespace RX
open PySem PySem.Spec PyProof.Rows L2 Evl LX XV
section
variable {K : PySem.W.Frag} {σ : L2.St} {B X : Hp} {te : TE} {wi : TI} {xs : List V} {j : Nat} {vs : List Nat}
theorem list_range {α : Type} {f : Nat → α} {n : Nat} {ys : List α} (hl : ys.length = n) (h : ∀ (k : Nat) (y : α), ys[k]? = some y → y = f k) : ys = (List.range n).map f := by
  apply List.ext_getElem?
  intro i
  rw [List.getElem?_map]
  by_cases c : i < n
  · rw [List.getElem?_range c, List.getElem?_eq_getElem (by omega)]
    exact congrArg some (h i _ (List.getElem?_eq_getElem (by omega)))
  · rw [List.getElem?_eq_none (by omega), List.getElem?_eq_none (by rw [List.length_range]; omega)]
    rfl
/-- a comprehension without a test, over items that are known -/
theorem er_lc0 {Pe : Nat → V → Hp → Prop} (mo : ∀ i, Mo (Pe i)) (hi : EvI wi σ B fun ys _ => ys = xs) (hz : xs.length ≤ 40000) (hw : ∀ x, wipe ((wipe σ vs).set j (some x)) vs = wipe σ vs)
    (he : ∀ i x B', Ex B B' → xs[i]? = some x → EvR te ((wipe σ vs).set j (some x)) B' (Pe i)) :
    EvR (tLc wi (gName j) tYes te vs) σ B fun z B' => ∃ (p : Addr) (ys : List V), z = .ref p ∧ B' p = some (.lst ys) ∧ ys.length = xs.length ∧ ∀ (k : Nat) (y : V), ys[k]? = some y → Pe k y B' :=
  (er_lc (fun _ _ => true) (fun _ => Pe) (fun _ => mo) moA_eq hi hw (fun ys B' h => by rw [h]; exact hz) (fun _ _ _ _ _ _ _ => et_yes) (fun ys i x B' e h hx _ => he i x B' e (by rw [← h]; exact hx))).imp fun z B' _ ⟨ys, p, zs, h1, h2, h3, h4⟩ => by
    subst h1
    obtain ⟨l, q⟩ := h4.all
    exact ⟨p, zs, h2, h3, l, q⟩
theorem ev_allLc {b : Nat → Bool} (hi : EvI wi σ B fun ys _ => ys = xs) (hz : xs.length ≤ 40000) (hw : ∀ x, wipe ((wipe σ vs).set j (some x)) vs = wipe σ vs)
    (he : ∀ i x B', Ex B B' → xs[i]? = some x → Ev te ((wipe σ vs).set j (some x)) B' (.bl (b i))) : Ev (tCB (rAll K) (tCons (tLc wi (gName j) tYes te vs) tNil)) σ B (.bl ((List.range xs.length).all b)) :=
  ev_all ((er_lc0 (Pe := fun i => IsV (.bl (b i))) (fun _ => inferInstance) hi hz hw (fun i x B' e hx => eR_v (he i x B' e hx))).imp fun z B' _ ⟨p, ys, h1, h2, h3, h4⟩ => ⟨p, ys, h1, h2, list_range h3 h4⟩)
end
theorem all_range {α : Type} (p : α → Bool) (z : α) : ∀ ds : List α, ds.all p = (List.range ds.length).all fun i => p (ds.getD i z) := fun ds => by
  rw [Bool.eq_iff_iff, List.all_eq_true, List.all_eq_true]
  constructor
  · intro h i hi
    have hi := List.mem_range.mp hi
    rw [List.getD_eq_getElem?_getD, List.getElem?_eq_getElem hi]
    exact h _ (List.getElem_mem hi)
  · intro h x hx
    obtain ⟨i, hi, e⟩ := List.mem_iff_getElem.mp hx
    have q := h i (List.mem_range.mpr hi)
    rw [List.getD_eq_getElem?_getD, List.getElem?_eq_getElem hi] at q
    rw [← e]
    exact q
mutual
def smD : PyData → Bool
  | .str s => decide (s.length ≤ 40000)
  | .list ds => decide (ds.length ≤ 40000) && smAll ds
  | .tuple ds => decide (ds.length ≤ 40000) && smAll ds
  | _ => true
def smAll : List PyData → Bool
  | [] => true
  | d :: ds => smD d && smAll ds
end
theorem smAll_mem : ∀ {ds : List PyData}, smAll ds = true → ∀ d ∈ ds, smD d = true
  | [], _, d, h => nomatch h
  | a :: r, h, d, hd => by
    rw [smAll, Bool.and_eq_true] at h
    rcases List.mem_cons.mp hd with e | e
    · rw [e]; exact h.1
    · exact smAll_mem h.2 d e
theorem smAll_of : ∀ {ds : List PyData}, (∀ d ∈ ds, smD d = true) → smAll ds = true
  | [], _ => rfl
  | a :: r, h => by
    rw [smAll, Bool.and_eq_true]
    exact ⟨h a List.mem_cons_self, smAll_of fun d hd => h d (List.mem_cons_of_mem _ hd)⟩
theorem sm_seq {d : PyData} {ds : List PyData} (h : smD d = true) (hs : seqD d = some ds) : ds.length ≤ 40000 ∧ ∀ x ∈ ds, smD x = true := by
  cases d with
  | list l =>
    cases hs
    rw [smD, Bool.and_eq_true] at h
    exact ⟨of_decide_eq_true h.1, smAll_mem h.2⟩
  | tuple l =>
    cases hs
    rw [smD, Bool.and_eq_true] at h
    exact ⟨of_decide_eq_true h.1, smAll_mem h.2⟩
  | _ => exact nomatch hs
end RX
namespace RX
open PySem PySem.Spec PyProof.Rows L2 Evl LX XV
section
variable {K : PySem.W.Frag} {σ : L2.St} {B X : Hp} {te : TE} {D : Ends} {tz : TS} {x y z : V} {a : Addr}
theorem x_unp2 {i j : Nat} (h : Ev te σ B (.ref a)) (hx : SqA K B a [x, y]) (k : Sx X tz D ((σ.set i (some x)).set j (some y)) B) : Sx X (tSeq (tAsg te (gSeq K 2 (gCons (gName i) (gCons (gName j) gNil)))) tz) D σ B :=
  x_unp h hx rfl fun H2 Q2 _ _ q => ⟨_, _, rfl, _, _, rfl, rfl, q _ fun H' e1 e2 => k H' e1 e2⟩
theorem x_unp3 {i j l : Nat} (h : Ev te σ B (.ref a)) (hx : SqA K B a [x, y, z]) (k : Sx X tz D (((σ.set i (some x)).set j (some y)).set l (some z)) B) : Sx X (tSeq (tAsg te (gSeq K 3 (gCons (gName i) (gCons (gName j) (gCons (gName l) gNil))))) tz) D σ B :=
  x_unp h hx rfl fun H2 Q2 _ _ q => ⟨_, _, rfl, _, _, rfl, _, _, rfl, rfl, q _ fun H' e1 e2 => k H' e1 e2⟩
end
theorem dps3 {K : PySem.W.Frag} {B : Hp} : ∀ {xs : List V} {ds : List PyData}, DpAll K B xs ds → xs.length = 3 → ∃ x y z a b c, xs = [x, y, z] ∧ ds = [a, b, c] ∧ Dp K B x a ∧ Dp K B y b ∧ Dp K B z c := by
  intro xs ds h hl
  cases h with
  | nil => exact nomatch hl
  | cons h1 t =>
    cases t with
    | nil => exact nomatch hl
    | cons h2 t =>
      cases t with
      | nil => exact nomatch hl
      | cons h3 t =>
        cases t with
        | nil => exact ⟨_, _, _, _, _, _, rfl, rfl, h1, h2, h3⟩
        | cons h4 t =>
          rw [List.length_cons, List.length_cons, List.length_cons, List.length_cons] at hl
          omega
end RX
/-! rows of whole numbers in ascending order, each once -/
namespace AS
open PySem PySem.Spec PyProof.Rows L2 TS
theorem code_inj {B : Int} : ∀ {r q : List Int}, r.length = q.length → Bd B r → Bd B q → code B r = code B q → r = q
  | [], [], _, _, _, _ => rfl
  | [], b :: q, hl, _, _, _ => by simp at hl
  | a :: r, [], hl, _, _, _ => by simp at hl
  | a :: r, b :: q, hl, hr, hq, h => by
    have hl' : r.length = q.length := by simpa using hl
    have hab : a = b := by
      rcases Int.lt_trichotomy a b with c | c | c
      · have := code_lt hl' hr.tail hq.tail c; omega
      · exact c
      · have := code_lt hl'.symm hq.tail hr.tail c; omega
    subst hab
    have hc : code B r = code B q := by
      have h : a * B ^ r.length + code B r = a * B ^ q.length + code B q := h
      rw [hl'] at h
      omega
    rw [code_inj hl' hr.tail hq.tail hc]
/-- rows of one arity, things below B -/
def Ok (B : Int) (d : Nat) (r : List Int) : Prop := r.length = d ∧ Bd B r
theorem ok_inj {B : Int} {d : Nat} {r q : List Int} (h : Ok B d r) (h' : Ok B d q) (e : code B r = code B q) : r = q := code_inj (h.1.trans h'.1.symm) h.2 h'.2 e
def Asc (B : Int) (L : List (List Int)) : Prop := L.Pairwise fun q r => code B q < code B r
theorem asc_of {B : Int} {d : Nat} {L : List (List Int)} (hok : ∀ r ∈ L, Ok B d r) (hn : L.Nodup) (hp : L.Pairwise fun q r => code B q ≤ code B r) : Asc B L := by
  unfold Asc
  have h2 : L.Pairwise fun q r => q ≠ r := hn
  have := List.Pairwise.and hp h2
  refine List.Pairwise.imp_of_mem (fun {a b} ha hb h => ?_) this
  obtain ⟨h1, h2⟩ := h
  rcases Int.lt_or_eq_of_le h1 with c | c
  · exact c
  · exact absurd (ok_inj (hok a ha) (hok b hb) c) h2
theorem asc_uniq {B : Int} : ∀ {L M : List (List Int)}, Asc B L → Asc B M → (∀ r, r ∈ L ↔ r ∈ M) → L = M
  | [], [], _, _, _ => rfl
  | [], m :: M, _, _, h => absurd ((h m).mpr List.mem_cons_self) (by simp)
  | l :: L, [], _, _, h => absurd ((h l).mp List.mem_cons_self) (by simp)
  | l :: L, m :: M, h1, h2, h => by
    obtain ⟨a1, a2⟩ := List.pairwise_cons.mp h1
    obtain ⟨b1, b2⟩ := List.pairwise_cons.mp h2
    have e : l = m := by
      rcases List.mem_cons.mp ((h l).mp List.mem_cons_self) with c | c
      · exact c
      · rcases List.mem_cons.mp ((h m).mpr List.mem_cons_self) with c' | c'
        · exact c'.symm
        · have := b1 l c; have := a1 m c'; omega
    subst e
    refine congrArg (l :: ·) (asc_uniq a2 b2 fun r => ⟨fun hr => ?_, fun hr => ?_⟩)
    · rcases List.mem_cons.mp ((h r).mp (List.mem_cons_of_mem _ hr)) with c | c
      · subst c; have := a1 r hr; omega
      · exact c
    · rcases List.mem_cons.mp ((h r).mpr (List.mem_cons_of_mem _ hr)) with c | c
      · subst c; have := b1 r hr; omega
      · exact c
def ins (B : Int) (r : List Int) : List (List Int) → List (List Int)
  | [] => [r]
  | x :: t => if code B r < code B x then r :: x :: t else if r = x then x :: t else x :: ins B r t
def ascR (B : Int) (rows : List (List Int)) : List (List Int) := rows.foldr (ins B) []
theorem mem_ins {B : Int} {r y : List Int} : ∀ {L : List (List Int)}, y ∈ ins B r L ↔ y = r ∨ y ∈ L
  | [] => by simp [ins]
  | x :: t => by
    unfold ins
    split
    · simp
    · split
      · rename_i h
        subst h
        simp
      · rw [List.mem_cons, mem_ins, List.mem_cons]
        constructor
        · rintro (c | c | c) <;> simp [c]
        · rintro (c | c | c) <;> simp [c]
theorem mem_ascR {B : Int} {y : List Int} : ∀ {L : List (List Int)}, y ∈ ascR B L ↔ y ∈ L
  | [] => by simp [ascR]
  | x :: t => by
    show y ∈ ins B x (ascR B t) ↔ _
    rw [mem_ins, mem_ascR, List.mem_cons]
theorem ins_asc {B : Int} {d : Nat} {r : List Int} : ∀ {L : List (List Int)}, Asc B L → Ok B d r → (∀ x ∈ L, Ok B d x) → Asc B (ins B r L)
  | [], _, _, _ => List.pairwise_singleton _ _
  | x :: t, h, hr, hL => by
    obtain ⟨a1, a2⟩ := List.pairwise_cons.mp h
    unfold ins
    split
    · rename_i c
      refine List.pairwise_cons.mpr ⟨fun y hy => ?_, h⟩
      rcases List.mem_cons.mp hy with e | e
      · rw [e]; exact c
      · have := a1 y e; omega
    · rename_i c
      split
      · exact h
      · rename_i c2
        refine List.pairwise_cons.mpr ⟨fun y hy => ?_, ins_asc a2 hr fun z hz => hL z (List.mem_cons_of_mem _ hz)⟩
        rcases mem_ins.mp hy with e | e
        · subst e
          rcases Int.lt_or_eq_of_le (Int.not_lt.mp c) with q | q
          · exact q
          · exact absurd (ok_inj hr (hL x List.mem_cons_self) q.symm) c2
        · exact a1 y e
theorem ascR_asc {B : Int} {d : Nat} : ∀ {L : List (List Int)}, (∀ x ∈ L, Ok B d x) → Asc B (ascR B L)
  | [], _ => List.Pairwise.nil
  | x :: t, h => ins_asc (ascR_asc fun y hy => h y (List.mem_cons_of_mem _ hy)) (h x List.mem_cons_self) fun y hy => h y (List.mem_cons_of_mem _ (mem_ascR.mp hy))
/-- sorted, each once: there is one such list -/
theorem ascR_of {B : Int} {d : Nat} {L M : List (List Int)} (hM : ∀ x ∈ M, Ok B d x) (hn : L.Nodup) (hp : L.Pairwise fun q r => code B q ≤ code B r) (hm : ∀ r, r ∈ L ↔ r ∈ M) : L = ascR B M :=
  asc_uniq (asc_of (fun r hr => hM r ((hm r).mp hr)) hn hp) (ascR_asc hM) fun r => (hm r).trans mem_ascR.symm
end AS
/-! sets of rows, sorted; dicts with texts as keys -/
namespace RX
open PySem PySem.Spec PyProof.Rows L2 Evl LX XV WS
def IsTI (K : PySem.W.Frag) (k : List Int) : V → Hp → Prop := fun z B => ∃ p, z = .ref p ∧ SqT K B p (k.map V.int)
instance {K : PySem.W.Frag} {k : List Int} : Mo (IsTI K k) := ⟨fun e ⟨p, h, s⟩ => ⟨p, h, ex_t e s⟩⟩
/-- the values ys are the rows R -/
def RowsAt (K : PySem.W.Frag) (R : List (List Int)) : List V → Hp → Prop := fun ys B => ys.length = R.length ∧ ∀ (i : Nat) (y : V) (r : List Int), ys[i]? = some y → R[i]? = some r → IsTI K r y B
instance {K : PySem.W.Frag} {R : List (List Int)} : MoA (RowsAt K R) := ⟨fun e ⟨l, h⟩ => ⟨l, fun i y r a b => Mo.mo e (h i y r a b)⟩⟩
section
variable {K : PySem.W.Frag} {P : Program} {w : World} {σ : L2.St} {B X : Hp} {te ta tb : TE} {wi : TI} {xs : List V} {j : Nat} {vs : List Nat} {D : Ends} {tz : TS} {v : V}
/-- {e for x in it}, each e a row -/
theorem er_sc {k : Nat → List Int} (hi : EvI wi σ B fun ys _ => ys = xs) (hz : xs.length < 63) (hw : ∀ x, wipe ((wipe σ vs).set j (some x)) vs = wipe σ vs)
    (he : ∀ i x B', Ex B B' → xs[i]? = some x → EvR te ((wipe σ vs).set j (some x)) B' (IsTI K (k i))) :
    EvR (tScG (fun a => SetTO P w a []) (addTup K P w) wi (gName j) tYes te vs) σ B fun z B' => ∃ (a : Addr) (L : List (Addr × List Int)), z = .ref a ∧ B' a = some (SetTO P w a L) ∧ (∀ p ∈ L, SqT K B' p.1 (p.2.map V.int)) ∧ L.length ≤ xs.length ∧ ∀ r, r ∈ L.map (·.2) ↔ ∃ i, i < xs.length ∧ r = k i := fun H1 e Q q => by
  refine hi H1 e _ fun J H2 B1 ys e2 g e3 px ft => fun Dl hD => ?_
  subst px
  have hD1 : B1 Dl = none := none_of e3 hD
  have nil0 : ∀ r, r ∈ ([] : List (Addr × List Int)).map (·.2) ↔ ∃ n, n < 0 ∧ r = k n := by
    intro r
    simp
  refine ⟨fun i m H' => m = ys.length - i ∧ i ≤ ys.length ∧ ∃ Bs L, Gr H2 B1 Bs ∧ Bs Dl = none ∧ Ex Bs H' ∧ H' Dl = some (SetTO P w Dl L) ∧ (∀ p ∈ L, SqT K Bs p.1 (p.2.map V.int)) ∧ L.length ≤ i ∧ (∀ r, r ∈ L.map (·.2) ↔ ∃ n, n < i ∧ r = k n) ∧ Ex H2 H', ⟨ys.length, by simp, Nat.zero_le _, B1, [], Gr.refl _ _, hD1, e3.trans (Ex.new hD), upd_same, (fun p h => nomatch h), Nat.le_refl _, nil0, Ex.new hD⟩, ?_⟩
  rintro i m H' ⟨rfl, hi', Bs, L, gs, hDs, es, hDl, ht, hLn, hLm, e2'⟩
  have eF : Ex B1 H' := gs.ex.trans es
  by_cases hlt : i < ys.length
  · refine .inr ⟨ft.go i H' eF hlt, fun H'' => (ys.length - (i + 1)) = ys.length - (i + 1) ∧ i + 1 ≤ ys.length ∧ ∃ Bs L, Gr H2 B1 Bs ∧ Bs Dl = none ∧ Ex Bs H'' ∧ H'' Dl = some (SetTO P w Dl L) ∧ (∀ p ∈ L, SqT K Bs p.1 (p.2.map V.int)) ∧ L.length ≤ i + 1 ∧ (∀ r, r ∈ L.map (·.2) ↔ ∃ n, n < i + 1 ∧ r = k n) ∧ Ex H2 H'', fun H'' h => ⟨_, by omega, h⟩, fun x H3 y => ?_⟩
    obtain ⟨r, hx⟩ := ft.yld i H' x H3 eF y hlt
    subst r
    refine ⟨hw x, ?_⟩
    show te _ H3 _
    refine he i x B1 g.ex hx H3 eF _ fun z H5 B' e5 g5 e6 ⟨b, hz', hb⟩ => ?_
    have hB' : B' Dl = none := g5.av Dl hD1 (by rw [hDl]; exact Option.some_ne_none _)
    have hM : mrg Bs B' Dl = none := by rw [mrg_none hDs]; exact hB'
    have eM : Ex (mrg Bs B') H5 := mrg_le (es.trans e5) e6
    have eB' : Ex B' (mrg Bs B') := mrg_r (es.trans e5) e6
    refine ⟨b, k i, L, hz', ex_t e6 hb, e5 _ _ hDl, fun p hp => ex_t (es.trans e5) (ht p hp), by omega, fun L' c1 c2 => ⟨rfl, hlt, mrg Bs B', L', ⟨gs.ex.trans mrg_l, mrg_av gs.av (g5.av.back e2')⟩, hM, fun a o ha => ?_, upd_same, fun p hp => ?_, ?_, fun r => ?_, fun a o ha => ?_⟩⟩
    · have c : a ≠ Dl := fun c => by subst c; rw [hM] at ha; exact nomatch ha
      rw [upd_ne c]; exact eM a o ha
    · by_cases c : k i ∈ L.map (·.2)
      · rw [c1 c] at hp
        exact ex_t mrg_l (ht p hp)
      · rcases List.mem_cons.mp ((c2 c).mem_iff.mp hp) with e' | e'
        · rw [e']; exact ex_t eB' hb
        · exact ex_t mrg_l (ht p e')
    · by_cases c : k i ∈ L.map (·.2)
      · rw [c1 c]; omega
      · rw [(c2 c).length_eq, List.length_cons]; omega
    · have hm : r ∈ L'.map (·.2) ↔ r = k i ∨ r ∈ L.map (·.2) := by
        by_cases c : k i ∈ L.map (·.2)
        · rw [c1 c]
          exact ⟨.inr, fun h => h.elim (fun h => h ▸ c) id⟩
        · rw [((c2 c).map (·.2)).mem_iff, List.map_cons, List.mem_cons]
      rw [hm, hLm]
      constructor
      · rintro (h | ⟨n, hn, h⟩)
        · exact ⟨i, Nat.lt_succ_self _, h⟩
        · exact ⟨n, Nat.lt_succ_of_lt hn, h⟩
      · rintro ⟨n, hn, h⟩
        rcases Nat.lt_or_eq_of_le (Nat.le_of_lt_succ hn) with c | c
        · exact .inr ⟨n, c, h⟩
        · exact .inl (c ▸ h)
    · have c : a ≠ Dl := fun c => by subst c; rw [hD] at ha; exact nomatch ha
      rw [upd_ne c]; exact e5 a o (e2' a o ha)
  · have c : i = ys.length := by omega
    subst c
    refine .inl ⟨ft.stop H' eF, q (.ref Dl) H' (upd Bs Dl (SetTO P w Dl L)) (e2.trans e2') ⟨(g.ex.trans gs.ex).trans (Ex.new hDs), fun a ha hx => ?_⟩ (ex_upd es hDl) ⟨Dl, L, rfl, upd_same, fun p hp => ex_t (Ex.new hDs) (ht p hp), hLn, hLm⟩⟩
    have c : a ≠ Dl := fun c => by subst c; exact ex_ne e2 hx hD
    rw [upd_ne c]
    exact gs.av a (g.av a ha hx) (ex_ne e2 hx)
/-- sorted(a set of rows) -/
theorem k_sortedT {Y : Cx} (hc : Y.calm = true) (h : Y.K = K := by rfl) (hp : Y.prog = P := by rfl) (hw : Y.w = w := by rfl) : CallR Y (.builtin "sorted") (rSortedT K P w) := by
  subst h hp hw
  exact cr_sortedT hc
theorem er_sortedT {Bn : Int} {d : Nat} {M : List (List Int)} (hd : 1 ≤ d) (hM : ∀ x ∈ M, AS.Ok Bn d x) (h : EvR te σ B fun z B' => ∃ (a : Addr) (L : List (Addr × List Int)), z = .ref a ∧ B' a = some (SetTO P w a L) ∧ (∀ p ∈ L, SqT K B' p.1 (p.2.map V.int)) ∧ ∀ r, r ∈ L.map (·.2) ↔ r ∈ M) :
    EvR (tCB (rSortedT K P w) (tCons te tNil)) σ B (LsP K (RowsAt K (AS.ascR Bn M))) := fun H1 e Q q =>
  h H1 e _ fun z H2 B' e2 g e3 ⟨a, L, hz, ha, ht, hm⟩ => by
    subst hz
    have hok : ∀ p ∈ L, AS.Ok Bn d p.2 := fun p hp => hM _ ((hm p.2).mp (List.mem_map_of_mem hp))
    refine ⟨a, L, d, Bn, rfl, e3 _ _ ha, fun p hp => ex_t e3 (ht p hp), hd, fun p hp => hok p hp, fun L' p pm hn h64 hpw hp => ?_⟩
    have hB : B' p = none := none_of e3 hp
    have hR : L'.map (·.2) = AS.ascR Bn M := AS.ascR_of hM hn (List.pairwise_map.mpr hpw) fun r => by rw [(pm.map (·.2)).mem_iff]; exact hm r
    refine q _ _ (upd B' p (.lst (L'.map fun q => V.ref q.1))) (e2.trans (Ex.new hp)) ⟨g.ex.trans (Ex.new hB), fun x hx1 hx2 => ?_⟩ (fun x o hx => ?_) ⟨p, _, rfl, sq_of upd_same, ?_, fun i y r hy hr => ?_⟩
    · have c : x ≠ p := fun c => by subst c; exact ex_ne e2 hx2 hp
      rw [upd_ne c]; exact g.av x hx1 hx2
    · by_cases c : x = p
      · subst c; rw [upd_same] at hx ⊢; exact hx
      · rw [upd_ne c] at hx ⊢; exact e3 x o hx
    · rw [← hR, List.length_map, List.length_map]
    · rw [← hR, List.getElem?_map] at hr
      rw [List.getElem?_map] at hy
      cases hq : L'[i]? with
      | none => rw [hq] at hy; exact nomatch hy
      | some pr =>
        rw [hq] at hy hr
        cases hy
        cases hr
        exact ⟨pr.1, rfl, ex_t (Ex.new hB) (ht pr ((pm.mem_iff).mp (List.mem_of_getElem? hq)))⟩
/-! ### dicts with texts as keys -/
def sk (kvs : List (Str × V)) : List (Key × V) := kvs.map fun p => (Sum.inr p.1, p.2)
theorem et_din {a : Addr} {s : Str} {kvs : List (Key × V)} (h : Ev te σ B (.str s)) (hd : Ev ta σ B (.ref a)) (ha : B a = some (.dK kvs)) : Ev (tDIn te ta) σ B (.bl (valV kvs (Sum.inr s)).isSome) := fun H1 e Q q =>
  h H1 e _ fun H2 e2 => hd H2 (e.trans e2) _ fun H3 e3 => ⟨a, _, rfl, DGet.k (k := Sum.inr s) (((e.trans e2).trans e3) _ _ ha), q H3 (e2.trans e3)⟩
theorem et_dnin {a : Addr} {s : Str} {kvs : List (Key × V)} (h : Ev te σ B (.str s)) (hd : Ev ta σ B (.ref a)) (ha : B a = some (.dK kvs)) : Ev (tDNotIn te ta) σ B (.bl (!(valV kvs (Sum.inr s)).isSome)) := fun H1 e Q q =>
  h H1 e _ fun H2 e2 => hd H2 (e.trans e2) _ fun H3 e3 => ⟨a, _, rfl, DGet.k (k := Sum.inr s) (((e.trans e2).trans e3) _ _ ha), q H3 (e2.trans e3)⟩
theorem ev_dget {a : Addr} {s : Str} {kvs : List (Key × V)} (hd : Ev ta σ B (.ref a)) (h : Ev te σ B (.str s)) (ha : B a = some (.dK kvs)) (hv : valV kvs (Sum.inr s) = some v) : Ev (tDGet ta te) σ B v := fun H1 e Q q =>
  hd H1 e _ fun H2 e2 => h H2 (e.trans e2) _ fun H3 e3 => ⟨a, v, rfl, by
    have := DGet.k (k := Sum.inr s) (((e.trans e2).trans e3) _ _ ha)
    rw [hv] at this
    exact this, q H3 (e2.trans e3)⟩
/-- {} -/
theorem x_asgD {i : Nat} (k : ∀ p, B p = none → X p = none → Sx X tz D (σ.set i (some (.ref p))) (upd B p (.dK []))) : Sx X (tSeq (tAsg tDNewK (gName i)) tz) D σ B := fun H e eX => fun p hp =>
  k p (none_of e hp) (none_of eX hp) _ (fun a o h => by
    by_cases c : a = p
    · subst c; rw [upd_same] at h ⊢; exact h
    · rw [upd_ne c] at h ⊢; exact e a o h) (eX.trans (Ex.new hp))
/-- a dict of the def's own: d[s] = e, e not told by d -/
theorem x_dput {l : Addr} {s : Str} {Pe : V → Hp → Prop} {kvs : List (Key × V)} (hl : B l = some (.dK kvs)) (hX : X l = none) (hd : Ev ta σ B (.ref l)) (hs : Ev tb σ B (.str s)) (h : EvR te σ (del B l) Pe) (hz : kvs.length < 100000)
    (k : ∀ z B', Gr X (del B l) B' → B' l = none → Pe z B' → Sx X tz D σ (upd B' l (.dK (putK kvs (Sum.inr s) z)))) : Sx X (tSeq (sDPut ta tb te) tz) D σ B := fun H e eX =>
  h H (del_ex.trans e) _ fun z H2 B' e2 g e3 p => hd H2 (e.trans e2) _ fun H3 e4 => hs H3 ((e.trans e2).trans e4) _ fun H4 e5 => by
    have hB' : B' l = none := g.av l del_same (by rw [e l _ hl]; exact Option.some_ne_none _)
    refine ⟨l, _, rfl, DPut.k (k := Sum.inr s) (((e2.trans e4).trans e5) _ _ (e l _ hl)) (sz_lt hz), k z B' (g.back eX) hB' p _ (fun a u q => ?_) (fun a u q => ?_)⟩
    · by_cases c : a = l
      · subst c; rw [upd_same] at q ⊢; exact q
      · rw [upd_ne c] at q ⊢; exact (e4.trans e5) _ _ (e3 a u q)
    · have c : a ≠ l := fun c => by subst c; rw [hX] at q; exact nomatch q
      rw [upd_ne c]
      exact ((e2.trans e4).trans e5) a u (eX a u q)
end
end RX
namespace LX
open PySem PySem.Spec PyProof.Rows L2
theorem k_fld {X : Cx} {K : PySem.W.Frag} {e : Expr} {f : Str} {pos : Pos} {ta : TE} (he : PE X e ta) (hb : attributeBase e f X.env (eval e X.env) = eval e X.env) (h : X.K = K := by rfl) : PE X (.Attribute e f pos) (tFld K ta f) := by subst h; exact pe_fld he hb
theorem u1 {k : Nat} {A : Around} (r : Room k A) : A.units + 1 < cLine := by have := r.units; omega
end LX
namespace RX
open PySem PySem.Spec PyProof.Rows L2 Evl LX XV WS
section
variable {X : Cx} {K : PySem.W.Frag} {P : Program} {w : World}
theorem k_addTup (hu : X.A.units + 64 < cLine) (h : X.K = K := by rfl) (hp : X.prog = P := by rfl) (hw : X.w = w := by rfl) : AddOk X (addTup K P w) := by subst h hp hw; exact addTup_ok hu
theorem k_newTup (hp : X.prog = P := by rfl) (hw : X.w = w := by rfl) : NewOk X fun a => SetTO P w a [] := by subst hp hw; exact newTup_ok
theorem k_putNk (hu : X.A.units + 64 < cLine) (h : X.K = K := by rfl) (hp : X.prog = P := by rfl) (hw : X.w = w := by rfl) : PutOk X (putNk K P w) := by subst h hp hw; exact putNk_ok hu
theorem k_newNk (hp : X.prog = P := by rfl) (hw : X.w = w := by rfl) : NewDOk X fun a => DnO P w a [] := by subst hp hw; exact newNk_ok
end
section
variable {K : PySem.W.Frag} {B : Hp} {B' : Hp}
theorem dps_ints : ∀ {xs : List V} {ns : List Int}, DpAll K B xs (ns.map PyData.int) → xs = ns.map V.int
  | _, [], .nil => rfl
  | _, n :: ns, .cons h t => by
    cases h
    rw [dps_ints t]
    rfl
theorem del_upd {l : Addr} {o : HO} (h : B l = none) : del (upd B l o) l = B := by
  funext a
  by_cases c : a = l
  · subst c; rw [del_same, h]
  · rw [del_ne c, upd_ne c]
end
theorem mrg_upd {F' B : Hp} {p : Addr} {o : HO} (e : Ex B F') (h : F' p = none) : mrg F' (upd B p o) = upd F' p o := by
  funext a
  by_cases c : a = p
  · subst c; rw [mrg_none h, upd_same, upd_same]
  · rw [upd_ne c]
    cases q : F' a with
    | none => rw [mrg_none q, upd_ne c]; exact none_of e q
    | some u => exact mrg_some q
theorem nodup_take {α β : Type} {f : α → β} {l : List α} {i : Nat} {x : α} (h : (l.map f).Nodup) (hx : l[i]? = some x) : f x ∉ (l.take i).map f := by
  obtain ⟨hi, e⟩ := List.getElem?_eq_some_iff.mp hx
  have hl : l = l.take i ++ x :: l.drop (i + 1) := by
    rw [← e]
    simp
  rw [hl, List.map_append, List.map_cons] at h
  have := (List.nodup_append.mp h).2.2
  intro hm
  exact this _ hm _ List.mem_cons_self rfl
theorem take_snoc {α : Type} {l : List α} {i : Nat} {x : α} (hx : l[i]? = some x) : l.take (i + 1) = l.take i ++ [x] := by
  rw [List.take_add_one, hx]
  rfl
/-! ### relations as data -/
structure Rel where
  name : Str
  ar : Int
  rows : List (List Int)
def EntAt (K : PySem.W.Frag) (r : Rel) : V → Hp → Prop := fun v B => ∃ t q ys, v = .ref t ∧ SqT K B t [.int r.ar, .ref q] ∧ SqT K B q ys ∧ RowsAt K r.rows ys B
instance {K : PySem.W.Frag} {r : Rel} : Mo (EntAt K r) := ⟨fun e ⟨t, q, ys, h, a, b, c⟩ => ⟨t, q, ys, h, ex_t e a, ex_t e b, MoA.mo e c⟩⟩
def TabAt (K : PySem.W.Frag) (rels : List Rel) (kvs : List (Key × V)) (B : Hp) : Prop := kvs.map (·.1) = rels.map (fun r => (Sum.inr r.name : Key)) ∧ ∀ (i : Nat) (p : Key × V) (r : Rel), kvs[i]? = some p → rels[i]? = some r → EntAt K r p.2 B
theorem TabAt.mono {K : PySem.W.Frag} {rels : List Rel} {kvs : List (Key × V)} {B B' : Hp} (e : Ex B B') (h : TabAt K rels kvs B) : TabAt K rels kvs B' := ⟨h.1, fun i p r a b => Mo.mo e (h.2 i p r a b)⟩
theorem TabAt.len {K : PySem.W.Frag} {rels : List Rel} {kvs : List (Key × V)} {B : Hp} (h : TabAt K rels kvs B) : kvs.length = rels.length := by
  have := congrArg List.length h.1
  rw [List.length_map, List.length_map] at this
  exact this
theorem TabAt.snoc {K : PySem.W.Frag} {rels : List Rel} {kvs : List (Key × V)} {B : Hp} {r : Rel} {v : V} (h : TabAt K rels kvs B) (hv : EntAt K r v B) : TabAt K (rels ++ [r]) (kvs ++ [(Sum.inr r.name, v)]) B := by
  refine ⟨by rw [List.map_append, List.map_append, h.1]; rfl, fun i p r' hp hr => ?_⟩
  have hl := h.len
  by_cases c : i < kvs.length
  · rw [List.getElem?_append_left c] at hp
    rw [List.getElem?_append_left (by omega)] at hr
    exact h.2 i p r' hp hr
  · have c2 := (List.getElem?_eq_some_iff.mp hp).1
    rw [List.length_append, List.length_singleton] at c2
    have c3 : i = kvs.length := by omega
    subst c3
    rw [List.getElem?_append_right (Nat.le_refl _), Nat.sub_self] at hp
    rw [hl, List.getElem?_append_right (Nat.le_refl _), Nat.sub_self] at hr
    cases hp
    cases hr
    exact hv
theorem TabAt.find {K : PySem.W.Frag} {B : Hp} {s : Str} : ∀ {rels : List Rel} {kvs : List (Key × V)}, TabAt K rels kvs B → (match rels.find? (fun r => decide (r.name = s)) with
    | some r => ∃ v, valV kvs (Sum.inr s) = some v ∧ EntAt K r v B
    | none => valV kvs (Sum.inr s) = none)
  | [], kvs, h => by
    have : kvs = [] := List.length_eq_zero_iff.mp h.len
    subst this
    rfl
  | r :: rels, [], h => by
    have := h.len
    simp at this
  | r :: rels, p :: kvs, h => by
    have hk : p.1 = Sum.inr r.name := by
      have := h.1
      rw [List.map_cons, List.map_cons] at this
      exact (List.cons.inj this).1
    have ht : TabAt K rels kvs B := ⟨by
      have := h.1
      rw [List.map_cons, List.map_cons] at this
      exact (List.cons.inj this).2, fun i q r' a b => h.2 (i + 1) q r' a b⟩
    rw [List.find?_cons]
    by_cases c : r.name = s
    · rw [decide_eq_true c]
      exact ⟨p.2, valV_pos (by rw [hk, c]), h.2 0 p r rfl rfl⟩
    · rw [decide_eq_false c]
      have hn : ¬ p.1 = Sum.inr s := fun z => c (by rw [hk] at z; exact Sum.inr.inj z)
      rw [valV_neg hn]
      exact TabAt.find ht
end RX
/-! comprehensions with two fors; of dicts with nested keys -/
namespace RX
open PySem PySem.Spec PyProof.Rows L2 Evl LX XV WS
/-- the values ys are told one by one by ds -/
def A2 {δ : Type} (Pd : δ → V → Hp → Prop) (ds : List δ) (ys : List V) (B : Hp) : Prop := ys.length = ds.length ∧ ∀ (k : Nat) (y : V) (d : δ), ys[k]? = some y → ds[k]? = some d → Pd d y B
section
variable {δ : Type} {Pd : δ → V → Hp → Prop} {K : PySem.W.Frag} {P : Program} {w : World} {σ : L2.St} {B B' X : Hp} {te tk tv ta tb : TE} {wi wi1 : TI} {xs : List V} {j j1 : Nat} {vs vs1 : List Nat} {D : Ends} {tz : TS} {v : V}
theorem a2_nil : A2 Pd [] [] B := ⟨rfl, fun k y d h => nomatch h⟩
theorem A2.mono (mo : ∀ d, Mo (Pd d)) {ds : List δ} {ys : List V} (e : Ex B B') (h : A2 Pd ds ys B) : A2 Pd ds ys B' := ⟨h.1, fun k y d a b => (mo d).mo e (h.2 k y d a b)⟩
instance {ds : List δ} [mo : ∀ d, Mo (Pd d)] : MoA (fun ys B => A2 Pd ds ys B) := ⟨fun e h => h.mono mo e⟩
instance {ds : List δ} [mo : ∀ d, Mo (Pd d)] : MoA (A2 Pd ds) := ⟨fun e h => h.mono mo e⟩
theorem A2.snoc {ds : List δ} {ys : List V} {d : δ} {y : V} (h : A2 Pd ds ys B) (hy : Pd d y B) : A2 Pd (ds ++ [d]) (ys ++ [y]) B := by
  obtain ⟨hl, hp⟩ := h
  refine ⟨by rw [List.length_append, List.length_append, hl]; rfl, fun k u e hk hn => ?_⟩
  by_cases c : k < ys.length
  · rw [List.getElem?_append_left c] at hk
    rw [List.getElem?_append_left (by omega)] at hn
    exact hp k u e hk hn
  · have c2 : k < (ys ++ [y]).length := (List.getElem?_eq_some_iff.mp hk).1
    rw [List.length_append, List.length_singleton] at c2
    have c3 : k = ys.length := by omega
    subst c3
    rw [List.getElem?_append_right (Nat.le_refl _), Nat.sub_self] at hk
    rw [hl, List.getElem?_append_right (Nat.le_refl _), Nat.sub_self] at hn
    cases hk
    cases hn
    exact hy
theorem er_lc2 (mo : ∀ d, Mo (Pd d)) (es : Nat → List δ) (hi : EvI wi σ B fun ys _ => ys = xs) (hw : ∀ x, wipe ((wipe σ vs).set j (some x)) vs = wipe σ vs) (hw1 : ∀ x y, wipe ((wipe ((wipe σ vs).set j (some x)) vs1).set j1 (some y)) vs1 = wipe ((wipe σ vs).set j (some x)) vs1)
    (hz : ∀ i k, i < xs.length → ((List.range i).flatMap es ++ (es i).take k).length ≤ 50000)
    (hi1 : ∀ (i : Nat) (x : V) (B' : Hp), Ex B B' → xs[i]? = some x → ∃ zs : List V, EvI wi1 ((wipe σ vs).set j (some x)) B' (fun ys _ => ys = zs) ∧ zs.length = (es i).length ∧ ∀ (k : Nat) (y : V) (B'' : Hp) (d : δ), Ex B' B'' → zs[k]? = some y → (es i)[k]? = some d → EvR te ((wipe ((wipe σ vs).set j (some x)) vs1).set j1 (some y)) B'' (Pd d)) :
    EvR (tLc2 wi (gName j) tYes wi1 (gName j1) tYes te vs vs1) σ B fun z B' => ∃ (p : Addr) (ys : List V), z = .ref p ∧ B' p = some (.lst ys) ∧ A2 Pd ((List.range xs.length).flatMap es) ys B' := fun H1 e Q q => by
  refine hi H1 e _ fun J H2 B1 ys0 e2 g e3 px ft => fun Dl hD => ?_
  subst px
  have hD1 : B1 Dl = none := none_of e3 hD
  refine ⟨fun i m H' => m = ys0.length - i ∧ i ≤ ys0.length ∧ ∃ Bs ys, Gr H2 B1 Bs ∧ Bs Dl = none ∧ Ex Bs H' ∧ H' Dl = some (.lst ys) ∧ A2 Pd ((List.range i).flatMap es) ys Bs ∧ Ex H2 H', ⟨ys0.length, by simp, Nat.zero_le _, B1, [], Gr.refl _ _, hD1, e3.trans (Ex.new hD), upd_same, a2_nil, Ex.new hD⟩, ?_⟩
  rintro i m H' ⟨rfl, hi', Bs, ys, gs, hDs, es', hDl, td, e2'⟩
  have eF : Ex B1 H' := gs.ex.trans es'
  by_cases hlt : i < ys0.length
  · refine .inr ⟨ft.go i H' eF hlt, fun H'' => (ys0.length - (i + 1)) = ys0.length - (i + 1) ∧ i + 1 ≤ ys0.length ∧ ∃ Bs ys, Gr H2 B1 Bs ∧ Bs Dl = none ∧ Ex Bs H'' ∧ H'' Dl = some (.lst ys) ∧ A2 Pd ((List.range (i + 1)).flatMap es) ys Bs ∧ Ex H2 H'', fun H'' h => ⟨_, by omega, h⟩, fun x H3 y => ?_⟩
    obtain ⟨r, hx⟩ := ft.yld i H' x H3 eF y hlt
    subst r
    refine ⟨hw x, ?_⟩
    obtain ⟨zs, hI, hlen, hE⟩ := hi1 i x B1 g.ex hx
    show wi1 _ H3 _
    refine hI H3 eF _ fun J1 H4 B4 zs' e4 g4 e5 pz ft1 => ?_
    subst pz
    have hB4 : B4 Dl = none := g4.av Dl hD1 (by rw [hDl]; exact Option.some_ne_none _)
    have hM4 : mrg Bs B4 Dl = none := by rw [mrg_none hDs]; exact hB4
    refine ⟨fun k m H'' => m = zs'.length - k ∧ k ≤ zs'.length ∧ ∃ Bs ys, Gr H2 B1 Bs ∧ Bs Dl = none ∧ Ex B4 Bs ∧ Ex Bs H'' ∧ H'' Dl = some (.lst ys) ∧ A2 Pd ((List.range i).flatMap es ++ (es i).take k) ys Bs ∧ Ex H2 H'', ⟨zs'.length, by simp, Nat.zero_le _, mrg Bs B4, ys, ⟨gs.ex.trans mrg_l, mrg_av gs.av (g4.av.back e2')⟩, hM4, mrg_r (es'.trans e4) e5, mrg_le (es'.trans e4) e5, e4 _ _ hDl, by rw [List.take_zero, List.append_nil]; exact td.mono mo mrg_l, e2'.trans e4⟩, ?_⟩
    rintro k m2 H5 ⟨rfl, hk', Bt, yt, gt, hDt, eB4, et, hDlt, tdt, e2t⟩
    by_cases hlt2 : k < zs'.length
    · refine .inr ⟨ft1.go k H5 (eB4.trans et) hlt2, fun H'' => (zs'.length - (k + 1)) = zs'.length - (k + 1) ∧ k + 1 ≤ zs'.length ∧ ∃ Bs ys, Gr H2 B1 Bs ∧ Bs Dl = none ∧ Ex B4 Bs ∧ Ex Bs H'' ∧ H'' Dl = some (.lst ys) ∧ A2 Pd ((List.range i).flatMap es ++ (es i).take (k + 1)) ys Bs ∧ Ex H2 H'', fun H'' h => ⟨_, by omega, h⟩, fun x2 H6 y2 => ?_⟩
      obtain ⟨r, hx2⟩ := ft1.yld k H5 x2 H6 (eB4.trans et) y2 hlt2
      subst r
      refine ⟨hw1 x x2, ?_⟩
      have hd : (es i)[k]? = some (es i)[k] := List.getElem?_eq_getElem (by omega)
      show te _ H6 _
      refine hE k x2 B1 _ (Ex.refl _) hx2 hd H6 (gt.ex.trans et) _ fun z H7 B' e7 g7 e8 pz' => ⟨yt, e7 _ _ hDlt, sz_lt (by have := tdt.1; have := hz i k hlt; omega), rfl, hlt2, mrg Bt B', yt ++ [z], ?_⟩
      have hB' : B' Dl = none := g7.av Dl hD1 (by rw [hDlt]; exact Option.some_ne_none _)
      have hM : mrg Bt B' Dl = none := by rw [mrg_none hDt]; exact hB'
      have eM : Ex (mrg Bt B') H7 := mrg_le (et.trans e7) e8
      refine ⟨⟨gt.ex.trans mrg_l, mrg_av gt.av (g7.av.back e2t)⟩, hM, eB4.trans mrg_l, fun a o ha => ?_, upd_same, ?_, fun a o ha => ?_⟩
      · have c : a ≠ Dl := fun c => by subst c; rw [hM] at ha; exact nomatch ha
        rw [upd_ne c]; exact eM a o ha
      · rw [take_snoc hd, ← List.append_assoc]
        exact (tdt.mono mo mrg_l).snoc ((mo _).mo (mrg_r (et.trans e7) e8) pz')
      · have c : a ≠ Dl := fun c => by subst c; rw [hD] at ha; exact nomatch ha
        rw [upd_ne c]; exact e7 a o (e2t a o ha)
    · have c : k = zs'.length := by omega
      subst c
      refine .inl ⟨ft1.stop H5 (eB4.trans et), rfl, hlt, Bt, yt, gt, hDt, et, hDlt, ?_, e2t⟩
      rw [List.range_succ, List.flatMap_append]
      rw [hlen, List.take_length] at tdt
      have : [i].flatMap es = es i := by simp
      rw [this]
      exact tdt
  · have c : i = ys0.length := by omega
    subst c
    refine .inl ⟨ft.stop H' eF, q (.ref Dl) H' (upd Bs Dl (.lst ys)) (e2.trans e2') ⟨(g.ex.trans gs.ex).trans (Ex.new hDs), fun a ha hx => ?_⟩ (ex_upd es' hDl) ⟨Dl, ys, rfl, upd_same, td.mono mo (Ex.new hDs)⟩⟩
    have c : a ≠ Dl := fun c => by subst c; exact ex_ne e2 hx hD
    rw [upd_ne c]
    exact gs.av a (g.av a ha hx) (ex_ne e2 hx)
theorem er_lc1 (mo : ∀ d, Mo (Pd d)) {ds : List δ} (hi : EvI wi σ B fun ys _ => ys = xs) (hz : xs.length ≤ 40000) (hl : xs.length = ds.length) (hw : ∀ x, wipe ((wipe σ vs).set j (some x)) vs = wipe σ vs)
    (he : ∀ (i : Nat) (x : V) (B' : Hp) (d : δ), Ex B B' → xs[i]? = some x → ds[i]? = some d → EvR te ((wipe σ vs).set j (some x)) B' (Pd d)) :
    EvR (tLc wi (gName j) tYes te vs) σ B fun z B' => ∃ (p : Addr) (ys : List V), z = .ref p ∧ B' p = some (.lst ys) ∧ A2 Pd ds ys B' :=
  EvR.imp (er_lc0 (Pe := fun i z B' => ∀ d, ds[i]? = some d → Pd d z B') (fun i => ⟨fun e h d hd => (mo d).mo e (h d hd)⟩) hi hz hw (fun i x B' e hx => by
    have hi' := (List.getElem?_eq_some_iff.mp hx).1
    have hd : ds[i]? = some ds[i] := List.getElem?_eq_getElem (by omega)
    exact EvR.imp (he i x B' _ e hx hd) fun z B'' _ p d hd' => by
      rw [hd] at hd'
      cases hd'
      exact p)) fun z B' _ ⟨p, ys, h1, h2, h3, h4⟩ => ⟨p, ys, h1, h2, h3.trans hl, fun k y d hk hd => h4 k y hk d hd⟩
mutual
theorem nk_ex {H H' : Hp} (e : Ex H H') : ∀ {v : V} {k : NestedKey}, NK K H v k → NK K H' v k
  | _, _, .num i => .num i
  | _, _, .text s => .text s
  | _, _, .tup h hs => .tup (ex_t e h) (nks_ex e hs)
theorem nks_ex {H H' : Hp} (e : Ex H H') : ∀ {vs : List V} {ks : List NestedKey}, NKs K H vs ks → NKs K H' vs ks
  | _, _, .nil => .nil
  | _, _, .cons h hs => .cons (nk_ex e h) (nks_ex e hs)
end
theorem putN_new {kvs : List (NestedKey × Addr × V)} {k : NestedKey} {a : Addr} {z : V} (h : k ∉ kvs.map (·.1)) : putN kvs k a z = kvs ++ [(k, a, z)] := by
  unfold putN
  have : kvs.find? (fun p => decide (p.1 = k)) = none := by
    rw [List.find?_eq_none]
    intro p hp c
    exact h (of_decide_eq_true c ▸ List.mem_map_of_mem hp)
  rw [this]
  rfl
/-- {x: True for x in it}, the x nested keys that are there: ks, each once -/
theorem er_dcTrue {ks : List NestedKey} (hi : EvI wi σ B fun ys _ => ys = xs) (hl : xs.length = ks.length) (hz : xs.length ≤ 40000) (hn : ks.Nodup) (hk : ∀ (i : Nat) (x : V) (k : NestedKey), xs[i]? = some x → ks[i]? = some k → NK K B x k ∧ k.depth ≤ 8 ∧ ∃ a, x = .ref a) (hw : ∀ x, wipe ((wipe σ vs).set j (some x)) vs = wipe σ vs) (hj : j < σ.length) :
    EvR (tDcG (fun a => DnO P w a []) (putNk K P w) wi (gName j) tYes (tVar j) (tC (.bl true)) vs) σ B fun z B' => ∃ (a : Addr) (kvs : List (NestedKey × Addr × V)), z = .ref a ∧ B' a = some (DnO P w a kvs) ∧ kvs.map (·.1) = ks ∧ (kvs.map fun p => V.ref p.2.1) = xs := fun H1 e Q q => by
  refine hi H1 e _ fun J H2 B1 ys e2 g e3 px ft => fun Dl hD => ?_
  subst px
  have hD1 : B1 Dl = none := none_of e3 hD
  refine ⟨fun i m H' => m = ys.length - i ∧ i ≤ ys.length ∧ ∃ kvs, H' Dl = some (DnO P w Dl kvs) ∧ Ex H2 H' ∧ DnKeys K B1 kvs ∧ kvs.map (·.1) = ks.take i ∧ (kvs.map fun p => V.ref p.2.1) = ys.take i, ⟨ys.length, by simp, Nat.zero_le _, [], upd_same, Ex.new hD, (fun p h => nomatch h), rfl, rfl⟩, ?_⟩
  rintro i m H' ⟨rfl, hi', kvs, hDl, e4, hkv, hk1, hk2⟩
  have eF : Ex B1 H' := e3.trans e4
  by_cases hlt : i < ys.length
  · refine .inr ⟨ft.go i H' eF hlt, fun H'' => (ys.length - (i + 1)) = ys.length - (i + 1) ∧ i + 1 ≤ ys.length ∧ ∃ kvs, H'' Dl = some (DnO P w Dl kvs) ∧ Ex H2 H'' ∧ DnKeys K B1 kvs ∧ kvs.map (·.1) = ks.take (i + 1) ∧ (kvs.map fun p => V.ref p.2.1) = ys.take (i + 1), fun H'' h => ⟨_, by omega, h⟩, fun x H3 y => ?_⟩
    obtain ⟨r, hx⟩ := ft.yld i H' x H3 eF y hlt
    subst r
    refine ⟨hw x, ?_⟩
    unfold tYes
    refine Eq.mpr (if_pos rfl) ?_
    have hkk : ks[i]? = some ks[i] := List.getElem?_eq_getElem (by omega)
    obtain ⟨nk, hd8, a, rfl⟩ := hk i x _ hx hkk
    have hnew : ks[i] ∉ kvs.map (·.1) := by
      rw [hk1]
      have := nodup_take (f := fun (z : NestedKey) => z) (by rw [List.map_id']; exact hn) hkk
      rw [List.map_id'] at this
      exact this
    have hlen : kvs.length ≤ i := by
      have := congrArg List.length hk1
      rw [List.length_map, List.length_take] at this
      omega
    refine ⟨.ref a, by rw [List.getElem?_set_self (by rw [wipe_length]; exact hj)], ⟨a, ks[i], kvs, rfl, nk_ex ((g.ex.trans e3).trans e4) nk, hd8, hDl, fun p hp => ⟨nk_ex eF (hkv p hp).1, (hkv p hp).2⟩, ?_, rfl, hlt, _, upd_same, fun b o hb => ?_, ?_, ?_, ?_⟩⟩
    · rw [putN_new hnew, List.length_append, List.length_singleton]
      exact sz_of (by omega)
    · have c : b ≠ Dl := fun c => by subst c; rw [hD] at hb; exact nomatch hb
      rw [upd_ne c]; exact e4 b o hb
    · rw [putN_new hnew]
      intro p hp
      rcases List.mem_append.mp hp with c | c
      · exact hkv p c
      · rw [List.mem_singleton] at c
        subst c
        exact ⟨nk_ex g.ex nk, hd8⟩
    · rw [putN_new hnew, List.map_append, hk1, take_snoc hkk]
      rfl
    · rw [putN_new hnew, List.map_append, hk2, take_snoc hx]
      rfl
  · have c : i = ys.length := by omega
    subst c
    refine .inl ⟨ft.stop H' eF, q (.ref Dl) H' (upd B1 Dl (DnO P w Dl kvs)) (e2.trans e4) ⟨g.ex.trans (Ex.new hD1), fun a ha hx => ?_⟩ (ex_upd eF hDl) ⟨Dl, kvs, rfl, upd_same, ?_, ?_⟩⟩
    · have c : a ≠ Dl := fun c => by subst c; exact ex_ne e2 hx hD
      rw [upd_ne c]
      exact g.av a ha hx
    · rw [hk1, hl, List.take_length]
    · rw [hk2, List.take_length]
end
end RX
/-! instances that are being filled; worlds -/
namespace LX
open PySem PySem.Spec PyProof.Rows L2
theorem k_sfld {X : Cx} {K : PySem.W.Frag} {o value : Expr} {f : Str} {pos pos' : Pos} {ta tv : TE} (ha : PE X o ta) (hv : PE X value tv) (hs : swapsWith value (some (.Attribute o f pos')) pos.line X.env = pure false) (h : X.K = K := by rfl) : PS X (.Assign [.Attribute o f pos'] value pos) (sFld K ta tv f) := by subst h; exact ps_fld ha hv hs
end LX
namespace RX
open PySem PySem.Spec PyProof.Rows L2 Evl LX XV WS
theorem k_pit {X : Cx} {K : PySem.W.Frag} {tg l : Expr} {tl : TE} (hl : PE X l tl) (h : X.K = K := by rfl) : PI X tg l (iTup K tl) := by subst h; exact pi_tup hl
theorem k_pil {X : Cx} {K : PySem.W.Frag} {tg l : Expr} {tl : TE} (hl : PE X l tl) (h : X.K = K := by rfl) : PI X tg l (iList K tl) := by subst h; exact pi_list hl
/-- all but instances stands as before -/
def ExN (H H' : Hp) : Prop := ∀ a o, H a = some o → (∀ C dx fs, o ≠ .ins C dx fs) → H' a = some o
theorem Ex.n {H H' : Hp} (e : Ex H H') : ExN H H' := fun a o h _ => e a o h
theorem exn_upd {H : Hp} {x C dx : Addr} {fs : List (Str × V)} {o : HO} (h : H x = some (.ins C dx fs)) : ExN H (upd H x o) := fun a u ha hu => by
  have c : a ≠ x := fun c => by
    subst c
    rw [h] at ha
    cases ha
    exact hu _ _ _ rfl
  rw [upd_ne c]; exact ha
theorem exn_rd {H H' : Hp} {a : Addr} {u : HO} (e : ExN H H') (hu : ∀ C dx fs, u ≠ .ins C dx fs) (h : Rd H a u) : Rd H' a u := by
  rcases h with h | ⟨o, h⟩
  · exact .inl (e _ _ h hu)
  · exact .inr ⟨o, e _ _ h fun C dx fs c => nomatch c⟩
theorem exn_l {K : PySem.W.Frag} {H H' : Hp} {a : Addr} {xs : List V} (e : ExN H H') (h : SqL K H a xs) : SqL K H' a xs := h.imp (exn_rd e fun _ _ _ c => nomatch c) id
theorem exn_t {K : PySem.W.Frag} {H H' : Hp} {a : Addr} {xs : List V} (e : ExN H H') (h : SqT K H a xs) : SqT K H' a xs := h.imp (exn_rd e fun _ _ _ c => nomatch c) id
class MoN (P : V → Hp → Prop) : Prop where
  mo : ∀ {z H H'}, ExN H H' → P z H → P z H'
class MoAN (P : List V → Hp → Prop) : Prop where
  mo : ∀ {z H H'}, ExN H H' → P z H → P z H'
instance {v : V} : MoN (IsV v) := ⟨fun _ h => h⟩
instance {K : PySem.W.Frag} {Py : List V → Hp → Prop} [m : MoAN Py] : MoN (TpP K Py) := ⟨fun e ⟨p, ys, h, s, q⟩ => ⟨p, ys, h, exn_t e s, m.mo e q⟩⟩
instance {xs : List V} : MoAN (fun ys _ => ys = xs) := ⟨fun _ h => h⟩
instance {K : PySem.W.Frag} {k : List Int} : MoN (IsTI K k) := ⟨fun e ⟨p, h, s⟩ => ⟨p, h, exn_t e s⟩⟩
instance {K : PySem.W.Frag} {R : List (List Int)} : MoAN (RowsAt K R) := ⟨fun e ⟨l, h⟩ => ⟨l, fun i y r a b => MoN.mo e (h i y r a b)⟩⟩
instance {δ : Type} {Pd : δ → V → Hp → Prop} {ds : List δ} [mo : ∀ d, MoN (Pd d)] : MoAN (A2 Pd ds) := ⟨fun e ⟨l, h⟩ => ⟨l, fun i y d a b => (mo d).mo e (h i y d a b)⟩⟩
instance {K : PySem.W.Frag} {r : Rel} : MoN (EntAt K r) := ⟨fun e ⟨t, q, ys, h, a, b, c⟩ => ⟨t, q, ys, h, exn_t e a, exn_t e b, MoAN.mo e c⟩⟩
theorem TabAt.monoN {K : PySem.W.Frag} {rels : List Rel} {kvs : List (Key × V)} {B B' : Hp} (e : ExN B B') (h : TabAt K rels kvs B) : TabAt K rels kvs B' := ⟨h.1, fun i p r a b => MoN.mo e (h.2 i p r a b)⟩
section
variable {K : PySem.W.Frag} {σ : L2.St} {B B' X : Hp} {te ta tb : TE} {D : Ends} {tz : TS} {v : V}
/-- x.f = e -/
theorem x_fld {x C dx : Addr} {f : Str} {fs : List (Str × V)} {Pe : V → Hp → Prop} (hl : B x = some (.ins C dx fs)) (hX : X x = none) (ha : Ev ta σ B (.ref x)) (h : EvR te σ B Pe) (hC : Cls K C) (hn : NoAttr K C f) (hf : fs.length < 1000)
    (k : ∀ z B', Gr X B B' → Pe z B' → B' x = some (.ins C dx fs) → ExN B' (upd B' x (.ins C dx (putF f z fs))) → Sx X tz D σ (upd B' x (.ins C dx (putF f z fs)))) : Sx X (tSeq (sFld K ta te f) tz) D σ B := fun H e eX =>
  h H e _ fun z H2 B' e2 g e3 p => ha H2 (e.trans e2) _ fun H3 e4 => by
    have hx : H3 x = some (.ins C dx fs) := e4 _ _ (e2 _ _ (e _ _ hl))
    refine ⟨x, C, dx, fs, rfl, hx, hC, hn, hf, k z B' (g.back eX) p (g.ex _ _ hl) (exn_upd (g.ex _ _ hl)) _ (fun a u q => ?_) (fun a u q => ?_)⟩
    · by_cases c : a = x
      · subst c; rw [upd_same] at q ⊢; exact q
      · rw [upd_ne c] at q ⊢; exact e4 _ _ (e3 a u q)
    · have c : a ≠ x := fun c => by subst c; rw [hX] at q; exact nomatch q
      rw [upd_ne c]
      exact e4 _ _ (e2 a u (eX a u q))
/-- x.f -/
theorem ev_fldI {x C dx : Addr} {f : Str} {fs : List (Str × V)} (h : Ev te σ B (.ref x)) (hl : B x = some (.ins C dx fs)) (hC : Cls K C) (hn : NoAttr K C f) (hv : fs.lookup f = some v) : Ev (tFld K te f) σ B v := fun H1 e Q q =>
  h H1 e _ fun H2 e2 => ⟨x, C, dx, fs, v, rfl, (e.trans e2) _ _ hl, hC, hn, hv, q H2 e2⟩
def rSortD : List V → Hp → VK → Prop := fun xs H Q => ∃ (a : Addr) (kvs : List (Key × V)) (ks : List Str), xs = [.ref a] ∧ Rd H a (.dK kvs) ∧ kvs.map (·.1) = ks.map Sum.inr ∧ ks.length < 64 ∧ ∀ ys p, ys.Perm ks → sortedS ys = true → H p = none → Q (.ref p) (upd H p (.lst (ys.map V.str)))
theorem k_sortD {Y : Cx} (hc : Y.calm = true) : CallR Y (.builtin "sorted") rSortD := call_sortedD hc
theorem er_sortD {a : Addr} {kvs : List (Key × V)} {ks : List Str} (h : Ev te σ B (.ref a)) (ha : B a = some (.dK kvs)) (hk : kvs.map (·.1) = ks.map Sum.inr) (hz : ks.length < 64) :
    EvR (tCB rSortD (tCons te tNil)) σ B (LsP K fun ys _ => ∃ ns : List Str, ys = ns.map V.str ∧ ns.Perm ks ∧ sortedS ns = true) := fun H1 e Q q =>
  h H1 e _ fun H2 e2 => ⟨a, kvs, ks, rfl, .inl ((e.trans e2) _ _ ha), hk, hz, fun ns p hp hs hn => by
    have hB : B p = none := none_of (e.trans e2) hn
    refine q _ _ (upd B p (.lst (ns.map V.str))) (e2.trans (Ex.new hn)) (gr_new hB (none_of e2 hn)) (fun x o hx => ?_) ⟨p, _, rfl, sq_of upd_same, ns, rfl, hp, hs⟩
    by_cases c : x = p
    · subst c; rw [upd_same] at hx ⊢; exact hx
    · rw [upd_ne c] at hx ⊢; exact (e.trans e2) x o hx⟩
end
/-! ### worlds -/
def rowsIn (rels : List Rel) (n : Str) : List (List Int) := match rels.find? (fun r => decide (r.name = n)) with
  | some r => r.rows
  | none => []
def arIn (rels : List Rel) (n : Str) : Int := match rels.find? (fun r => decide (r.name = n)) with
  | some r => r.ar
  | none => 0
def factsOf (rels : List Rel) (ns : List Str) : List (Str × List Int) := ns.flatMap fun n => (rowsIn rels n).map fun r => (n, r)
def FactAt (K : PySem.W.Frag) (f : Str × List Int) : V → Hp → Prop := fun y B => ∃ a r, y = .ref a ∧ SqT K B a [.str f.1, .ref r] ∧ SqT K B r (f.2.map V.int)
instance {K : PySem.W.Frag} {f : Str × List Int} : Mo (FactAt K f) := ⟨fun e ⟨a, r, h, x, y⟩ => ⟨a, r, h, ex_t e x, ex_t e y⟩⟩
instance {K : PySem.W.Frag} {f : Str × List Int} : MoN (FactAt K f) := ⟨fun e ⟨a, r, h, x, y⟩ => ⟨a, r, h, exn_t e x, exn_t e y⟩⟩
def keyOf (f : Str × List Int) : NestedKey := .tup [.text f.1, .tup (f.2.map NestedKey.num)]
theorem nums_depth : ∀ ns : List Int, NestedKey.depthAll (ns.map NestedKey.num) = 0
  | [] => rfl
  | n :: r => by
    show max (NestedKey.depth (.num n)) (NestedKey.depthAll (r.map NestedKey.num)) = 0
    rw [nums_depth r]
    rfl
theorem keyOf_depth (f : Str × List Int) : (keyOf f).depth ≤ 8 := by
  show max (NestedKey.depth (.text f.1)) (max (NestedKey.depthAll (f.2.map NestedKey.num) + 1) 0) + 1 ≤ 8
  rw [nums_depth]
  show max 0 (max (0 + 1) 0) + 1 ≤ 8
  decide
theorem nums_inj : ∀ {a b : List Int}, a.map NestedKey.num = b.map NestedKey.num → a = b
  | [], [], _ => rfl
  | [], _ :: _, h => nomatch h
  | _ :: _, [], h => nomatch h
  | x :: a, y :: b, h => by
    rw [List.map_cons, List.map_cons] at h
    obtain ⟨h1, h2⟩ := List.cons.inj h
    cases h1
    rw [nums_inj h2]
theorem keyOf_inj {f g : Str × List Int} (h : keyOf f = keyOf g) : f = g := by
  unfold keyOf at h
  obtain ⟨h1, h2⟩ := List.cons.inj (NestedKey.tup.inj h)
  obtain ⟨h3, _⟩ := List.cons.inj h2
  exact Prod.ext (NestedKey.text.inj h1) (nums_inj (NestedKey.tup.inj h3))
theorem fact_key {K : PySem.W.Frag} {B : Hp} {f : Str × List Int} {y : V} (h : FactAt K f y B) : NK K B y (keyOf f) := by
  obtain ⟨a, r, rfl, h1, h2⟩ := h
  exact .tup h1 (.cons (.text _) (.cons (.tup h2 (nks_ints _)) .nil))
theorem facts_nodup {rels : List Rel} (hr : ∀ n, (rowsIn rels n).Nodup) : ∀ {ns : List Str}, ns.Nodup → (factsOf rels ns).Nodup
  | [], _ => List.nodup_nil
  | n :: ns, h => by
    obtain ⟨h1, h2⟩ := List.nodup_cons.mp h
    show ((rowsIn rels n).map (fun r => (n, r)) ++ factsOf rels ns).Nodup
    refine List.nodup_append.mpr ⟨?_, facts_nodup hr h2, fun a ha b hb c => ?_⟩
    · exact List.pairwise_map.mpr (List.Pairwise.imp (fun {x y} hxy c => hxy (Prod.mk.inj c).2) (hr n))
    · obtain ⟨r, _, rfl⟩ := List.mem_map.mp ha
      subst c
      obtain ⟨m, hm, hb⟩ := List.mem_flatMap.mp hb
      obtain ⟨r', _, e⟩ := List.mem_map.mp hb
      have := (Prod.mk.inj e).1
      subst this
      exact h1 hm
theorem flat_len {α β : Type} {f : α → List β} {c : Nat} : ∀ {l : List α}, (∀ x ∈ l, (f x).length ≤ c) → (l.flatMap f).length ≤ l.length * c
  | [], _ => Nat.zero_le _
  | x :: l, h => by
    rw [List.flatMap_cons, List.length_append, List.length_cons, Nat.succ_mul]
    have := h x List.mem_cons_self
    have := flat_len (l := l) fun y hy => h y (List.mem_cons_of_mem _ hy)
    omega
end RX
namespace RX
open PySem PySem.Spec PyProof.Rows L2 Evl LX XV WS
theorem gr_keep {X B B' : Hp} {x : Addr} {o : HO} (g : Gr X B B') (hb : B x = none) (hx : X x = none) : Gr X B (upd B' x o) := ⟨fun a u h => by
    have c : a ≠ x := fun c => by subst c; rw [hb] at h; exact nomatch h
    rw [upd_ne c]; exact g.ex a u h, fun a h h2 => by
    have c : a ≠ x := fun c => by subst c; exact h2 hx
    rw [upd_ne c]; exact g.av a h h2⟩
theorem flat_range {α β : Type} {l : List α} {z : α} {f : α → List β} : (List.range l.length).flatMap (fun i => f (l.getD i z)) = l.flatMap f := by
  have h : l = (List.range l.length).map fun i => l.getD i z := list_range rfl fun k y hy => by
    rw [List.getD_eq_getElem?_getD, hy]
    rfl
  conv => rhs; rw [h]
  rw [List.flatMap_map]
theorem len_ins {B : Int} {r : List Int} : ∀ {L : List (List Int)}, (AS.ins B r L).length ≤ L.length + 1
  | [] => Nat.le_refl _
  | x :: t => by
    unfold AS.ins
    split
    · exact Nat.le_refl _
    · split
      · exact Nat.le_succ _
      · rw [List.length_cons, List.length_cons]
        have := len_ins (B := B) (r := r) (L := t)
        omega
theorem len_ascR {B : Int} : ∀ {L : List (List Int)}, (AS.ascR B L).length ≤ L.length
  | [] => Nat.le_refl _
  | x :: t => by
    have h := len_ins (B := B) (r := x) (L := AS.ascR B t)
    have h2 := len_ascR (B := B) (L := t)
    show (AS.ins B x (AS.ascR B t)).length ≤ t.length + 1
    omega
theorem asc_nodup {B : Int} {L : List (List Int)} (h : AS.Asc B L) : L.Nodup := List.Pairwise.imp (fun {a b} hab c => by subst c; exact Int.lt_irrefl _ hab) h
theorem A2.vals {δ : Type} {B : Hp} {f : δ → V} : ∀ {ds : List δ} {ys : List V}, A2 (fun d => IsV (f d)) ds ys B → ys = ds.map f
  | [], ys, h => List.length_eq_zero_iff.mp h.1
  | d :: ds, [], h => by have := h.1; simp at this
  | d :: ds, y :: ys, h => by
    have h0 : y = f d := h.2 0 y d rfl rfl
    have ht : A2 (fun d => IsV (f d)) ds ys B := ⟨by have := h.1; simpa using this, fun k y' d' a b => h.2 (k + 1) y' d' a b⟩
    rw [h0, A2.vals ht]
    rfl
end RX
/-! methods by contract -/
namespace RX
open PySem PySem.Spec PyProof.Rows L2 Evl LX XV WS
/-- the method m of the class at C that lets nothing out -/
structure OkM (P : Program) (w : World) (K : PySem.W.Frag) (mg : Str → Option Value) (base : Heap) (k : Nat) (C : Addr) (m : Str) (ps : List Str) (sp : Sp) : Prop where
  ex : ∃ (f : Addr) (fd : FuncData), Meth K C m f ∧ FnOk P w K mg base CX0 k f fd ps sp ∧ Binds K fd ps []
theorem pe_m {X : Cx} {C : Addr} {m : Str} {o e : Expr} {es : List Expr} {apos pos : Pos} {k j : Nat} {ps : List Str} {sp : Sp} {ta : TE} {t : TA} {pl : Sem Bool} (O : OkM X.prog X.w X.K X.mg X.base k C m ps sp) (c : Cls X.K C) (hr : Room j X.A) (hj : k ≤ j) (he : PE X o ta) (ha : PA X (e :: es) t)
    (hst : starEach (e :: es) X.env = (false, eval e X.env) :: starEach es X.env := by rfl) (hpl : (backTo pos (starEach es X.env)).any (·.1) = false := by rfl)
    (ht : eval (.Call (.Attribute o m apos) (e :: es) [] pos) X.env = (do
      let ov ← eval o X.env
      standAt apos.atName
      let (f, first) ← holding [ov] (getMethod ov m pl)
      callWith pos f first (backTo pos (starEach (e :: es) X.env)) (backToKw pos (keywordEach [] X.env))) := by rfl) : PE X (.Call (.Attribute o m apos) (e :: es) [] pos) (tMeth C m sp [] E0 ta t) := by
  obtain ⟨f, fd, hm, F, b⟩ := O.ex
  exact pe_meth (pl := pl) he c hm F (hr.mono hj) b .nil pass0 ha hst hpl ht
section
variable {K : PySem.W.Frag} {σ : L2.St} {B X : Hp} {te ta : TE} {tr : TA} {P : V → Hp → Prop}
theorem er_meth {C x dx : Addr} {m : Str} {fs : List (Str × V)} {vs : List V} {Dd : List V → Hp → (V → Hp → Prop) → Prop} {E : XK} (ho : Ev ta σ B (.ref x)) (hx : B x = some (.ins C dx fs)) (hl : fs.lookup m = none) (h : EvA tr σ B vs) (hs : ∀ B', Ex B B' → Dd (.ref x :: vs) B' P) : EvR (tMeth C m (spR Dd) [] E ta tr) σ B P := fun H1 e Q q =>
  ho H1 e _ fun H2 e2 => ⟨x, dx, fs, rfl, (e.trans e2) _ _ hx, hl, h H2 (e.trans e2) _ fun H3 e3 => by
    rw [List.append_nil]
    exact ⟨B, P, (e.trans e2).trans e3, hs B (Ex.refl _), fun z H4 B' e4 g e5 p => q z H4 B' ((e2.trans e3).trans e4) (g.back (e2.trans e3)) e5 p⟩⟩
end
end RX
/-! sorted lists of rows -/
namespace RX
open PySem PySem.Spec PyProof.Rows L2 Evl LX XV WS
section
variable {δ : Type} {Pd : δ → V → Hp → Prop} {B : Hp}
theorem A2.cons {d : δ} {y : V} {ds : List δ} {ys : List V} (h : Pd d y B) (t : A2 Pd ds ys B) : A2 Pd (d :: ds) (y :: ys) B := ⟨by rw [List.length_cons, List.length_cons, t.1], fun k u e hu he => by
  cases k with
  | zero => cases hu; cases he; exact h
  | succ k => exact t.2 k u e hu he⟩
theorem A2.uncons {d : δ} {y : V} {ds : List δ} {ys : List V} (h : A2 Pd (d :: ds) (y :: ys) B) : Pd d y B ∧ A2 Pd ds ys B := ⟨h.2 0 y d rfl rfl, by have := h.1; simpa using this, fun k u e hu he => h.2 (k + 1) u e hu he⟩
theorem a2_perm {xs ys : List V} (hp : xs.Perm ys) : ∀ {R : List δ}, A2 Pd R xs B → ∃ S, S.Perm R ∧ A2 Pd S ys B := by
  induction hp with
  | nil => intro R h; exact ⟨R, List.Perm.refl _, h⟩
  | @cons x l1 l2 _ ih =>
    intro R h
    cases R with
    | nil => have := h.1; simp at this
    | cons d R =>
      obtain ⟨h1, h2⟩ := h.uncons
      obtain ⟨S, p, q⟩ := ih h2
      exact ⟨d :: S, p.cons d, q.cons h1⟩
  | @swap x y l =>
    intro R h
    cases R with
    | nil => have := h.1; simp at this
    | cons d R =>
      cases R with
      | nil => have := h.1; simp at this
      | cons e R =>
        obtain ⟨h1, h2⟩ := h.uncons
        obtain ⟨h3, h4⟩ := h2.uncons
        exact ⟨e :: d :: R, List.Perm.swap _ _ _, (h4.cons h1).cons h3⟩
  | trans _ _ ih1 ih2 =>
    intro R h
    obtain ⟨S, p, q⟩ := ih1 h
    obtain ⟨S2, p2, q2⟩ := ih2 q
    exact ⟨S2, p2.trans p, q2⟩
end
def rSortR (K : PySem.W.Frag) (Bn : Int) : List V → Hp → VK → Prop := fun vs H Q => rSortU K 1 Bn vs H Q ∨ rSortU K 2 Bn vs H Q ∨ rSortU K 3 Bn vs H Q
theorem k_sortR {X : Cx} {K : PySem.W.Frag} {Bn : Int} (h : X.K = K := by rfl) : CallR X (.builtin "sorted") (rSortR K Bn) := by
  subst h
  exact (cr_sortT (by decide)).or ((cr_sortT (by decide)).or (cr_sortT (by decide)))
section
variable {K : PySem.W.Frag} {σ : L2.St} {B X : Hp} {te : TE}
theorem sortU_at {Bn : Int} {d : Nat} {a : Addr} {xs : List V} {R : List (List Int)} {H1 H2 : Hp} (e : Ex B H1) (e2 : Ex H1 H2) (ha : SqL K B a xs) (hR : A2 (IsTI K) R xs B) (hok : ∀ r ∈ R, AS.Ok Bn d r) (hz : xs.length < 64) {Q : VK}
    (q : ∀ z H2 B', Ex H1 H2 → Gr H1 B B' → Ex B' H2 → (∃ (p : Addr) (ys : List V) (S : List (List Int)), z = .ref p ∧ B' p = some (.lst ys) ∧ A2 (IsTI K) S ys B' ∧ S.Perm R ∧ S.Pairwise fun q r => TS.code Bn q ≤ TS.code Bn r) → Q z H2) : rSortU K d Bn [.ref a] H2 Q :=
  ⟨a, xs, rfl, ex_l (e.trans e2) ha, hz, fun x hx => by
    obtain ⟨i, hi, rfl⟩ := List.mem_iff_getElem.mp hx
    have hr : R[i]? = some (R[i]'(by rw [← hR.1]; exact hi)) := List.getElem?_eq_getElem _
    exact ⟨_, Mo.mo (e.trans e2) (hR.2 i _ _ (List.getElem?_eq_getElem hi) hr), hok _ (List.mem_of_getElem? hr)⟩, fun ys p hp hpw hn => by
    have hB : B p = none := none_of (e.trans e2) hn
    obtain ⟨S, hS, hA⟩ := a2_perm hp.symm hR
    refine q _ _ (upd B p (.lst ys)) (e2.trans (Ex.new hn)) (gr_new hB (none_of e2 hn)) (fun x o hx => ?_) ⟨p, ys, S, rfl, upd_same, A2.mono (fun _ => inferInstance) (Ex.new hB) hA, hS, ?_⟩
    · by_cases c : x = p
      · subst c; rw [upd_same] at hx ⊢; exact hx
      · rw [upd_ne c] at hx ⊢; exact (e.trans e2) x o hx
    · rw [List.pairwise_iff_getElem] at hpw ⊢
      intro i j hi hj hij
      have h1 : ys[i]? = some (ys[i]'(by rw [hA.1]; exact hi)) := List.getElem?_eq_getElem _
      have h2 : ys[j]? = some (ys[j]'(by rw [hA.1]; exact hj)) := List.getElem?_eq_getElem _
      exact hpw i j _ _ hij _ _ (Mo.mo (e.trans e2) (hA.2 i _ _ h1 (List.getElem?_eq_getElem hi))) (Mo.mo (e.trans e2) (hA.2 j _ _ h2 (List.getElem?_eq_getElem hj)))⟩
theorem er_sortR {Bn : Int} {d : Nat} {a : Addr} {xs : List V} {R : List (List Int)} (h : Ev te σ B (.ref a)) (ha : SqL K B a xs) (hR : A2 (IsTI K) R xs B) (hok : ∀ r ∈ R, AS.Ok Bn d r) (hz : xs.length < 64) (h1 : 1 ≤ d) (h3 : d ≤ 3) :
    EvR (tCB (rSortR K Bn) (tCons te tNil)) σ B fun z B' => ∃ (p : Addr) (ys : List V) (S : List (List Int)), z = .ref p ∧ B' p = some (.lst ys) ∧ A2 (IsTI K) S ys B' ∧ S.Perm R ∧ S.Pairwise fun q r => TS.code Bn q ≤ TS.code Bn r := fun H1 e Q q =>
  h H1 e _ fun H2 e2 => by
    have hd : d = 1 ∨ d = 2 ∨ d = 3 := by omega
    rcases hd with c | c | c
    · subst c; exact .inl (sortU_at e e2 ha hR hok hz q)
    · subst c; exact .inr (.inl (sortU_at e e2 ha hR hok hz q))
    · subst c; exact .inr (.inr (sortU_at e e2 ha hR hok hz q))
/-- two rows by != -/
theorem rv_neT {a b : Addr} {r q : List Int} (ha : SqT K B a (r.map V.int)) (hb : SqT K B b (q.map V.int)) : RV (rNeD K) (.ref a) (.ref b) B (.bl (!decide (r = q))) := fun H1 e Q k => by
  refine ⟨.tuple (r.map PyData.int), .tuple (q.map PyData.int), .tup (ex_t e ha) (dp_ints r), .tup (ex_t e hb) (dp_ints q), shaped_intsT r, shaped_intsT q, ?_⟩
  have : PyData.eqv (.tuple (r.map PyData.int)) (.tuple (q.map PyData.int)) = decide (r = q) := eqv_ints r q
  rw [this]
  exact k H1 (Ex.refl _)
end
end RX
/-! comprehensions whose list is told to be new; calls whose promise speaks of the heap at the call -/
namespace RX
open PySem PySem.Spec PyProof.Rows L2 Evl LX XV WS
section
variable {K : PySem.W.Frag} {σ : L2.St} {B B' H X : Hp} {ta tb te : TE} {t : TT} {tr : TA} {x y z v : V} {D : Ends} {tz tu tw : TS} {P : V → Hp → Prop} {xs : List V}
/-- [e for x in it if ..]: f which of them, Pe what each is -/
theorem er_lcN {wi : TI} {j : Nat} {vs : List Nat} {Pxs : List V → Hp → Prop} (f : List V → Nat → Bool) (Pe : List V → Nat → V → Hp → Prop) (mo : ∀ xs i, Mo (Pe xs i)) (mp : MoA Pxs) (hi : EvI wi σ B Pxs) (hw : ∀ x, wipe ((wipe σ vs).set j (some x)) vs = wipe σ vs)
    (hz : ∀ xs B', Pxs xs B' → xs.length ≤ 40000)
    (ht : ∀ xs i x B', Ex B B' → Pxs xs B' → xs[i]? = some x → EvT t ((wipe σ vs).set j (some x)) B' (f xs i)) (he : ∀ xs i x B', Ex B B' → Pxs xs B' → xs[i]? = some x → f xs i = true → EvR te ((wipe σ vs).set j (some x)) B' (Pe xs i)) :
    EvR (tLc wi (gName j) t te vs) σ B fun z B' => ∃ (xs : List V) (p : Addr) (ys : List V), Pxs xs B' ∧ z = .ref p ∧ B' p = some (.lst ys) ∧ Told (f xs) (Pe xs) xs.length ys B' ∧ B p = none := fun H1 e Q q => by
  refine hi H1 e _ fun J H2 B1 xs e2 g e3 px ft => fun Dl hD => ?_
  have hD1 : B1 Dl = none := none_of e3 hD
  refine ⟨fun i m H' => m = xs.length - i ∧ i ≤ xs.length ∧ ∃ Bs ys, Gr H2 B1 Bs ∧ Bs Dl = none ∧ Ex Bs H' ∧ H' Dl = some (.lst ys) ∧ Told (f xs) (Pe xs) i ys Bs ∧ Ex H2 H', ⟨xs.length, by simp, Nat.zero_le _, B1, [], Gr.refl _ _, hD1, e3.trans (Ex.new hD), upd_same, told_nil, Ex.new hD⟩, ?_⟩
  rintro i m H' ⟨rfl, hi', Bs, ys, gs, hDs, es, hDl, td, e2'⟩
  have eF : Ex B1 H' := gs.ex.trans es
  by_cases hlt : i < xs.length
  · refine .inr ⟨ft.go i H' eF hlt, fun H'' => (xs.length - (i + 1)) = xs.length - (i + 1) ∧ i + 1 ≤ xs.length ∧ ∃ Bs ys, Gr H2 B1 Bs ∧ Bs Dl = none ∧ Ex Bs H'' ∧ H'' Dl = some (.lst ys) ∧ Told (f xs) (Pe xs) (i + 1) ys Bs ∧ Ex H2 H'', fun H'' h => ⟨_, by omega, h⟩, fun x H3 y => ?_⟩
    obtain ⟨r, hx⟩ := ft.yld i H' x H3 eF y hlt
    subst r
    refine ⟨hw x, ht xs i x B1 g.ex px hx H3 eF _ fun H4 e4 => ?_⟩
    cases hf : f xs i with
    | false => exact ⟨rfl, hlt, Bs, ys, gs, hDs, es.trans e4, e4 _ _ hDl, told_no td hf, e2'.trans e4⟩
    | true =>
      refine he xs i x B1 g.ex px hx hf H4 (eF.trans e4) _ fun z H5 B' e5 g5 e6 pz => ⟨ys, e5 _ _ (e4 _ _ hDl), sz_lt (by have := td.len; have := hz xs B1 px; omega), rfl, hlt, mrg Bs B', ys ++ [z], ?_⟩
      have hB' : B' Dl = none := g5.av Dl hD1 (by rw [e4 _ _ hDl]; exact Option.some_ne_none _)
      have hM : mrg Bs B' Dl = none := by rw [mrg_none hDs]; exact hB'
      have eM : Ex (mrg Bs B') H5 := mrg_le ((es.trans e4).trans e5) e6
      refine ⟨⟨gs.ex.trans mrg_l, mrg_av gs.av (g5.av.back (e2'.trans e4))⟩, hM, fun a o ha => ?_, upd_same, told_yes (td.mono (mo xs) mrg_l) hf ((mo xs i).mo (mrg_r ((es.trans e4).trans e5) e6) pz), fun a o ha => ?_⟩
      · have c : a ≠ Dl := fun c => by subst c; rw [hM] at ha; exact nomatch ha
        rw [upd_ne c]; exact eM a o ha
      · have c : a ≠ Dl := fun c => by subst c; rw [hD] at ha; exact nomatch ha
        rw [upd_ne c]; exact e5 a o (e4 a o (e2' a o ha))
  · have c : i = xs.length := by omega
    subst c
    refine .inl ⟨ft.stop H' eF, q (.ref Dl) H' (upd Bs Dl (.lst ys)) (e2.trans e2') ⟨(g.ex.trans gs.ex).trans (Ex.new hDs), fun a ha hx => ?_⟩ (ex_upd es hDl) ⟨xs, Dl, ys, mp.mo (gs.ex.trans (Ex.new hDs)) px, rfl, upd_same, td.mono (mo xs) (Ex.new hDs), none_of (e.trans e2) hD⟩⟩
    have c : a ≠ Dl := fun c => by subst c; exact ex_ne e2 hx hD
    rw [upd_ne c]
    exact gs.av a (g.av a ha hx) (ex_ne e2 hx)
end
section
variable {δ : Type} {Pd : δ → V → Hp → Prop} {K : PySem.W.Frag} {σ : L2.St} {B B' X : Hp} {te : TE} {wi : TI} {xs : List V} {j : Nat} {vs : List Nat}
theorem er_lc0N {Pe : Nat → V → Hp → Prop} (mo : ∀ i, Mo (Pe i)) (hi : EvI wi σ B fun ys _ => ys = xs) (hz : xs.length ≤ 40000) (hw : ∀ x, wipe ((wipe σ vs).set j (some x)) vs = wipe σ vs)
    (he : ∀ i x B', Ex B B' → xs[i]? = some x → EvR te ((wipe σ vs).set j (some x)) B' (Pe i)) :
    EvR (tLc wi (gName j) tYes te vs) σ B fun z B' => ∃ (p : Addr) (ys : List V), z = .ref p ∧ B' p = some (.lst ys) ∧ B p = none ∧ ys.length = xs.length ∧ ∀ (k : Nat) (y : V), ys[k]? = some y → Pe k y B' :=
  (er_lcN (fun _ _ => true) (fun _ => Pe) (fun _ => mo) moA_eq hi hw (fun ys B' h => by rw [h]; exact hz) (fun _ _ _ _ _ _ _ => et_yes) (fun ys i x B' e h hx _ => he i x B' e (by rw [← h]; exact hx))).imp fun z B' _ ⟨ys, p, zs, h1, h2, h3, h4, h5⟩ => by
    subst h1
    obtain ⟨l, q⟩ := h4.all
    exact ⟨p, zs, h2, h3, h5, l, q⟩
theorem er_lc1N (mo : ∀ d, Mo (Pd d)) {ds : List δ} (hi : EvI wi σ B fun ys _ => ys = xs) (hz : xs.length ≤ 40000) (hl : xs.length = ds.length) (hw : ∀ x, wipe ((wipe σ vs).set j (some x)) vs = wipe σ vs)
    (he : ∀ (i : Nat) (x : V) (B' : Hp) (d : δ), Ex B B' → xs[i]? = some x → ds[i]? = some d → EvR te ((wipe σ vs).set j (some x)) B' (Pd d)) :
    EvR (tLc wi (gName j) tYes te vs) σ B fun z B' => ∃ (p : Addr) (ys : List V), z = .ref p ∧ B' p = some (.lst ys) ∧ B p = none ∧ A2 Pd ds ys B' :=
  EvR.imp (er_lc0N (Pe := fun i z B' => ∀ d, ds[i]? = some d → Pd d z B') (fun i => ⟨fun e h d hd => (mo d).mo e (h d hd)⟩) hi hz hw (fun i x B' e hx => by
    have hi' := (List.getElem?_eq_some_iff.mp hx).1
    have hd : ds[i]? = some ds[i] := List.getElem?_eq_getElem (by omega)
    exact EvR.imp (he i x B' _ e hx hd) fun z B'' _ p d hd' => by
      rw [hd] at hd'
      cases hd'
      exact p)) fun z B' _ ⟨p, ys, h1, h2, h5, h3, h4⟩ => ⟨p, ys, h1, h2, h5, h3.trans hl, fun k y d hk hd => h4 k y hk d hd⟩
end
/-! ### sorted rows, whatever their bound -/
def rSortRE (K : PySem.W.Frag) : List V → Hp → VK → Prop := fun vs H Q => ∃ Bn, rSortR K Bn vs H Q
theorem k_sortRE {X : Cx} {K : PySem.W.Frag} (h : X.K = K := by rfl) : CallR X (.builtin "sorted") (rSortRE K) := fun pins s σ H xs us Q I r ⟨Bn, q⟩ => (k_sortR (Bn := Bn) h) pins s σ H xs us Q I r q
theorem er_sortRE {K : PySem.W.Frag} {σ : L2.St} {B : Hp} {te : TE} {Bn : Int} {d : Nat} {a : Addr} {xs : List V} {R : List (List Int)} (h : Ev te σ B (.ref a)) (ha : SqL K B a xs) (hR : A2 (IsTI K) R xs B) (hok : ∀ r ∈ R, AS.Ok Bn d r) (hz : xs.length < 64) (h1 : 1 ≤ d) (h3 : d ≤ 3) :
    EvR (tCB (rSortRE K) (tCons te tNil)) σ B fun z B' => ∃ (p : Addr) (ys : List V) (S : List (List Int)), z = .ref p ∧ B' p = some (.lst ys) ∧ A2 (IsTI K) S ys B' ∧ S.Perm R ∧ S.Pairwise fun q r => TS.code Bn q ≤ TS.code Bn r := fun H1 e Q q =>
  h H1 e _ fun H2 e2 => by
    refine ⟨Bn, ?_⟩
    have hd : d = 1 ∨ d = 2 ∨ d = 3 := by omega
    rcases hd with c | c | c
    · subst c; exact .inl (sortU_at e e2 ha hR hok hz q)
    · subst c; exact .inr (.inl (sortU_at e e2 ha hR hok hz q))
    · subst c; exact .inr (.inr (sortU_at e e2 ha hR hok hz q))
/-! ### an object of the def's own, kept apart -/
section
variable {K : PySem.W.Frag} {σ : L2.St} {B X : Hp} {ta te : TE} {tz : TS} {D : Ends} {P : V → Hp → Prop}
theorem x_asgO {i : Nat} {p : Addr} {o : HO} (hp : B p = none) (h : EvR te σ B P) (k : ∀ z B', Gr X B B' → B' p = none → P z B' → Sx X tz D (σ.set i (some z)) (upd B' p o)) : Sx X (tSeq (tAsg te (gName i)) tz) D σ (upd B p o) := fun H e eX =>
  h H ((Ex.new hp).trans e) _ fun z H2 B' e2 g e3 pz => by
    have ho : H p = some o := e p o upd_same
    exact k z B' (g.back eX) (g.av p hp (by rw [ho]; exact Option.some_ne_none _)) pz H2 (ex_upd e3 (e2 _ _ ho)) (eX.trans e2)
theorem x_appO {p : Addr} {xs : List V} (m : Mo P) (hp : B p = none) (hX : X p = none) (ha : Ev ta σ (upd B p (.lst xs)) (.ref p)) (h : EvR te σ B P) (hz : xs.length < 100000)
    (k : ∀ z B', Gr X B B' → B' p = none → P z B' → Sx X tz D σ (upd B' p (.lst (xs ++ [z])))) : Sx X (tSeq (tDrop (tBM K "list" rAppend ta (tCons te tNil))) tz) D σ (upd B p (.lst xs)) :=
  x_app m upd_same hX ha (by rw [del_upd hp]; exact h) hz fun z B' g h1 h2 => k z B' (by rw [del_upd hp] at g; exact g) h1 h2
end
section
variable {K : PySem.W.Frag} {σ : L2.St} {B X : Hp} {ta tb te : TE} {tz : TS} {D : Ends} {v : V} {xs : List V}
/-- xs[k] = e, the list not known to X -/
theorem x_setL {l : Addr} {k : Int} {j : Nat} (hl : B l = some (.lst xs)) (hX : X l = none) (h : Ev te σ B v) (ho : Ev ta σ B (.ref l)) (hi : Ev tb σ B (.int k)) (hj : ixN xs.length k = some j) (c : Sx X tz D σ (upd B l (.lst (xs.set j v)))) : Sx X (tSeq (tAsg te (gSub ta tb rSetL)) tz) D σ B := fun H e eX =>
  h H e _ fun H1 e1 => ho H1 (e.trans e1) _ fun H2 e2 => hi H2 ((e.trans e1).trans e2) _ fun H3 e3 => by
    have eB := ((e.trans e1).trans e2).trans e3
    refine ⟨l, xs, k, j, rfl, rfl, eB _ _ hl, hj, c _ (fun a u q => ?_) (fun a u q => ?_)⟩
    · by_cases c : a = l
      · subst c; rw [upd_same] at q ⊢; exact q
      · rw [upd_ne c] at q ⊢; exact eB a u q
    · have c : a ≠ l := fun c => by subst c; rw [hX] at q; exact nomatch q
      rw [upd_ne c]
      exact (((eX.trans e1).trans e2).trans e3) a u q
theorem x_clear {l : Addr} (hl : B l = some (.lst xs)) (hX : X l = none) (ho : Ev ta σ B (.ref l)) (c : Sx X tz D σ (upd B l (.lst []))) : Sx X (tSeq (tDrop (tBM0 K "list" rClear ta)) tz) D σ B := fun H e eX =>
  ho H e _ fun H1 e1 => ⟨Or.inl ⟨rfl, xs, sq_of ((e.trans e1) l _ hl)⟩, l, xs, rfl, rfl, (e.trans e1) _ _ hl, c _ (fun a u q => by
    by_cases c : a = l
    · subst c; rw [upd_same] at q ⊢; exact q
    · rw [upd_ne c] at q ⊢; exact (e.trans e1) a u q) (fun a u q => by
    have c : a ≠ l := fun c => by subst c; rw [hX] at q; exact nomatch q
    rw [upd_ne c]
    exact (eX.trans e1) a u q)⟩
theorem ev_isL {a : Addr} (h : Ev te σ B (.ref a)) (hx : B a = some (.lst xs)) : Ev (tCB (rIsi K) (tCons te (tCons (tC (.ty "list")) tNil))) σ B (.bl true) :=
  ev_isi h (.ty "list") (fun H1 e => sql_ty (sq_of (e _ _ hx))) (kit_ty (show kitB "list" "list" = _ by decide +kernel))
theorem ev_isLt {a : Addr} (h : Ev te σ B (.ref a)) (hx : SqT K B a xs) : Ev (tCB (rIsi K) (tCons te (tCons (tC (.ty "list")) tNil))) σ B (.bl false) :=
  ev_isi h (.ty "list") (fun H1 e => sqt_ty (ex_t e hx)) (kit_ty (show kitB "tuple" "list" = _ by decide +kernel))
theorem ev_min2 {i j : Int} (ha : Ev ta σ B (.int i)) (hb : Ev tb σ B (.int j)) : Ev (tCB (fun xs H Q => ∃ i j, xs = [.int i, .int j] ∧ Q (.int (if j < i then j else i)) H) (tCons ta (tCons tb tNil))) σ B (.int (if j < i then j else i)) :=
  ev_cb (ea_cons ha (ea_cons hb ea_nil)) fun H1 _ Q q => ⟨i, j, rfl, q H1 (Ex.refl H1)⟩
end
/-- a list described by its items -/
def IsLA (Pa : List V → Hp → Prop) : V → Hp → Prop := fun z B => ∃ p vs, z = .ref p ∧ B p = some (.lst vs) ∧ Pa vs B
instance {Pa : List V → Hp → Prop} [m : MoA Pa] : Mo (IsLA Pa) := ⟨fun e ⟨p, vs, h, a, b⟩ => ⟨p, vs, h, e _ _ a, m.mo e b⟩⟩
theorem er_lstA {σ : L2.St} {B : Hp} {tr : TA} {Pa : List V → Hp → Prop} (m : MoA Pa) (h : EvAR tr σ B Pa) (hl : ∀ vs B', Pa vs B' → vs.length ≤ 100000) : EvR (tLst tr) σ B (IsLA Pa) := er_lstN m h hl
theorem EvAR.imp {σ : L2.St} {B : Hp} {ta : TA} {Pa Pb : List V → Hp → Prop} (h : EvAR ta σ B Pa) (i : ∀ z B', Ex B B' → Pa z B' → Pb z B') : EvAR ta σ B Pb := fun H1 e Q q => h H1 e Q fun z H2 B2 e2 g g2 p => q z H2 B2 e2 g g2 (i z B2 g.ex p)
/-! ### calls -/
section
variable {σ : L2.St} {B : Hp} {tr : TA} {Pz : V → Hp → Prop} {Dd : List V → Hp → (V → Hp → Prop) → Prop} {E : XK}
theorem er_callB {vs : List V} (h : EvA tr σ B vs) (hs : Dd vs B Pz) : EvR (tCall (spR Dd) [] E tr) σ B Pz := fun H1 e Q q =>
  h H1 e _ fun H2 e2 => by
    show spR Dd (vs ++ []) H2 Q E
    rw [List.append_nil]
    exact ⟨B, Pz, e.trans e2, hs, fun z H3 B' e4 g e5 p => q z H3 B' (e2.trans e4) (g.back e2) e5 p⟩
theorem er_callP {Pa : List V → Hp → Prop} (h : EvAR tr σ B Pa) (hs : ∀ vs B', Ex B B' → Pa vs B' → ∃ P', Dd vs B' P' ∧ ∀ z B'', Ex B' B'' → P' z B'' → Pz z B'') : EvR (tCall (spR Dd) [] E tr) σ B Pz := fun H1 e Q q =>
  h H1 e _ fun vs H2 B1 e2 g1 e3 pa => by
    show spR Dd (vs ++ []) H2 Q E
    rw [List.append_nil]
    obtain ⟨P', hd, hi⟩ := hs vs B1 g1.ex pa
    exact ⟨B1, P', e3, hd, fun z H3 B' e4 g2 e5 p => q z H3 B' (e2.trans e4) (g1.trans (g2.back e2)) e5 (hi z B' g2.ex p)⟩
end
end RX
/-! methods that raise, called within a try; the exception that a suite holds, with its dict -/
namespace RX
open PySem PySem.Spec PyProof.Rows L2 Evl LX XV WS
/-- the method m of the class at C, which may raise -/
structure OkMX (P : Program) (w : World) (K : PySem.W.Frag) (mg : Str → Option Value) (base : Heap) (k : Nat) (C : Addr) (m : Str) (ps : List Str) (sp : Sp) : Prop where
  ex : ∃ (f : Addr) (fd : FuncData), Meth K C m f ∧ FnOk P w K mg base (L2.CX P w) k f fd ps sp ∧ Binds K fd ps []
/-- o.m(..), what is raised wished for at the caller's slots -/
def tMethE (C : Addr) (m : Str) (sp : Sp) (E : L2.St → XK) (ta : TE) (t : TA) : TE := fun σ H Q => ta σ H fun x H1 => ∃ a dx fs, x = .ref a ∧ H1 a = some (.ins C dx fs) ∧ fs.lookup m = none ∧ t σ H1 fun vs H2 => sp (x :: vs) H2 Q (E σ)
theorem pe_methE {X : Cx} {C : Addr} {m : Str} {o e : Expr} {es : List Expr} {apos pos : Pos} {k j : Nat} {ps : List Str} {sp : Sp} {E : L2.St → XK} {ta : TE} {t : TA} {pl : Sem Bool} (O : OkMX X.prog X.w X.K X.mg X.base k C m ps sp) (c : Cls X.K C) (hr : Room j X.A) (hj : k ≤ j) (hx : ∀ σ, PassesAt (L2.CX X.prog X.w) X σ (E σ)) (he : PE X o ta) (ha : PA X (e :: es) t)
    (hst : starEach (e :: es) X.env = (false, eval e X.env) :: starEach es X.env := by rfl) (hpl : (backTo pos (starEach es X.env)).any (·.1) = false := by rfl)
    (ht : eval (.Call (.Attribute o m apos) (e :: es) [] pos) X.env = (do
      let ov ← eval o X.env
      standAt apos.atName
      let (f, first) ← holding [ov] (getMethod ov m pl)
      callWith pos f first (backTo pos (starEach (e :: es) X.env)) (backToKw pos (keywordEach [] X.env))) := by rfl) : PE X (.Call (.Attribute o m apos) (e :: es) [] pos) (tMethE C m sp E ta t) := by
  obtain ⟨f, fd, hm, F, hb⟩ := O.ex
  refine ⟨fun pins s σ H Q I h => ?_⟩
  refine PySem.W.methodCall_KW (pl := pl) (thn (he.run pins s σ H _ I h) fun u s1 ⟨x, H1, I1, rx, a, dx, fs, ex, ea, l, q⟩ => ?_) ht
  subst ex
  obtain rfl : u = Value.ref a := rx
  refine getmeth_ok I1 ea c hm l ?_
  refine PySem.W.callWith_K (first := [.ref a]) (h₀ := X.base) I.ok.mod.kin hm.kp (thn (ha.run pos pins s1 σ H1 _ I1 q) fun us s2 ⟨vs, H2, I2, r, q2⟩ => ⟨I2.kIn, ?_⟩) hst hpl
  exact run_fnS (us := .ref a :: us) (vs := .ref a :: vs) F (hr.mono hj) hb (hx σ) I2 (.cons rfl r) q2
/-- isinstance(e, c), e the exception that the suite holds, with its dict -/
def rIsED (K : PySem.W.Frag) (a : Addr) (cls : Value) (d : Option Addr) : List V → Hp → VK → Prop := fun xs H Q => ∃ (D dd : Addr) (fs : List (Str × V)) (c : V) (cv : Value) (b : Bool), cls = .ref D ∧ d = some dd ∧ H dd = some (.xd fs) ∧ ExK K D ∧ xs = [.ref a, c] ∧ ClsV c cv ∧ PySem.W.kitOne K (.ref D) cv = some b ∧ Q (.bl b) H
theorem call_isED {X : Cx} {K : PySem.W.Frag} {a : Addr} {cls : Value} {d : Option Addr} {oe : Obj} {pn : List (Addr × Obj)} (hz : Zc cls d oe) (hf : ∃ vs, oe.data = .fields vs) (hK : X.K = K := by rfl) : CallR (X.suite a ((a, oe) :: pn)) (.builtin "isinstance") (rIsED K a cls d) := by
  subst hK
  intro pins s σ H xs us Q I r h
  obtain ⟨D, dd, fs, c, cv, b, rfl, rfl, hdd, C, rfl, hc, e, q⟩ := h
  obtain ⟨u1, u2, rfl, r1, r2⟩ := vals2 r
  cases (show u1 = Value.ref a from r1)
  have e2 := hc.eq r2
  subst e2
  obtain ⟨hget, _⟩ := I.pin (a, oe) (List.mem_append.mpr (.inl List.mem_cons_self))
  have hx : ObjOk X.prog X.w H s.heap dd (.xd fs) := I.hok dd _ hdd
  obtain ⟨mA, hns, _⟩ := hx
  obtain ⟨od, ho, _⟩ := lookIn_ns hns
  obtain ⟨vs, hv⟩ := hf
  have J : PySem.W.InstAt s.heap a oe D (some od) := ⟨hget, hz.1, by unfold PySem.W.notCls; rw [hv] <;> rfl, by rw [hz.2]; exact ho⟩
  exact PySem.W.kia_one (PySem.W.kitx_exc C.clsv C.e.hg C.e.hk C.e.hs C.e.ha C.e.hn C.e.ht C.e.hm) I.kIn J e (fun z => nomatch z) fun tk => ⟨.bl b, H, I.kept (t' := tk) fun _ _ z => z, rfl, q⟩
/-- C(e, ..) raised, C's own __init__ by contract -/
theorem pmk_c {X : Cx} {x : Str} {e : Expr} {es : List Expr} {p pos : Pos} {k j : Nat} {ps : List Str} {sp : Sp} {t : TA} (O : OkC X.prog X.w X.K X.mg X.base k x ps sp) (hr : Room j X.A) (hj : k + 1 ≤ j) (ha : PA X (e :: es) t) (hg : Gl X x := by rfl)
    (hdb : (x == ("__debug__" : Str)) = false := by decide) (he : starEach (e :: es) X.env = (false, eval e X.env) :: starEach es X.env := by rfl) (hpl : (backTo pos (starEach es X.env)).any (·.1) = false := by rfl) :
    L2.PMk X (.Call (.Name x p) (e :: es) [] pos) (tMkO (He.ga X.K x) sp [] t) := by
  obtain ⟨fI, fd, iC, tI, F, b⟩ := O.ex
  exact pmk_oex O.o iC tI F (hr.mono hj) b .nil pass0 hg O.g ha hdb he hpl
section
variable {K : PySem.W.Frag} {σ : L2.St} {B X : Hp} {te : TE} {ta : TA} {D : Ends} {tz : TS}
/-- raise C(e), C's __init__ storing one field f -/
theorem x_raise {C : Addr} {f : Str} {y : V} {E : XK} (h : EvA ta σ B [y]) (q : ∀ d H, Ex X H → H d = some (.xd [(f, y)]) → E (.ref C) (some d) H) : Sx X (fun _ σ H => tMkO C (spInit K C f fun _ _ => True) [] ta σ H fun cls d H' => E cls d H') D σ B := fun H e eX =>
  h H e _ fun H1 e1 => ⟨by show 1 ≤ 1000; decide, fun a ha => ⟨a, y, rfl, trivial, upd_same, fun dx hdx hne => ⟨rfl, dx, [(f, y)], upd_same, by rw [upd_ne hne, upd_same], by rw [upd_ne hne] at hdx; exact hdx, q dx _ (fun b o hb => by
    have h1 := (eX.trans e1) b o hb
    have hdx1 : H1 dx = none := by rw [upd_ne hne] at hdx; exact hdx
    have c1 : b ≠ a := fun c => by subst c; rw [ha] at h1; exact nomatch h1
    have c2 : b ≠ dx := fun c => by subst c; rw [hdx1] at h1; exact nomatch h1
    rw [upd_ne c2, L2.del_ne c1, upd_ne c1, upd_ne c2, upd_ne c1]
    exact h1) upd_same⟩⟩⟩
end
end RX
/-! an operator over a promised value -/
namespace RX
open PySem PySem.Spec PyProof.Rows L2 Evl LX XV WS
theorem er_opL {σ : L2.St} {B : Hp} {r : R2} {ta tb : TE} {y : V} {P0 P1 : V → Hp → Prop} (h1 : EvR ta σ B P0) (h2 : Ev tb σ B y) (hv : ∀ z B', Ex B B' → P0 z B' → ∃ v, RV r z y B' v ∧ P1 v B') : EvR (tOp r ta tb) σ B P1 := fun H1 e Q q =>
  h1 H1 e _ fun z H2 B' e2 g e3 p => h2 H2 (e.trans e2) _ fun H3 e4 => by
    obtain ⟨v, hr, hp⟩ := hv z B' g.ex p
    exact hr H3 (e3.trans e4) Q fun H4 e5 => q v H4 B' ((e2.trans e4).trans e5) g ((e3.trans e4).trans e5) hp
end RX
/-! raise C(), an own class without __init__ -/
namespace RX
open PySem PySem.Spec PyProof.Rows L2 Evl LX XV WS
open PySem.Calls
theorem raises_of {X : Cx} {C : Addr} (T : OexC X.K C) : Raises X (.ref C) := fun M h i => ⟨PySem.W.looks_subIn i T.exC, PySem.W.looks_typeIn i T.tyC⟩
theorem pmk_ex0 {X : Cx} {x : Str} {C : Addr} {p pos : Pos} (T : OexC X.K C) (q : PySem.W.excIn X.K C veB "ValueError.__new__" = true) (hm : X.mg x = some (.ref C)) (hg : Gl X x := by rfl) (hdb : (x == ("__debug__" : Str)) = false := by decide) :
    L2.PMk X (.Call (.Name x p) [] [] pos) (fun _ H Q => Q (.ref C) none H) := by
  intro pins s σ H Q I h
  refine wpAny_Call_Name_kw (ld_glob I hg hm ?_ hdb)
  refine PySem.W.callWith_K0 I.kIn T.kC ?_
  show wpAny _ _ (call (.ref C) []) _ _ _
  obtain ⟨bm, N, nm, qn, bs, hdct, sn, sub, ab, col, dd, k0, k1, k2, k3, k5, mN, hC, hN, hni, T2⟩ := exc_obj I.kIn q
  refine wpAny_call_exc_subT F.excBase_ValueError T2 hC hN hni (fun h' a hm => ?_) (by show 0 ≤ sizeLine; omega)
  have hn : H a = none := I.hok.gone hm.new
  obtain ⟨t, ht, _, _⟩ := hm.there
  exact ⟨a, _, _, s, H, .ref C, none, rfl, I, hm.keeps, hm.new, ht, ⟨rfl, rfl⟩, rfl, rfl, hn, rfl, I.bare, raises_of T, h⟩
end RX
/-! texts of small letters and figures -/
namespace NM
open PySem PySem.Spec PyProof.Rows L2 Evl LX XV RX
def isLD (c : Nat) : Prop := (97 ≤ c ∧ c ≤ 122) ∨ (48 ≤ c ∧ c ≤ 57)
def isL (c : Nat) : Prop := 97 ≤ c ∧ c ≤ 122
/-- a name by its signs -/
structure Nam (s : Str) : Prop where
  pos : 1 ≤ s.cps.toList.length
  few : s.cps.toList.length ≤ 12
  hd : isL (s.cps.toList.getD 0 0)
  all : ∀ c ∈ s.cps.toList, isLD c
theorem tab : ∀ c ∈ List.range 123, (48 ≤ c → c ≤ 57 → (Unicode.isAlnum c = true ∧ Unicode.isUpper c = false ∧ Unicode.isTitle c = false)) ∧ (97 ≤ c → (Unicode.isAlnum c = true ∧ Unicode.isUpper c = false ∧ Unicode.isTitle c = false ∧ Unicode.isLower c = true ∧ Unicode.isDigit c = false)) := by decide +kernel
theorem ld {c : Nat} (h : isLD c) : Unicode.isAlnum c = true ∧ Unicode.isUpper c = false ∧ Unicode.isTitle c = false := by
  rcases h with ⟨h1, h2⟩ | ⟨h1, h2⟩
  · obtain ⟨a, b, c, _⟩ := (tab c (List.mem_range.mpr (by omega))).2 h1
    exact ⟨a, b, c⟩
  · exact (tab c (List.mem_range.mpr (by omega))).1 h1 h2
theorem lt {c : Nat} (h : isL c) : Unicode.isLower c = true ∧ Unicode.isDigit c = false := by
  obtain ⟨h1, h2⟩ := h
  obtain ⟨_, _, _, a, b⟩ := (tab c (List.mem_range.mpr (by omega))).2 h1
  exact ⟨a, b⟩
theorem Nam.ascii {s : Str} (h : Nam s) : Txt.isascii s = true := by
  unfold Txt.isascii
  rw [← Array.all_toList]
  refine List.all_eq_true.mpr fun c hc => decide_eq_true ?_
  rcases h.all c hc with ⟨_, q⟩ | ⟨_, q⟩ <;> omega
theorem Nam.len {s : Str} (h : Nam s) : s.length = s.cps.toList.length := Array.length_toList.symm
theorem Nam.alnum {s : Str} (h : Nam s) : Txt.isalnum s = true := by
  unfold Txt.isalnum
  rw [Bool.and_eq_true]
  refine ⟨decide_eq_true (by have := h.pos; rw [h.len]; omega), ?_⟩
  rw [← Array.all_toList]
  exact List.all_eq_true.mpr fun c hc => (ld (h.all c hc)).1
theorem Nam.lower {s : Str} (h : Nam s) : Txt.islower s = true := by
  unfold Txt.islower
  rw [← Array.any_toList, ← Array.any_toList, Bool.and_eq_true]
  have hp := h.pos
  have h0 : s.cps.toList.getD 0 0 ∈ s.cps.toList := by
    rw [List.getD_eq_getElem?_getD, List.getElem?_eq_getElem (by omega)]
    exact List.getElem_mem _
  refine ⟨List.any_eq_true.mpr ⟨_, h0, (lt h.hd).1⟩, ?_⟩
  rw [Bool.not_eq_true', List.any_eq_false]
  intro c hc q
  obtain ⟨_, a, b⟩ := ld (h.all c hc)
  rw [a, b] at q
  exact nomatch q
theorem Nam.nodigit {s : Str} (h : Nam s) : Txt.isdigit ⟨#[s.cps.toList.getD 0 0]⟩ = false := by
  unfold Txt.isdigit
  rw [← Array.all_toList]
  show (decide ((1 : Nat) > 0) && (Unicode.isDigit (s.cps.toList.getD 0 0) && true)) = false
  rw [(lt h.hd).2]
  rfl
/-- the last sign cut off, another one in its place -/
def cutL (s : Str) : Str := cutS s none (some (-1))
theorem cutL_list {s : Str} (h : 1 ≤ s.cps.toList.length) : (cutL s).cps.toList = s.cps.toList.take (s.cps.toList.length - 1) := by
  unfold cutL cutS
  have hl : s.length = s.cps.toList.length := Array.length_toList.symm
  have e1 : HT.sIx s.length 0 none = 0 := rfl
  have e2 : HT.sIx s.length s.length (some (-1)) = s.length - 1 := by
    have : HT.sIx s.length s.length (some (-1)) = ((-1 : Int) + (s.length : Int)).toNat := by
      show (if ((-1 : Int) < 0) then ((-1 : Int) + (s.length : Int)).toNat else min ((-1 : Int)).toNat s.length) = _
      rw [if_pos (by decide)]
    rw [this]
    omega
  rw [e1, e2, List.drop_zero, Nat.sub_zero, hl]
def withL (s : Str) (c : Nat) : Str := cutL s ++ (⟨#[c]⟩ : Str)
theorem app_list (a b : Str) : (a ++ b).cps.toList = a.cps.toList ++ b.cps.toList := by
  show (a.cps ++ b.cps).toList = _
  rw [Array.toList_append]
theorem withL_list {s : Str} {c : Nat} (h : 1 ≤ s.cps.toList.length) : (withL s c).cps.toList = s.cps.toList.take (s.cps.toList.length - 1) ++ [c] := by
  unfold withL
  rw [app_list, cutL_list h]
theorem nam_withL {s : Str} {c : Nat} (h : Nam s) (hc : isL c) : Nam (withL s c) := by
  have hp := h.pos
  have hl := withL_list (c := c) hp
  refine ⟨by rw [hl, List.length_append]; exact Nat.le_add_left _ _, ?_, ?_, fun d hd => ?_⟩
  · rw [hl, List.length_append, List.length_take, List.length_singleton]
    have := h.few
    omega
  · rw [hl]
    by_cases q : s.cps.toList.length = 1
    · rw [q]
      exact hc
    · have : (s.cps.toList.take (s.cps.toList.length - 1) ++ [c]).getD 0 0 = s.cps.toList.getD 0 0 := by
        rw [List.getD_eq_getElem?_getD, List.getD_eq_getElem?_getD, List.getElem?_append_left (by rw [List.length_take]; omega), List.getElem?_take_of_lt (by omega)]
      rw [this]
      exact h.hd
  · rw [hl] at hd
    rcases List.mem_append.mp hd with q | q
    · exact h.all d (List.mem_of_mem_take q)
    · rw [List.mem_singleton] at q
      rw [q]
      exact .inl hc
theorem withL_inj {s : Str} {c d : Nat} (h : 1 ≤ s.cps.toList.length) (e : withL s c = withL s d) : c = d := by
  have := congrArg (fun z : Str => z.cps.toList) e
  have this : (withL s c).cps.toList = (withL s d).cps.toList := this
  rw [withL_list h, withL_list h] at this
  exact (List.cons.inj (List.append_cancel_left this)).1
def letL : List Nat := (List.range 26).map (97 + ·)
theorem letL_is {c : Nat} (h : c ∈ letL) : isL c := by
  obtain ⟨i, hi, rfl⟩ := List.mem_map.mp h
  have := List.mem_range.mp hi
  exact ⟨by omega, by omega⟩
def unlike (s : Str) (barred : List Str) : Str := if s ∈ barred then (match letL.find? (fun c => decide (withL s c ∉ barred)) with
  | some c => withL s c
  | none => s) else s
theorem pigeon {α : Type} [DecidableEq α] : ∀ {l m : List α}, l.Nodup → (∀ x ∈ l, x ∈ m) → l.length ≤ m.length
  | [], _, _, _ => Nat.zero_le _
  | x :: l, m, h, hs => by
    obtain ⟨h1, h2⟩ := List.nodup_cons.mp h
    have hx := hs x List.mem_cons_self
    have hl : l.length ≤ (m.erase x).length := pigeon h2 fun y hy => by
      have hne : y ≠ x := fun e => h1 (e ▸ hy)
      exact (List.mem_erase_of_ne hne).mpr (hs y (List.mem_cons_of_mem _ hy))
    rw [List.length_erase_of_mem hx] at hl
    have := List.length_pos_of_mem hx
    rw [List.length_cons]
    omega
theorem unlike_ok {s : Str} {barred : List Str} (h : Nam s) (hb : barred.length < 26) : Nam (unlike s barred) ∧ unlike s barred ∉ barred := by
  unfold unlike
  split
  · cases hf : letL.find? (fun c => decide (withL s c ∉ barred)) with
    | some c =>
      have hz := List.find?_some hf
      exact ⟨nam_withL h (letL_is (List.mem_of_find?_eq_some hf)), of_decide_eq_true hz⟩
    | none =>
      exfalso
      have hall := List.find?_eq_none.mp hf
      have hn : (letL.map (withL s)).Nodup := by
        refine List.pairwise_map.mpr (List.Pairwise.imp (fun {a b} hab e => hab (withL_inj h.pos e)) (show letL.Nodup by decide))
      have := pigeon hn (m := barred) fun x hx => by
        obtain ⟨c, hc, rfl⟩ := List.mem_map.mp hx
        have := hall c hc
        rw [decide_eq_true_eq] at this
        exact Decidable.not_not.mp this
      rw [List.length_map] at this
      have e : letL.length = 26 := rfl
      omega
  · rename_i hn
    exact ⟨h, hn⟩
theorem inV_str {s : Str} {L : List Str} : inV (.str s) (L.map V.str) = decide (s ∈ L) := by
  unfold inV
  rw [List.any_map]
  induction L with
  | nil => rfl
  | cons a r ih =>
    rw [List.any_cons, ih]
    show (eqV (.str a) (.str s) || _) = _
    have : eqV (.str a) (.str s) = (a == s) := rfl
    rw [this]
    by_cases c : a = s
    · subst c; simp
    · have c' : ¬ s = a := fun e => c e.symm
      simp [c, c']
/-! ### readings -/
section
variable {K : PySem.W.Frag} {σ : L2.St} {B X : Hp} {te ta tb : TE} {tl th : TO} {lo hi : Option Int} {s : Str}
theorem ev_slS (h : Ev te σ B (.str s)) (h1 : EvO tl σ B lo) (h2 : EvO th σ B hi) (hz : s.length ≤ 100000) : Ev (tSl rSlS te tl th) σ B (.str (cutS s lo hi)) := fun H1 e Q q =>
  h H1 e _ fun H2 e2 => h1 H2 (e.trans e2) _ fun H3 e3 => h2 H3 ((e.trans e2).trans e3) _ fun H4 e4 => ⟨s, rfl, sz_of hz, q H4 ((e2.trans e3).trans e4)⟩
def chV (s : Str) : List V := s.cps.toList.map fun c => V.str ⟨#[c]⟩
theorem fit_s : FIt (Its s) (chV s) B := by
  have hl : (chV s).length = s.cps.size := by unfold chV; rw [List.length_map, Array.length_toList]
  refine ⟨fun i H e hi => by rw [hl] at hi; exact hi, fun H e => by show s.cps.size ≤ _; rw [hl]; exact Nat.le_refl _, fun i H x H' e ⟨e1, c, hc, y⟩ hi => ⟨e1, ?_⟩⟩
  unfold chV
  rw [List.getElem?_map, Array.getElem?_toList, hc, y]
  rfl
theorem ei_str (h : Ev te σ B (.str s)) : EvI (iStr te) σ B fun ys _ => ys = chV s := fun H1 e R q =>
  h H1 e _ fun H2 e2 => ⟨s, rfl, q _ H2 B _ e2 (Gr.refl _ _) (e.trans e2) rfl fit_s⟩
theorem el_catV {b : Addr} {xs ys : List V} (ha : EvL ta σ B xs) (hb : Ev tb σ B (.ref b)) (hy : B b = some (.lst ys)) (hz : xs.length + ys.length ≤ 100000) : EvL (tOp rCat ta tb) σ B (xs ++ ys) := fun H1 e Q q =>
  ha H1 e _ fun l H2 hl0 e2 hl => hb H2 (e.trans e2) _ fun H3 e3 => ⟨l, b, xs, ys, rfl, rfl, e3 _ _ hl, ((e.trans e2).trans e3) _ _ hy, sz_of hz, fun p hp => q p _ (fresh_back (e2.trans e3) hp) ((e2.trans e3).trans (Ex.new hp)) upd_same⟩
end
theorem mrg_self {F B : Hp} (e : Ex B F) : mrg F B = F := by
  funext a
  cases q : F a with
  | none => rw [mrg_none q]; exact none_of e q
  | some u => exact mrg_some q
theorem find_at {α : Type} {p : α → Bool} : ∀ {l : List α} {i : Nat} {c : α}, l[i]? = some c → p c = true → (∀ j d, j < i → l[j]? = some d → p d = false) → l.find? p = some c
  | [], i, c, h, _, _ => nomatch h
  | a :: l, 0, c, h, hp, _ => by
    have h := Option.some.inj h
    subst h
    rw [List.find?_cons, hp]
  | a :: l, i + 1, c, h, hp, hb => by
    rw [List.find?_cons, hb 0 a (Nat.succ_pos _) rfl]
    exact find_at (i := i) h hp fun j d hj hd => hb (j + 1) d (Nat.succ_lt_succ hj) hd
end NM
/-! texts put together out of signs -/
namespace NM
open PySem PySem.Spec PyProof.Rows L2 Evl LX XV RX
def mk (l : List Nat) : Str := ⟨l.toArray⟩
theorem mk_list {l : List Nat} : (mk l).cps.toList = l := by unfold mk; simp
theorem mk_len {l : List Nat} : (mk l).length = l.length := by
  show (mk l).cps.size = _
  unfold mk
  simp
theorem mk_of (s : Str) : mk s.cps.toList = s := by
  unfold mk
  rw [Array.toArray_toList]
def letS : Str := "abcdefghijklmnopqrstuvwxyz0123456789"
def lets : List Nat := (List.range 26).map (97 + ·) ++ (List.range 10).map (48 + ·)
theorem letS_list : letS.cps.toList = lets := by decide +kernel
theorem letS_len : letS.length = 36 := by decide +kernel
theorem lets_all : ∀ i ∈ List.range 36, ((97 ≤ lets.getD i 0 ∧ lets.getD i 0 ≤ 122) ∨ (48 ≤ lets.getD i 0 ∧ lets.getD i 0 ≤ 57)) ∧ (i < 26 → 97 ≤ lets.getD i 0 ∧ lets.getD i 0 ≤ 122) := by decide +kernel
theorem lets_ld {i : Nat} (h : i < 36) : isLD (lets.getD i 0) := (lets_all i (List.mem_range.mpr h)).1
theorem lets_l {i : Nat} (h : i < 26) : isL (lets.getD i 0) := (lets_all i (List.mem_range.mpr (by omega))).2 h
theorem nam_mk {c : Nat} {r : List Nat} (hc : isL c) (hr : ∀ d ∈ r, isLD d) (hl : r.length ≤ 11) : Nam (mk (c :: r)) := by
  refine ⟨?_, ?_, ?_, ?_⟩
  · rw [mk_list, List.length_cons]; omega
  · rw [mk_list, List.length_cons]; omega
  · rw [mk_list]; exact hc
  · rw [mk_list]
    intro d hd
    rcases List.mem_cons.mp hd with e | e
    · rw [e]; exact .inl hc
    · exact hr d e
/-- a beginning of a name is one -/
theorem nam_take {l : List Nat} {k : Nat} (h : Nam (mk l)) (hk : 1 ≤ k) : Nam (mk (l.take k)) := by
  have h1 := h.pos
  have h2 := h.few
  have h3 := h.hd
  have h4 := h.all
  rw [mk_list] at h1 h2 h3 h4
  refine ⟨?_, ?_, ?_, ?_⟩
  · rw [mk_list, List.length_take]; omega
  · rw [mk_list, List.length_take]; omega
  · rw [mk_list, List.getD_eq_getElem?_getD, List.getElem?_take_of_lt (by omega), ← List.getD_eq_getElem?_getD]; exact h3
  · rw [mk_list]; exact fun c hc => h4 c (List.mem_of_mem_take hc)
/-- a letter in a sign's place -/
theorem nam_set {l : List Nat} {k c : Nat} (h : Nam (mk l)) (hk : k < l.length) (hc : isL c) : Nam (mk (l.take k ++ [c] ++ l.drop (k + 1))) := by
  have h1 := h.pos
  have h2 := h.few
  have h3 := h.hd
  have h4 := h.all
  rw [mk_list] at h1 h2 h3 h4
  refine ⟨?_, ?_, ?_, ?_⟩
  · rw [mk_list, List.length_append, List.length_append, List.length_singleton]; omega
  · rw [mk_list, List.length_append, List.length_append, List.length_singleton, List.length_take, List.length_drop]; omega
  · rw [mk_list]
    by_cases q : k = 0
    · subst q; exact hc
    · rw [List.append_assoc, List.getD_eq_getElem?_getD, List.getElem?_append_left (by rw [List.length_take]; omega), List.getElem?_take_of_lt (by omega), ← List.getD_eq_getElem?_getD]
      exact h3
  · rw [mk_list]
    intro d hd
    rcases List.mem_append.mp hd with e | e
    · rcases List.mem_append.mp e with e | e
      · exact h4 d (List.mem_of_mem_take e)
      · rw [List.mem_singleton] at e; rw [e]; exact .inl hc
    · exact h4 d (List.mem_of_mem_drop e)
theorem app_mk {a b : List Nat} : mk a ++ mk b = mk (a ++ b) := by
  have : (mk a ++ mk b).cps.toList = (mk (a ++ b)).cps.toList := by rw [app_list, mk_list, mk_list, mk_list]
  rw [← mk_of (mk a ++ mk b), this, mk_of]
theorem cut_to {l : List Nat} {k : Int} (h0 : 0 ≤ k) : cutS (mk l) none (some k) = mk (l.take k.toNat) := by
  obtain ⟨n, rfl⟩ : ∃ n : Nat, k = (n : Int) := ⟨k.toNat, by omega⟩
  unfold cutS
  rw [mk_list, mk_len, HT.sIx_none, HT.sIx_nat, List.drop_zero, Nat.sub_zero, Int.toNat_natCast]
  unfold mk
  congr 2
  rcases Nat.le_total n l.length with c | c
  · rw [Nat.min_eq_left c]
  · rw [Nat.min_eq_right c, List.take_length, List.take_of_length_le c]
theorem cut_from {l : List Nat} {k : Int} (h0 : 0 ≤ k) (h1 : k ≤ l.length) : cutS (mk l) (some k) none = mk (l.drop k.toNat) := by
  obtain ⟨n, rfl⟩ : ∃ n : Nat, k = (n : Int) := ⟨k.toNat, by omega⟩
  unfold cutS
  rw [mk_list, mk_len, HT.sIx_none, HT.sIx_nat, Int.toNat_natCast]
  unfold mk
  congr 1
  rw [Nat.min_eq_left (by omega), List.take_of_length_le (by rw [List.length_drop]; omega)]
theorem joinL_ones : ∀ cs : List Nat, TL.joinL [] (cs.map fun c => [c]) = cs
  | [] => rfl
  | [c] => rfl
  | c :: d :: r => by
    show [c] ++ ([] ++ TL.joinL [] ((d :: r).map fun c => [c])) = _
    rw [joinL_ones (d :: r)]
    rfl
theorem join_mk (cs : List Nat) : Txt.join (mk []) (cs.map fun c => mk [c]) = mk cs := by
  have h := SX.join_S [] (cs.map fun c => [c])
  rw [joinL_ones, List.map_map] at h
  exact h
section
variable {K : PySem.W.Frag} {σ : L2.St} {B X : Hp} {te ta tb t1 t2 : TE} {t : TT} {P : V → Hp → Prop} {D : Ends} {tz : TS} {v : V}
theorem ev_letter {i : Int} (ha : Ev ta σ B (.str letS)) (hb : Ev tb σ B (.int i)) (h0 : 0 ≤ i) (h1 : i < 36) : Ev (tOp rIxS ta tb) σ B (.str (mk [lets.getD i.toNat 0])) := by
  obtain ⟨n, rfl⟩ : ∃ n : Nat, i = (n : Int) := ⟨i.toNat, by omega⟩
  refine ev_op ha hb (rv_ixS (by rw [letS_len]; decide) ?_)
  refine atI_nat ?_
  rw [letS_list, Int.toNat_natCast, List.getD_eq_getElem?_getD, List.getElem?_eq_getElem (by show n < 36; omega)]
  rfl
theorem sum_ones : ∀ cs : List Nat, ((cs.map fun c => mk [c]).map (·.length)).sum = cs.length
  | [] => rfl
  | c :: r => by
    rw [List.map_cons, List.map_cons, List.sum_cons, sum_ones r, List.length_cons, Nat.add_comm]
    rfl
theorem ev_mkJoin {K : PySem.W.Frag} {c : Nat} {cs : List Nat} (h1 : Ev t1 σ B (.str (mk [c]))) (h2 : EvL t2 σ B (cs.map fun c => V.str (mk [c]))) (hl : cs.length ≤ 100) :
    Ev (tOp (fun x y H Q => ∃ i j, x = .str i ∧ y = .str j ∧ i.length + j.length ≤ sizeLine ∧ Q (.str (i ++ j)) H) t1 (tM1 (fun x xs H Q => ∃ a p, ∃ ys : List Str, x = .str a ∧ xs = [.ref p] ∧ (SqL K H p (ys.map V.str) ∨ SqT K H p (ys.map V.str)) ∧ (ys.map (·.length)).sum + ys.length * a.length ≤ 16777216 ∧ Q (.str (Txt.join a ys)) H) (tC (.str "")) t2)) σ B (.str (mk (c :: cs))) := by
  have hj := ev_join (K := K) (a := "") (ys := cs.map fun c => mk [c]) (te := t2) (ta := tC (.str "")) ev_c (by rw [List.map_map]; exact h2) (by
    rw [sum_ones]
    show _ + _ * 0 ≤ _
    omega)
  have e : Txt.join "" (cs.map fun c => mk [c]) = mk cs := join_mk cs
  rw [e] at hj
  have := ev_op h1 hj (rv_addS (i := mk [c]) (j := mk cs) (by rw [mk_len, mk_len]; show 1 + cs.length ≤ _; omega))
  rw [app_mk] at this
  exact this
theorem upd_del {B : Hp} {p : Addr} {o : HO} : upd (RX.del B p) p o = upd B p o := by
  funext a
  by_cases c : a = p
  · subst c; rw [upd_same, upd_same]
  · rw [upd_ne c, upd_ne c, RX.del_ne c]
theorem gr_del {X F B : Hp} {p : Addr} (g : Gr X F B) (h : F p = none) : Gr X F (RX.del B p) := ⟨fun a o ha => by
    have c : a ≠ p := fun c => by subst c; rw [h] at ha; exact nomatch ha
    rw [RX.del_ne c]; exact g.ex a o ha, fun a ha hx => by
    by_cases c : a = p
    · subst c; exact RX.del_same
    · rw [RX.del_ne c]; exact g.av a ha hx⟩
theorem x_appV {l : Addr} {xs : List V} (hl : B l = some (.lst xs)) (hX : X l = none) (ha : Ev ta σ B (.ref l)) (h : Ev te σ B v) (hz : xs.length < 100000)
    (k : Sx X tz D σ (upd B l (.lst (xs ++ [v])))) : Sx X (tSeq (tDrop (tBM K "list" rAppend ta (tCons te tNil))) tz) D σ B := fun H e eX => by
  refine ha H e _ fun H1 e1 => ⟨Or.inl ⟨rfl, xs, sq_of (e1 l _ (e l _ hl))⟩, h H1 (e.trans e1) _ fun H2 e2 => ?_⟩
  refine ⟨l, xs, v, rfl, rfl, e2 l _ (e1 l _ (e l _ hl)), sz_lt hz, k _ (fun a u q => ?_) (fun a u q => ?_)⟩
  · by_cases c : a = l
    · subst c; rw [upd_same] at q ⊢; exact q
    · rw [upd_ne c] at q ⊢; exact e2 a u (e1 a u (e a u q))
  · have c : a ≠ l := fun c => by subst c; rw [hX] at q; exact nomatch q
    rw [upd_ne c]
    exact e2 a u (e1 a u (eX a u q))
theorem x_ifAsg {b : Bool} {i : Nat} (h : EvT t σ B b) (h1 : b = true → EvR te σ B P) (h2 : b = false → P v B ∧ σ.set i (some v) = σ) (k : ∀ z B', Gr X B B' → P z B' → Sx X tz D (σ.set i (some z)) B') : Sx X (tSeq (tIfS t (tAsg te (gName i)) tNext) tz) D σ B := fun H e eX => h H e _ fun H2 e2 => by
  cases b with
  | true => exact h1 rfl H2 (e.trans e2) _ fun z H3 B' e3 g e4 p => k z B' (g.back (eX.trans e2)) p H3 e4 ((eX.trans e2).trans e3)
  | false =>
    obtain ⟨p, hs⟩ := h2 rfl
    have := k v B (Gr.refl _ _) p
    rw [hs] at this
    exact this H2 (e.trans e2) (eX.trans e2)
end
end NM
/-! sorted texts: there is one order -/
namespace SS
open PySem PySem.Spec PyProof.Rows
theorem lt_asymm : ∀ {a b : List Nat}, ltCps a b = true → ltCps b a = false
  | [], [], h => nomatch h
  | [], _ :: _, _ => rfl
  | _ :: _, [], h => nomatch h
  | x :: a, y :: b, h => by
    have h : (decide (x < y) || (x == y && ltCps a b)) = true := h
    show (decide (y < x) || (y == x && ltCps b a)) = false
    rw [Bool.or_eq_true] at h
    rcases h with h | h
    · have h := of_decide_eq_true h
      rw [decide_eq_false (by omega), beq_eq_false_iff_ne.mpr (by omega)]
      rfl
    · rw [Bool.and_eq_true] at h
      have e := eq_of_beq h.1
      subst e
      rw [decide_eq_false (by omega), lt_asymm h.2]
      simp
theorem eq_of : ∀ {a b : List Nat}, ltCps a b = false → ltCps b a = false → a = b
  | [], [], _, _ => rfl
  | [], _ :: _, h, _ => nomatch h
  | _ :: _, [], _, h => nomatch h
  | x :: a, y :: b, h, h' => by
    have h : (decide (x < y) || (x == y && ltCps a b)) = false := h
    have h' : (decide (y < x) || (y == x && ltCps b a)) = false := h'
    rw [Bool.or_eq_false_iff] at h h'
    have h1 := of_decide_eq_false h.1
    have h2 := of_decide_eq_false h'.1
    have e : x = y := by omega
    subst e
    have h3 := h.2
    have h4 := h'.2
    rw [beq_self_eq_true, Bool.true_and] at h3 h4
    rw [eq_of h3 h4]
theorem lt_trans : ∀ {a b c : List Nat}, ltCps a b = true → ltCps b c = true → ltCps a c = true
  | [], [], _, h, _ => nomatch h
  | [], _ :: _, [], _, h => nomatch h
  | [], _ :: _, _ :: _, _, _ => rfl
  | _ :: _, [], _, h, _ => nomatch h
  | _ :: _, _ :: _, [], _, h => nomatch h
  | x :: a, y :: b, z :: c, h, h' => by
    have h : (decide (x < y) || (x == y && ltCps a b)) = true := h
    have h' : (decide (y < z) || (y == z && ltCps b c)) = true := h'
    show (decide (x < z) || (x == z && ltCps a c)) = true
    rw [Bool.or_eq_true] at h h' ⊢
    rcases h with h | h
    · have h := of_decide_eq_true h
      rcases h' with h' | h'
      · have h' := of_decide_eq_true h'
        exact .inl (decide_eq_true (by omega))
      · rw [Bool.and_eq_true] at h'
        have e := eq_of_beq h'.1
        exact .inl (decide_eq_true (by omega))
    · rw [Bool.and_eq_true] at h
      have e := eq_of_beq h.1
      subst e
      rcases h' with h' | h'
      · exact .inl h'
      · rw [Bool.and_eq_true] at h'
        exact .inr (by rw [Bool.and_eq_true]; exact ⟨h'.1, lt_trans h.2 h'.2⟩)
def le (p x : Str) : Prop := ltCps x.cps.toList p.cps.toList = false
theorem le_trans {a b c : Str} (h : le a b) (h' : le b c) : le a c := by
  unfold le at *
  cases q : ltCps c.cps.toList a.cps.toList with
  | false => rfl
  | true =>
    cases q2 : ltCps a.cps.toList b.cps.toList with
    | true => rw [lt_trans q q2] at h'; exact nomatch h'
    | false =>
      have e := eq_of q2 h
      rw [e] at q
      rw [q] at h'
      exact nomatch h'
theorem le_antisymm {a b : Str} (h : le a b) (h' : le b a) : a = b := by
  have e : a.cps.toList = b.cps.toList := eq_of h' h
  cases a
  cases b
  exact congrArg Str.mk (Array.toList_inj.mp e)
theorem rising : ∀ {l : List Str} {p : Str}, risingS p l = true → (∀ x ∈ l, le p x) ∧ l.Pairwise le
  | [], p, _ => ⟨fun x h => (nomatch h), List.Pairwise.nil⟩
  | y :: l, p, h => by
    have h : (!ltCps y.cps.toList p.cps.toList && risingS y l) = true := h
    rw [Bool.and_eq_true, Bool.not_eq_true'] at h
    obtain ⟨h1, h2⟩ := rising h.2
    refine ⟨fun x hx => ?_, List.pairwise_cons.mpr ⟨h1, h2⟩⟩
    rcases List.mem_cons.mp hx with e | e
    · rw [e]; exact h.1
    · exact le_trans h.1 (h1 x e)
theorem sorted_pw : ∀ {l : List Str}, sortedS l = true → l.Pairwise le
  | [], _ => List.Pairwise.nil
  | x :: l, h => by
    obtain ⟨h1, h2⟩ := rising (p := x) (l := l) h
    exact List.pairwise_cons.mpr ⟨h1, h2⟩
theorem pw_uniq : ∀ {L M : List Str}, L.Pairwise le → M.Pairwise le → L.Perm M → L = M
  | [], M, _, _, h => by rw [List.nil_perm.mp h]
  | l :: L, [], _, _, h => by have := h.length_eq; simp at this
  | l :: L, m :: M, h1, h2, h => by
    obtain ⟨a1, a2⟩ := List.pairwise_cons.mp h1
    obtain ⟨b1, b2⟩ := List.pairwise_cons.mp h2
    have e : l = m := by
      rcases List.mem_cons.mp (h.mem_iff.mp List.mem_cons_self) with c | c
      · exact c
      · rcases List.mem_cons.mp (h.mem_iff.mpr List.mem_cons_self) with c' | c'
        · exact c'.symm
        · exact le_antisymm (a1 m c') (b1 l c)
    subst e
    rw [pw_uniq a2 b2 (List.Perm.cons_inv h)]
/-- one order -/
theorem sorted_uniq {L M : List Str} (h1 : sortedS L = true) (h2 : sortedS M = true) (h : L.Perm M) : L = M := pw_uniq (sorted_pw h1) (sorted_pw h2) h
end SS
namespace T
open PySem PySem.Spec PyProof.Rows L2 Evl LX
def top (i : Nat) : Stmt := PySem.Challenge.pw_onceread_k00_world_facts.main.body.getD i (.Pass ⟨0, 0, 0, 0⟩)
abbrev s_wall : Stmt := top 0
abbrev s_NoSuchRelation_init : Stmt := inClass (top 4) 0
abbrev s_BadRow_init : Stmt := inClass (top 5) 0
abbrev s_TakenName_init : Stmt := inClass (top 7) 0
abbrev s_UnknownWatch_init : Stmt := inClass (top 8) 0
abbrev s_is_whole : Stmt := top 13
abbrev s_is_between : Stmt := top 14
abbrev s_is_sequence : Stmt := top 15
abbrev s_is_name : Stmt := top 16
abbrev s_is_thing : Stmt := top 17
abbrev s_is_row : Stmt := top 18
abbrev s_is_relation : Stmt := top 23
abbrev s_checked_relations : Stmt := top 24
abbrev s_World_init : Stmt := inClass (top 25) 0
abbrev s_World_arity : Stmt := inClass (top 25) 1
abbrev s_World_rows : Stmt := inClass (top 25) 2
abbrev s_World_put : Stmt := inClass (top 25) 3
abbrev s_World_drop : Stmt := inClass (top 25) 4
abbrev s_World_moved : Stmt := inClass (top 25) 5
abbrev s_World__table : Stmt := inClass (top 25) 6
abbrev s_World__checked_row : Stmt := inClass (top 25) 7
abbrev s_World__with_rows : Stmt := inClass (top 25) 8
abbrev s_World___contains : Stmt := inClass (top 25) 9
abbrev s_World___len : Stmt := inClass (top 25) 10
abbrev s_World___iter : Stmt := inClass (top 25) 11
abbrev s_World___eq : Stmt := inClass (top 25) 12
abbrev s_law_whole : Stmt := top 27
abbrev s_law_cell : Stmt := top 28
abbrev s_law_digits : Stmt := top 29
abbrev s_law_unlike : Stmt := top 30
abbrev s_law_names : Stmt := top 31
abbrev s_law_given : Stmt := top 32
abbrev s_law_form : Stmt := top 33
abbrev s_law_handed : Stmt := top 34
abbrev s_law_model : Stmt := top 35
abbrev s_law_is_row : Stmt := top 36
abbrev s_law_is_fact : Stmt := top 37
abbrev s_law_is_world : Stmt := top 38
abbrev s_law_spoil : Stmt := top 39
abbrev s_law_refuses : Stmt := top 40
abbrev s_law_absent : Stmt := top 41
abbrev s_law_shared : Stmt := top 42
abbrev s_law_big : Stmt := top 43
abbrev s_law : Stmt := top 44
def fnD : List He.DefD := ([KH.dat ("_wall", none) "_wall" s_wall, KH.dat ("NoSuchRelation", some "__init__") "NoSuchRelation.__init__" s_NoSuchRelation_init, KH.dat ("BadRow", some "__init__") "BadRow.__init__" s_BadRow_init, KH.dat ("TakenName", some "__init__") "TakenName.__init__" s_TakenName_init, KH.dat ("UnknownWatch", some "__init__") "UnknownWatch.__init__" s_UnknownWatch_init, KH.dat ("is_whole", none) "is_whole" s_is_whole, KH.dat ("is_between", none) "is_between" s_is_between, KH.dat ("is_sequence", none) "is_sequence" s_is_sequence, KH.dat ("is_name", none) "is_name" s_is_name, KH.dat ("is_thing", none) "is_thing" s_is_thing, KH.dat ("is_row", none) "is_row" s_is_row, KH.dat ("is_relation", none) "is_relation" s_is_relation, KH.dat ("checked_relations", none) "checked_relations" s_checked_relations, KH.dat ("World", some "__init__") "World.__init__" s_World_init [.adr (He.dflAt ("World", some "__init__") 0)], KH.dat ("World", some "arity") "World.arity" s_World_arity, KH.dat ("World", some "rows") "World.rows" s_World_rows] : List He.DefD) ++ ([KH.dat ("World", some "put") "World.put" s_World_put, KH.dat ("World", some "drop") "World.drop" s_World_drop, KH.dat ("World", some "moved") "World.moved" s_World_moved, KH.dat ("World", some "_table") "World._table" s_World__table, KH.dat ("World", some "_checked_row") "World._checked_row" s_World__checked_row, KH.dat ("World", some "_with_rows") "World._with_rows" s_World__with_rows, KH.dat ("World", some "__contains__") "World.__contains__" s_World___contains, KH.dat ("World", some "__len__") "World.__len__" s_World___len, KH.dat ("World", some "__iter__") "World.__iter__" s_World___iter, KH.dat ("World", some "__eq__") "World.__eq__" s_World___eq, KH.dat ("_law_whole", none) "_law_whole" s_law_whole, KH.dat ("_law_cell", none) "_law_cell" s_law_cell, KH.dat ("_law_digits", none) "_law_digits" s_law_digits, KH.dat ("_law_unlike", none) "_law_unlike" s_law_unlike, KH.dat ("_law_names", none) "_law_names" s_law_names, KH.dat ("_law_given", none) "_law_given" s_law_given] : List He.DefD) ++ ([KH.dat ("_law_form", none) "_law_form" s_law_form, KH.dat ("_law_handed", none) "_law_handed" s_law_handed, KH.dat ("_law_model", none) "_law_model" s_law_model, KH.dat ("_law_is_row", none) "_law_is_row" s_law_is_row, KH.dat ("_law_is_fact", none) "_law_is_fact" s_law_is_fact, KH.dat ("_law_is_world", none) "_law_is_world" s_law_is_world, KH.dat ("_law_spoil", none) "_law_spoil" s_law_spoil, KH.dat ("_law_refuses", none) "_law_refuses" s_law_refuses, KH.dat ("_law_absent", none) "_law_absent" s_law_absent, KH.dat ("_law_shared", none) "_law_shared" s_law_shared, KH.dat ("_law_big", none) "_law_big" s_law_big, KH.dat ("law", none) "law" s_law] : List He.DefD)
def gloN : List Str := (["_wall", "OnceError", "BadWorld", "NoSuchRelation", "BadRow", "BadOrder", "TakenName", "UnknownWatch", "is_whole", "is_between", "is_sequence", "is_name", "is_thing", "is_row", "is_relation", "checked_relations"] : List Str) ++ (["World", "_law_whole", "_law_cell", "_law_digits", "_law_unlike", "_law_names", "_law_given", "_law_form", "_law_handed", "_law_model", "_law_is_row", "_law_is_fact", "_law_is_world", "_law_spoil", "_law_refuses", "_law_absent"] : List Str) ++ (["_law_shared", "_law_big", "law", "RESERVED"] : List Str)
def freeN : List Str := (["ValueError", "all", "bool", "int", "isinstance", "iter", "len", "list", "max", "min", "range", "sorted", "str", "tuple"] : List Str)
def intN : List (Str × Int) := [("LONGEST_NAME", 12), ("LARGEST_ARITY", 3), ("SMALLEST_WORLD", 2), ("LARGEST_WORLD", 400), ("MOST_RELATIONS", 12)]
def tup_RESERVED : List He.Dv := [.str "some", .str "every", .str "not", .str "and", .str "or", .str "walk", .str "more", .str "than", .str "first", .str "last", .str "next"]
def tupN : List (Str × List He.Dv) := [("RESERVED", tup_RESERVED)]
def fa : List He.Fa := gloN.map He.Fa.glo ++ freeN.map He.Fa.free
abbrev R : PySem.W.OpenRow := PySem.W.OpenLaw.row PySem.Challenge.rw_onceread_k00_world_facts
abbrev lawAt : Nat := 44
abbrev lawIx : Nat := 43
def loose : List Str := (["_wall", "OnceError", "BadWorld", "NoSuchRelation", "BadRow", "BadOrder", "TakenName", "UnknownWatch", "is_whole", "is_between", "is_sequence", "is_name", "is_thing", "is_row", "is_relation", "checked_relations"] : List Str) ++ (["World", "_law_whole", "_law_cell", "_law_digits", "_law_unlike", "_law_names", "_law_given", "_law_form", "_law_handed", "_law_model", "_law_is_row", "_law_is_fact", "_law_is_world", "_law_spoil", "_law_refuses", "_law_absent"] : List Str) ++ (["_law_shared", "_law_big", "RESERVED", "RESERVED", "LONGEST_NAME", "LARGEST_ARITY", "SMALLEST_WORLD", "LARGEST_WORLD", "MOST_RELATIONS"] : List Str)
def worldF : List Str := ["size", "names", "facts", "_tables", "_arities", "_stands"]
def dfl0 (K : PySem.W.Frag) : Addr := He.dflAt ("World", some "__init__") 0 K
def emptyB (K : PySem.W.Frag) (a : Addr) : Bool := match K.lookup a with
  | some ⟨.type "tuple", _, .seq its _, _⟩ => its.isEmpty
  | _ => false
/-- what is asked of the class NoSuchRelation -/
def nsr (K : PySem.W.Frag) : Addr := He.ga K "NoSuchRelation"
def kitN : List (Str × Bool) := [("NoSuchRelation", true), ("BadWorld", false), ("BadRow", false), ("BadOrder", false), ("TakenName", false), ("UnknownWatch", false)]
def initB (K : PySem.W.Frag) (C : Addr) : Bool := decide (PySem.W.findIn K (.ref C) "__init__" = some (some (.ref (He.ma K C "__init__")))) && decide (PySem.W.typeIn K (.ref (He.ma K C "__init__")) = some (.type "function"))
def exX (K : PySem.W.Frag) : Bool := (XV.exB K (nsr K) && (initB K (nsr K) && decide (PySem.W.findIn K (.ref (nsr K)) "name" = some none))) && ((kitN.all fun p => decide (PySem.W.kitOne K (.ref (nsr K)) (.ref (He.ga K p.1)) = some p.2)) && (decide (PySem.W.kitOne K (.ref (nsr K)) (.type "ValueError") = some true) && decide (PySem.W.exmOne K (.ref (nsr K)) (.ref (He.ga K "OnceError")) = some true)))
def exW (K : PySem.W.Frag) : Bool := (He.Fa.cls "World").ok K && ((He.Fa.mkr "World").ok K && ((worldF.all fun f => (He.Fa.noat "World" f).ok K) && ((["arity", "rows", "_table"] : List Str).all fun m => (He.Fa.meth "World" m).ok K) && emptyB K (dfl0 K)))
def ex (K : PySem.W.Frag) : Bool := exX K && exW K
abbrev TX (K : PySem.W.Frag) (mg : Str → Option Value) : Prop := RX.TxC gloN freeN fnD intN tupN ex K mg
end T
namespace Kx
open PySem PySem.Spec PyProof.Rows L2 Evl LX T XV RX
variable {P : Program} {w : World} {K : PySem.W.Frag} {mg : Str → Option Value} {base : Heap}
/-! ### is_whole -/
def dWholeK (K : PySem.W.Frag) : List V → Hp → (V → Hp → Prop) → Prop := fun vs B Pz => ∃ v d, vs = [v] ∧ Dp K B v d ∧ Pz = IsV (.bl (wholeD d))
theorem kit_whole {K : PySem.W.Frag} {H : Hp} {v : V} {d : PyData} (h : Dp K H v d) : ∃ a b, kitB (tyD d) "int" = some a ∧ kitB (tyD d) "bool" = some b ∧ (a && !b) = wholeD d := by
  cases h with
  | non => exact ⟨false, false, (show kitB "NoneType" "int" = _ by decide +kernel), (show kitB "NoneType" "bool" = _ by decide +kernel), rfl⟩
  | bl b => exact ⟨true, true, (show kitB "bool" "int" = _ by decide +kernel), (show kitB "bool" "bool" = _ by decide +kernel), rfl⟩
  | int i => exact ⟨true, false, (show kitB "int" "int" = _ by decide +kernel), (show kitB "int" "bool" = _ by decide +kernel), rfl⟩
  | str x => exact ⟨false, false, (show kitB "str" "int" = _ by decide +kernel), (show kitB "str" "bool" = _ by decide +kernel), rfl⟩
  | lst _ _ => exact ⟨false, false, (show kitB "list" "int" = _ by decide +kernel), (show kitB "list" "bool" = _ by decide +kernel), rfl⟩
  | tup _ _ => exact ⟨false, false, (show kitB "tuple" "int" = _ by decide +kernel), (show kitB "tuple" "bool" = _ by decide +kernel), rfl⟩
abbrev is_whole_N : List Str := ["value"]
abbrev is_whole_P : List Str := ["value"]
theorem sc_is_whole : FnScope ["value"] ["value"] (defScope s_is_whole) := ⟨rfl, rfl, rfl, by decide +kernel, rfl, by decide +kernel, by decide +kernel⟩
theorem ok_is_whole (T : TX K mg) : OkF P w K mg base 1 "is_whole" ["value"] (spR (dWholeK K)) := by
  have n_isinstance := T.n "isinstance" (by decide +kernel)
  have n_bool := T.n "bool" (by decide +kernel)
  have n_int := T.n "int" (by decide +kernel)
  refine T.okF 5 rfl (by decide +kernel) (fun f fd F => ?_) (fun _ _ _ _ _ _ us hl => match us, hl with | [_], _ => rfl)
  refine F.ok sc_is_whole (fun vs H Q E h => spR_len h (by rintro B Pz ⟨v, d, rfl, _⟩; rfl)) (fun cdv A outer s H vs Q E hr ⟨B, Pz, e, ⟨v, d, hvs, hd, hP⟩, q⟩ => ?_)
  subst hvs hP
  refine ⟨_, (pss_one (ps_ret (pe_and (pe_callB (LX.k_isi (K := K)) (by rfl) n_isinstance (by decide +kernel) (pa_cons (pv 0) (pa_cons (pe_bltn (v := .ty "int") (u := .type "int") (by rfl) n_int (by decide +kernel) rfl) pa_nil))) (pe_one (pe_not (pe_callB (LX.k_isi (K := K)) (by rfl) n_isinstance (by decide +kernel) (pa_cons (pv 0) (pa_cons (pe_bltn (v := .ty "bool") (u := .type "bool") (by rfl) n_bool (by decide +kernel) rfl) pa_nil)))))))), ?_⟩
  obtain ⟨a, b, ka, kb, hab⟩ := kit_whole hd
  exact x_ret (X := H) (B := B) (eR_v (ev_is (ev_andV (ev_isiD (ev_var rfl) hd ka) fun _ => (ev_notV (ev_isiD (ev_var rfl) hd kb))) (congrArg V.bl hab))) (fun z B' H' g p e1 e2 => q z H' B' e2 g e1 p) H e (Ex.refl H)
/-! ### is_between -/
def dBetween (K : PySem.W.Frag) : List V → Hp → (V → Hp → Prop) → Prop := fun vs B Pz => ∃ v d lo hi, vs = [v, .int lo, .int hi] ∧ Dp K B v d ∧ Pz = IsV (.bl (betweenD d lo hi))
abbrev is_between_N : List Str := ["value", "low", "high"]
abbrev is_between_P : List Str := ["value", "low", "high"]
theorem sc_is_between : FnScope ["value", "low", "high"] ["value", "low", "high"] (defScope s_is_between) := ⟨rfl, rfl, rfl, by decide +kernel, rfl, by decide +kernel, by decide +kernel⟩
theorem ok_is_between (T : TX K mg) : OkF P w K mg base 2 "is_between" ["value", "low", "high"] (spR (dBetween K)) := by
  refine T.okF 6 rfl (by decide +kernel) (fun f fd F => ?_) (fun _ _ _ _ _ _ us hl => match us, hl with | [_, _, _], _ => rfl)
  have O_is_whole := ok_is_whole (P := P) (w := w) (base := base) T
  refine F.ok sc_is_between (fun vs H Q E h => spR_len h (by rintro B Pz ⟨v, d, lo, hi, rfl, _⟩; rfl)) (fun cdv A outer s H vs Q E hr ⟨B, Pz, e, ⟨v, d, lo, hi, hvs, hd, hP⟩, q⟩ => ?_)
  subst hvs hP
  refine ⟨_, (pss_one (ps_ret (pe_and (LX.pe_f O_is_whole hr (by decide) (pa_cons (pv 0) pa_nil)) (pe_one (pe_chain op_le op_le (pv 1) (pv 0) (pv 2)))))), ?_⟩
  refine x_ret (X := H) (B := B) (eR_v (v := .bl (betweenD d lo hi)) ?_) (fun z B' H' g p e1 e2 => q z H' B' e2 g e1 p) H e (Ex.refl H)
  have hc : Ev (tCall (spR (dWholeK K)) [] E0 (tCons (tVar 0) tNil)) (start is_between_N [v, .int lo, .int hi]) B (.bl (wholeD d)) := (er_callV (P := IsV _) (ea_cons (ev_var rfl) ea_nil) ⟨v, d, rfl, hd, rfl⟩ fun B' e => ⟨v, d, rfl, dp_ex e hd, rfl⟩).val
  cases hd with
  | int i => exact ev_andV (a := true) (b := decide (lo ≤ i) && decide (i ≤ hi)) hc fun _ => ev_chain (f := fun i j => decide (i ≤ j)) (g := fun i j => decide (i ≤ j)) (ev_var rfl) (ev_var rfl) (ev_var rfl)
  | _ => exact ev_andV (a := false) (b := true) hc fun h => nomatch h
/-! ### is_sequence -/
def dSequence (K : PySem.W.Frag) : List V → Hp → (V → Hp → Prop) → Prop := fun vs B Pz => ∃ v d, vs = [v] ∧ Dp K B v d ∧ Pz = IsV (.bl (seqD d).isSome)
abbrev is_sequence_N : List Str := ["value"]
abbrev is_sequence_P : List Str := ["value"]
theorem sc_is_sequence : FnScope ["value"] ["value"] (defScope s_is_sequence) := ⟨rfl, rfl, rfl, by decide +kernel, rfl, by decide +kernel, by decide +kernel⟩
theorem kit_seq {K : PySem.W.Frag} {H : Hp} {v : V} {d : PyData} (h : Dp K H v d) : ∃ a b, kitB (tyD d) "tuple" = some a ∧ kitB (tyD d) "list" = some b ∧ (a || b) = (seqD d).isSome := by
  cases h with
  | non => exact ⟨false, false, (show kitB "NoneType" "tuple" = _ by decide +kernel), (show kitB "NoneType" "list" = _ by decide +kernel), rfl⟩
  | bl b => exact ⟨false, false, (show kitB "bool" "tuple" = _ by decide +kernel), (show kitB "bool" "list" = _ by decide +kernel), rfl⟩
  | int i => exact ⟨false, false, (show kitB "int" "tuple" = _ by decide +kernel), (show kitB "int" "list" = _ by decide +kernel), rfl⟩
  | str x => exact ⟨false, false, (show kitB "str" "tuple" = _ by decide +kernel), (show kitB "str" "list" = _ by decide +kernel), rfl⟩
  | lst _ _ => exact ⟨false, true, (show kitB "list" "tuple" = _ by decide +kernel), (show kitB "list" "list" = _ by decide +kernel), rfl⟩
  | tup _ _ => exact ⟨true, false, (show kitB "tuple" "tuple" = _ by decide +kernel), (show kitB "tuple" "list" = _ by decide +kernel), rfl⟩
theorem ok_is_sequence (T : TX K mg) : OkF P w K mg base 1 "is_sequence" ["value"] (spR (dSequence K)) := by
  have n_isinstance := T.n "isinstance" (by decide +kernel)
  have n_list := T.n "list" (by decide +kernel)
  have n_tuple := T.n "tuple" (by decide +kernel)
  refine T.okF 7 rfl (by decide +kernel) (fun f fd F => ?_) (fun _ _ _ _ _ _ us hl => match us, hl with | [_], _ => rfl)
  refine F.ok sc_is_sequence (fun vs H Q E h => spR_len h (by rintro B Pz ⟨v, d, rfl, _⟩; rfl)) (fun cdv A outer s H vs Q E hr ⟨B, Pz, e, ⟨v, d, hvs, hd, hP⟩, q⟩ => ?_)
  subst hvs hP
  refine ⟨_, (pss_one (ps_ret (pe_callB (RX.k_isiT (K := K)) (by rfl) n_isinstance (by decide +kernel) (pa_cons (pv 0) (pa_cons (pe_tup (pa_cons (pe_bltn (v := .ty "tuple") (u := .type "tuple") (by rfl) n_tuple (by decide +kernel) rfl) (pa_cons (pe_bltn (v := .ty "list") (u := .type "list") (by rfl) n_list (by decide +kernel) rfl) pa_nil))) pa_nil))))), ?_⟩
  obtain ⟨a, b, ka, kb, hab⟩ := kit_seq hd
  exact x_ret (X := H) (B := B) (eR_v (ev_is (ev_isiT2 (ev_var rfl) hd ka kb) (congrArg V.bl hab))) (fun z B' H' g p e1 e2 => q z H' B' e2 g e1 p) H e (Ex.refl H)
theorem ev_sequence {σ : L2.St} {B : Hp} {te : TE} {v : V} {d : PyData} (h : Ev te σ B v) (hd : Dp K B v d) : Ev (tCall (spR (dSequence K)) [] E0 (tCons te tNil)) σ B (.bl (seqD d).isSome) := (er_callV (P := IsV _) (ea_cons h ea_nil) ⟨v, d, rfl, hd, rfl⟩ fun B' e => ⟨v, d, rfl, dp_ex e hd, rfl⟩).val
theorem ev_between {σ : L2.St} {B : Hp} {te ta tb : TE} {v : V} {d : PyData} {lo hi : Int} (h : Ev te σ B v) (ha : Ev ta σ B (.int lo)) (hb : Ev tb σ B (.int hi)) (hd : Dp K B v d) : Ev (tCall (spR (dBetween K)) [] E0 (tCons te (tCons ta (tCons tb tNil)))) σ B (.bl (betweenD d lo hi)) :=
  (er_callV (P := IsV _) (ea_cons h (ea_cons ha (ea_cons hb ea_nil))) ⟨v, d, lo, hi, rfl, hd, rfl⟩ fun B' e => ⟨v, d, lo, hi, rfl, dp_ex e hd, rfl⟩).val
/-! ### is_thing -/
def dThing (K : PySem.W.Frag) : List V → Hp → (V → Hp → Prop) → Prop := fun vs B Pz => ∃ v d size, vs = [v, .int size] ∧ Dp K B v d ∧ Pz = IsV (.bl (betweenD d 0 (size - 1)))
abbrev is_thing_N : List Str := ["value", "size"]
abbrev is_thing_P : List Str := ["value", "size"]
theorem sc_is_thing : FnScope ["value", "size"] ["value", "size"] (defScope s_is_thing) := ⟨rfl, rfl, rfl, by decide +kernel, rfl, by decide +kernel, by decide +kernel⟩
theorem ok_is_thing (T : TX K mg) : OkF P w K mg base 3 "is_thing" ["value", "size"] (spR (dThing K)) := by
  refine T.okF 9 rfl (by decide +kernel) (fun f fd F => ?_) (fun _ _ _ _ _ _ us hl => match us, hl with | [_, _], _ => rfl)
  have O_is_between := ok_is_between (P := P) (w := w) (base := base) T
  refine F.ok sc_is_thing (fun vs H Q E h => spR_len h (by rintro B Pz ⟨v, d, s, rfl, _⟩; rfl)) (fun cdv A outer s H vs Q E hr ⟨B, Pz, e, ⟨v, d, size, hvs, hd, hP⟩, q⟩ => ?_)
  subst hvs hP
  refine ⟨_, (pss_one (ps_ret (LX.pe_f O_is_between hr (by decide) (pa_cons (pv 0) (pa_cons pe_int (pa_cons (pe_op op_sub (pv 1) pe_int) pa_nil)))))), ?_⟩
  exact x_ret (X := H) (B := B) (eR_v (ev_between (ev_var rfl) ev_c (ev_op (ev_var rfl) ev_c rv_I0) hd)) (fun z B' H' g p e1 e2 => q z H' B' e2 g e1 p) H e (Ex.refl H)
theorem ev_thing {σ : L2.St} {B : Hp} {te ta : TE} {v : V} {d : PyData} {size : Int} (h : Ev te σ B v) (ha : Ev ta σ B (.int size)) (hd : Dp K B v d) : Ev (tCall (spR (dThing K)) [] E0 (tCons te (tCons ta tNil))) σ B (.bl (betweenD d 0 (size - 1))) :=
  (er_callV (P := IsV _) (ea_cons h (ea_cons ha ea_nil)) ⟨v, d, size, rfl, hd, rfl⟩ fun B' e => ⟨v, d, size, rfl, dp_ex e hd, rfl⟩).val
/-! ### is_name -/
def resS : List Str := ["some", "every", "not", "and", "or", "walk", "more", "than", "first", "last", "next"]
def nameOkS (s : Str) : Bool := decide (1 ≤ (s.length : Int)) && decide ((s.length : Int) ≤ 12) && (Txt.isascii s && (Txt.isalnum s && Txt.islower s)) && (!Txt.isdigit ⟨#[s.cps.toList.getD 0 0]⟩ && !inV (.str s) (resS.map V.str))
def nameD : PyData → Bool
  | .str s => nameOkS s
  | _ => false
def dName (K : PySem.W.Frag) : List V → Hp → (V → Hp → Prop) → Prop := fun vs B Pz => ∃ v d, vs = [v] ∧ Dp K B v d ∧ smD d = true ∧ Pz = IsV (.bl (nameD d))
theorem kit_str {K : PySem.W.Frag} {H : Hp} {v : V} {d : PyData} (h : Dp K H v d) : (∃ s, v = .str s ∧ d = .str s ∧ kitB (tyD d) "str" = some true) ∨ (nameD d = false ∧ kitB (tyD d) "str" = some false) := by
  cases h with
  | non => exact .inr ⟨rfl, (show kitB "NoneType" "str" = _ by decide +kernel)⟩
  | bl b => exact .inr ⟨rfl, (show kitB "bool" "str" = _ by decide +kernel)⟩
  | int i => exact .inr ⟨rfl, (show kitB "int" "str" = _ by decide +kernel)⟩
  | str x => exact .inl ⟨x, rfl, rfl, (show kitB "str" "str" = _ by decide +kernel)⟩
  | lst _ _ => exact .inr ⟨rfl, (show kitB "list" "str" = _ by decide +kernel)⟩
  | tup _ _ => exact .inr ⟨rfl, (show kitB "tuple" "str" = _ by decide +kernel)⟩
abbrev is_name_N : List Str := ["value"]
abbrev is_name_P : List Str := ["value"]
theorem sc_is_name : FnScope ["value"] ["value"] (defScope s_is_name) := ⟨rfl, rfl, rfl, by decide +kernel, rfl, by decide +kernel, by decide +kernel⟩
theorem ok_is_name (T : TX K mg) : OkF P w K mg base 1 "is_name" ["value"] (spR (dName K)) := by
  have n_isinstance := T.n "isinstance" (by decide +kernel)
  have n_str := T.n "str" (by decide +kernel)
  have n_len := T.n "len" (by decide +kernel)
  obtain ⟨_, g_LONGEST_NAME⟩ := T.i ("LONGEST_NAME", 12) (by decide +kernel)
  have g_RESERVED := T.g "RESERVED" (by decide +kernel)
  refine T.okF 8 rfl (by decide +kernel) (fun f fd F => ?_) (fun _ _ _ _ _ _ us hl => match us, hl with | [_], _ => rfl)
  refine F.ok sc_is_name (fun vs H Q E h => spR_len h (by rintro B Pz ⟨v, d, rfl, _⟩; rfl)) (fun cdv A outer s H vs Q E hr ⟨B, Pz, e, ⟨v, d, hvs, hd, hsm, hP⟩, q⟩ => ?_)
  subst hvs hP
  refine ⟨_, (pss_cons (ps_if (pw_or (pt_not (pt_val (pe_callB (LX.k_isi (K := K)) (by rfl) n_isinstance (by decide +kernel) (pa_cons (pv 0) (pa_cons (pe_bltn (v := .ty "str") (u := .type "str") (by rfl) n_str (by decide +kernel) rfl) pa_nil))))) (pw_or1 (pt_not (pt_chain op_le op_le pe_int (pe_callB call_len_str (by rfl) n_len (by decide +kernel) (pa_cons (pv 0) pa_nil)) (pe_glob (v := .int 12) (by rfl) g_LONGEST_NAME ⟨_, rfl⟩))))).pt (pss_one (ps_ret pe_bl)) pss_nil)
        (pss_cons (ps_if (pw_or (pt_not (pt_val (pe_m0 PySem.F.slot_str_isascii PySem.F.type_str_isascii mt_isascii (pv 0)))) (pw_or (pt_not (pt_val (pe_m0 PySem.F.slot_str_isalnum PySem.F.type_str_isalnum mt_isalnum (pv 0)))) (pw_or1 (pt_not (pt_val (pe_m0 PySem.F.slot_str_islower PySem.F.type_str_islower mt_islower (pv 0))))))).pt (pss_one (ps_ret pe_bl)) pss_nil)
        (pss_one (ps_ret (pe_and (pe_not (pe_m0 PySem.F.slot_str_isdigit PySem.F.type_str_isdigit mt_isdigit (pe_ix ix_str (pv 0) pe_int (fun _ _ => rfl)))) (pe_one (pe_cmpR (LX.k_notIn (K := K)) (pv 0) (pe_glob (v := .ref (He.ga K "RESERVED")) (by rfl) g_RESERVED rfl) (by rfl)))))))), ?_⟩
  rcases kit_str hd with ⟨s, rfl, rfl, kt⟩ | ⟨hn, kt⟩
  · have hsl : s.length ≤ 40000 := of_decide_eq_true hsm
    refine x_when (X := H) (B := B) (b := !(decide (1 ≤ (s.length : Int)) && decide ((s.length : Int) ≤ 12))) (et_is (et_or (a := false) (b := !(decide (1 ≤ (s.length : Int)) && decide ((s.length : Int) ≤ 12))) (et_not (a := true) (et_B (ev_isiD (ev_var rfl) hd kt))) (fun _ => et_not (et_test (ev_chain (f := fun i j => decide (i ≤ j)) (g := fun i j => decide (i ≤ j)) ev_c (ev_lenS (ev_var rfl) (by omega)) ev_c)))) (Bool.false_or _)) (fun h => ?_) (fun h => ?_) H e (Ex.refl H)
    · have h : (decide (1 ≤ (s.length : Int)) && decide ((s.length : Int) ≤ 12)) = false := by
        cases c : (decide (1 ≤ (s.length : Int)) && decide ((s.length : Int) ≤ 12)) with
        | false => rfl
        | true => rw [c] at h; exact nomatch h
      refine x_ret (eR_v (v := .bl (nameOkS s)) (ev_is ev_c ?_)) (fun z B' H' g p e1 e2 => q z H' B' e2 g e1 p)
      unfold nameOkS
      rw [h]
      rfl
    · have h : (decide (1 ≤ (s.length : Int)) && decide ((s.length : Int) ≤ 12)) = true := by
        cases c : (decide (1 ≤ (s.length : Int)) && decide ((s.length : Int) ≤ 12)) with
        | true => rfl
        | false => rw [c] at h; exact nomatch h
      have h1 : 1 ≤ (s.length : Int) := of_decide_eq_true (Bool.and_eq_true_iff.mp h).1
      have hat : atI s.cps.toList 0 = some (s.cps.toList.getD 0 0) := by
        have hp : 0 < s.cps.toList.length := by
          have : s.cps.toList.length = s.length := Array.length_toList
          omega
        refine atI_nat (j := 0) ?_
        rw [List.getD_eq_getElem?_getD, List.getElem?_eq_getElem hp]
        rfl
      refine x_when (b := !(Txt.isascii s && (Txt.isalnum s && Txt.islower s))) (et_is (et_or (a := !Txt.isascii s) (b := !(Txt.isalnum s && Txt.islower s)) (et_not (et_B (ev_m0 (ev_var rfl) fun H Q q => ⟨s, rfl, rfl, trivial, q⟩))) (fun _ => et_is (et_or (a := !Txt.isalnum s) (b := !Txt.islower s) (et_not (et_B (ev_m0 (ev_var rfl) fun H Q q => ⟨s, rfl, rfl, trivial, q⟩))) (fun _ => et_not (et_B (ev_m0 (ev_var rfl) fun H Q q => ⟨s, rfl, rfl, trivial, q⟩)))) (by cases Txt.isalnum s <;> rfl))) (by cases Txt.isascii s <;> rfl)) (fun h' => ?_) (fun h' => ?_)
      · refine x_ret (eR_v (v := .bl (nameOkS s)) (ev_is ev_c ?_)) (fun z B' H' g p e1 e2 => q z H' B' e2 g e1 p)
        have h' : (Txt.isascii s && (Txt.isalnum s && Txt.islower s)) = false := by
          cases c : (Txt.isascii s && (Txt.isalnum s && Txt.islower s)) with
          | false => rfl
          | true => rw [c] at h'; exact nomatch h'
        unfold nameOkS
        rw [h, h']
        rfl
      · refine x_ret (eR_v (v := .bl (nameOkS s)) (ev_is (ev_andV (a := !Txt.isdigit ⟨#[s.cps.toList.getD 0 0]⟩) (b := !inV (.str s) (resS.map V.str)) (ev_notV (ev_m0 (ev_op (ev_var rfl) ev_c (rv_ixS (by omega) hat)) fun H Q q => ⟨_, rfl, rfl, trivial, q⟩)) fun _ => ev_op (ev_var rfl) ev_c (rv_niT (T.u ("RESERVED", tup_RESERVED) List.mem_cons_self B) rfl rfl)) ?_)) (fun z B' H' g p e1 e2 => q z H' B' e2 g e1 p)
        have h' : (Txt.isascii s && (Txt.isalnum s && Txt.islower s)) = true := by
          cases c : (Txt.isascii s && (Txt.isalnum s && Txt.islower s)) with
          | true => rfl
          | false => rw [c] at h'; exact nomatch h'
        unfold nameOkS
        rw [h, h']
        rfl
  · refine x_when (X := H) (B := B) (b := true) (et_or (a := true) (b := true) (et_not (a := false) (et_B (ev_isiD (ev_var rfl) hd kt))) (fun h => nomatch h)) (fun _ => ?_) (fun h => nomatch h) H e (Ex.refl H)
    exact x_ret (eR_v (v := .bl (nameD d)) (ev_is ev_c (by rw [hn]))) (fun z B' H' g p e1 e2 => q z H' B' e2 g e1 p)
theorem ev_name {σ : L2.St} {B : Hp} {te : TE} {v : V} {d : PyData} (h : Ev te σ B v) (hd : Dp K B v d) (hs : smD d = true) : Ev (tCall (spR (dName K)) [] E0 (tCons te tNil)) σ B (.bl (nameD d)) := (er_callV (P := IsV _) (ea_cons h ea_nil) ⟨v, d, rfl, hd, hs, rfl⟩ fun B' e => ⟨v, d, rfl, dp_ex e hd, hs, rfl⟩).val
/-! ### is_row -/
def rowD (d : PyData) (len size : Int) : Bool := match seqD d with
  | some ds => decide ((ds.length : Int) = len) && ds.all fun x => betweenD x 0 (size - 1)
  | none => false
theorem rowD_none {d : PyData} {len size : Int} (h : seqD d = none) : rowD d len size = false := by unfold rowD; rw [h]
theorem rowD_some {d : PyData} {ds : List PyData} {len size : Int} (h : seqD d = some ds) : rowD d len size = (decide ((ds.length : Int) = len) && ds.all fun x => betweenD x 0 (size - 1)) := by unfold rowD; rw [h]
def dRow (K : PySem.W.Frag) : List V → Hp → (V → Hp → Prop) → Prop := fun vs B Pz => ∃ v d len size, vs = [v, .int len, .int size] ∧ Dp K B v d ∧ len ≤ 40000 ∧ Pz = IsV (.bl (rowD d len size))
abbrev is_row_N : List Str := ["value", "length", "size", "member"]
abbrev is_row_P : List Str := ["value", "length", "size"]
theorem sc_is_row : FnScope ["value", "length", "size", "member"] ["value", "length", "size"] (defScope s_is_row) := ⟨rfl, rfl, rfl, by decide +kernel, rfl, by decide +kernel, by decide +kernel⟩
theorem ok_is_row (T : TX K mg) : OkF P w K mg base 4 "is_row" ["value", "length", "size"] (spR (dRow K)) := by
  have n_len := T.n "len" (by decide +kernel)
  have n_all := T.n "all" (by decide +kernel)
  refine T.okF 10 rfl (by decide +kernel) (fun f fd F => ?_) (fun _ _ _ _ _ _ us hl => match us, hl with | [_, _, _], _ => rfl)
  have O_is_sequence := ok_is_sequence (P := P) (w := w) (base := base) T
  have O_is_thing := ok_is_thing (P := P) (w := w) (base := base) T
  refine F.ok sc_is_row (fun vs H Q E h => spR_len h (by rintro B Pz ⟨v, d, l, s, rfl, _⟩; rfl)) (fun cdv A outer s H vs Q E hr ⟨B, Pz, e, ⟨v, d, len, size, hvs, hd, hlen, hP⟩, q⟩ => ?_)
  subst hvs hP
  refine ⟨_, (pss_cons (ps_if (pw_or (pt_not (pt_val (LX.pe_f O_is_sequence hr (by decide) (pa_cons (pv 0) pa_nil)))) (pw_or1 (pt_cmpR op_ne (pe_callB (LX.k_len (K := K)) (by rfl) n_len (by decide +kernel) (pa_cons (pv 0) pa_nil)) (pv 1) (nomark _)))).pt (pss_one (ps_ret pe_bl)) pss_nil)
        (pss_one (ps_ret (pe_callB (RX.k_all (K := K) rfl) (by rfl) n_all (by decide +kernel) (pa_cons (pe_lc (own := [("member", 3)]) (g := gName 3) (tt := tYes) rfl sc_is_row.nd (RX.pi_seq (K := K) (pv 0)) (blkOk_by (N := is_row_N) (sc := defScope s_is_row) (by decide +kernel)) (fun _ _ _ _ _ => pg_name (i := 3) sc_is_row.nd rfl (Or.inl rfl)) (fun _ _ _ _ _ => pts_nil) (fun _ _ _ _ _ => (LX.pe_f O_is_thing hr (by decide) (pa_cons (pv 3) (pa_cons (pv 2) pa_nil))))) pa_nil))))), ?_⟩
  cases hs : seqD d with
  | none =>
    refine x_when (X := H) (B := B) (b := true) (et_or (a := true) (b := true) (et_not (a := false) (et_B (ev_is (ev_sequence (ev_var rfl) hd) (by rw [hs]; rfl)))) (fun h => nomatch h)) (fun _ => ?_) (fun h => nomatch h) H e (Ex.refl H)
    exact x_ret (eR_v (v := .bl (rowD d len size)) (ev_is ev_c (by rw [rowD_none hs]))) (fun z B' H' g p e1 e2 => q z H' B' e2 g e1 p)
  | some ds =>
    obtain ⟨a, xs, rfl, hx, hxs⟩ := dp_seq hd hs
    have hl := dps_len hxs
    refine x_when (X := H) (B := B) (b := !decide ((xs.length : Int) = len)) (et_is (et_or (a := false) (b := !decide ((xs.length : Int) = len)) (et_not (a := true) (et_B (ev_is (ev_sequence (ev_var rfl) hd) (by rw [hs]; rfl)))) (fun _ => et_test (ev_is (ev_op (ev_lenA (ev_var rfl) hx) (ev_var rfl) (rv_ne rfl)) (by simp)))) (Bool.false_or _)) (fun h => ?_) (fun h => ?_) H e (Ex.refl H)
    · have h : ¬ ((xs.length : Int) = len) := by simpa using h
      refine x_ret (eR_v (v := .bl (rowD d len size)) (ev_is ev_c ?_)) (fun z B' H' g p e1 e2 => q z H' B' e2 g e1 p)
      rw [rowD_some hs, ← hl, decide_eq_false h]
      rfl
    · have h : (xs.length : Int) = len := by simpa using h
      refine x_ret (eR_v (v := .bl (rowD d len size)) (ev_is (ev_allLc (xs := xs) (b := fun i => betweenD (ds.getD i .none) 0 (size - 1)) (ei_seq (ev_var rfl) hx) (by omega) (fun _ => rfl) (fun i x B' e1 hi => ?_)) ?_)) (fun z B' H' g p e1 e2 => q z H' B' e2 g e1 p)
      · obtain ⟨dx, hdx, hdp⟩ := dps_get hxs hi
        have : ds.getD i .none = dx := by rw [List.getD_eq_getElem?_getD, hdx]; rfl
        rw [this]
        exact ev_thing (ev_var rfl) (ev_var rfl) (dp_ex e1 hdp)
      · rw [rowD_some hs, all_range _ PyData.none ds, ← hl, decide_eq_true h]
        rfl
theorem ev_row {σ : L2.St} {B : Hp} {te ta tb : TE} {v : V} {d : PyData} {len size : Int} (h : Ev te σ B v) (ha : Ev ta σ B (.int len)) (hb : Ev tb σ B (.int size)) (hl : len ≤ 40000) (hd : Dp K B v d) : Ev (tCall (spR (dRow K)) [] E0 (tCons te (tCons ta (tCons tb tNil)))) σ B (.bl (rowD d len size)) :=
  (er_callV (P := IsV _) (ea_cons h (ea_cons ha (ea_cons hb ea_nil))) ⟨v, d, len, size, rfl, hd, hl, rfl⟩ fun B' e => ⟨v, d, len, size, rfl, dp_ex e hd, hl, rfl⟩).val
end Kx
namespace Kx
open PySem PySem.Spec PyProof.Rows L2 Evl LX T XV RX
variable {P : Program} {w : World} {K : PySem.W.Frag} {mg : Str → Option Value} {base : Heap}
/-! ### is_relation -/
def intD : PyData → Int
  | .int i => i
  | _ => 0
def rowsD (r : PyData) (ar size : Int) : Bool := match seqD r with
  | some rs => rs.all fun x => rowD x ar size
  | none => false
def relL (ds : List PyData) (size : Int) : Bool := match ds with
  | [n, a, r] => nameD n && (betweenD a 1 3 && rowsD r (intD a) size)
  | _ => false
def relD (d : PyData) (size : Int) : Bool := match seqD d with
  | some ds => relL ds size
  | none => false
theorem relD_some {d : PyData} {ds : List PyData} {size : Int} (h : seqD d = some ds) : relD d size = relL ds size := by unfold relD; rw [h]
theorem relD_none {d : PyData} {size : Int} (h : seqD d = none) : relD d size = false := by unfold relD; rw [h]
theorem rowsD_some {d : PyData} {ds : List PyData} {ar size : Int} (h : seqD d = some ds) : rowsD d ar size = ds.all fun x => rowD x ar size := by unfold rowsD; rw [h]
theorem rowsD_none {d : PyData} {ar size : Int} (h : seqD d = none) : rowsD d ar size = false := by unfold rowsD; rw [h]
theorem between_int {a : PyData} {lo hi : Int} (h : betweenD a lo hi = true) : ∃ i, a = .int i ∧ lo ≤ i ∧ i ≤ hi := by
  cases a with
  | int i =>
    have h : (decide (lo ≤ i) && decide (i ≤ hi)) = true := h
    exact ⟨i, rfl, of_decide_eq_true (Bool.and_eq_true_iff.mp h).1, of_decide_eq_true (Bool.and_eq_true_iff.mp h).2⟩
  | _ => exact nomatch h
def dRelation (K : PySem.W.Frag) : List V → Hp → (V → Hp → Prop) → Prop := fun vs B Pz => ∃ v d size, vs = [v, .int size] ∧ Dp K B v d ∧ smD d = true ∧ Pz = IsV (.bl (relD d size))
abbrev is_relation_N : List Str := ["entry", "size", "name", "arity", "rows", "row"]
abbrev is_relation_P : List Str := ["entry", "size"]
theorem sc_is_relation : FnScope ["entry", "size", "name", "arity", "rows", "row"] ["entry", "size"] (defScope s_is_relation) := ⟨rfl, rfl, rfl, by decide +kernel, rfl, by decide +kernel, by decide +kernel⟩
theorem ok_is_relation (T : TX K mg) : OkF P w K mg base 5 "is_relation" ["entry", "size"] (spR (dRelation K)) := by
  have n_len := T.n "len" (by decide +kernel)
  have n_all := T.n "all" (by decide +kernel)
  obtain ⟨_, g_LARGEST_ARITY⟩ := T.i ("LARGEST_ARITY", 3) (by decide +kernel)
  refine T.okF 11 rfl (by decide +kernel) (fun f fd F => ?_) (fun _ _ _ _ _ _ us hl => match us, hl with | [_, _], _ => rfl)
  have O_is_sequence := ok_is_sequence (P := P) (w := w) (base := base) T
  have O_is_name := ok_is_name (P := P) (w := w) (base := base) T
  have O_is_between := ok_is_between (P := P) (w := w) (base := base) T
  have O_is_row := ok_is_row (P := P) (w := w) (base := base) T
  refine F.ok sc_is_relation (fun vs H Q E h => spR_len h (by rintro B Pz ⟨v, d, s, rfl, _⟩; rfl)) (fun cdv A outer s H vs Q E hr ⟨B, Pz, e, ⟨v, d, size, hvs, hd, hsm, hP⟩, q⟩ => ?_)
  subst hvs hP
  refine ⟨_, (pss_cons (ps_if (pw_or (pt_not (pt_val (LX.pe_f O_is_sequence hr (by decide) (pa_cons (pv 0) pa_nil)))) (pw_or1 (pt_cmpR op_ne (pe_callB (LX.k_len (K := K)) (by rfl) n_len (by decide +kernel) (pa_cons (pv 0) pa_nil)) pe_int (nomark _)))).pt (pss_one (ps_ret pe_bl)) pss_nil)
        (pss_cons (ps_asg (pv 0) (RX.pg_seq (K := K) rfl (pgs_cons (pg_name (i := 2) sc_is_relation.nd rfl (.inl rfl)) (pgs_cons (pg_name (i := 3) sc_is_relation.nd rfl (.inr rfl)) (pgs_cons (pg_name (i := 4) sc_is_relation.nd rfl (.inl rfl)) pgs_nil)))))
        (pss_cons (ps_if (pw_or (pt_not (pt_val (LX.pe_f O_is_name hr (by decide) (pa_cons (pv 2) pa_nil)))) (pw_or (pt_not (pt_val (LX.pe_f O_is_between hr (by decide) (pa_cons (pv 3) (pa_cons pe_int (pa_cons (pe_glob (v := .int 3) (by rfl) g_LARGEST_ARITY ⟨_, rfl⟩) pa_nil)))))) (pw_or1 (pt_not (pt_val (LX.pe_f O_is_sequence hr (by decide) (pa_cons (pv 4) pa_nil))))))).pt (pss_one (ps_ret pe_bl)) pss_nil)
        (pss_one (ps_ret (pe_callB (RX.k_all (K := K) rfl) (by rfl) n_all (by decide +kernel) (pa_cons (pe_lc (own := [("row", 5)]) (g := gName 5) (tt := tYes) rfl sc_is_relation.nd (RX.pi_seq (K := K) (pv 4)) (blkOk_by (N := is_relation_N) (sc := defScope s_is_relation) (by decide +kernel)) (fun _ _ _ _ _ => pg_name (i := 5) sc_is_relation.nd rfl (Or.inl rfl)) (fun _ _ _ _ _ => pts_nil) (fun _ _ _ _ _ => (LX.pe_f O_is_row hr (by decide) (pa_cons (pv 5) (pa_cons (pv 3) (pa_cons (pv 1) pa_nil)))))) pa_nil))))))), ?_⟩
  have fin : ∀ {σ : L2.St} {te : TE} {D : Ends}, D.rt = Q → Ev te σ B (.bl (relD d size)) → Sx H (tRet te) D σ B := fun {σ te D} hD h => by
    subst hD
    exact x_ret (eR_v h) (fun z B' H' g p e1 e2 => q z H' B' e2 g e1 p)
  cases hs : seqD d with
  | none =>
    refine x_when (X := H) (B := B) (b := true) (et_or (a := true) (b := true) (et_not (a := false) (et_B (ev_is (ev_sequence (ev_var rfl) hd) (by rw [hs]; rfl)))) (fun h => nomatch h)) (fun _ => ?_) (fun h => nomatch h) H e (Ex.refl H)
    exact fin rfl (ev_is ev_c (by rw [relD_none hs]))
  | some ds =>
    obtain ⟨a, xs, rfl, hx, hxs⟩ := dp_seq hd hs
    have hl := dps_len hxs
    refine x_when (X := H) (B := B) (b := !decide ((xs.length : Int) = 3)) (et_is (et_or (a := false) (b := !decide ((xs.length : Int) = 3)) (et_not (a := true) (et_B (ev_is (ev_sequence (ev_var rfl) hd) (by rw [hs]; rfl)))) (fun _ => et_test (ev_is (ev_op (ev_lenA (ev_var rfl) hx) ev_c (rv_ne rfl)) (by simp)))) (Bool.false_or _)) (fun h => ?_) (fun h => ?_) H e (Ex.refl H)
    · have h : ¬ ((xs.length : Int) = 3) := by simpa using h
      refine fin rfl (ev_is ev_c ?_)
      rw [relD_some hs]
      match ds, hl with
      | [], _ => rfl
      | [_], _ => rfl
      | [_, _], _ => rfl
      | [_, _, _], hl => exact absurd (show (xs.length : Int) = 3 by rw [hl]; rfl) h
      | _ :: _ :: _ :: _ :: _, _ => rfl
    · have h : (xs.length : Int) = 3 := by simpa using h
      obtain ⟨x1, x2, x3, n, ar, r, rfl, rfl, d1, d2, d3⟩ := dps3 hxs (by omega)
      · obtain ⟨hsz, hmem⟩ := sm_seq hsm hs
        have s1 := hmem n List.mem_cons_self
        have s3 := hmem r (List.mem_cons_of_mem _ (List.mem_cons_of_mem _ List.mem_cons_self))
        refine x_unp3 (ev_var rfl) hx ?_
        refine x_when (b := !(nameD n && (betweenD ar 1 3 && (seqD r).isSome))) (et_is (et_or (a := !nameD n) (b := !(betweenD ar 1 3 && (seqD r).isSome)) (et_not (et_B (ev_name (ev_var rfl) d1 s1))) (fun _ => et_is (et_or (a := !betweenD ar 1 3) (b := !(seqD r).isSome) (et_not (et_B (ev_between (ev_var rfl) ev_c ev_c d2))) (fun _ => et_not (et_B (ev_sequence (ev_var rfl) d3)))) (by cases betweenD ar 1 3 <;> rfl))) (by cases nameD n <;> rfl)) (fun h => ?_) (fun h => ?_)
        · refine fin rfl (ev_is ev_c ?_)
          rw [relD_some hs]
          show V.bl false = .bl (nameD n && (betweenD ar 1 3 && rowsD r (intD ar) size))
          cases c1 : nameD n with
          | false => rfl
          | true =>
            cases c2 : betweenD ar 1 3 with
            | false => rfl
            | true =>
              cases c3 : seqD r with
              | none => rw [rowsD_none c3]; rfl
              | some rs => rw [c1, c2, c3] at h; exact nomatch h
        · cases c1 : nameD n with
          | false => rw [c1] at h; exact nomatch h
          | true =>
            cases c2 : betweenD ar 1 3 with
            | false => rw [c1, c2] at h; exact nomatch h
            | true =>
              cases c3 : seqD r with
              | none => rw [c1, c2, c3] at h; exact nomatch h
              | some rs =>
                obtain ⟨i, rfl, hi1, hi3⟩ := between_int c2
                obtain ⟨b, ys, rfl, hy, hys⟩ := dp_seq d3 c3
                have hyl := dps_len hys
                have hrs := sm_seq s3 c3
                have hx2 : x2 = .int i := by cases d2; rfl
                subst hx2
                refine fin rfl (ev_is (ev_allLc (xs := ys) (b := fun k => rowD (rs.getD k .none) i size) (ei_seq (ev_var rfl) hy) (by omega) (fun _ => rfl) (fun k x B' e1 hk => ?_)) ?_)
                · obtain ⟨dx, hdx, hdp⟩ := dps_get hys hk
                  have : rs.getD k .none = dx := by rw [List.getD_eq_getElem?_getD, hdx]; rfl
                  rw [this]
                  exact ev_row (ev_var rfl) (ev_var rfl) (ev_var rfl) (by omega) (dp_ex e1 hdp)
                · rw [relD_some hs]
                  show _ = V.bl (nameD n && (betweenD (.int i) 1 3 && rowsD r i size))
                  rw [c1, c2, rowsD_some c3, all_range _ PyData.none rs, ← hyl]
                  rfl
theorem ev_relation {σ : L2.St} {B : Hp} {te ta : TE} {v : V} {d : PyData} {size : Int} (h : Ev te σ B v) (ha : Ev ta σ B (.int size)) (hd : Dp K B v d) (hs : smD d = true) : Ev (tCall (spR (dRelation K)) [] E0 (tCons te (tCons ta tNil))) σ B (.bl (relD d size)) :=
  (er_callV (P := IsV _) (ea_cons h (ea_cons ha ea_nil)) ⟨v, d, size, rfl, hd, hs, rfl⟩ fun B' e => ⟨v, d, size, rfl, dp_ex e hd, hs, rfl⟩).val
end Kx
namespace Kx
open PySem PySem.Spec PyProof.Rows L2 Evl LX T XV RX WS
variable {P : Program} {w : World} {K : PySem.W.Frag} {mg : Str → Option Value} {base : Heap}
/-! ### relations as data -/
def rowOf (d : PyData) : List Int := match seqD d with
  | some ds => ds.map intD
  | none => []
def strD : PyData → Str
  | .str s => s
  | _ => ""
def relOf (size : Int) (d : PyData) : Rel := match seqD d with
  | some [n, a, r] => ⟨strD n, intD a, AS.ascR size (((seqD r).getD []).map rowOf)⟩
  | _ => ⟨"", 0, []⟩
theorem relOf_some {size : Int} {d n a r : PyData} (h : seqD d = some [n, a, r]) : relOf size d = ⟨strD n, intD a, AS.ascR size (((seqD r).getD []).map rowOf)⟩ := by unfold relOf; rw [h]
theorem ints_of : ∀ {ds : List PyData} {size : Int}, (ds.all fun x => betweenD x 0 (size - 1)) = true → ds = (ds.map intD).map PyData.int ∧ TS.Bd size (ds.map intD)
  | [], _, _ => ⟨rfl, fun m h => nomatch h⟩
  | d :: r, size, h => by
    rw [List.all_cons, Bool.and_eq_true] at h
    obtain ⟨i, rfl, h0, h1⟩ := between_int h.1
    obtain ⟨e, b⟩ := ints_of h.2
    refine ⟨?_, fun m hm => ?_⟩
    · rw [List.map_cons, List.map_cons, ← e]
      rfl
    · rcases List.mem_cons.mp hm with c | c
      · rw [c]; exact ⟨h0, by show i < size; omega⟩
      · exact b m c
theorem rowD_inv {d : PyData} {len size : Int} (h : rowD d len size = true) : seqD d = some ((rowOf d).map PyData.int) ∧ ((rowOf d).length : Int) = len ∧ TS.Bd size (rowOf d) := by
  cases hs : seqD d with
  | none => rw [rowD_none hs] at h; exact nomatch h
  | some ds =>
    rw [rowD_some hs, Bool.and_eq_true] at h
    obtain ⟨e, b⟩ := ints_of h.2
    have hr : rowOf d = ds.map intD := by unfold rowOf; rw [hs]
    rw [hr, ← e]
    exact ⟨rfl, by rw [List.length_map]; exact of_decide_eq_true h.1, b⟩
theorem relD_inv {d : PyData} {size : Int} (h : relD d size = true) : ∃ n ar r rs, seqD d = some [.str n, .int ar, r] ∧ nameOkS n = true ∧ 1 ≤ ar ∧ ar ≤ 3 ∧ seqD r = some rs ∧ ∀ x ∈ rs, rowD x ar size = true := by
  cases hs : seqD d with
  | none => rw [relD_none hs] at h; exact nomatch h
  | some ds =>
    rw [relD_some hs] at h
    match ds, h with
    | [n, a, r], h =>
      have h : (nameD n && (betweenD a 1 3 && rowsD r (intD a) size)) = true := h
      rw [Bool.and_eq_true, Bool.and_eq_true] at h
      obtain ⟨h1, h2, h3⟩ := h
      obtain ⟨i, rfl, i1, i3⟩ := between_int h2
      cases n with
      | str s =>
        cases hr : seqD r with
        | none => rw [rowsD_none hr] at h3; exact nomatch h3
        | some rs =>
          rw [rowsD_some hr] at h3
          exact ⟨s, i, r, rs, rfl, h1, i1, i3, hr, fun x hx => List.all_eq_true.mp h3 x hx⟩
      | _ => exact nomatch h1
    | [], h => exact nomatch h
    | [_], h => exact nomatch h
    | [_, _], h => exact nomatch h
    | _ :: _ :: _ :: _ :: _, h => exact nomatch h
/-- the rows of an entry are few -/
def fewD (d : PyData) : Bool := match seqD d with
  | some [_, _, r] => decide (((seqD r).getD []).length < 63)
  | _ => false
theorem fewD_some {d n a r : PyData} {rs : List PyData} (h : seqD d = some [n, a, r]) (hr : seqD r = some rs) (hf : fewD d = true) : rs.length < 63 := by
  unfold fewD at hf
  rw [h] at hf
  have hf := of_decide_eq_true hf
  rw [hr] at hf
  exact hf
/-- what World takes -/
structure RelsOk (size : Int) (ds : List PyData) : Prop where
  few : ds.length ≤ 12
  ok : ∀ x ∈ ds, relD x size = true
  sm : ∀ x ∈ ds, smD x = true
  rows : ∀ x ∈ ds, fewD x = true
  nd : (ds.map fun x => (relOf size x).name).Nodup
def dChecked (K : PySem.W.Frag) : List V → Hp → (V → Hp → Prop) → Prop := fun vs B Pz => ∃ v d ds size, vs = [.int size, v] ∧ Dp K B v d ∧ seqD d = some ds ∧ RelsOk size ds ∧ Pz = fun z B' => ∃ a kvs, z = .ref a ∧ B' a = some (.dK kvs) ∧ TabAt K (ds.map (relOf size)) kvs B'
theorem at3 {x y z : V} : atI [x, y, z] 0 = some x ∧ atI [x, y, z] 1 = some y ∧ atI [x, y, z] 2 = some z := ⟨atI_nat (j := 0) rfl, atI_nat (j := 1) rfl, atI_nat (j := 2) rfl⟩
theorem find_none {s : Str} : ∀ {rels : List Rel}, s ∉ rels.map (·.name) → rels.find? (fun r => decide (r.name = s)) = none
  | [], _ => rfl
  | r :: t, h => by
    rw [List.map_cons, List.mem_cons] at h
    rw [List.find?_cons, decide_eq_false fun c => h (.inl c.symm)]
    exact find_none fun c => h (.inr c)
abbrev checked_relations_N : List Str := ["size", "relations", "tables", "entry", "row"]
abbrev checked_relations_P : List Str := ["size", "relations"]
theorem sc_checked_relations : FnScope ["size", "relations", "tables", "entry", "row"] ["size", "relations"] (defScope s_checked_relations) := ⟨rfl, rfl, rfl, by decide +kernel, rfl, by decide +kernel, by decide +kernel⟩
theorem ok_checked (T : TX K mg) : OkF P w K mg base 6 "checked_relations" ["size", "relations"] (spR (dChecked K)) := by
  have n_len := T.n "len" (by decide +kernel)
  have n_tuple := T.n "tuple" (by decide +kernel)
  have n_sorted := T.n "sorted" (by decide +kernel)
  obtain ⟨_, g_MOST_RELATIONS⟩ := T.i ("MOST_RELATIONS", 12) (by decide +kernel)
  refine T.okF 12 rfl (by decide +kernel) (fun f fd F => ?_) (fun _ _ _ _ _ _ us hl => match us, hl with | [_, _], _ => rfl)
  have O_is_sequence := ok_is_sequence (P := P) (w := w) (base := base) T
  have O_is_relation := ok_is_relation (P := P) (w := w) (base := base) T
  refine F.ok sc_checked_relations (fun vs H Q E h => spR_len h (by rintro B Pz ⟨v, d, ds, s, rfl, _⟩; rfl)) (fun cdv A outer s H vs Q E hr ⟨B, Pz, e, ⟨v, d, ds, size, hvs, hd, hs, hok, hP⟩, q⟩ => ?_)
  subst hvs hP
  refine ⟨_, (pss_cons (ps_if (pw_or (pt_not (pt_val (LX.pe_f O_is_sequence hr (by decide) (pa_cons (pv 1) pa_nil)))) (pw_or1 (pt_cmpR op_gt (pe_callB (LX.k_len (K := K)) (by rfl) n_len (by decide +kernel) (pa_cons (pv 1) pa_nil)) (pe_glob (v := .int 12) (by rfl) g_MOST_RELATIONS ⟨_, rfl⟩) (nomark _)))).pt (pss_one ps_never) pss_nil)
        (pss_cons (ps_set (i := 2) sc_checked_relations.nd rfl (.inl rfl) pe_dnewK)
        (pss_cons (ps_for PassesOwn.never rfl (RX.pi_seq (K := K) (pv 1)) (pg_name (i := 3) sc_checked_relations.nd rfl (.inl rfl)) (pss_cons (ps_if (pw_or (pt_not (pt_val (LX.pe_f O_is_relation hr (by decide) (pa_cons (pv 3) (pa_cons (pv 0) pa_nil))))) (pw_or1 (pt_cmp (pc_din (LX.u1 hr) (pe_ix (RX.k_ixa (K := K)) (pv 3) pe_int (fun _ _ => rfl)) (pv 2))))).pt (pss_one ps_never) pss_nil)
        (pss_one (ps_dput (LX.u1 hr) (pv 2) (pe_ix (RX.k_ixa (K := K)) (pv 3) pe_int (fun _ _ => rfl)) (pe_tup (pa_cons (pe_ix (RX.k_ixa (K := K)) (pv 3) pe_int (fun _ _ => rfl)) (pa_cons (pe_callTy (LX.k_tupOf (K := K)) (by rfl) n_tuple (by decide +kernel) (pa_cons (pe_callB (RX.k_sortedT (K := K) (P := P) (w := w) rfl) (by rfl) n_sorted (by decide +kernel) (pa_cons (WS.pe_scG (O0 := fun a => SetTO P w a []) (add := WS.addTup K P w) (own := [("row", 4)]) (g := gName 4) (tt := tYes) (RX.k_addTup hr.units) RX.k_newTup rfl sc_checked_relations.nd (RX.pi_seq (K := K) (pe_ix (RX.k_ixa (K := K)) (pv 3) pe_int (fun _ _ => rfl))) (blkOk_by (N := checked_relations_N) (sc := defScope s_checked_relations) (by decide +kernel)) (fun _ _ _ _ _ => pg_name (i := 4) sc_checked_relations.nd rfl (Or.inl rfl)) (fun _ _ _ _ _ => pts_nil) (fun _ _ _ _ _ => (pe_callTy (LX.k_tupOf (K := K)) (by rfl) n_tuple (by decide +kernel) (pa_cons (pv 4) pa_nil)))) pa_nil)) pa_nil)) pa_nil))) rfl))))
        (pss_one (ps_ret (pv 2)))))), ?_⟩
  obtain ⟨a, xs, rfl, hx, hxs⟩ := dp_seq hd hs
  have hl := dps_len hxs
  have hfew := hok.few
  refine x_when (X := H) (B := B) (b := false) (et_is (et_or (a := false) (b := decide (((12 : Int)) < (xs.length : Int))) (et_not (a := true) (et_B (ev_is (ev_sequence (ev_var rfl) hd) (by rw [hs]; rfl)))) (fun _ => et_test (ev_op (ev_lenA (ev_var rfl) hx) ev_c rv_I0))) (by rw [Bool.false_or]; exact decide_eq_false (by omega))) (fun h => nomatch h) (fun _ => ?_) H e (Ex.refl H)
  refine x_asgD fun p hpB hpH => ?_
  have hsub : ∀ (ys : List V), ys = xs → ∀ i x, ys[i]? = some x → ∃ dx, ds[i]? = some dx ∧ Dp K B x dx := fun ys hy i x hx' => by subst hy; exact dps_get hxs hx'
  refine x_for (F := B) (Ex.new hpB) (ei_seq (ev_var rfl) hx) (fun F' ys i σ' B' => ∃ y z Bs kvs, σ' = [some (V.int size), some (.ref a), some (.ref p), y, z] ∧ B' = upd Bs p (.dK kvs) ∧ Bs p = none ∧ Gr H F' Bs ∧ TabAt K ((ds.map (relOf size)).take i) kvs Bs) (fun F' ys g hy av => ?_) (fun F' ys i σ' B' h => ?_) (fun F' ys i x σ' B' g hy hxi h => ?_) (fun F' ys σ' B' g hy h => ?_)
  · have hF : F' p = none := av p hpB (by rw [upd_same]; exact Option.some_ne_none _)
    exact ⟨none, none, F', [], rfl, mrg_upd g.ex hF, hF, Gr.refl _ _, rfl, fun i p r h => nomatch h⟩
  · obtain ⟨y, z, Bs, kvs, rfl, rfl, hp, gs, tb⟩ := h
    exact gs.ex.trans (Ex.new hp)
  · obtain ⟨y, z, Bs, kvs, rfl, rfl, hp, gs, tb⟩ := h
    obtain ⟨dx, hdx, hdp⟩ := hsub ys hy i x hxi
    have hmem : dx ∈ ds := List.mem_of_getElem? hdx
    have eB : Ex B Bs := g.ex.trans gs.ex
    have hrel := hok.ok dx hmem
    obtain ⟨n, ar, rd, rs, hsd, hn, ha1, ha3, hrd, hrows⟩ := relD_inv hrel
    have hrlen := fewD_some hsd hrd (hok.rows dx hmem)
    obtain ⟨b, zs, rfl, hb, hzs⟩ := dp_seq (dp_ex eB hdp) hsd
    obtain ⟨x1, x2, x3, _, _, _, rfl, hh, d1, d2, d3⟩ := dps3 hzs (by rw [dps_len hzs]; rfl)
    cases hh
    cases d1
    cases d2
    have hro : relOf size dx = ⟨n, ar, AS.ascR size (rs.map rowOf)⟩ := by rw [relOf_some hsd, hrd]; rfl
    have hti : ((ds.map (relOf size)).take (i + 1)) = (ds.map (relOf size)).take i ++ [relOf size dx] := take_snoc (by rw [List.getElem?_map, hdx]; rfl)
    have hnone : valV kvs (Sum.inr n) = none := by
      have := TabAt.find (s := n) tb
      rw [find_none (by
        have h := nodup_take hok.nd hdx
        rw [hro] at h
        rw [← List.map_take, List.map_map]
        exact h)] at this
      exact this
    have hb' : SqA K (upd Bs p (.dK kvs)) b [V.str n, .int ar, x3] := ex_a (Ex.new hp) hb
    refine x_when (b := false) (et_is (et_or (a := false) (b := false) (et_not (a := true) (et_B (ev_is (ev_relation (ev_var rfl) (ev_var rfl) (dp_ex (eB.trans (Ex.new hp)) hdp) (hok.sm dx hmem)) (by rw [hrel])))) (fun _ => et_B (ev_is (et_din (ev_op (ev_var rfl) ev_c (rv_ixA hb' at3.1)) (ev_var rfl) upd_same) (by rw [hnone]; rfl)))) rfl) (fun h => nomatch h) (fun _ => ?_)
    refine x_last (x_dput (l := p) (Pe := EntAt K (relOf size dx)) upd_same hpH (ev_var rfl) (ev_op (ev_var rfl) ev_c (rv_ixA hb' at3.1)) ?_ ?_ (fun z' B'' g2 hp2 hz' => ?_))
    · rw [del_upd hp]
      obtain ⟨c, us, rfl, hc, hus⟩ := dp_seq d3 hrd
      have hul := dps_len hus
      have hrow : ∀ r ∈ rs, seqD r = some ((rowOf r).map PyData.int) ∧ ((rowOf r).length : Int) = ar ∧ TS.Bd size (rowOf r) := fun r hr => rowD_inv (hrows r hr)
      refine EvR.imp (er_tupN (Pa := fun vs B' => ∃ z r, vs = z :: r ∧ IsV (.int ar) z B' ∧ ∃ z2 r2, r = z2 :: r2 ∧ TpP K (RowsAt K (AS.ascR size (rs.map rowOf))) z2 B' ∧ r2 = []) inferInstance (ear inferInstance (eR_v (ev_op (ev_var rfl) ev_c (rv_ixA hb at3.2.1))) (ear inferInstance (er_tup (Py := RowsAt K (AS.ascR size (rs.map rowOf))) inferInstance (EvR.imp (er_sortedT (Bn := size) (d := ar.toNat) (M := rs.map rowOf) (by omega) (fun x hx => ?_) (EvR.imp (er_sc (K := K) (P := P) (w := w) (xs := us) (k := fun i => rowOf (rs.getD i .none)) (ei_seq (ev_op (ev_var rfl) ev_c (rv_ixA hb at3.2.2)) hc) (by omega) ?_ (fun i x B' e1 hi => ?_)) ?_)) ?_)) ear_nil)) ?_) ?_
      · obtain ⟨r, hr, rfl⟩ := List.mem_map.mp hx
        obtain ⟨_, h2, h3⟩ := hrow r hr
        exact ⟨by omega, h3⟩
      · exact fun _ => rfl
      · obtain ⟨dr, hdr, hdpr⟩ := dps_get hus hi
        have hg : rs.getD i .none = dr := by rw [List.getD_eq_getElem?_getD, hdr]; rfl
        rw [hg]
        obtain ⟨h1, _, _⟩ := hrow dr (List.mem_of_getElem? hdr)
        obtain ⟨q1, ws, rfl, hw, hws⟩ := dp_seq hdpr h1
        have := dps_ints hws
        subst this
        exact EvR.imp (er_tup (Py := fun ys _ => ys = (rowOf dr).map V.int) inferInstance (rVp (ev_var rfl) ⟨q1, _, rfl, ex_a e1 hw, rfl⟩)) fun z B'' _ ⟨p', ys, h1, h2, h3⟩ => ⟨p', h1, h3 ▸ h2⟩
      · rintro z B' _ ⟨a', L, h1, h2, h3, _, h5⟩
        refine ⟨a', L, h1, h2, h3, fun r => (h5 r).trans ⟨?_, fun hr => ?_⟩⟩
        · rintro ⟨i, hi, rfl⟩
          rw [List.getD_eq_getElem?_getD, List.getElem?_eq_getElem (by omega)]
          exact List.mem_map_of_mem (List.getElem_mem _)
        · obtain ⟨r', hr', rfl⟩ := List.mem_map.mp hr
          obtain ⟨i, hi, rfl⟩ := List.mem_iff_getElem.mp hr'
          refine ⟨i, by omega, ?_⟩
          rw [List.getD_eq_getElem?_getD, List.getElem?_eq_getElem hi]
          rfl
      · rintro z B' _ ⟨p', ys, h1, h2, h3⟩
        exact ⟨p', ys, h1, .inl h2, h3⟩
      · rintro vs B' ⟨z, r, rfl, _, z2, r2, rfl, _, rfl⟩
        show (2 : Nat) ≤ 100000
        decide
      · rintro z B' _ ⟨t, vs, rfl, ht, z1, r, rfl, hz1, z2, r2, rfl, ⟨q2, ys, rfl, hq2, hys⟩, rfl⟩
        have hz1 : z1 = .int ar := hz1
        subst hz1
        rw [hro]
        exact ⟨t, q2, ys, rfl, st_of ht, hq2, hys⟩
    · have := tb.len
      rw [List.length_take, List.length_map] at this
      omega
    · rw [del_upd hp] at g2
      refine x_nx rfl ⟨_, _, B'', _, rfl, rfl, hp2, gs.trans g2, ?_⟩
      rw [putK_new _ hnone, hti]
      have := (tb.mono g2.ex).snoc hz'
      rw [hro] at this ⊢
      exact this
  · obtain ⟨y, z, Bs, kvs, rfl, rfl, hp, gs, tb⟩ := h
    have hlen : ys.length = (ds.map (relOf size)).length := by rw [hy, List.length_map, hl]
    rw [hlen, List.take_length] at tb
    exact x_ret (rVp (P := fun z B' => ∃ a kvs, z = .ref a ∧ B' a = some (.dK kvs) ∧ TabAt K (ds.map (relOf size)) kvs B') (ev_var rfl) ⟨p, kvs, rfl, upd_same, tb.mono (Ex.new hp)⟩) (fun z' B' H' g2 hz e1 e2 => q z' H' B' e2 (((g.trans gs).trans (gr_new hp hpH)).trans g2) e1 hz)
end Kx
namespace Kx
open PySem PySem.Spec PyProof.Rows L2 Evl LX T XV RX WS
variable {P : Program} {w : World} {K : PySem.W.Frag} {mg : Str → Option Value} {base : Heap}
/-! ### World.__init__ -/
def fieldsN : List Str := ["size", "names", "facts", "_tables", "_arities", "_stands"]
structure WorldAt (K : PySem.W.Frag) (P : Program) (w : World) (C : Addr) (size : Int) (rels : List Rel) (x : Addr) (B : Hp) : Prop where
  ex : ∃ (dx : Addr) (zn : V) (pf t : Addr) (za : V) (ps : Addr) (kvs : List (Key × V)) (ys : List V) (st : List (NestedKey × Addr × V)) (ns : List Str),
    B x = some (.ins C dx [("size", .int size), ("names", zn), ("facts", .ref pf), ("_tables", .ref t), ("_arities", za), ("_stands", .ref ps)]) ∧
    TpP K (fun ys _ => ys = ns.map V.str) zn B ∧ SqT K B pf ys ∧ A2 (FactAt K) (factsOf rels ns) ys B ∧ B t = some (.dK kvs) ∧ TabAt K rels kvs B ∧ TpP K (fun ys _ => ys = ns.map fun n => V.int (arIn rels n)) za B ∧
    B ps = some (DnO P w ps st) ∧ st.map (·.1) = (factsOf rels ns).map RX.keyOf ∧ (st.map fun p => V.ref p.2.1) = ys ∧ ns.Perm (rels.map (·.name)) ∧ sortedS ns = true
def spInitW (K : PySem.W.Frag) (P : Program) (w : World) (C : Addr) : Sp := fun vs H Q _ => ∃ (x dx : Addr) (B : Hp) (v : V) (d : PyData) (ds : List PyData) (size : Int), vs = [.ref x, .int size, v] ∧ H x = some (.ins C dx []) ∧ B x = none ∧ Ex B H ∧ Dp K B v d ∧ seqD d = some ds ∧ RelsOk size ds ∧ 2 ≤ size ∧ size ≤ 400 ∧
  ∀ H2 B', Ex (RX.del H x) H2 → Gr (RX.del H x) B B' → Ex B' H2 → WorldAt K P w C size (ds.map (relOf size)) x B' → Q .non H2
theorem er_checked {σ : L2.St} {B : Hp} {ta tb : TE} {v : V} {d : PyData} {ds : List PyData} {size : Int} (ha : Ev ta σ B (.int size)) (hb : Ev tb σ B v) (hd : Dp K B v d) (hs : seqD d = some ds) (hok : RelsOk size ds) :
    EvR (tCall (spR (dChecked K)) [] E0 (tCons ta (tCons tb tNil))) σ B (fun z B' => ∃ a kvs, z = .ref a ∧ B' a = some (.dK kvs) ∧ TabAt K (ds.map (relOf size)) kvs B') :=
  er_callV (ea_cons ha (ea_cons hb ea_nil)) ⟨v, d, ds, size, rfl, hd, hs, hok, rfl⟩ fun B' e => ⟨v, d, ds, size, rfl, dp_ex e hd, hs, hok, rfl⟩
theorem relOf_rows {d : PyData} {size : Int} (h : relD d size = true) (hf : fewD d = true) : (relOf size d).rows.Nodup ∧ (relOf size d).rows.length < 63 := by
  obtain ⟨n, ar, rd, rs, hsd, hn, ha1, ha3, hrd, hrows⟩ := relD_inv h
  have hl := fewD_some hsd hrd hf
  have hro : relOf size d = ⟨n, ar, AS.ascR size (rs.map rowOf)⟩ := by rw [relOf_some hsd, hrd]; rfl
  rw [hro]
  refine ⟨asc_nodup (AS.ascR_asc (d := ar.toNat) fun x hx => ?_), ?_⟩
  · obtain ⟨r, hr, rfl⟩ := List.mem_map.mp hx
    obtain ⟨_, h2, h3⟩ := rowD_inv (hrows r hr)
    exact ⟨by omega, h3⟩
  · have := len_ascR (B := size) (L := rs.map rowOf)
    rw [List.length_map] at this
    exact Nat.lt_of_le_of_lt this hl
theorem rowsIn_ok {ds : List PyData} {size : Int} (hok : RelsOk size ds) (n : Str) : (rowsIn (ds.map (relOf size)) n).Nodup ∧ (rowsIn (ds.map (relOf size)) n).length ≤ 63 := by
  unfold rowsIn
  cases hf : (ds.map (relOf size)).find? (fun r => decide (r.name = n)) with
  | none => exact ⟨List.nodup_nil, Nat.zero_le _⟩
  | some r =>
    obtain ⟨d, hd, rfl⟩ := List.mem_map.mp (List.mem_of_find?_eq_some hf)
    have := relOf_rows (hok.ok d hd) (hok.rows d hd)
    exact ⟨this.1, Nat.le_of_lt this.2⟩
theorem find_mem {s : Str} : ∀ {rels : List Rel}, s ∈ rels.map (·.name) → ∃ r, rels.find? (fun r => decide (r.name = s)) = some r
  | [], h => nomatch h
  | r :: t, h => by
    rw [List.find?_cons]
    by_cases c : r.name = s
    · exact ⟨r, by rw [decide_eq_true c]⟩
    · rw [decide_eq_false c]
      rw [List.map_cons, List.mem_cons] at h
      exact find_mem (h.resolve_left fun e => c e.symm)
def NamesP (rels : List Rel) : List V → Hp → Prop := fun ys _ => ∃ ns : List Str, ys = ns.map V.str ∧ ns.Perm (rels.map Rel.name) ∧ sortedS ns = true
instance {rels : List Rel} : MoA (NamesP rels) := ⟨fun _ h => h⟩
instance {rels : List Rel} : MoAN (NamesP rels) := ⟨fun _ h => h⟩
theorem tab_get {rels : List Rel} {kvs : List (Key × V)} {B : Hp} {n : Str} (tb : TabAt K rels kvs B) (hn : n ∈ rels.map Rel.name) : ∃ r v, rels.find? (fun r => decide (r.name = n)) = some r ∧ valV kvs (Sum.inr n) = some v ∧ EntAt K r v B := by
  obtain ⟨r, hr⟩ := find_mem hn
  have := TabAt.find (s := n) tb
  rw [hr] at this
  obtain ⟨v, h1, h2⟩ := this
  exact ⟨r, v, hr, h1, h2⟩
theorem rowsIn_some {rels : List Rel} {n : Str} {r : Rel} (h : rels.find? (fun r => decide (r.name = n)) = some r) : rowsIn rels n = r.rows := by unfold rowsIn; rw [h]
theorem arIn_some {rels : List Rel} {n : Str} {r : Rel} (h : rels.find? (fun r => decide (r.name = n)) = some r) : arIn rels n = r.ar := by unfold arIn; rw [h]
theorem at2 {x y : V} : atI [x, y] 0 = some x ∧ atI [x, y] 1 = some y := ⟨atI_nat (j := 0) rfl, atI_nat (j := 1) rfl⟩
abbrev World_init_N : List Str := ["self", "size", "relations", "tables", "name", "row", "fact"]
abbrev World_init_P : List Str := ["self", "size", "relations"]
theorem sc_World_init : FnScope ["self", "size", "relations", "tables", "name", "row", "fact"] ["self", "size", "relations"] (defScope s_World_init) := ⟨rfl, rfl, rfl, by decide +kernel, rfl, by decide +kernel, by decide +kernel⟩
theorem ok_init (T : TX K mg) {C : Addr} {dvs : List V} {f : Addr} {fd : FuncData} (F : FunD K "__init__" "World.__init__" (defArgs s_World_init) (defBody s_World_init) (defScope s_World_init) dvs [] f fd) (hC : Cls K C) (hN : ∀ f ∈ fieldsN, NoAttr K C f) : FnOk P w K mg base CX0 7 f fd ["self", "size", "relations"] (spInitW K P w C) := by
  have n_tuple := T.n "tuple" (by decide +kernel)
  have n_sorted := T.n "sorted" (by decide +kernel)
  obtain ⟨_, g_SMALLEST_WORLD⟩ := T.i ("SMALLEST_WORLD", 2) (by decide +kernel)
  obtain ⟨_, g_LARGEST_WORLD⟩ := T.i ("LARGEST_WORLD", 400) (by decide +kernel)
  have O_is_between := ok_is_between (P := P) (w := w) (base := base) T
  have O_checked_relations := ok_checked (P := P) (w := w) (base := base) T
  refine F.ok sc_World_init (fun vs H Q E h => ?_) (fun cdv A outer s H vs Q E hr ⟨x, dx, B, v, d, ds, size, hvs, hx, hBx, e, hd, hs, hok, hs2, hs4, q⟩ => ?_)
  · obtain ⟨x, dx, B, v, d, ds, size, rfl, _⟩ := h
    rfl
  subst hvs
  refine ⟨_, PSs.nox (pss_cons (ps_if (pt_not (pt_val (LX.pe_f O_is_between hr (by decide) (pa_cons (pv 1) (pa_cons (pe_glob (v := .int 2) (by rfl) g_SMALLEST_WORLD ⟨_, rfl⟩) (pa_cons (pe_glob (v := .int 400) (by rfl) g_LARGEST_WORLD ⟨_, rfl⟩) pa_nil)))))) (pss_one ps_never) pss_nil)
        (pss_cons (ps_set (i := 3) sc_World_init.nd rfl (.inr rfl) (LX.pe_f O_checked_relations hr (by decide) (pa_cons (pv 1) (pa_cons (pv 2) pa_nil))))
        (pss_cons (LX.k_sfld (K := K) (pv 0) (pv 1) (by rfl))
        (pss_cons (LX.k_sfld (K := K) (pv 0) (pe_callTy (LX.k_tupOf (K := K)) (by rfl) n_tuple (by decide +kernel) (pa_cons (pe_callB (RX.k_sortD rfl) (by rfl) n_sorted (by decide +kernel) (pa_cons (pv 3) pa_nil)) pa_nil)) (by rfl))
        (pss_cons (LX.k_sfld (K := K) (pv 0) (pe_callTy (LX.k_tupOf (K := K)) (by rfl) n_tuple (by decide +kernel) (pa_cons (pe_lc2 (own := [("name", 4), ("row", 5)]) (vs1 := [5]) (g := gName 4) (g1 := gName 5) (tt := tYes) (tt1 := tYes) rfl sc_World_init.nd (RX.k_pit (K := K) (LX.k_fld (K := K) (pv 0) (by rfl))) (blkOk_by (N := World_init_N) (sc := defScope s_World_init) (by decide +kernel)) (by decide) (fun _ _ _ _ _ => pg_name (i := 4) sc_World_init.nd rfl (Or.inl rfl)) (fun _ _ _ _ _ => pts_nil) (fun _ _ _ _ _ => (RX.k_pit (K := K) (pe_ix (LX.k_ixt (K := K)) (pe_dget (LX.u1 hr) (pv 3) (pv 4) (fun _ _ => rfl)) pe_int (fun _ _ => rfl)))) (fun _ _ _ _ _ => pg_name (i := 5) sc_World_init.nd rfl (Or.inl rfl)) (fun _ _ _ _ _ => pts_nil) (fun _ _ _ _ _ => (pe_tup (pa_cons (pv 4) (pa_cons (pv 5) pa_nil))))) pa_nil)) (by rfl))
        (pss_cons (LX.k_sfld (K := K) (pv 0) (pv 3) (by rfl))
        (pss_cons (LX.k_sfld (K := K) (pv 0) (pe_callTy (LX.k_tupOf (K := K)) (by rfl) n_tuple (by decide +kernel) (pa_cons (pe_lc (own := [("name", 4)]) (g := gName 4) (tt := tYes) rfl sc_World_init.nd (RX.k_pit (K := K) (LX.k_fld (K := K) (pv 0) (by rfl))) (blkOk_by (N := World_init_N) (sc := defScope s_World_init) (by decide +kernel)) (fun _ _ _ _ _ => pg_name (i := 4) sc_World_init.nd rfl (Or.inl rfl)) (fun _ _ _ _ _ => pts_nil) (fun _ _ _ _ _ => (pe_ix (LX.k_ixt (K := K)) (pe_dget (LX.u1 hr) (pv 3) (pv 4) (fun _ _ => rfl)) pe_int (fun _ _ => rfl)))) pa_nil)) (by rfl))
        (pss_one (LX.k_sfld (K := K) (pv 0) (WS.pe_dcG (O0 := fun a => WS.DnO P w a []) (put := WS.putNk K P w) (own := [("fact", 6)]) (g := gName 6) (tt := tYes) (RX.k_putNk hr.units) RX.k_newNk rfl sc_World_init.nd (RX.k_pit (K := K) (LX.k_fld (K := K) (pv 0) (by rfl))) (blkOk_by (N := World_init_N) (sc := defScope s_World_init) (by decide +kernel)) (fun _ _ _ _ _ => pg_name (i := 6) sc_World_init.nd rfl (Or.inl rfl)) (fun _ _ _ _ _ => pts_nil) (fun _ _ _ _ _ => (pv 6)) (fun _ _ _ _ _ => pe_bl)) (by rfl)))))))))), ?_⟩
  have eB : Ex (upd B x (.ins C dx [])) H := ex_upd e hx
  have eX : Ex (RX.del H x) H := RX.del_ex
  have hXx : RX.del H x x = none := RX.del_same
  refine x_when (X := RX.del H x) (B := upd B x (.ins C dx [])) (b := false) (et_not (a := true) (et_B (ev_is (ev_between (ev_var rfl) ev_c ev_c (.int size)) (by show V.bl (decide (2 ≤ size) && decide (size ≤ 400)) = _; rw [decide_eq_true hs2, decide_eq_true hs4]; rfl)))) (fun h => nomatch h) (fun _ => ?_) H eB eX
  refine x_asg (er_checked (ev_var rfl) (ev_var rfl) (dp_ex (Ex.new hBx) hd) hs hok) fun z B1 g1 ⟨t, kvs, hz, ht, tb⟩ => ?_
  subst hz
  generalize hrels : ds.map (relOf size) = rels at tb q
  have hrl : rels.length ≤ 12 := by rw [← hrels, List.length_map]; exact hok.few
  have hnd : (rels.map (·.name)).Nodup := by rw [← hrels, List.map_map]; exact hok.nd
  have hrow : ∀ n, (rowsIn rels n).Nodup ∧ (rowsIn rels n).length ≤ 63 := fun n => by rw [← hrels]; exact rowsIn_ok hok n
  have gB : Gr (RX.del H x) B B1 := (gr_new hBx hXx).trans g1
  -- size
  refine x_fld (fs := []) (g1.ex _ _ upd_same) hXx (ev_var rfl) (eR_v (v := .int size) (ev_var rfl)) hC (hN "size" (by decide)) (by decide) fun z B2 g2 hz _ n2 => ?_
  have hz : z = .int size := hz
  subst hz
  have gB2 := gr_keep (o := .ins C dx (putF "size" (.int size) [])) (gB.trans g2) hBx hXx
  have ht2 := n2 _ _ (g2.ex _ _ ht) (fun _ _ _ c => nomatch c)
  have tb2 := (tb.mono g2.ex).monoN n2
  clear ht tb
  generalize hB3 : upd B2 x (.ins C dx (putF "size" (.int size) [])) = B3 at *
  have hx3 : B3 x = some (.ins C dx [("size", .int size)]) := by rw [← hB3, upd_same]; rfl
  clear hB3 n2 g2
  -- names
  refine x_fld (Pe := TpP K (NamesP rels)) hx3 hXx (ev_var rfl) (er_tup inferInstance (EvR.imp (er_sortD (ks := rels.map Rel.name) (ev_var rfl) ht2 (by rw [tb2.1, List.map_map]; rfl) (by rw [List.length_map]; omega)) fun z B' _ ⟨p', ys, h1, h2, h3⟩ => ⟨p', ys, h1, .inl h2, h3⟩)) hC (hN "names" (by decide)) (show (1 : Nat) < 1000 by decide) fun z B4 g4 hz _ n4 => ?_
  obtain ⟨pn, _, rfl, hpn, ns, rfl, hperm, hsort⟩ := hz
  have gB4 := gr_keep (o := .ins C dx (putF "names" (.ref pn) [("size", .int size)])) (gB2.trans g4) hBx hXx
  have ht4 := n4 _ _ (g4.ex _ _ ht2) (fun _ _ _ c => nomatch c)
  have tb4 := (tb2.mono g4.ex).monoN n4
  have hpn4 := exn_t n4 hpn
  generalize hB5 : upd B4 x (.ins C dx (putF "names" (.ref pn) [("size", .int size)])) = B5 at *
  have hx5 : B5 x = some (.ins C dx [("size", .int size), ("names", .ref pn)]) := by rw [← hB5, upd_same]; rfl
  clear hB5 n4 g4 ht2 tb2 hpn
  have hnl : ns.length ≤ 12 := by rw [hperm.length_eq, List.length_map]; exact hrl
  have hnn : ns.Nodup := hperm.nodup_iff.mpr hnd
  have hmem : ∀ n ∈ ns, n ∈ rels.map Rel.name := fun n hn => hperm.mem_iff.mp hn
  have hns : ∀ {i : Nat} {y : V}, (ns.map V.str)[i]? = some y → ∃ n, ns[i]? = some n ∧ y = .str n := fun {i y} h => by
    rw [List.getElem?_map] at h
    cases hq : ns[i]? with
    | none => rw [hq] at h; exact nomatch h
    | some n => rw [hq] at h; exact ⟨n, rfl, (Option.some.inj h).symm⟩
  have hgd : ∀ {i : Nat} {n : Str}, ns[i]? = some n → ns.getD i "" = n := fun {i n} h => by rw [List.getD_eq_getElem?_getD, h]; rfl
  -- facts
  refine x_fld (Pe := TpP K (A2 (FactAt K) (factsOf rels ns))) hx5 hXx (ev_var rfl) (er_tup inferInstance (EvR.imp (er_lc2 (Pd := FactAt K) (xs := ns.map V.str) (fun _ => inferInstance) (fun i => (rowsIn rels (ns.getD i "")).map fun r => (ns.getD i "", r)) (ei_tup (ev_fldI (ev_var rfl) hx5 hC (hN "names" (by decide)) rfl) hpn4) (fun _ => rfl) (fun _ _ => rfl) ?_ ?_) ?_)) hC (hN "facts" (by decide)) (show (2 : Nat) < 1000 by decide) fun z B6 g6 hz _ n6 => ?_
  · intro i k _
    rw [List.length_append]
    have h1 : ((List.range i).flatMap fun i => (rowsIn rels (ns.getD i "")).map fun r => (ns.getD i "", r)).length ≤ (List.range i).length * 63 := flat_len fun j _ => by rw [List.length_map]; exact (hrow _).2
    rw [List.length_range] at h1
    have h2 : (((rowsIn rels (ns.getD i "")).map fun r => (ns.getD i "", r)).take k).length ≤ 63 := by rw [List.length_take, List.length_map]; have := (hrow (ns.getD i "")).2; omega
    rename_i hi
    rw [List.length_map] at hi
    omega
  · intro i y B' e1 hy
    obtain ⟨n, hn, rfl⟩ := hns hy
    rw [hgd hn]
    obtain ⟨r, v', hf, hv, t', q', zs, rfl, ha1, ha2, ha3⟩ := tab_get tb4 (hmem n (List.mem_of_getElem? hn))
    refine ⟨zs, ei_tup (ev_op (ev_dget (ev_var rfl) (ev_var rfl) (e1 _ _ ht4) hv) ev_c (rv_ixT (ex_t e1 ha1) at2.2)) (ex_t e1 ha2), by rw [ha3.1, List.length_map, rowsIn_some hf], fun k y2 B'' d e2 hy2 hd2 => ?_⟩
    rw [List.getElem?_map, rowsIn_some hf] at hd2
    cases hq : r.rows[k]? with
    | none => rw [hq] at hd2; exact nomatch hd2
    | some row =>
      rw [hq] at hd2
      cases hd2
      obtain ⟨b, rfl, hb⟩ := ha3.2 k y2 row hy2 hq
      exact EvR.imp (er_tupN (Pa := fun vs _ => vs = [V.str n, .ref b]) inferInstance (rA (ea_cons (ev_var rfl) (ea_cons (ev_var rfl) ea_nil))) (fun vs _ h => by rw [h]; show (2 : Nat) ≤ 100000; decide)) fun z B3 e3 ⟨p', vs, h1, h2, h3⟩ => by
        subst h3
        exact ⟨p', b, h1, st_of h2, ex_t ((e1.trans e2).trans e3) hb⟩
  · rintro z B' _ ⟨p', ys, h1, h2, h3⟩
    rw [List.length_map] at h3
    rw [flat_range (f := fun n => (rowsIn rels n).map fun r => (n, r))] at h3
    exact ⟨p', ys, h1, .inl (sq_of h2), h3⟩
  obtain ⟨pf, ys, rfl, hpf, hys⟩ := hz
  have gB6 := gr_keep (o := .ins C dx (putF "facts" (.ref pf) [("size", .int size), ("names", .ref pn)])) (gB4.trans g6) hBx hXx
  have ht6 := n6 _ _ (g6.ex _ _ ht4) (fun _ _ _ c => nomatch c)
  have tb6 := (tb4.mono g6.ex).monoN n6
  have hpn6 := exn_t n6 (ex_t g6.ex hpn4)
  have hpf6 := exn_t n6 hpf
  have hys6 : A2 (FactAt K) (factsOf rels ns) ys _ := MoAN.mo n6 hys
  generalize hB7 : upd B6 x (.ins C dx (putF "facts" (.ref pf) [("size", .int size), ("names", .ref pn)])) = B7 at *
  have hx7 : B7 x = some (.ins C dx [("size", .int size), ("names", .ref pn), ("facts", .ref pf)]) := by rw [← hB7, upd_same]; rfl
  clear hB7 n6 g6 ht4 tb4 hpn4 hpf hys
  -- _tables
  refine x_fld hx7 hXx (ev_var rfl) (eR_v (v := .ref t) (ev_var rfl)) hC (hN "_tables" (by decide)) (show (3 : Nat) < 1000 by decide) fun z B8 g8 hz _ n8 => ?_
  have hz : z = .ref t := hz
  subst hz
  have gB8 := gr_keep (o := .ins C dx (putF "_tables" (.ref t) [("size", .int size), ("names", .ref pn), ("facts", .ref pf)])) (gB6.trans g8) hBx hXx
  have ht8 := n8 _ _ (g8.ex _ _ ht6) (fun _ _ _ c => nomatch c)
  have tb8 := (tb6.mono g8.ex).monoN n8
  have hpn8 := exn_t n8 (ex_t g8.ex hpn6)
  have hpf8 := exn_t n8 (ex_t g8.ex hpf6)
  have hys8 : A2 (FactAt K) (factsOf rels ns) ys _ := MoAN.mo n8 (MoA.mo g8.ex hys6)
  generalize hB9 : upd B8 x (.ins C dx (putF "_tables" (.ref t) [("size", .int size), ("names", .ref pn), ("facts", .ref pf)])) = B9 at *
  have hx9 : B9 x = some (.ins C dx [("size", .int size), ("names", .ref pn), ("facts", .ref pf), ("_tables", .ref t)]) := by rw [← hB9, upd_same]; rfl
  clear hB9 n8 g8 ht6 tb6 hpn6 hpf6 hys6
  -- _arities
  refine x_fld (Pe := TpP K fun ys _ => ys = ns.map fun n => V.int (arIn rels n)) hx9 hXx (ev_var rfl) (er_tup inferInstance (EvR.imp (er_lc1 (Pd := fun n => IsV (.int (arIn rels n))) (xs := ns.map V.str) (ds := ns) (fun _ => inferInstance) (ei_tup (ev_fldI (ev_var rfl) hx9 hC (hN "names" (by decide)) rfl) hpn8) (by rw [List.length_map]; omega) (List.length_map ..) (fun _ => rfl) ?_) ?_)) hC (hN "_arities" (by decide)) (show (4 : Nat) < 1000 by decide) fun z BA gA hz _ nA => ?_
  · intro i y B' d e1 hy hd'
    obtain ⟨n, hn, rfl⟩ := hns hy
    rw [hn] at hd'
    have hd' := Option.some.inj hd'
    subst hd'
    obtain ⟨r, v', hf, hv, t', q', zs, rfl, ha1, ha2, ha3⟩ := tab_get tb8 (hmem n (List.mem_of_getElem? hn))
    rw [arIn_some hf]
    exact eR_v (ev_op (ev_dget (ev_var rfl) (ev_var rfl) (e1 _ _ ht8) hv) ev_c (rv_ixT (ex_t e1 ha1) at2.1))
  · rintro z B' _ ⟨p', ys, h1, h2, h3⟩
    exact ⟨p', ys, h1, .inl (sq_of h2), h3.vals⟩
  have gBA := gr_keep (o := .ins C dx (putF "_arities" z [("size", .int size), ("names", .ref pn), ("facts", .ref pf), ("_tables", .ref t)])) (gB8.trans gA) hBx hXx
  have htA := nA _ _ (gA.ex _ _ ht8) (fun _ _ _ c => nomatch c)
  have tbA := (tb8.mono gA.ex).monoN nA
  have hpnA := exn_t nA (ex_t gA.ex hpn8)
  have hpfA := exn_t nA (ex_t gA.ex hpf8)
  have hysA : A2 (FactAt K) (factsOf rels ns) ys _ := MoAN.mo nA (MoA.mo gA.ex hys8)
  have hzA : TpP K (fun ys _ => ys = ns.map fun n => V.int (arIn rels n)) z _ := MoN.mo nA hz
  generalize hBB : upd BA x (.ins C dx (putF "_arities" z [("size", .int size), ("names", .ref pn), ("facts", .ref pf), ("_tables", .ref t)])) = BB at *
  have hxB : BB x = some (.ins C dx [("size", .int size), ("names", .ref pn), ("facts", .ref pf), ("_tables", .ref t), ("_arities", z)]) := by rw [← hBB, upd_same]; rfl
  clear hBB nA gA ht8 tb8 hpn8 hpf8 hys8 hz
  -- _stands
  have hfl : (factsOf rels ns).length ≤ 40000 := by
    have : (factsOf rels ns).length ≤ ns.length * 63 := flat_len fun n _ => by rw [List.length_map]; exact (hrow n).2
    omega
  refine x_last (x_fld hxB hXx (ev_var rfl) (er_dcTrue (K := K) (P := P) (w := w) (xs := ys) (ks := (factsOf rels ns).map RX.keyOf) (ei_tup (ev_fldI (ev_var rfl) hxB hC (hN "facts" (by decide)) rfl) hpfA) (by rw [hysA.1, List.length_map]) (by rw [hysA.1]; exact hfl) ?_ ?_ (fun _ => rfl) (show (6 : Nat) < 7 by decide)) hC (hN "_stands" (by decide)) (show (5 : Nat) < 1000 by decide) fun z2 BC gC hz2 _ nC => ?_)
  · exact List.pairwise_map.mpr (List.Pairwise.imp (fun {a b} hab c => hab (keyOf_inj c)) (facts_nodup (fun n => (hrow n).1) hnn))
  · intro i y k hy hk
    rw [List.getElem?_map] at hk
    cases hq : (factsOf rels ns)[i]? with
    | none => rw [hq] at hk; exact nomatch hk
    | some fct =>
      rw [hq] at hk
      cases hk
      have hfa := hysA.2 i y fct hy hq
      obtain ⟨a, r, hyr, _⟩ := id hfa
      exact ⟨fact_key hfa, keyOf_depth _, a, hyr⟩
  obtain ⟨ps, st, rfl, hps, hst1, hst2⟩ := hz2
  have gBC := gr_keep (o := .ins C dx (putF "_stands" (.ref ps) [("size", .int size), ("names", .ref pn), ("facts", .ref pf), ("_tables", .ref t), ("_arities", z)])) (gBA.trans gC) hBx hXx
  refine fun H' e1 e2 => q H' _ e2 gBC e1 ⟨dx, .ref pn, pf, t, z, ps, kvs, ys, st, ns, by rw [upd_same]; rfl, ⟨pn, _, rfl, exn_t nC (ex_t gC.ex hpnA), rfl⟩, exn_t nC (ex_t gC.ex hpfA), MoAN.mo nC (MoA.mo gC.ex hysA), nC _ _ (gC.ex _ _ htA) (fun _ _ _ c => nomatch c), (tbA.mono gC.ex).monoN nC, MoN.mo nC (Mo.mo gC.ex hzA), nC _ _ hps (fun _ _ _ c => nomatch c), hst1, hst2, hperm, hsort⟩
end Kx
namespace Kx
open PySem PySem.Spec PyProof.Rows L2 Evl LX T XV RX WS
variable {P : Program} {w : World} {K : PySem.W.Frag} {mg : Str → Option Value} {base : Heap}
theorem WorldAt.mono {C : Addr} {size : Int} {rels : List Rel} {x : Addr} {B B' : Hp} (e : Ex B B') (h : WorldAt K P w C size rels x B) : WorldAt K P w C size rels x B' := by
  obtain ⟨dx, zn, pf, t, za, ps, kvs, ys, st, ns, h1, h2, h3, h4, h5, h6, h7, h8, h9, h10, h11, h12⟩ := h
  exact ⟨dx, zn, pf, t, za, ps, kvs, ys, st, ns, e _ _ h1, Mo.mo e h2, ex_t e h3, MoA.mo e h4, e _ _ h5, h6.mono e, Mo.mo e h7, e _ _ h8, h9, h10, h11, h12⟩
/-! ### arity and rows of a name that is there -/
def dArity (K : PySem.W.Frag) (P : Program) (w : World) (C : Addr) : List V → Hp → (V → Hp → Prop) → Prop := fun vs B Pz => ∃ (x : Addr) (size : Int) (rels : List Rel) (n : Str), vs = [.ref x, .str n] ∧ WorldAt K P w C size rels x B ∧ n ∈ rels.map Rel.name ∧ Pz = IsV (.int (arIn rels n))
def dRows (K : PySem.W.Frag) (P : Program) (w : World) (C : Addr) : List V → Hp → (V → Hp → Prop) → Prop := fun vs B Pz => ∃ (x : Addr) (size : Int) (rels : List Rel) (n : Str), vs = [.ref x, .str n] ∧ WorldAt K P w C size rels x B ∧ n ∈ rels.map Rel.name ∧ Pz = TpP K (RowsAt K (rowsIn rels n))
/-- what _table gives -/
def TabP (K : PySem.W.Frag) (rels : List Rel) (n : Str) : V → Hp → Prop := fun z B => ∃ t q zs, z = .ref t ∧ SqT K B t [.int (arIn rels n), .ref q] ∧ SqT K B q zs ∧ RowsAt K (rowsIn rels n) zs B
def dTable (K : PySem.W.Frag) (P : Program) (w : World) (C : Addr) : List V → Hp → (V → Hp → Prop) → Prop := fun vs B Pz => ∃ (x : Addr) (size : Int) (rels : List Rel) (n : Str), vs = [.ref x, .str n] ∧ WorldAt K P w C size rels x B ∧ n ∈ rels.map Rel.name ∧ Pz = TabP K rels n
abbrev World__table_N : List Str := ["self", "name"]
abbrev World__table_P : List Str := ["self", "name"]
theorem sc_World__table : FnScope ["self", "name"] ["self", "name"] (defScope s_World__table) := ⟨rfl, rfl, rfl, by decide +kernel, rfl, by decide +kernel, by decide +kernel⟩
abbrev World_arity_N : List Str := ["self", "name"]
abbrev World_arity_P : List Str := ["self", "name"]
theorem sc_World_arity : FnScope ["self", "name"] ["self", "name"] (defScope s_World_arity) := ⟨rfl, rfl, rfl, by decide +kernel, rfl, by decide +kernel, by decide +kernel⟩
abbrev World_rows_N : List Str := ["self", "name"]
abbrev World_rows_P : List Str := ["self", "name"]
theorem sc_World_rows : FnScope ["self", "name"] ["self", "name"] (defScope s_World_rows) := ⟨rfl, rfl, rfl, by decide +kernel, rfl, by decide +kernel, by decide +kernel⟩
theorem fn_table (T : TX K mg) {C f : Addr} {fd : FuncData} (F : Fun K "_table" "World._table" s_World__table f fd) (hC : Cls K C) (hN : NoAttr K C "_tables") : FnOk P w K mg base CX0 1 f fd ["self", "name"] (spR (dTable K P w C)) := by
  have n_isinstance := T.n "isinstance" (by decide +kernel)
  have n_str := T.n "str" (by decide +kernel)
  refine F.ok sc_World__table (fun vs H Q E h => spR_len h (by rintro B Pz ⟨x, s, r, n, rfl, _⟩; rfl)) (fun cdv A outer s H vs Q E hr ⟨B, Pz, e, ⟨x, size, rels, n, hvs, hW, hn, hP⟩, q⟩ => ?_)
  subst hvs hP
  refine ⟨_, (pss_cons (ps_if (pw_or (pt_not (pt_val (pe_callB (LX.k_isi (K := K)) (by rfl) n_isinstance (by decide +kernel) (pa_cons (pv 1) (pa_cons (pe_bltn (v := .ty "str") (u := .type "str") (by rfl) n_str (by decide +kernel) rfl) pa_nil))))) (pw_or1 (pt_cmp (pc_dnotin (LX.u1 hr) (pv 1) (LX.k_fld (K := K) (pv 0) (by rfl)))))).pt (pss_one ps_never) pss_nil)
        (pss_one (ps_ret (pe_dget (LX.u1 hr) (LX.k_fld (K := K) (pv 0) (by rfl)) (pv 1) (fun _ _ => rfl))))), ?_⟩
  obtain ⟨dx, zn, pf, t, za, ps, kvs, ys, st, ns, h1, h2, h3, h4, h5, h6, _⟩ := hW
  obtain ⟨r, v, hf, hv, t', q', zs, rfl, ha1, ha2, ha3⟩ := tab_get h6 hn
  refine x_when (X := H) (B := B) (b := false) (et_is (et_or (a := false) (b := false) (et_not (a := true) (et_B (ev_isi_str (ev_var rfl) (show kitB "str" "str" = _ by decide +kernel)))) fun _ => et_B (ev_is (et_dnin (ev_var rfl) (ev_fldI (ev_var rfl) h1 hC hN rfl) h5) (by rw [hv]; rfl))) rfl) (fun h => nomatch h) (fun _ => ?_) H e (Ex.refl H)
  refine x_ret (rVp (P := TabP K rels n) (ev_dget (ev_fldI (ev_var rfl) h1 hC hN rfl) (ev_var rfl) h5 hv) ⟨t', q', zs, rfl, by rw [arIn_some hf]; exact ha1, ha2, by rw [rowsIn_some hf]; exact ha3⟩) (fun z B' H' g p e1 e2 => q z H' B' e2 g e1 p)
theorem fn_arity (T : TX K mg) {C f : Addr} {fd : FuncData} (F : Fun K "arity" "World.arity" s_World_arity f fd) (hC : Cls K C) (M__table : OkM P w K mg base 1 C "_table" ["self", "name"] (spR (dTable K P w C))) : FnOk P w K mg base CX0 2 f fd ["self", "name"] (spR (dArity K P w C)) := by
  
  refine F.ok sc_World_arity (fun vs H Q E h => spR_len h (by rintro B Pz ⟨x, s, r, n, rfl, _⟩; rfl)) (fun cdv A outer s H vs Q E hr ⟨B, Pz, e, ⟨x, size, rels, n, hvs, hW, hn, hP⟩, q⟩ => ?_)
  subst hvs hP
  refine ⟨_, (pss_one (ps_ret (pe_ix (LX.k_ixt (K := K)) (RX.pe_m M__table hC hr (by decide) (pv 0) (pa_cons (pv 1) pa_nil)) pe_int (fun _ _ => rfl)))), ?_⟩
  have hW0 := hW
  obtain ⟨dx, zn, pf, t, za, ps, kvs, ys, st, ns, h1, _⟩ := hW
  refine x_ret (X := H) (B := B) (er_opL (P1 := IsV (.int (arIn rels n))) (er_meth (P := TabP K rels n) (ev_var rfl) h1 rfl (ea_cons (ev_var rfl) ea_nil) fun B'' e2 => ⟨x, size, rels, n, rfl, hW0.mono e2, hn, rfl⟩) ev_c ?_) (fun z B' H' g p e1 e2 => q z H' B' e2 g e1 p) H e (Ex.refl H)
  rintro z B' e1 ⟨t', q', zs, rfl, ha1, _⟩
  exact ⟨_, rv_ixT ha1 at2.1, rfl⟩
theorem fn_rows (T : TX K mg) {C f : Addr} {fd : FuncData} (F : Fun K "rows" "World.rows" s_World_rows f fd) (hC : Cls K C) (M__table : OkM P w K mg base 1 C "_table" ["self", "name"] (spR (dTable K P w C))) : FnOk P w K mg base CX0 2 f fd ["self", "name"] (spR (dRows K P w C)) := by
  
  refine F.ok sc_World_rows (fun vs H Q E h => spR_len h (by rintro B Pz ⟨x, s, r, n, rfl, _⟩; rfl)) (fun cdv A outer s H vs Q E hr ⟨B, Pz, e, ⟨x, size, rels, n, hvs, hW, hn, hP⟩, q⟩ => ?_)
  subst hvs hP
  refine ⟨_, (pss_one (ps_ret (pe_ix (LX.k_ixt (K := K)) (RX.pe_m M__table hC hr (by decide) (pv 0) (pa_cons (pv 1) pa_nil)) pe_int (fun _ _ => rfl)))), ?_⟩
  have hW0 := hW
  obtain ⟨dx, zn, pf, t, za, ps, kvs, ys, st, ns, h1, _⟩ := hW
  refine x_ret (X := H) (B := B) (er_opL (P1 := TpP K (RowsAt K (rowsIn rels n))) (er_meth (P := TabP K rels n) (ev_var rfl) h1 rfl (ea_cons (ev_var rfl) ea_nil) fun B'' e2 => ⟨x, size, rels, n, rfl, hW0.mono e2, hn, rfl⟩) ev_c ?_) (fun z B' H' g p e1 e2 => q z H' B' e2 g e1 p) H e (Ex.refl H)
  rintro z B' e1 ⟨t', q', zs, rfl, ha1, ha2, ha3⟩
  exact ⟨_, rv_ixT ha1 at2.2, q', zs, rfl, ha2, ha3⟩
end Kx
namespace Kx
open PySem PySem.Spec PyProof.Rows L2 Evl LX T XV RX WS
variable {P : Program} {w : World} {K : PySem.W.Frag} {mg : Str → Option Value} {base : Heap}
/-! ### World(..) -/
structure OkI (P : Program) (w : World) (K : PySem.W.Frag) (mg : Str → Option Value) (base : Heap) (k : Nat) (x : Str) (C : Addr) (ps : List Str) (sp : Sp) (dvs : List V) : Prop where
  g : mg x = some (.ref C)
  ex : ∃ (f : Addr) (fd : FuncData) (ds : List Value), Mk K C f ∧ FnOk P w K mg base CX0 k f fd ps sp ∧ Binds K fd ps ds ∧ Vals dvs ds
theorem pe_i {X : Cx} {x : Str} {C : Addr} {e : Expr} {es : List Expr} {p pos : Pos} {k j : Nat} {ps : List Str} {sp : Sp} {dvs : List V} {t : TA} (O : OkI X.prog X.w X.K X.mg X.base k x C ps sp dvs) (hr : Room j X.A) (hj : k + 1 ≤ j) (ha : PA X (e :: es) t) (hg : Gl X x := by rfl)
    (hdb : (x == ("__debug__" : Str)) = false := by decide) (he : starEach (e :: es) X.env = (false, eval e X.env) :: starEach es X.env := by rfl) (hpl : (backTo pos (starEach es X.env)).any (·.1) = false := by rfl) :
    PE X (.Call (.Name x p) (e :: es) [] pos) (tMake C sp dvs E0 t) := by
  obtain ⟨f, fd, ds, M, F, b, hd⟩ := O.ex
  exact pe_make M F (hr.mono hj) hg O.g b hd pass0 ha hdb he hpl
theorem er_make {σ : L2.St} {B : Hp} {tr : TA} {C : Addr} {E : XK} {dvs : List V} {size : Int} {d : PyData} {ds : List PyData} (h : EvAR tr σ B fun vs B' => ∃ v, vs ++ dvs = [.int size, v] ∧ Dp K B' v d) (hs : seqD d = some ds) (hok : RelsOk size ds) (h2 : 2 ≤ size) (h4 : size ≤ 400) :
    EvR (tMake C (spInitW K P w C) dvs E tr) σ B fun z B' => ∃ x, z = .ref x ∧ WorldAt K P w C size (ds.map (relOf size)) x B' := fun H1 e Q q =>
  h H1 e _ fun vs H2 B1 e2 g e3 ⟨v, hv, hd⟩ => fun x dx hx hdx hne => by
    have hB1x : B1 x = none := none_of e3 hx
    have hB1d : B1 dx = none := none_of e3 hdx
    have eD : Ex H2 (RX.del (upd (upd H2 dx (.own x)) x (.ins C dx [])) x) := fun a o ha => by
      have c1 : a ≠ x := fun c => by subst c; rw [hx] at ha; exact nomatch ha
      have c2 : a ≠ dx := fun c => by subst c; rw [hdx] at ha; exact nomatch ha
      rw [RX.del_ne c1, upd_ne c1, upd_ne c2]; exact ha
    refine ⟨x, dx, B1, v, d, ds, size, by rw [hv], upd_same, hB1x, fun a o ha => ?_, hd, hs, hok, h2, h4, fun H3 B' e4 g2 e5 hW => ⟨rfl, q _ H3 B' ((e2.trans eD).trans e4) (g.trans (g2.back (e2.trans eD))) e5 ⟨x, rfl, hW⟩⟩⟩
    have c1 : a ≠ x := fun c => by subst c; rw [hB1x] at ha; exact nomatch ha
    have c2 : a ≠ dx := fun c => by subst c; rw [hB1d] at ha; exact nomatch ha
    rw [upd_ne c1, upd_ne c2]
    exact e3 a o ha
end Kx
namespace Kx
open PySem PySem.Spec PyProof.Rows L2 Evl LX T
variable {P : Program} {w : World} {K : PySem.W.Frag} {mg : Str → Option Value} {base : Heap} {ex : PySem.W.Frag → Bool}
/-- a def that hands back one value, whatever stands besides -/
def spV (D : List V → Hp → V → Prop) : Sp := fun vs H Q _ => ∃ z, D vs H z ∧ ∀ H', Ex H H' → Q z H'
theorem spV_at {D : List V → Hp → V → Prop} {vs : List V} {H : Hp} {z : V} (h : ∀ H', Ex H H' → D vs H' z) : SpV (spV D) vs H z := fun H1 e Q q _ => ⟨z, h H1 e, q⟩
theorem atI_int {ns : List Int} {k : Int} (h0 : 0 ≤ k) (h : k < ns.length) : atI (ns.map V.int) k = some (V.int (ns.getD k.toNat 0)) := by
  obtain ⟨j, rfl⟩ : ∃ j : Nat, k = (j : Int) := ⟨k.toNat, by omega⟩
  refine atI_nat ?_
  have hj : j < ns.length := by omega
  rw [List.getElem?_map, List.getElem?_eq_getElem hj, Int.toNat_natCast, List.getD_eq_getElem?_getD, List.getElem?_eq_getElem hj]
  rfl
/-! ### whole -/
def dWhole : List V → Hp → V → Prop := fun vs _ z => ∃ i : Int, vs = [.int i] ∧ z = .bl true
abbrev law_whole_N : List Str := ["value"]
abbrev law_whole_P : List Str := ["value"]
theorem sc_law_whole : FnScope ["value"] ["value"] (defScope s_law_whole) := ⟨rfl, rfl, rfl, by decide +kernel, rfl, by decide +kernel, by decide +kernel⟩
theorem ok_whole (T : TX K mg) : OkF P w K mg base 1 "_law_whole" ["value"] (spV dWhole) := by
  have n_isinstance := T.n "isinstance" (by decide +kernel)
  have n_bool := T.n "bool" (by decide +kernel)
  have n_int := T.n "int" (by decide +kernel)
  refine T.okF 26 rfl (by decide +kernel) (fun f fd F => ?_) (fun _ _ _ _ _ _ us hl => match us, hl with | [_], _ => rfl)
  refine F.ok sc_law_whole (fun vs H Q E h => ?_) (fun cdv A outer s H vs Q E hr h => ?_)
  · obtain ⟨_, ⟨i, rfl, _⟩, _⟩ := h
    rfl
  · obtain ⟨_, ⟨i, rfl, rfl⟩, q⟩ := h
    refine ⟨_, (pss_one (ps_ret (pe_and (pe_callB (LX.k_isi (K := K)) (by rfl) n_isinstance (by decide +kernel) (pa_cons (pv 0) (pa_cons (pe_bltn (v := .ty "int") (u := .type "int") (by rfl) n_int (by decide +kernel) rfl) pa_nil))) (pe_one (pe_not (pe_callB (LX.k_isi (K := K)) (by rfl) n_isinstance (by decide +kernel) (pa_cons (pv 0) (pa_cons (pe_bltn (v := .ty "bool") (u := .type "bool") (by rfl) n_bool (by decide +kernel) rfl) pa_nil)))))))), ?_⟩
    exact g_ret (ev_is (ev_andV (ev_isi_int (b := true) (ev_var rfl) (by decide +kernel)) fun _ => (ev_notV (ev_isi_int (b := false) (ev_var rfl) (by decide +kernel)))) rfl) q H (Ex.refl H)
/-! ### cell -/
theorem take_more {α : Type} : ∀ {l : List α} {i : Nat} {x : α}, l[i]? = some x → l.take (i + 1) = l.take i ++ [x]
  | [], i, x, h => by simp at h
  | a :: l, 0, x, h => by
    have e : a = x := Option.some.inj h
    subst e
    rfl
  | a :: l, i + 1, x, h => by
    have ih := take_more (l := l) (i := i) (x := x) h
    show a :: l.take (i + 1) = a :: l.take i ++ [x]
    rw [ih]
    rfl
def cellOf (ns : List Int) (k : Int) : Int := if k < ns.length then ns.getD k.toNat 0 else ((ns.foldl (fun s c => (s * 31 + c % 1000003) % 1000003) 17 + 7) * (k + 3) * 69621) % 2147483647
def dCell (K : PySem.W.Frag) : List V → Hp → V → Prop := fun vs H z => ∃ (a : Addr) (ns : List Int) (k : Int), vs = [.ref a, .int k] ∧ SqL K H a (ns.map V.int) ∧ 0 ≤ k ∧ k < 100000 ∧ ns.length < 100000 ∧ z = .int (cellOf ns k)
abbrev law_cell_N : List Str := ["script", "k", "seed", "cell"]
abbrev law_cell_P : List Str := ["script", "k"]
theorem sc_law_cell : FnScope ["script", "k", "seed", "cell"] ["script", "k"] (defScope s_law_cell) := ⟨rfl, rfl, rfl, by decide +kernel, rfl, by decide +kernel, by decide +kernel⟩
theorem seed_bound : ∀ (ns : List Int) (s : Int), 0 ≤ s ∧ s < 1000003 → 0 ≤ ns.foldl (fun s c => (s * 31 + c % 1000003) % 1000003) s ∧ ns.foldl (fun s c => (s * 31 + c % 1000003) % 1000003) s < 1000003
  | [], _, h => h
  | c :: r, s, h => seed_bound r _ ⟨Int.emod_nonneg _ (by decide), Int.emod_lt_of_pos _ (by decide)⟩
theorem ok_cell (T : TX K mg) : OkF P w K mg base 1 "_law_cell" ["script", "k"] (spV (dCell K)) := by
  have n_len := T.n "len" (by decide +kernel)
  have n_int := T.n "int" (by decide +kernel)
  refine T.okF 27 rfl (by decide +kernel) (fun f fd F => ?_) (fun _ _ _ _ _ _ us hl => match us, hl with | [_, _], _ => rfl)
  refine F.ok sc_law_cell (fun vs H Q E h => ?_) (fun cdv A outer s H vs Q E hr h => ?_)
  · obtain ⟨_, ⟨a, ns, k, rfl, _⟩, _⟩ := h
    rfl
  · obtain ⟨_, ⟨a, ns, k, rfl, hS, h0, hk, hl, rfl⟩, q⟩ := h
    refine ⟨_, (pss_cons (ps_if (pt_cmpR op_lt (pv 1) (pe_callB (LX.k_len (K := K)) (by rfl) n_len (by decide +kernel) (pa_cons (pv 0) pa_nil)) (nomark _)) (pss_one (ps_ret (pe_ix (LX.k_ixl (K := K)) (pv 0) (pv 1) (fun _ _ => rfl)))) pss_nil)
        (pss_cons (ps_set (i := 2) sc_law_cell.nd rfl (.inl rfl) pe_int)
        (pss_cons (ps_for PassesOwn.never rfl (RX.k_pil (K := K) (pv 0)) (pg_name (i := 3) sc_law_cell.nd rfl (.inl rfl)) (pss_one (ps_set (i := 2) sc_law_cell.nd rfl (.inl rfl) (pe_op op_mod (pe_callTy call_int1 (by rfl) n_int (by decide +kernel) (pa_cons (pe_op op_add (pe_op op_mul (pv 2) pe_int) (pe_op op_mod (pe_callTy call_int1 (by rfl) n_int (by decide +kernel) (pa_cons (pv 3) pa_nil)) pe_int)) pa_nil)) pe_int))))
        (pss_one (ps_ret (pe_op op_mod (pe_callTy call_int1 (by rfl) n_int (by decide +kernel) (pa_cons (pe_op op_mul (pe_op op_mul (pe_op op_add (pv 2) pe_int) (pe_op op_add (pv 1) pe_int)) pe_int) pa_nil)) pe_int)))))), ?_⟩
    have hn : (ns.map V.int).length = ns.length := List.length_map ..
    refine g_when (et_test (ev_op (ev_var rfl) (ev_len (ev_var rfl) hS) rv_I0)) (fun hb => ?_) (fun hb => ?_) H (Ex.refl H)
    · have hb := of_decide_eq_true hb
      rw [hn] at hb
      have hat : atI (ns.map V.int) k = some (V.int (ns.getD k.toNat 0)) := atI_int h0 (by omega)
      refine g_ret (ev_op (ev_var rfl) (ev_var rfl) (rv_ixL hS hat)) fun H1 e => ?_
      have := q H1 e
      unfold cellOf at this
      rw [if_pos hb] at this
      exact this
    · have hb : ¬ (k < ((ns.map V.int).length : Int)) := of_decide_eq_false hb
      rw [hn] at hb
      refine g_asg ev_c ?_
      refine fun H1 e1 => q_forLn (ev_var rfl) (ex_l e1 hS) (fun i σ' H' => ∃ y, σ' = [some (.ref a), some (.int k), some (.int ((ns.take i).foldl (fun s c => (s * 31 + c % 1000003) % 1000003) 17)), y] ∧ Ex H H') (fun H2 e2 => ⟨none, rfl, e1.trans e2⟩) (fun i σ' H' _ h => ?_) (fun i x σ' H' hx h => ?_) fun σ' H' h => ?_
      · obtain ⟨y, rfl, e⟩ := h
        exact ex_l e hS
      · obtain ⟨y, rfl, e⟩ := h
        rw [List.getElem?_map] at hx
        obtain ⟨c, hc, rfl⟩ : ∃ c, ns[i]? = some c ∧ x = V.int c := by
          cases q : ns[i]? with
          | none =>
            rw [q] at hx
            cases hx
          | some c =>
            rw [q] at hx
            exact ⟨c, rfl, (Option.some.inj hx).symm⟩
        refine g1_asg (H := H') (ev_op (ev_int (ev_op (ev_op (ev_var rfl) ev_c (rv_I ?_)) (ev_op (ev_int (ev_var rfl)) ev_c (rv_I ?_)) rv_I0)) ev_c (rv_I ?_)) ?_ H' (Ex.refl H')
        · exact .inr ⟨by decide, by decide⟩
        · show (0 : Int) < 1000003
          decide
        · show (0 : Int) < 1000003
          decide
        · intro H1 e1
          refine ⟨some (V.int c), ?_, e.trans e1⟩
          rw [take_more hc, List.foldl_append]
          rfl
      · obtain ⟨y, rfl, e⟩ := h
        rw [hn, List.take_length]
        have hs := seed_bound ns 17 ⟨by decide, by decide⟩
        refine g_ret (H := H') (ev_op (ev_int (ev_op (ev_op (ev_op (ev_var rfl) ev_c rv_I0) (ev_op (ev_var rfl) ev_c rv_I0) (rv_I ?_)) ev_c (rv_I ?_))) ev_c (rv_I ?_)) (fun H1 e1 => ?_) H' (Ex.refl H')
        · exact .inl ⟨by omega, by omega⟩
        · exact .inr ⟨by decide, by decide⟩
        · show (0 : Int) < 2147483647
          decide
        · have := q H1 (e.trans e1)
          unfold cellOf at this
          rw [if_neg hb] at this
          exact this
/-! ### digits -/
section
variable {τ : Type} (g : τ → Int → Int) (h : τ → Int → τ)
def runD : τ → List Int → List Int
  | _, [] => []
  | st, s :: r => g st s :: runD (h st s) r
theorem runD_len : ∀ (st : τ) (l : List Int), (runD g h st l).length = l.length
  | _, [] => rfl
  | st, s :: r => congrArg Nat.succ (runD_len (h st s) r)
theorem runD_more : ∀ (l : List Int) (st : τ) (i : Nat) (s : Int), l[i]? = some s → (runD g h st l).take (i + 1) = (runD g h st l).take i ++ [g ((l.take i).foldl h st) s]
  | [], _, _, _, e => by simp at e
  | s0 :: r, st, 0, s, e => by
    have e : s0 = s := Option.some.inj e
    subst e
    rfl
  | s0 :: r, st, i + 1, s, e => by
    show g st s0 :: (runD g h (h st s0) r).take (i + 1) = g st s0 :: (runD g h (h st s0) r).take i ++ [_]
    rw [runD_more r (h st s0) i s e]
    rfl
theorem runD_bd : ∀ (l : List Int) (st : τ), (∀ st s, s ∈ l → 0 ≤ g st s ∧ g st s < s) → ∀ (i : Nat) (d : Int), (runD g h st l)[i]? = some d → ∃ s, l[i]? = some s ∧ 0 ≤ d ∧ d < s
  | [], _, _, _, _, e => by simp [runD] at e
  | s :: r, st, hb, 0, d, e => by
    have e : g st s = d := Option.some.inj e
    subst e
    exact ⟨s, rfl, hb st s (List.mem_cons_self ..)⟩
  | s :: r, st, hb, i + 1, d, e => runD_bd r (h st s) (fun st s hs => hb st s (List.mem_cons_of_mem _ hs)) i d e
end
def seedB (p : Int × Int) : Int := (p.1 * 48271 + 974711 * p.2 + 12345) % 2147483647
def gB (p : Int × Int) (s : Int) : Int := ((seedB p * (seedB p / 65537 + 3)) % 2147483629) / 19 % s
def hB (p : Int × Int) (_ : Int) : Int × Int := (seedB p, p.2 + 1)
def gA (r s : Int) : Int := r % s
def hA (r s : Int) : Int := r / s
def digitsOf (c : Int) (sizes : List Int) : List Int := if c ≥ 10 ^ 18 then runD gA hA (c - 10 ^ 18) sizes else runD gB hB (c % 2147483629, 0) sizes
theorem digits_len (c : Int) (l : List Int) : (digitsOf c l).length = l.length := by
  unfold digitsOf
  split
  · exact runD_len ..
  · exact runD_len ..
theorem digits_bd {c : Int} {l : List Int} (hl : ∀ s ∈ l, 0 < s) {i : Nat} {d : Int} (e : (digitsOf c l)[i]? = some d) : ∃ s, l[i]? = some s ∧ 0 ≤ d ∧ d < s := by
  unfold digitsOf at e
  split at e
  · exact runD_bd _ _ l _ (fun st s hs => ⟨Int.emod_nonneg _ (by have := hl s hs; omega), Int.emod_lt_of_pos _ (hl s hs)⟩) i d e
  · exact runD_bd _ _ l _ (fun st s hs => ⟨Int.emod_nonneg _ (by have := hl s hs; omega), Int.emod_lt_of_pos _ (hl s hs)⟩) i d e
theorem foldB (l : List Int) : ∀ p : Int × Int, (l.foldl hB p).2 = p.2 + l.length := by
  induction l with
  | nil => intro p; simp
  | cons s r ih =>
    intro p
    rw [List.foldl_cons, ih]
    show p.2 + 1 + _ = _
    rw [List.length_cons]
    omega
theorem seedB_bd (p : Int × Int) : 0 ≤ seedB p ∧ seedB p < 2147483647 := ⟨Int.emod_nonneg _ (by decide), Int.emod_lt_of_pos _ (by decide)⟩
theorem foldB_bd (l : List Int) : ∀ p : Int × Int, 0 ≤ p.1 ∧ p.1 < 2147483647 → 0 ≤ (l.foldl hB p).1 ∧ (l.foldl hB p).1 < 2147483647 := by
  induction l with
  | nil => intro p h; exact h
  | cons s r ih =>
    intro p _
    exact ih _ (seedB_bd p)
def spL (D : List V → Hp → List V → Prop) : Sp := fun vs H Q _ => ∃ xs, D vs H xs ∧ RetL xs H Q
theorem spL_at {D : List V → Hp → List V → Prop} {vs : List V} {H : Hp} {xs : List V} (h : ∀ H', Ex H H' → D vs H' xs) : SpL (spL D) vs H xs := fun H1 e Q q _ => ⟨xs, h H1 e, q⟩
def dDigits (K : PySem.W.Frag) : List V → Hp → List V → Prop := fun vs H xs => ∃ (c : Int) (a : Addr) (sizes : List Int), vs = [.int c, .ref a] ∧ SqL K H a (sizes.map V.int) ∧ (∀ s ∈ sizes, 0 < s ∧ s < 1073741824) ∧ sizes.length ≤ 1000 ∧ xs = (digitsOf c sizes).map V.int
theorem map_int_get {ns : List Int} {i : Nat} {x : V} (hx : (ns.map V.int)[i]? = some x) : ∃ c, ns[i]? = some c ∧ x = V.int c := by
  rw [List.getElem?_map] at hx
  cases q : ns[i]? with
  | none =>
    rw [q] at hx
    cases hx
  | some c =>
    rw [q] at hx
    exact ⟨c, rfl, (Option.some.inj hx).symm⟩
abbrev law_digits_N : List Str := ["cell", "sizes", "found", "rest", "size", "seed", "k", "twice"]
abbrev law_digits_P : List Str := ["cell", "sizes"]
theorem sc_law_digits : FnScope ["cell", "sizes", "found", "rest", "size", "seed", "k", "twice"] ["cell", "sizes"] (defScope s_law_digits) := ⟨rfl, rfl, rfl, by decide +kernel, rfl, by decide +kernel, by decide +kernel⟩
theorem ok_digits (T : TX K mg) : OkF P w K mg base 1 "_law_digits" ["cell", "sizes"] (spL (dDigits K)) := by
  have n_int := T.n "int" (by decide +kernel)
  have n_range := T.n "range" (by decide +kernel)
  have n_len := T.n "len" (by decide +kernel)
  refine T.okF 28 rfl (by decide +kernel) (fun f fd F => ?_) (fun _ _ _ _ _ _ us hl => match us, hl with | [_, _], _ => rfl)
  refine F.ok sc_law_digits (fun vs H Q E h => ?_) (fun cdv A outer s H vs Q E hr h => ?_)
  · obtain ⟨_, ⟨c, a, sizes, rfl, _⟩, _⟩ := h
    rfl
  · obtain ⟨_, ⟨c, a, sizes, rfl, hS, hz, hl, rfl⟩, q⟩ := h
    refine ⟨_, (pss_cons (ps_set (i := 2) sc_law_digits.nd rfl (.inl rfl) (pe_lst pa_nil))
        (pss_cons (ps_set (i := 3) sc_law_digits.nd rfl (.inl rfl) (pe_callTy call_int1 (by rfl) n_int (by decide +kernel) (pa_cons (pv 0) pa_nil)))
        (pss_cons (ps_if (pt_cmpR op_ge (pv 3) (pe_op op_pow pe_int pe_int) (nomark _)) (pss_cons (ps_set (i := 3) sc_law_digits.nd rfl (.inl rfl) (pe_op op_sub (pv 3) (pe_op op_pow pe_int pe_int)))
        (pss_cons (ps_for PassesOwn.never rfl (RX.k_pil (K := K) (pv 1)) (pg_name (i := 4) sc_law_digits.nd rfl (.inl rfl)) (pss_cons (ps_expr (pe_bm PySem.F.plainAttrs_list PySem.F.slot_list_append PySem.F.type_list_append mt_append (pv 2) (pa_cons (pe_op op_mod (pe_callTy call_int1 (by rfl) n_int (by decide +kernel) (pa_cons (pv 3) pa_nil)) (pv 4)) pa_nil)))
        (pss_one (ps_set (i := 3) sc_law_digits.nd rfl (.inl rfl) (pe_op op_fdiv (pe_callTy call_int1 (by rfl) n_int (by decide +kernel) (pa_cons (pv 3) pa_nil)) (pv 4))))))
        (pss_one (ps_ret (pv 2))))) pss_nil)
        (pss_cons (ps_set (i := 5) sc_law_digits.nd rfl (.inl rfl) (pe_op op_mod (pe_callTy call_int1 (by rfl) n_int (by decide +kernel) (pa_cons (pv 3) pa_nil)) pe_int))
        (pss_cons (ps_for PassesOwn.never rfl (pi_range1 (by rfl) n_range (pa_cons (pe_callB (LX.k_len (K := K)) (by rfl) n_len (by decide +kernel) (pa_cons (pv 1) pa_nil)) pa_nil)) (pg_name (i := 6) sc_law_digits.nd rfl (.inl rfl)) (pss_cons (ps_set (i := 5) sc_law_digits.nd rfl (.inl rfl) (pe_op op_mod (pe_callTy call_int1 (by rfl) n_int (by decide +kernel) (pa_cons (pe_op op_add (pe_op op_add (pe_op op_mul (pv 5) pe_int) (pe_op op_mul pe_int (pv 6))) pe_int) pa_nil)) pe_int))
        (pss_cons (ps_set (i := 7) sc_law_digits.nd rfl (.inl rfl) (pe_op op_mod (pe_callTy call_int1 (by rfl) n_int (by decide +kernel) (pa_cons (pe_op op_mul (pv 5) (pe_op op_add (pe_op op_fdiv (pv 5) pe_int) pe_int)) pa_nil)) pe_int))
        (pss_one (ps_expr (pe_bm PySem.F.plainAttrs_list PySem.F.slot_list_append PySem.F.type_list_append mt_append (pv 2) (pa_cons (pe_op op_mod (pe_op op_fdiv (pv 7) pe_int) (pe_ix (LX.k_ixl (K := K)) (pv 1) (pv 6) (fun _ _ => rfl))) pa_nil)))))))
        (pss_one (ps_ret (pv 2)))))))), ?_⟩
    have hn : (sizes.map V.int).length = sizes.length := List.length_map ..
    refine g_asgL (el_lst ea_nil (by decide)) (fun l H1 hl0 e1 hl1 => ?_) H (Ex.refl H)
    refine g_asg (ev_int (ev_var rfl)) ?_
    refine g_when (et_test (ev_op (ev_var rfl) (ev_op ev_c ev_c (rv_I ⟨by decide, by decide, by decide⟩)) rv_I0)) (fun hb => ?_) (fun hb => ?_)
    · have hb : (10 : Int) ^ 18 ≤ c := of_decide_eq_true hb
      have hd : digitsOf c sizes = runD gA hA (c - 10 ^ 18) sizes := if_pos hb
      rw [hd] at q
      refine g_asg (ev_op (ev_var rfl) (ev_op ev_c ev_c (rv_I ⟨by decide, by decide, by decide⟩)) rv_I0) ?_
      refine fun H2 e2 => q_forLn (ev_var rfl) (ex_l (e1.trans e2) hS) (fun i σ' H' => ∃ y, σ' = [some (.int c), some (.ref a), some (.ref l), some (.int ((sizes.take i).foldl hA (c - 10 ^ 18))), y, none, none, none] ∧ Ex H H' ∧ H' l = some (.lst (((runD gA hA (c - 10 ^ 18) sizes).take i).map V.int)))
        (fun H3 e3 => ⟨none, rfl, (e1.trans e2).trans e3, e3 _ _ (e2 _ _ hl1)⟩) (fun i σ' H' _ h => ?_) (fun i x σ' H' hx h => ?_) fun σ' H' h => ?_
      · obtain ⟨y, rfl, e, _⟩ := h
        exact ex_l e hS
      · obtain ⟨y, rfl, e, hf⟩ := h
        obtain ⟨z, hc, rfl⟩ := map_int_get hx
        have hm := hz z (List.mem_of_getElem? hc)
        have hlen : (((runD gA hA (c - 10 ^ 18) sizes).take i).map V.int).length < 100000 := by
          rw [List.length_map, List.length_take, runD_len]
          omega
        refine q_app hf (ev_var rfl) (ev_op (ev_int (ev_var rfl)) (ev_var rfl) (rv_mod hm.1)) hlen fun H3 e3 => ?_
        refine s_asg (ev_op (ev_int (ev_var rfl)) (ev_var rfl) (rv_I ⟨hm.1, hm.2⟩)) fun H4 e4 => ?_
        refine ⟨some (.int z), ?_, ((Ex.mut (e.trans e3) hl0).trans e4), ?_⟩
        · rw [take_more hc, List.foldl_append]
          rfl
        · refine e4 _ _ ?_
          rw [upd_same, runD_more _ _ _ _ _ _ hc, List.map_append]
          rfl
      · obtain ⟨y, rfl, e, hf⟩ := h
        rw [hn] at hf
        rw [List.take_of_length_le (by rw [runD_len]; exact Nat.le_refl _)] at hf
        exact s_ret (ev_var rfl) fun H3 e3 => q l H3 hl0 (e.trans e3) (e3 _ _ hf)
    · have hb : ¬ (10 : Int) ^ 18 ≤ c := of_decide_eq_false hb
      have hd : digitsOf c sizes = runD gB hB (c % 2147483629, 0) sizes := if_neg hb
      rw [hd] at q
      refine g_asg (ev_op (ev_int (ev_var rfl)) ev_c (rv_mod (by decide))) ?_
      have hs0 : 0 ≤ c % 2147483629 ∧ c % 2147483629 < 2147483647 := by omega
      refine fun H2 e2 => q_forR1 (n := (sizes.length : Int)) (ea_cons (ev_is (ev_len (ev_var rfl) (ex_l (e1.trans e2) hS)) (by rw [hn])) ea_nil) (by omega)
        (fun i σ' H' => ∃ y z, σ' = [some (.int c), some (.ref a), some (.ref l), some (.int c), none, some (.int ((sizes.take i).foldl hB (c % 2147483629, 0)).1), y, z] ∧ Ex H H' ∧ H' l = some (.lst (((runD gB hB (c % 2147483629, 0) sizes).take i).map V.int)))
        (fun H3 e3 => ⟨none, none, rfl, (e1.trans e2).trans e3, e3 _ _ (e2 _ _ hl1)⟩) (fun i σ' H' hi h => ?_) fun σ' H' h => ?_
      · obtain ⟨y, z, rfl, e, hf⟩ := h
        have hi : i < sizes.length := by omega
        have hc : sizes[i]? = some sizes[i] := List.getElem?_eq_getElem hi
        have hm := hz sizes[i] (List.getElem_mem hi)
        have hlen : (((runD gB hB (c % 2147483629, 0) sizes).take i).map V.int).length < 100000 := by
          rw [List.length_map, List.length_take, runD_len]
          omega
        have hp := foldB_bd (sizes.take i) (c % 2147483629, 0) hs0
        have hk := foldB (sizes.take i) (c % 2147483629, 0)
        rw [List.length_take, Nat.min_eq_left (by omega)] at hk
        have hk : ((sizes.take i).foldl hB (c % 2147483629, 0)).2 = (i : Int) := by
          rw [hk]
          show (0 : Int) + _ = _
          omega
        generalize hpe : (sizes.take i).foldl hB (c % 2147483629, 0) = p at hp hk
        have hsb := seedB_bd p
        have hseed : (p.1 * 48271 + 974711 * (i : Int) + 12345) % 2147483647 = seedB p := by
          unfold seedB
          rw [hk]
        have hget : atI (sizes.map V.int) (i : Int) = some (V.int sizes[i]) := atI_nat (by rw [List.getElem?_map, hc]; rfl)
        refine g_asg (H := H') (ev_is (v := V.int ((p.1 * 48271 + 974711 * (i : Int) + 12345) % 2147483647)) (ev_op (ev_int (ev_op (ev_op (ev_op (ev_var rfl) ev_c (rv_mulR (by decide))) (ev_op ev_c (ev_var rfl) (rv_mulL (by decide))) rv_I0) ev_c rv_I0)) ev_c (rv_mod (by decide))) (congrArg V.int hseed)) ?_ H' (Ex.refl H')
        refine g_asg (ev_op (ev_int (ev_op (ev_var rfl) (ev_op (ev_op (ev_var rfl) ev_c (rv_div (by decide))) ev_c rv_I0) (rv_mulL (by omega)))) ev_c (rv_mod (by decide))) ?_
        refine fun H3 e3 => s_app (e3 _ _ hf) (ev_var rfl) (ev_op (ev_op (ev_var rfl) ev_c (rv_div (by decide))) (ev_op (ev_var rfl) (ev_var rfl) (rv_ixL (ex_l (e.trans e3) hS) hget)) (rv_mod hm.1)) hlen fun H4 e4 => ?_
        refine ⟨some (V.int (i : Int)), some (V.int ((seedB p * (seedB p / 65537 + 3)) % 2147483629)), ?_, Ex.mut ((e.trans e3).trans e4) hl0, ?_⟩
        · rw [take_more hc, List.foldl_append, hpe]
          rfl
        · rw [upd_same, runD_more _ _ _ _ _ _ hc, List.map_append, hpe]
          rfl
      · obtain ⟨y, z, rfl, e, hf⟩ := h
        rw [Int.toNat_natCast, List.take_of_length_le (by rw [runD_len]; exact Nat.le_refl _)] at hf
        exact s_ret (ev_var rfl) fun H3 e3 => q l H3 hl0 (e.trans e3) (e3 _ _ hf)
end Kx
namespace Kx
open PySem PySem.Spec PyProof.Rows L2 Evl LX T XV RX WS
variable {P : Program} {w : World} {K : PySem.W.Frag} {mg : Str → Option Value} {base : Heap}
/-! ### unlike -/
def dUnlike (K : PySem.W.Frag) : List V → Hp → (V → Hp → Prop) → Prop := fun vs B Pz => ∃ (s : Str) (a : Addr) (L : List Str), vs = [.str s, .ref a] ∧ B a = some (.lst (L.map V.str)) ∧ NM.Nam s ∧ L.length ≤ 11 ∧ Pz = IsV (.str (NM.unlike s (resS ++ L)))
abbrev law_unlike_N : List Str := ["text", "taken", "barred", "sign"]
abbrev law_unlike_P : List Str := ["text", "taken"]
theorem sc_law_unlike : FnScope ["text", "taken", "barred", "sign"] ["text", "taken"] (defScope s_law_unlike) := ⟨rfl, rfl, rfl, by decide +kernel, rfl, by decide +kernel, by decide +kernel⟩
theorem nam_ok {s : Str} (h : NM.Nam s) (hr : s ∉ resS) : nameOkS s = true := by
  unfold nameOkS
  rw [h.ascii, h.alnum, h.lower, h.nodigit, NM.inV_str, decide_eq_false hr, h.len]
  have h1 := h.pos
  have h2 := h.few
  rw [decide_eq_true (by omega : (1 : Int) ≤ (s.cps.toList.length : Int)), decide_eq_true (by omega : ((s.cps.toList.length : Nat) : Int) ≤ 12)]
  rfl
theorem ok_unlike (T : TX K mg) : OkF P w K mg base 1 "_law_unlike" ["text", "taken"] (spR (dUnlike K)) := by
  refine T.okF 29 rfl (by decide +kernel) (fun f fd F => ?_) (fun _ _ _ _ _ _ us hl => match us, hl with | [_, _], _ => rfl)
  refine F.ok sc_law_unlike (fun vs H Q E h => spR_len h (by rintro B Pz ⟨s, a, L, rfl, _⟩; rfl)) (fun cdv A outer s H vs Q E hr ⟨B, Pz, e, ⟨st, a, L, hvs, hL, hst, hlen, hP⟩, q⟩ => ?_)
  subst hvs hP
  refine ⟨_, (pss_cons (ps_set (i := 2) sc_law_unlike.nd rfl (.inl rfl) (pe_op op_cat (pe_lst (pa_cons pe_str (pa_cons pe_str (pa_cons pe_str (pa_cons pe_str (pa_cons pe_str (pa_cons pe_str (pa_cons pe_str (pa_cons pe_str (pa_cons pe_str (pa_cons pe_str (pa_cons pe_str pa_nil)))))))))))) (pv 1)))
        (pss_cons (ps_if (pt_cmpR (LX.k_notIn (K := K)) (pv 0) (pv 2) (by rfl)) (pss_one (ps_ret (pv 0))) pss_nil)
        (pss_cons (ps_for PassesOwn.never rfl (pi_str pe_str) (pg_name (i := 3) sc_law_unlike.nd rfl (.inl rfl)) (pss_one (ps_if (pt_cmpR (LX.k_notIn (K := K)) (pe_op op_add_str (pe_slice sl_str (pv 0) po_none (po_some (pe_un un_neg pe_int))) (pv 3)) (pv 2) (by rfl)) (pss_one (ps_ret (pe_op op_add_str (pe_slice sl_str (pv 0) po_none (po_some (pe_un un_neg pe_int))) (pv 3)))) pss_nil)))
        (pss_one (ps_ret (pv 0)))))), ?_⟩
  have hsl : st.length ≤ 12 := by rw [hst.len]; exact hst.few
  have fin : ∀ {σ : L2.St} {te : TE} {D : Ends} {B' : Hp}, Gr H B B' → D.rt = Q → Ev te σ B' (.str (NM.unlike st (resS ++ L))) → Sx H (tRet te) D σ B' := fun {σ te D B'} g hD h => by
    subst hD
    exact x_ret (eR_v h) (fun z B'' H' g2 p e1 e2 => q z H' B'' e2 (g.trans g2) e1 p)
  have hbl : (resS.map V.str ++ L.map V.str) = (resS ++ L).map V.str := (List.map_append ..).symm
  refine x_asgL (X := H) (B := B) (xs := (resS ++ L).map V.str) (hbl ▸ NM.el_catV (el_lst (vs := resS.map V.str) (ea_cons ev_c (ea_cons ev_c (ea_cons ev_c (ea_cons ev_c (ea_cons ev_c (ea_cons ev_c (ea_cons ev_c (ea_cons ev_c (ea_cons ev_c (ea_cons ev_c (ea_cons ev_c ea_nil))))))))))) (show (11 : Nat) ≤ 100000 by decide)) (ev_var rfl) hL (by rw [List.length_map, List.length_map]; show 11 + L.length ≤ 100000; omega)) (fun p hpB hpH => ?_) H e (Ex.refl H)
  have g1 : Gr H B (upd B p (.lst ((resS ++ L).map V.str))) := gr_new hpB hpH
  generalize hB1 : upd B p (.lst ((resS ++ L).map V.str)) = B1 at g1
  have hp1 : B1 p = some (.lst ((resS ++ L).map V.str)) := by rw [← hB1]; exact upd_same
  have hfl : ∀ l : List Str, (l.map V.str).all flatV = true := fun l => by
    rw [List.all_map]
    exact List.all_eq_true.mpr fun _ _ => rfl
  refine x_when (b := decide (st ∉ resS ++ L)) (et_test (ev_is (ev_op (ev_var rfl) (ev_var rfl) (rv_niL (sq_of hp1) rfl (hfl _))) (by rw [NM.inV_str]; simp))) (fun hb => ?_) (fun hb => ?_)
  · have hb := of_decide_eq_true hb
    refine fin g1 rfl (ev_is (ev_var rfl) ?_)
    unfold NM.unlike
    rw [if_neg hb]
  · have hb : st ∈ resS ++ L := Decidable.not_not.mp (of_decide_eq_false hb)
    have hun : ∀ {r : Option Nat}, NM.letL.find? (fun c => decide (NM.withL st c ∉ resS ++ L)) = r → NM.unlike st (resS ++ L) = (match r with | some c => NM.withL st c | none => st) := fun {r} hr => by
      unfold NM.unlike
      rw [if_pos hb, hr]
      all_goals (cases r <;> rfl)
    refine x_for (F := B1) (Ex.refl _) (NM.ei_str (s := "abcdefghijklmnopqrstuvwxyz") ev_c) (fun F' ys i σ' B' => B' = F' ∧ (∃ y, σ' = [some (V.str st), some (.ref a), some (.ref p), y]) ∧ ∀ j d, j < i → NM.letL[j]? = some d → decide (NM.withL st d ∉ resS ++ L) = false) (fun F' ys g hy av => ⟨NM.mrg_self g.ex, ⟨none, rfl⟩, fun j d hj => absurd hj (Nat.not_lt_zero _)⟩) (fun F' ys i σ' B' h => h.1 ▸ Ex.refl _) (fun F' ys i x σ' B' g hy hxi h => ?_) (fun F' ys σ' B' g hy h => ?_)
    · obtain ⟨rfl, ⟨y, rfl⟩, hall⟩ := h
      subst hy
      have hxi' : (NM.letL.map fun c => V.str ⟨#[c]⟩)[i]? = some x := by
        have : NM.chV "abcdefghijklmnopqrstuvwxyz" = NM.letL.map fun c => V.str ⟨#[c]⟩ := by
          unfold NM.chV
          rw [show ("abcdefghijklmnopqrstuvwxyz" : Str).cps.toList = NM.letL by decide +kernel]
        rw [← this]
        exact hxi
      rw [List.getElem?_map] at hxi'
      cases hc : NM.letL[i]? with
      | none => rw [hc] at hxi'; exact nomatch hxi'
      | some c =>
        rw [hc] at hxi'
        have hx : V.str ⟨#[c]⟩ = x := Option.some.inj hxi'
        subst hx
        have hcl : (cutS st none (some (-1))).length ≤ 12 := by
          have : (NM.cutL st).cps.toList.length ≤ 12 := by
            rw [NM.cutL_list hst.pos, List.length_take]
            have := hst.few
            omega
          rw [Array.length_toList] at this
          exact this
        have hev : ∀ {te : TE}, True := fun {te} => trivial
        refine x_last (x_when (b := decide (NM.withL st c ∉ resS ++ L)) (et_test (ev_is (ev_op (ev_op (NM.ev_slS (ev_var rfl) eo_none (eo_some (ev_un ev_c ru_neg)) (by omega)) (ev_var rfl) (rv_addS (by show _ + 1 ≤ 100000; omega))) (ev_var rfl) (rv_niL (sq_of (g.ex _ _ hp1)) rfl (hfl _))) (by rw [NM.inV_str]; simp; rfl))) (fun hb2 => ?_) (fun hb2 => ?_))
        · refine fin (g1.trans g) rfl (ev_is (ev_op (NM.ev_slS (ev_var rfl) eo_none (eo_some (ev_un ev_c ru_neg)) (by omega)) (ev_var rfl) (rv_addS (by show _ + 1 ≤ 100000; omega))) ?_)
          rw [hun (NM.find_at (p := fun c => decide (NM.withL st c ∉ resS ++ L)) hc hb2 hall)]
          rfl
        · exact x_nx rfl ⟨rfl, ⟨_, rfl⟩, fun j d hj hd => by
            rcases Nat.lt_or_eq_of_le (Nat.le_of_lt_succ hj) with q | q
            · exact hall j d q hd
            · subst q
              rw [hc] at hd
              cases hd
              exact hb2⟩
    · obtain ⟨rfl, ⟨y, rfl⟩, hall⟩ := h
      refine fin (g1.trans g) rfl (ev_is (ev_var rfl) ?_)
      have hn : NM.letL.find? (fun c => decide (NM.withL st c ∉ resS ++ L)) = none := by
        rw [List.find?_eq_none]
        intro c hc
        obtain ⟨j, hj, rfl⟩ := List.mem_iff_getElem.mp hc
        have := hall j _ (by rw [hy]; show j < _; have : (NM.chV "abcdefghijklmnopqrstuvwxyz").length = 26 := by decide +kernel
                             rw [this]; exact hj) (List.getElem?_eq_getElem hj)
        rw [this]
        exact Bool.false_ne_true
      rw [hun hn]
end Kx
namespace Kx
open PySem PySem.Spec PyProof.Rows L2 Evl LX T XV RX WS
variable {P : Program} {w : World} {K : PySem.W.Frag} {mg : Str → Option Value} {base : Heap}
/-! ### drawn digits, over the readings -/
theorem el_digits {σ : L2.St} {B : Hp} {tc tl : TE} {c : Int} {sizes : List Int} (hc : Ev tc σ B (.int c)) (hl : EvL tl σ B (sizes.map V.int)) (hs : ∀ s ∈ sizes, 0 < s ∧ s < 1073741824) (hz : sizes.length ≤ 1000) : EvL (tCall (spL (dDigits K)) [] E0 (tCons tc (tCons tl tNil))) σ B ((digitsOf c sizes).map V.int) :=
  el_callP (eap_cons hc (eap_consL hl eap_nil)) fun vs H1 e h => spL_at fun H2 e2 => by
    obtain ⟨r, rfl, p, r2, rfl, hp, rfl⟩ := h
    exact ⟨c, p, sizes, rfl, sq_of (e2 _ _ hp), hs, hz, rfl⟩
theorem ev_cell {σ : L2.St} {B : Hp} {ts tk : TE} {a : Addr} {ns : List Int} {k : Int} (hs : Ev ts σ B (.ref a)) (hS : SqL K B a (ns.map V.int)) (hk : Ev tk σ B (.int k)) (h0 : 0 ≤ k) (h1 : k < 100000) (hn : ns.length < 100000) : Ev (tCall (spV (dCell K)) [] E0 (tCons ts (tCons tk tNil))) σ B (.int (cellOf ns k)) := fun H1 e Q q =>
  hs H1 e _ fun H2 e2 => hk H2 (e.trans e2) _ fun H3 e3 => ⟨_, ⟨a, ns, k, rfl, ex_l ((e.trans e2).trans e3) hS, h0, h1, hn, rfl⟩, fun H4 e4 => q H4 ((e2.trans e3).trans e4)⟩
theorem dg_bd {c : Int} {l : List Int} (hl : ∀ s ∈ l, 0 < s) {i : Nat} {s : Int} (e : l[i]? = some s) : 0 ≤ (digitsOf c l).getD i 0 ∧ (digitsOf c l).getD i 0 < s := by
  have h1 : i < (digitsOf c l).length := by
    rw [digits_len]
    exact (List.getElem?_eq_some_iff.mp e).1
  have h2 : (digitsOf c l)[i]? = some ((digitsOf c l).getD i 0) := by
    rw [List.getD_eq_getElem?_getD, List.getElem?_eq_getElem h1]
    rfl
  obtain ⟨s', e', a, b⟩ := digits_bd hl h2
  rw [e] at e'
  cases e'
  exact ⟨a, b⟩
/-! ### names -/
def IsNam : V → Hp → Prop := fun z _ => ∃ s, z = .str s ∧ NM.Nam s
def IsNames (n : Nat) : V → Hp → Prop := fun z B => ∃ (p : Addr) (L : List Str), z = .ref p ∧ B p = some (.lst (L.map V.str)) ∧ L.length = n ∧ L.Nodup ∧ ∀ s ∈ L, NM.Nam s ∧ s ∉ resS
instance {n : Nat} : Mo (IsNames n) := ⟨fun e ⟨p, L, h, q, r⟩ => ⟨p, L, h, e _ _ q, r⟩⟩
def dNames (K : PySem.W.Frag) : List V → Hp → (V → Hp → Prop) → Prop := fun vs B Pz => ∃ (a : Addr) (ns : List Int) (at_ many : Int), vs = [.ref a, .int at_, .int many] ∧ SqL K B a (ns.map V.int) ∧ ns.length < 100000 ∧ 0 ≤ at_ ∧ at_ ≤ 1000 ∧ 0 ≤ many ∧ many ≤ 12 ∧ Pz = IsNames many.toNat
def SZ1 : List Int := [5, 12, 12, 26, 12, 26] ++ List.replicate 11 36
def SZ2 : List Int := [12, 26] ++ List.replicate 11 36
theorem SZ1_ok : ∀ s ∈ SZ1, 0 < s ∧ s < 1073741824 := by decide
theorem SZ2_ok : ∀ s ∈ SZ2, 0 < s ∧ s < 1073741824 := by decide
theorem SZ1_get : ∀ k ∈ List.range 11, SZ1[6 + k]? = some 36 := by decide
theorem SZ2_get : ∀ k ∈ List.range 11, SZ2[2 + k]? = some 36 := by decide
abbrev law_names_N : List Str := ["script", "at", "many", "letters", "shape", "base", "alike", "place", "found", "j", "digits", "text", "k"]
abbrev law_names_P : List Str := ["script", "at", "many"]
theorem sc_law_names : FnScope ["script", "at", "many", "letters", "shape", "base", "alike", "place", "found", "j", "digits", "text", "k"] ["script", "at", "many"] (defScope s_law_names) := ⟨rfl, rfl, rfl, by decide +kernel, rfl, by decide +kernel, by decide +kernel⟩
theorem ok_names (T : TX K mg) : OkF P w K mg base 2 "_law_names" ["script", "at", "many"] (spR (dNames K)) := by
  have n_range := T.n "range" (by decide +kernel)
  have n_int := T.n "int" (by decide +kernel)
  have n_len := T.n "len" (by decide +kernel)
  refine T.okF 30 rfl (by decide +kernel) (fun f fd F => ?_) (fun _ _ _ _ _ _ us hl => match us, hl with | [_, _, _], _ => rfl)
  have O__law_digits := ok_digits (P := P) (w := w) (base := base) T
  have O__law_cell := ok_cell (P := P) (w := w) (base := base) T
  have O__law_unlike := ok_unlike (P := P) (w := w) (base := base) T
  refine F.ok sc_law_names (fun vs H Q E h => spR_len h (by rintro B Pz ⟨a, ns, k, m, rfl, _⟩; rfl)) (fun cdv A outer s H vs Q E hr ⟨B, Pz, e, ⟨a, ns, at_, many, hvs, hS, hn, ha0, ha1, hm0, hm1, hP⟩, q⟩ => ?_)
  subst hvs hP
  refine ⟨_, (pss_cons (ps_set (i := 3) sc_law_names.nd rfl (.inr rfl) pe_str)
        (pss_cons (ps_set (i := 4) sc_law_names.nd rfl (.inr rfl) (LX.pe_f O__law_digits hr (by decide) (pa_cons (LX.pe_f O__law_cell hr (by decide) (pa_cons (pv 0) (pa_cons (pv 1) pa_nil))) (pa_cons (pe_op op_cat (pe_lst (pa_cons pe_int (pa_cons pe_int (pa_cons pe_int (pa_cons pe_int (pa_cons pe_int (pa_cons pe_int pa_nil))))))) (pe_lc (own := [("k", 12)]) (g := gName 12) (tt := tYes) rfl sc_law_names.nd (pi_range1 (by rfl) n_range (pa_cons pe_int pa_nil)) (blkOk_by (N := law_names_N) (sc := defScope s_law_names) (by decide +kernel)) (fun _ _ _ _ _ => pg_name (i := 12) sc_law_names.nd rfl (Or.inl rfl)) (fun _ _ _ _ _ => pts_nil) (fun _ _ _ _ _ => pe_int))) pa_nil))))
        (pss_cons (ps_set (i := 5) sc_law_names.nd rfl (.inl rfl) (pe_op op_add_str (pe_ix ix_str (pv 3) (pe_ix (LX.k_ixl (K := K)) (pv 4) pe_int (fun _ _ => rfl)) (fun _ _ => rfl)) (pe_join pe_str (pe_lc (own := [("k", 12)]) (g := gName 12) (tt := tYes) rfl sc_law_names.nd (pi_range1 (by rfl) n_range (pa_cons pe_int pa_nil)) (blkOk_by (N := law_names_N) (sc := defScope s_law_names) (by decide +kernel)) (fun _ _ _ _ _ => pg_name (i := 12) sc_law_names.nd rfl (Or.inl rfl)) (fun _ _ _ _ _ => pts_nil) (fun _ _ _ _ _ => (pe_ix ix_str (pv 3) (pe_ix (LX.k_ixl (K := K)) (pv 4) (pe_op op_add pe_int (pv 12)) (fun _ _ => rfl)) (fun _ _ => rfl)))))))
        (pss_cons (ps_set (i := 6) sc_law_names.nd rfl (.inl rfl) (pe_slice sl_str (pv 5) po_none (po_some (pe_op op_add pe_int (pe_ix (LX.k_ixl (K := K)) (pv 4) pe_int (fun _ _ => rfl))))))
        (pss_cons (ps_set (i := 7) sc_law_names.nd rfl (.inl rfl) (pe_op op_mod (pe_callTy call_int1 (by rfl) n_int (by decide +kernel) (pa_cons (pe_ix (LX.k_ixl (K := K)) (pv 4) pe_int (fun _ _ => rfl)) pa_nil)) (pe_callB call_len_str (by rfl) n_len (by decide +kernel) (pa_cons (pv 6) pa_nil))))
        (pss_cons (ps_set (i := 8) sc_law_names.nd rfl (.inl rfl) (pe_lst pa_nil))
        (pss_cons (ps_for PassesOwn.never rfl (pi_range1 (by rfl) n_range (pa_cons (pv 2) pa_nil)) (pg_name (i := 9) sc_law_names.nd rfl (.inl rfl)) (pss_cons (ps_set (i := 10) sc_law_names.nd rfl (.inr rfl) (LX.pe_f O__law_digits hr (by decide) (pa_cons (LX.pe_f O__law_cell hr (by decide) (pa_cons (pv 0) (pa_cons (pe_op op_add (pe_op op_add (pv 1) pe_int) (pv 9)) pa_nil))) (pa_cons (pe_op op_cat (pe_lst (pa_cons pe_int (pa_cons pe_int pa_nil))) (pe_lc (own := [("k", 12)]) (g := gName 12) (tt := tYes) rfl sc_law_names.nd (pi_range1 (by rfl) n_range (pa_cons pe_int pa_nil)) (blkOk_by (N := law_names_N) (sc := defScope s_law_names) (by decide +kernel)) (fun _ _ _ _ _ => pg_name (i := 12) sc_law_names.nd rfl (Or.inl rfl)) (fun _ _ _ _ _ => pts_nil) (fun _ _ _ _ _ => pe_int))) pa_nil))))
        (pss_cons (ps_set (i := 11) sc_law_names.nd rfl (.inl rfl) (pe_op op_add_str (pe_ix ix_str (pv 3) (pe_ix (LX.k_ixl (K := K)) (pv 10) pe_int (fun _ _ => rfl)) (fun _ _ => rfl)) (pe_join pe_str (pe_lc (own := [("k", 12)]) (g := gName 12) (tt := tYes) rfl sc_law_names.nd (pi_range1 (by rfl) n_range (pa_cons (pe_ix (LX.k_ixl (K := K)) (pv 10) pe_int (fun _ _ => rfl)) pa_nil)) (blkOk_by (N := law_names_N) (sc := defScope s_law_names) (by decide +kernel)) (fun _ _ _ _ _ => pg_name (i := 12) sc_law_names.nd rfl (Or.inl rfl)) (fun _ _ _ _ _ => pts_nil) (fun _ _ _ _ _ => (pe_ix ix_str (pv 3) (pe_ix (LX.k_ixl (K := K)) (pv 10) (pe_op op_add pe_int (pv 12)) (fun _ _ => rfl)) (fun _ _ => rfl)))))))
        (pss_cons (ps_if (pw_or (pt_cmpR op_eq (pe_ix (LX.k_ixl (K := K)) (pv 4) pe_int (fun _ _ => rfl)) pe_int (nomark _)) (pw_or1 (pt_cmpR op_eq (pe_ix (LX.k_ixl (K := K)) (pv 4) pe_int (fun _ _ => rfl)) pe_int (nomark _)))).pt (pss_one (ps_set (i := 11) sc_law_names.nd rfl (.inl rfl) (pe_op op_add_str (pe_op op_add_str (pe_slice sl_str (pv 6) po_none (po_some (pv 7))) (pe_ix ix_str (pv 3) (pe_op op_mod (pe_callTy call_int1 (by rfl) n_int (by decide +kernel) (pa_cons (pe_op op_add (pe_ix (LX.k_ixl (K := K)) (pv 4) pe_int (fun _ _ => rfl)) (pe_op op_mul (pv 9) (pe_op op_add (pe_op op_mul pe_int (pe_ix (LX.k_ixl (K := K)) (pv 4) pe_int (fun _ _ => rfl))) pe_int))) pa_nil)) pe_int) (fun _ _ => rfl))) (pe_slice sl_str (pv 6) (po_some (pe_op op_add (pv 7) pe_int)) po_none)))) pss_nil)
        (pss_cons (ps_if (pt_cmpR op_eq (pe_ix (LX.k_ixl (K := K)) (pv 4) pe_int (fun _ _ => rfl)) pe_int (nomark _)) (pss_one (ps_set (i := 11) sc_law_names.nd rfl (.inl rfl) (pe_slice sl_str (pv 5) po_none (po_some (pe_op op_add pe_int (pe_op op_mod (pe_callTy call_int1 (by rfl) n_int (by decide +kernel) (pa_cons (pe_op op_add (pe_ix (LX.k_ixl (K := K)) (pv 4) pe_int (fun _ _ => rfl)) (pe_op op_mul pe_int (pv 9))) pa_nil)) pe_int)))))) pss_nil)
        (pss_one (ps_expr (pe_bm PySem.F.plainAttrs_list PySem.F.slot_list_append PySem.F.type_list_append mt_append (pv 8) (pa_cons (LX.pe_f O__law_unlike hr (by decide) (pa_cons (pv 11) (pa_cons (pv 8) pa_nil))) pa_nil)))))))))
        (pss_one (ps_ret (pv 8)))))))))), ?_⟩
  refine x_asgV (X := H) (B := B) (v := .str NM.letS) ev_c ?_ H e (Ex.refl H)
  refine x_asgL (xs := (digitsOf (cellOf ns at_) SZ1).map V.int) (el_digits (ev_cell (ev_var rfl) hS (ev_var rfl) ha0 (by omega) hn) (el_catN (xs := [.int 5, .int 12, .int 12, .int 26, .int 12, .int 26]) (el_lst (ea_cons ev_c (ea_cons ev_c (ea_cons ev_c (ea_cons ev_c (ea_cons ev_c (ea_cons ev_c ea_nil)))))) (show (6 : Nat) ≤ 100000 by decide)) (el_lcR1 (n := 11) (fun _ => true) (fun _ => .int 36) (ea_cons ev_c ea_nil) (by decide) (fun _ => rfl) (fun _ _ _ _ => et_yes) (fun i H1 e hi _ => ev_c)) (show 6 + 11 ≤ 100000 by decide)) SZ1_ok (by decide)) fun p1 h1B h1H => ?_
  have hb1 : ∀ i s, SZ1[i]? = some s → 0 ≤ (digitsOf (cellOf ns at_) SZ1).getD i 0 ∧ (digitsOf (cellOf ns at_) SZ1).getD i 0 < s := fun i s h => dg_bd (fun s hs => (SZ1_ok s hs).1) h
  have hl1 : (digitsOf (cellOf ns at_) SZ1).length = 17 := digits_len _ SZ1
  generalize hds : digitsOf (cellOf ns at_) SZ1 = ds at hb1 hl1
  have g1 : Gr H B (upd B p1 (.lst (ds.map V.int))) := gr_new h1B h1H
  generalize hB1 : upd B p1 (.lst (ds.map V.int)) = B1 at g1
  have hp1 : SqL K B1 p1 (ds.map V.int) := by rw [← hB1]; exact sq_of upd_same
  clear hB1 hds
  have d0 := hb1 0 5 rfl
  have d1 := hb1 1 12 rfl
  have d2 := hb1 2 12 rfl
  have d3 := hb1 3 26 rfl
  have d4 := hb1 4 12 rfl
  have d5 := hb1 5 26 rfl
  have ev_d : ∀ {σ : L2.St} {B' : Hp} {te tk : TE} {p : Addr} {l : List Int} {k : Nat}, Ev te σ B' (.ref p) → SqL K B' p (l.map V.int) → Ev tk σ B' (.int (k : Int)) → k < l.length → Ev (tOp (rIxL K) te tk) σ B' (.int (l.getD k 0)) := fun {σ B' te tk p l k} h1 h2 h3 h4 => by
    have := atI_int (ns := l) (k := (k : Int)) (by omega) (by omega)
    rw [Int.toNat_natCast] at this
    exact ev_op h1 h3 (rv_ixL h2 this)
  -- base
  refine x_asgV (v := .str (NM.mk (NM.lets.getD (ds.getD 5 0).toNat 0 :: (List.range 11).map fun k => NM.lets.getD (ds.getD (6 + k) 0).toNat 0))) (NM.ev_mkJoin (K := K) (NM.ev_letter (ev_var rfl) (ev_d (k := 5) (ev_var rfl) hp1 ev_c (by omega)) (by omega) (by omega)) ?_ (by rw [List.length_map, List.length_range]; decide)) ?_
  · have := el_lcR1 (σ := [some (V.ref a), some (.int at_), some (.int many), some (.str NM.letS), some (.ref p1), none, none, none, none, none, none, none, none]) (H := B1) (t := tYes) (te := tOp rIxS (tVar 3) (tOp (rIxL K) (tVar 4) (tOp (rI0 fun i j => .int (i + j)) (tC (.int 6)) (tVar 12)))) (ta := tCons (tC (.int 11)) tNil) (j := 12) (vs := [12]) (n := 11) (fun _ => true) (fun k => .str (NM.mk [NM.lets.getD (ds.getD (6 + k) 0).toNat 0])) (ea_cons ev_c ea_nil) (by decide) (fun _ => rfl) (fun _ _ _ _ => et_yes) (fun k H1 e1 hk _ => ?_)
    · rw [given_all] at this
      rw [List.map_map]
      exact this
    · have hk' := hb1 (6 + k) 36 (SZ1_get k (List.mem_range.mpr (by omega)))
      have e6 : (6 : Int) + (k : Int) = ((6 + k : Nat) : Int) := by omega
      exact NM.ev_letter (ev_var rfl) (ev_d (k := 6 + k) (ev_var rfl) (ex_l e1 hp1) (ev_is (ev_op ev_c (ev_var rfl) rv_I0) (congrArg V.int e6)) (by omega)) hk'.1 hk'.2
  have hbase : NM.Nam (NM.mk (NM.lets.getD (ds.getD 5 0).toNat 0 :: (List.range 11).map fun k => NM.lets.getD (ds.getD (6 + k) 0).toNat 0)) := NM.nam_mk (NM.lets_l (by omega)) (fun d hd => by
    obtain ⟨k, hk, rfl⟩ := List.mem_map.mp hd
    have hk := List.mem_range.mp hk
    have hk' := hb1 (6 + k) 36 (SZ1_get k (List.mem_range.mpr hk))
    exact NM.lets_ld (by omega)) (by rw [List.length_map, List.length_range]; decide)
  have hbl : (NM.lets.getD (ds.getD 5 0).toNat 0 :: (List.range 11).map fun k => NM.lets.getD (ds.getD (6 + k) 0).toNat 0).length = 12 := by rw [List.length_cons, List.length_map, List.length_range]
  generalize (NM.lets.getD (ds.getD 5 0).toNat 0 :: (List.range 11).map fun k => NM.lets.getD (ds.getD (6 + k) 0).toNat 0) = bl at hbase hbl
  -- alike
  refine x_asgV (v := .str (NM.mk (bl.take (1 + ds.getD 1 0).toNat))) (ev_is (NM.ev_slS (ev_var rfl) eo_none (eo_some (ev_op ev_c (ev_d (k := 1) (ev_var rfl) hp1 ev_c (by omega)) rv_I0)) (by rw [NM.mk_len]; omega)) (congrArg V.str (NM.cut_to (by omega)))) ?_
  have hal : NM.Nam (NM.mk (bl.take (1 + ds.getD 1 0).toNat)) := NM.nam_take hbase (by omega)
  have hall : (bl.take (1 + ds.getD 1 0).toNat).length = (1 + ds.getD 1 0).toNat := by rw [List.length_take]; omega
  have hall2 : (bl.take (1 + ds.getD 1 0).toNat).length ≤ 12 ∧ 1 ≤ (bl.take (1 + ds.getD 1 0).toNat).length := by omega
  generalize bl.take (1 + ds.getD 1 0).toNat = al at hal hall hall2
  -- place
  refine x_asgV (v := .int (ds.getD 2 0 % (al.length : Int))) (ev_is (ev_op (ev_int (ev_d (k := 2) (ev_var rfl) hp1 ev_c (by omega))) (ev_lenS (ev_var rfl) (by rw [NM.mk_len]; omega)) (rv_mod (by rw [NM.mk_len]; omega))) (by rw [NM.mk_len])) ?_
  have hpl : 0 ≤ ds.getD 2 0 % (al.length : Int) ∧ ds.getD 2 0 % (al.length : Int) < (al.length : Int) := ⟨Int.emod_nonneg _ (by omega), Int.emod_lt_of_pos _ (by omega)⟩
  generalize ds.getD 2 0 % (al.length : Int) = pl at hpl
  refine x_asgL (xs := []) (el_lst ea_nil (by decide)) fun p2 h2B h2H => ?_
  refine x_for (F := B1) (Ex.new h2B) (ei_rng1 (n := many) (ea_cons (ev_var rfl) ea_nil) (by omega)) (fun F' ys i σ' B' => ∃ (y1 y2 y3 y4 : Option V) (Bs : Hp) (L : List Str), σ' = [some (V.ref a), some (.int at_), some (.int many), some (.str NM.letS), some (.ref p1), some (.str (NM.mk bl)), some (.str (NM.mk al)), some (.int pl), some (.ref p2), y1, y2, y3, y4] ∧ B' = upd Bs p2 (.lst (L.map V.str)) ∧ Bs p2 = none ∧ Gr H F' Bs ∧ L.length = i ∧ L.Nodup ∧ ∀ s ∈ L, NM.Nam s ∧ s ∉ resS) (fun F' ys g hy av => ?_) (fun F' ys i σ' B' h => ?_) (fun F' ys i x σ' B' g hy hxi h => ?_) (fun F' ys σ' B' g hy h => ?_)
  · have hF : F' p2 = none := av p2 h2B (by rw [upd_same]; exact Option.some_ne_none _)
    exact ⟨none, none, none, none, F', [], rfl, mrg_upd g.ex hF, hF, Gr.refl _ _, rfl, List.nodup_nil, fun s h => nomatch h⟩
  · obtain ⟨y1, y2, y3, y4, Bs, L, rfl, rfl, hp, gs, _⟩ := h
    exact gs.ex.trans (Ex.new hp)
  · obtain ⟨y1, y2, y3, y4, Bs, L, rfl, rfl, hp, gs, hL, hnd, hLn⟩ := h
    have hx : x = .int (i : Int) ∧ i < many.toNat := by
      rw [hy] at hxi
      have hi := (List.getElem?_eq_some_iff.mp hxi).1
      rw [rngV_len] at hi
      unfold rngV at hxi
      rw [List.getElem?_map, List.getElem?_range hi] at hxi
      refine ⟨?_, hi⟩
      have := Option.some.inj hxi
      rw [← this]
      show V.int (0 + (i : Int)) = _
      rw [Int.zero_add]
    obtain ⟨rfl, hi⟩ := hx
    have gB' : Gr H B (upd Bs p2 (.lst (L.map V.str))) := (g1.trans (g.trans gs)).trans (gr_new hp h2H)
    have hS' := ex_l gB'.ex hS
    have hp1' : SqL K (upd Bs p2 (.lst (L.map V.str))) p1 (ds.map V.int) := ex_l ((g.ex.trans gs.ex).trans (Ex.new hp)) hp1
    refine x_asgL (xs := (digitsOf (cellOf ns (at_ + 1 + (i : Int))) SZ2).map V.int) (el_digits (ev_cell (ev_var rfl) hS' (ev_op (ev_op (ev_var rfl) ev_c rv_I0) (ev_var rfl) rv_I0) (by omega) (by omega) hn) (el_catN (xs := [.int 12, .int 26]) (el_lst (ea_cons ev_c (ea_cons ev_c ea_nil)) (show (2 : Nat) ≤ 100000 by decide)) (el_lcR1 (n := 11) (fun _ => true) (fun _ => .int 36) (ea_cons ev_c ea_nil) (by decide) (fun _ => rfl) (fun _ _ _ _ => et_yes) (fun i H1 e hi _ => ev_c)) (show 2 + 11 ≤ 100000 by decide)) SZ2_ok (by decide)) fun p3 h3B h3H => ?_
    have hb2 : ∀ k s, SZ2[k]? = some s → 0 ≤ (digitsOf (cellOf ns (at_ + 1 + (i : Int))) SZ2).getD k 0 ∧ (digitsOf (cellOf ns (at_ + 1 + (i : Int))) SZ2).getD k 0 < s := fun k s h => dg_bd (fun s hs => (SZ2_ok s hs).1) h
    have hl2 : (digitsOf (cellOf ns (at_ + 1 + (i : Int))) SZ2).length = 13 := digits_len _ SZ2
    generalize digitsOf (cellOf ns (at_ + 1 + (i : Int))) SZ2 = dt at hb2 hl2
    have g3 := gr_new (o := .lst (dt.map V.int)) h3B h3H
    have hp3 : SqL K (upd (upd Bs p2 (.lst (L.map V.str))) p3 (.lst (dt.map V.int))) p3 (dt.map V.int) := sq_of upd_same
    have h23 : (upd (upd Bs p2 (.lst (L.map V.str))) p3 (.lst (dt.map V.int))) p2 = some (.lst (L.map V.str)) := g3.ex _ _ upd_same
    have hp13 := ex_l g3.ex hp1'
    have gF3 : Gr H F' (upd (upd Bs p2 (.lst (L.map V.str))) p3 (.lst (dt.map V.int))) := (gs.trans (gr_new hp h2H)).trans g3
    generalize (upd (upd Bs p2 (.lst (L.map V.str))) p3 (.lst (dt.map V.int))) = B3 at hp3 h23 hp13 gF3
    have t0 := hb2 0 12 rfl
    have t1 := hb2 1 26 rfl
    obtain ⟨nn, hnn⟩ : ∃ nn : Nat, dt.getD 0 0 = (nn : Int) := ⟨(dt.getD 0 0).toNat, by omega⟩
    refine x_asgV (v := .str (NM.mk (NM.lets.getD (dt.getD 1 0).toNat 0 :: (List.range nn).map fun k => NM.lets.getD (dt.getD (2 + k) 0).toNat 0))) (NM.ev_mkJoin (K := K) (NM.ev_letter (ev_var rfl) (ev_d (k := 1) (ev_var rfl) hp3 ev_c (by omega)) (by omega) (by omega)) ?_ (by rw [List.length_map, List.length_range]; omega)) ?_
    · have := el_lcR1 (σ := [some (V.ref a), some (.int at_), some (.int many), some (.str NM.letS), some (.ref p1), some (.str (NM.mk bl)), some (.str (NM.mk al)), some (.int pl), some (.ref p2), some (.int (i : Int)), some (.ref p3), y3, y4]) (H := B3) (t := tYes) (te := tOp rIxS (tVar 3) (tOp (rIxL K) (tVar 10) (tOp (rI0 fun i j => .int (i + j)) (tC (.int 2)) (tVar 12)))) (ta := tCons (tOp (rIxL K) (tVar 10) (tC (.int 0))) tNil) (j := 12) (vs := [12]) (n := (nn : Int)) (fun _ => true) (fun k => .str (NM.mk [NM.lets.getD (dt.getD (2 + k) 0).toNat 0])) (ea_cons (hnn ▸ ev_d (k := 0) (ev_var rfl) hp3 ev_c (by omega)) ea_nil) (by omega) (fun _ => rfl) (fun _ _ _ _ => et_yes) (fun k H1 e1 hk _ => ?_)
      · rw [given_all, Int.toNat_natCast] at this
        rw [List.map_map]
        exact this
      · have hk' := hb2 (2 + k) 36 (SZ2_get k (List.mem_range.mpr (by omega)))
        have e6 : (2 : Int) + (k : Int) = ((2 + k : Nat) : Int) := by omega
        exact NM.ev_letter (ev_var rfl) (ev_d (k := 2 + k) (ev_var rfl) (ex_l e1 hp3) (ev_is (ev_op ev_c (ev_var rfl) rv_I0) (congrArg V.int e6)) (by omega)) hk'.1 hk'.2
    have htx : NM.Nam (NM.mk (NM.lets.getD (dt.getD 1 0).toNat 0 :: (List.range nn).map fun k => NM.lets.getD (dt.getD (2 + k) 0).toNat 0)) := NM.nam_mk (NM.lets_l (by omega)) (fun d hd => by
      obtain ⟨k, hk, rfl⟩ := List.mem_map.mp hd
      have hk := List.mem_range.mp hk
      have hk' := hb2 (2 + k) 36 (SZ2_get k (List.mem_range.mpr (by omega)))
      exact NM.lets_ld (by omega)) (by rw [List.length_map, List.length_range]; omega)
    generalize NM.mk (NM.lets.getD (dt.getD 1 0).toNat 0 :: (List.range nn).map fun k => NM.lets.getD (dt.getD (2 + k) 0).toNat 0) = tx at htx
    refine NM.x_ifAsg (P := IsNam) (v := .str tx) (b := decide (ds.getD 0 0 = 1) || decide (ds.getD 0 0 = 2)) (et_or (a := decide (ds.getD 0 0 = 1)) (et_test (ev_is (ev_op (ev_d (k := 0) (ev_var rfl) hp13 ev_c (by omega)) ev_c (rv_eq rfl)) (by simp))) fun _ => et_test (ev_is (ev_op (ev_d (k := 0) (ev_var rfl) hp13 ev_c (by omega)) ev_c (rv_eq rfl)) (by simp))) (fun _ => ?_) (fun _ => ⟨⟨tx, rfl, htx⟩, rfl⟩) fun z B4 g4 hz => ?_
    · have hm : 0 ≤ (ds.getD 3 0 + (i : Int) * (2 * ds.getD 4 0 + 1)) % 26 ∧ (ds.getD 3 0 + (i : Int) * (2 * ds.getD 4 0 + 1)) % 26 < 26 := ⟨Int.emod_nonneg _ (by decide), Int.emod_lt_of_pos _ (by decide)⟩
      refine rVp (v := .str (NM.mk (al.take pl.toNat ++ [NM.lets.getD ((ds.getD 3 0 + (i : Int) * (2 * ds.getD 4 0 + 1)) % 26).toNat 0] ++ al.drop (pl.toNat + 1)))) (ev_is (ev_op (ev_op (ev_is (NM.ev_slS (ev_var rfl) eo_none (eo_some (ev_var rfl)) (by rw [NM.mk_len]; omega)) (congrArg V.str (NM.cut_to hpl.1))) (NM.ev_letter (i := (ds.getD 3 0 + (i : Int) * (2 * ds.getD 4 0 + 1)) % 26) (ev_var rfl) (ev_op (ev_int (ev_op (ev_d (k := 3) (ev_var rfl) hp13 ev_c (by omega)) (ev_op (ev_var rfl) (ev_op (ev_op ev_c (ev_d (k := 4) (ev_var rfl) hp13 ev_c (by omega)) (rv_mulL (by omega))) ev_c rv_I0) (rv_mulL (by omega))) rv_I0)) ev_c (rv_mod (by decide))) hm.1 (by omega)) (rv_addS (by rw [NM.mk_len, NM.mk_len, List.length_take]; show _ + 1 ≤ _; omega))) (ev_is (NM.ev_slS (ev_var rfl) (eo_some (ev_op (ev_var rfl) ev_c rv_I0)) eo_none (by rw [NM.mk_len]; omega)) (congrArg V.str (NM.cut_from (by omega) (by omega)))) (rv_addS (by rw [NM.app_mk, NM.mk_len, NM.mk_len, List.length_append, List.length_take, List.length_drop]; show _ + 1 + _ ≤ _; omega))) ?_) ⟨_, rfl, ?_⟩
      · rw [NM.app_mk, NM.app_mk]
        have : (pl + 1).toNat = pl.toNat + 1 := by omega
        rw [this]
      · exact NM.nam_set hal (by omega) (NM.lets_l (by omega))
    obtain ⟨tx2, rfl, htx2⟩ := hz
    refine NM.x_ifAsg (P := IsNam) (v := .str tx2) (b := decide (ds.getD 0 0 = 3)) (et_test (ev_is (ev_op (ev_d (k := 0) (ev_var rfl) (ex_l g4.ex hp13) ev_c (by omega)) ev_c (rv_eq rfl)) (by simp))) (fun _ => ?_) (fun _ => ⟨⟨tx2, rfl, htx2⟩, rfl⟩) fun z B5 g5 hz => ?_
    · have hm : 0 ≤ (ds.getD 1 0 + 5 * (i : Int)) % 12 := Int.emod_nonneg _ (by decide)
      exact rVp (v := .str (NM.mk (bl.take (1 + (ds.getD 1 0 + 5 * (i : Int)) % 12).toNat))) (ev_is (NM.ev_slS (ev_var rfl) eo_none (eo_some (ev_op ev_c (ev_op (ev_int (ev_op (ev_d (k := 1) (ev_var rfl) (ex_l g4.ex hp13) ev_c (by omega)) (ev_op ev_c (ev_var rfl) (rv_mulL (by omega))) rv_I0)) ev_c (rv_mod (by decide))) rv_I0)) (by rw [NM.mk_len]; omega)) (congrArg V.str (NM.cut_to (by omega)))) ⟨_, rfl, NM.nam_take hbase (by omega)⟩
    obtain ⟨tx3, rfl, htx3⟩ := hz
    have h5 : B5 p2 = some (.lst (L.map V.str)) := g5.ex _ _ (g4.ex _ _ h23)
    have hu := NM.unlike_ok (barred := resS ++ L) htx3 (by rw [List.length_append]; show 11 + L.length < 26; omega)
    refine x_last (NM.x_appV (l := p2) h5 h2H (ev_var rfl) (er_callV (Dd := dUnlike K) (P := IsV (.str (NM.unlike tx3 (resS ++ L)))) (ea_cons (ev_var rfl) (ea_cons (ev_var rfl) ea_nil)) ⟨tx3, p2, L, rfl, h5, htx3, by omega, rfl⟩ fun B' e => ⟨tx3, p2, L, rfl, e _ _ h5, htx3, by omega, rfl⟩).val (by rw [List.length_map]; omega) ?_)
    have hF2 : F' p2 = none := none_of gs.ex hp
    have hgoal : L.map V.str ++ [V.str (NM.unlike tx3 (resS ++ L))] = (L ++ [NM.unlike tx3 (resS ++ L)]).map V.str := by rw [List.map_append]; rfl
    rw [hgoal]
    refine x_nx rfl ⟨_, _, _, _, RX.del B5 p2, L ++ [NM.unlike tx3 (resS ++ L)], rfl, NM.upd_del.symm, RX.del_same, NM.gr_del ((gF3.trans g4).trans g5) hF2, by rw [List.length_append, hL]; rfl, ?_, fun s hs => ?_⟩
    · refine List.nodup_append.mpr ⟨hnd, List.pairwise_singleton _ _, fun a ha b hb c => ?_⟩
      rw [List.mem_singleton] at hb
      subst c
      subst hb
      exact hu.2 (List.mem_append_right _ ha)
    · rcases List.mem_append.mp hs with c | c
      · exact hLn s c
      · rw [List.mem_singleton] at c
        subst c
        exact ⟨hu.1, fun c => hu.2 (List.mem_append_left _ c)⟩
  · obtain ⟨y1, y2, y3, y4, Bs, L, rfl, rfl, hp, gs, hL, hnd, hLn⟩ := h
    have hyl : ys.length = many.toNat := by rw [hy]; exact rngV_len
    exact x_ret (rVp (P := IsNames many.toNat) (ev_var rfl) ⟨p2, L, rfl, upd_same, by rw [hL, hyl], hnd, hLn⟩) (fun z' B' H' g2 hz e1 e2 => q z' H' B' e2 ((g1.trans ((g.trans gs).trans (gr_new hp h2H))).trans g2) e1 hz)
end Kx
namespace Kx
open PySem PySem.Spec PyProof.Rows L2 Evl LX T XV RX WS
variable {P : Program} {w : World} {K : PySem.W.Frag} {mg : Str → Option Value} {base : Heap}
theorem ev_dg {σ : L2.St} {B' : Hp} {te tk : TE} {p : Addr} {l : List Int} {k : Nat} (h1 : Ev te σ B' (.ref p)) (h2 : SqL K B' p (l.map V.int)) (h3 : Ev tk σ B' (.int (k : Int))) (h4 : k < l.length) : Ev (tOp (rIxL K) te tk) σ B' (.int (l.getD k 0)) := by
  have := atI_int (ns := l) (k := (k : Int)) (by omega) (by omega)
  rw [Int.toNat_natCast] at this
  exact ev_op h1 h3 (rv_ixL h2 this)
theorem A2.append {δ : Type} {Pd : δ → V → Hp → Prop} {B : Hp} {d1 d2 : List δ} {y1 y2 : List V} (h1 : A2 Pd d1 y1 B) (h2 : A2 Pd d2 y2 B) : A2 Pd (d1 ++ d2) (y1 ++ y2) B := by
  obtain ⟨l1, p1⟩ := h1
  obtain ⟨l2, p2⟩ := h2
  refine ⟨by rw [List.length_append, List.length_append, l1, l2], fun k y d hy hd => ?_⟩
  by_cases c : k < y1.length
  · rw [List.getElem?_append_left c] at hy
    rw [List.getElem?_append_left (by omega)] at hd
    exact p1 k y d hy hd
  · rw [List.getElem?_append_right (by omega)] at hy
    rw [List.getElem?_append_right (by omega)] at hd
    rw [← l1] at hd
    exact p2 _ y d hy hd
/-! ### form -/
def dForm (K : PySem.W.Frag) : List V → Hp → (V → Hp → Prop) → Prop := fun vs B Pz => ∃ (a : Addr) (flag : Int) (xs : List V), vs = [.ref a, .int flag] ∧ SqA K B a xs ∧ Pz = fun z B' => ∃ p, z = .ref p ∧ if flag = 1 then (B' p = some (.lst xs) ∧ B p = none) else SqT K B' p xs
abbrev law_form_N : List Str := ["parts", "flag"]
abbrev law_form_P : List Str := ["parts", "flag"]
theorem sc_law_form : FnScope ["parts", "flag"] ["parts", "flag"] (defScope s_law_form) := ⟨rfl, rfl, rfl, by decide +kernel, rfl, by decide +kernel, by decide +kernel⟩
theorem ok_form (T : TX K mg) : OkF P w K mg base 1 "_law_form" ["parts", "flag"] (spR (dForm K)) := by
  have n_list := T.n "list" (by decide +kernel)
  have n_tuple := T.n "tuple" (by decide +kernel)
  refine T.okF 32 rfl (by decide +kernel) (fun f fd F => ?_) (fun _ _ _ _ _ _ us hl => match us, hl with | [_, _], _ => rfl)
  refine F.ok sc_law_form (fun vs H Q E h => spR_len h (by rintro B Pz ⟨a, fl, xs, rfl, _⟩; rfl)) (fun cdv A outer s H vs Q E hr ⟨B, Pz, e, ⟨a, fl, xs, hvs, hx, hP⟩, q⟩ => ?_)
  subst hvs hP
  refine ⟨_, (pss_cons (ps_if (pt_cmpR op_eq (pv 1) pe_int (nomark _)) (pss_one (ps_ret (pe_callTy (LX.k_listOf (K := K)) (by rfl) n_list (by decide +kernel) (pa_cons (pv 0) pa_nil)))) pss_nil)
        (pss_one (ps_ret (pe_callTy (LX.k_tupOf (K := K)) (by rfl) n_tuple (by decide +kernel) (pa_cons (pv 0) pa_nil))))), ?_⟩
  have hsq : EvR (tVar 0) [some (V.ref a), some (.int fl)] B (SqP K fun ys _ => ys = xs) := rVp (ev_var rfl) ⟨a, xs, rfl, hx, rfl⟩
  refine x_when (X := H) (B := B) (b := decide (fl = 1)) (et_test (ev_is (ev_op (ev_var rfl) ev_c (rv_eq rfl)) (by simp))) (fun hb => ?_) (fun hb => ?_) H e (Ex.refl H)
  · have hb := of_decide_eq_true hb
    refine x_ret (EvR.imp (er_list (Py := fun ys _ => ys = xs) inferInstance hsq) (P' := fun z B' => ∃ p, z = .ref p ∧ if fl = 1 then (B' p = some (.lst xs) ∧ B p = none) else SqT K B' p xs) fun z B' _ ⟨p, ys, h1, h2, h3, h4⟩ => ?_) (fun z B' H' g p e1 e2 => q z H' B' e2 g e1 p)
    subst h4
    exact ⟨p, h1, by rw [if_pos hb]; exact ⟨h2, h3⟩⟩
  · have hb := of_decide_eq_false hb
    refine x_ret (EvR.imp (er_tup (Py := fun ys _ => ys = xs) inferInstance hsq) (P' := fun z B' => ∃ p, z = .ref p ∧ if fl = 1 then (B' p = some (.lst xs) ∧ B p = none) else SqT K B' p xs) fun z B' _ ⟨p, ys, h1, h2, h3⟩ => ?_) (fun z B' H' g p e1 e2 => q z H' B' e2 g e1 p)
    subst h3
    exact ⟨p, h1, by rw [if_neg hb]; exact h2⟩
/-! ### given -/
theorem a2_map {α δ : Type} {Pd : δ → V → Hp → Prop} {B : Hp} {r : α → δ} {v : α → V} : ∀ {l : List α}, (∀ k ∈ l, Pd (r k) (v k) B) → A2 Pd (l.map r) (l.map v) B
  | [], _ => a2_nil
  | a :: l, h => by
    have ih := a2_map (l := l) fun k hk => h k (List.mem_cons_of_mem _ hk)
    refine ⟨by rw [List.length_map, List.length_map], fun k y d hy hd => ?_⟩
    cases k with
    | zero =>
      cases hy
      cases hd
      exact h a List.mem_cons_self
    | succ k => exact ih.2 k y d hy hd
theorem rng_get {n i : Nat} {x : V} (h : (rngV 0 n)[i]? = some x) : x = .int (i : Int) ∧ i < n := by
  have hi := (List.getElem?_eq_some_iff.mp h).1
  rw [rngV_len] at hi
  unfold rngV at h
  rw [List.getElem?_map, List.getElem?_range hi] at h
  refine ⟨?_, hi⟩
  have := Option.some.inj h
  rw [← this]
  show V.int (0 + (i : Int)) = _
  rw [Int.zero_add]
/-- the scope of the comprehension that a def's statement stores -/
def lcScope (s : Stmt) (i : Nat) : Scope := match (defBody s).getD i (.Pass ⟨0, 0, 0, 0⟩) with
  | .Assign _ (.ListComp _ _ sc _) _ => sc
  | _ => defScope s
structure GivenAt (K : PySem.W.Frag) (big : Int) (z : V) (B : Hp) : Prop where
  ex : ∃ (p l : Addr) (ar : Int) (ys : List V) (R : List (List Int)), z = .ref p ∧ B p = some (.lst [.int ar, .ref l]) ∧ B l = some (.lst ys) ∧ A2 (IsTI K) R ys B ∧ 1 ≤ ar ∧ ar ≤ 3 ∧ (∀ r ∈ R, (r.length : Int) = ar ∧ TS.Bd big r) ∧ R.length ≤ 31
def dGiven (K : PySem.W.Frag) : List V → Hp → (V → Hp → Prop) → Prop := fun vs B Pz => ∃ (c big : Int), vs = [.int c, .int big] ∧ 2 ≤ big ∧ big ≤ 400 ∧ Pz = GivenAt K big
abbrev law_given_N : List Str := ["cell", "big", "digits", "wide", "many", "found", "k", "i"]
abbrev law_given_P : List Str := ["cell", "big"]
theorem sc_law_given : FnScope ["cell", "big", "digits", "wide", "many", "found", "k", "i"] ["cell", "big"] (defScope s_law_given) := ⟨rfl, rfl, rfl, by decide +kernel, rfl, by decide +kernel, by decide +kernel⟩
theorem ok_given (T : TX K mg) : OkF P w K mg base 2 "_law_given" ["cell", "big"] (spR (dGiven K)) := by
  have n_range := T.n "range" (by decide +kernel)
  have n_int := T.n "int" (by decide +kernel)
  have n_max := T.n "max" (by decide +kernel)
  have n_tuple := T.n "tuple" (by decide +kernel)
  refine T.okF 31 rfl (by decide +kernel) (fun f fd F => ?_) (fun _ _ _ _ _ _ us hl => match us, hl with | [_, _], _ => rfl)
  have O__law_digits := ok_digits (P := P) (w := w) (base := base) T
  refine F.ok sc_law_given (fun vs H Q E h => spR_len h (by rintro B Pz ⟨c, b, rfl, _⟩; rfl)) (fun cdv A outer s H vs Q E hr ⟨B, Pz, e, ⟨c, big, hvs, hg2, hg4, hP⟩, q⟩ => ?_)
  subst hvs hP
  refine ⟨_, (pss_cons (ps_set (i := 2) sc_law_given.nd rfl (.inr rfl) (LX.pe_f O__law_digits hr (by decide) (pa_cons (pv 0) (pa_cons (pe_op op_cat (pe_lst (pa_cons pe_int (pa_cons pe_int (pa_cons pe_int (pa_cons pe_int pa_nil))))) (pe_lc (own := [("k", 6)]) (g := gName 6) (tt := tYes) rfl sc_law_given.nd (pi_range1 (by rfl) n_range (pa_cons pe_int pa_nil)) (blkOk_by (N := law_given_N) (sc := defScope s_law_given) (by decide +kernel)) (fun _ _ _ _ _ => pg_name (i := 6) sc_law_given.nd rfl (Or.inl rfl)) (fun _ _ _ _ _ => pts_nil) (fun _ _ _ _ _ => (pv 1)))) pa_nil))))
        (pss_cons (ps_set (i := 3) sc_law_given.nd rfl (.inr rfl) (pe_op op_add pe_int (pe_ix (LX.k_ixl (K := K)) (pv 2) pe_int (fun _ _ => rfl))))
        (pss_cons (ps_set (i := 4) sc_law_given.nd rfl (.inr rfl) (pe_ix (LX.k_ixl (K := K)) (pe_lst (pa_cons (pe_op op_add pe_int (pe_op op_mod (pe_callTy call_int1 (by rfl) n_int (by decide +kernel) (pa_cons (pe_op op_add (pe_ix (LX.k_ixl (K := K)) (pv 2) pe_int (fun _ _ => rfl)) pe_int) pa_nil)) (pe_op op_fdiv pe_int (pv 3)))) (pa_cons pe_int (pa_cons pe_int pa_nil)))) (pe_callB (call_max2 rfl) (by rfl) n_max (by decide +kernel) (pa_cons (pe_op op_sub (pe_ix (LX.k_ixl (K := K)) (pv 2) pe_int (fun _ _ => rfl)) pe_int) (pa_cons pe_int pa_nil))) (fun _ _ => rfl)))
        (pss_cons (ps_set (i := 5) sc_law_given.nd rfl (.inr rfl) (pe_lc (own := [("k", 6)]) (g := gName 6) (tt := tYes) rfl sc_law_given.nd (pi_range1 (by rfl) n_range (pa_cons (pv 4) pa_nil)) (blkOk_by (N := law_given_N) (sc := defScope s_law_given) (by decide +kernel)) (fun _ _ _ _ _ => pg_name (i := 6) sc_law_given.nd rfl (Or.inr rfl)) (fun _ _ _ _ _ => pts_nil) (fun _ _ _ _ _ => (pe_callTy (LX.k_tupOf (K := K)) (by rfl) n_tuple (by decide +kernel) (pa_cons (pe_lc (own := [("i", 7)]) (g := gName 7) (tt := tYes) rfl sc_law_given.nd (pi_range1 (by rfl) n_range (pa_cons (pv 3) pa_nil)) (blkOk_by (N := law_given_N) (sc := { kind := .function, names := [(".0", .local), ("k", .cell), ("tuple", .globalImplicit), ("range", .globalImplicit), ("digits", .cell), ("wide", .cell)], isGenerator := false, isCoroutine := false }) (by decide +kernel)) (fun _ _ _ _ _ => pg_name (i := 7) sc_law_given.nd rfl (Or.inl rfl)) (fun _ _ _ _ _ => pts_nil) (fun _ _ _ _ _ => (pe_ix (LX.k_ixl (K := K)) (pv 2) (pe_op op_add (pe_op op_add pe_int (pe_op op_mul (pv 6) (pv 3))) (pv 7)) (fun _ _ => rfl)))) pa_nil)))))
        (pss_one (ps_ret (pe_lst (pa_cons (pv 3) (pa_cons (pe_op op_cat (pv 5) (pe_lc (own := [("k", 6)]) (g := gName 6) rfl sc_law_given.nd (pi_range1 (by rfl) n_range (pa_cons (pe_ix (LX.k_ixl (K := K)) (pv 2) pe_int (fun _ _ => rfl)) pa_nil)) (blkOk_by (N := law_given_N) (sc := defScope s_law_given) (by decide +kernel)) (fun _ _ _ _ _ => pg_name (i := 6) sc_law_given.nd rfl (Or.inl rfl)) (fun _ _ _ _ _ => pts_one (pt_cmpR op_gt (pv 4) pe_int (nomark _))) (fun _ _ _ _ _ => (pe_ix (LX.k_ixl (K := K)) (pv 5) (pe_op op_mod (pe_callTy call_int1 (by rfl) n_int (by decide +kernel) (pa_cons (pe_op op_add (pe_op op_mul pe_int (pv 6)) (pe_ix (LX.k_ixl (K := K)) (pv 2) pe_int (fun _ _ => rfl))) pa_nil)) (pv 4)) (fun _ _ => rfl))))) pa_nil))))))))), ?_⟩
  have hSZ : ∀ s ∈ ([3, 8, 20, 6] ++ List.replicate 57 big), 0 < s ∧ s < 1073741824 := fun s hs => by
    rcases List.mem_append.mp hs with h | h
    · have : s = 3 ∨ s = 8 ∨ s = 20 ∨ s = 6 := by simpa using h
      omega
    · rw [(List.mem_replicate.mp h).2]
      omega
  refine x_asgL (X := H) (B := B) (xs := (digitsOf c ([3, 8, 20, 6] ++ List.replicate 57 big)).map V.int) (el_digits (ev_var rfl) ?_ hSZ (by rw [List.length_append, List.length_replicate]; decide)) (fun p1 h1B h1H => ?_) H e (Ex.refl H)
  · have := el_catN (σ := [some (.int c), some (.int big), none, none, none, none, none, none]) (H := B) (xs := [.int 3, .int 8, .int 20, .int 6]) (el_lst (ea_cons ev_c (ea_cons ev_c (ea_cons ev_c (ea_cons ev_c ea_nil)))) (show (4 : Nat) ≤ 100000 by decide)) (el_lcR1 (n := 57) (j := 6) (vs := [6]) (t := tYes) (te := tVar 1) (ta := tCons (tC (.int 57)) tNil) (fun _ => true) (fun _ => .int big) (ea_cons ev_c ea_nil) (by decide) (fun _ => rfl) (fun _ _ _ _ => et_yes) (fun i H1 e hi _ => ev_var rfl)) (show 4 + 57 ≤ 100000 by decide)
    rw [given_all] at this
    exact this
  have hb1 : ∀ i s, ([3, 8, 20, 6] ++ List.replicate 57 big)[i]? = some s → 0 ≤ (digitsOf c ([3, 8, 20, 6] ++ List.replicate 57 big)).getD i 0 ∧ (digitsOf c ([3, 8, 20, 6] ++ List.replicate 57 big)).getD i 0 < s := fun i s h => dg_bd (fun s hs => (hSZ s hs).1) h
  have hl1 : (digitsOf c ([3, 8, 20, 6] ++ List.replicate 57 big)).length = 61 := by rw [digits_len, List.length_append, List.length_replicate]; rfl
  have hbig : ∀ k, k < 57 → ([3, 8, 20, 6] ++ List.replicate 57 big)[4 + k]? = some big := fun k hk => by
    rw [List.getElem?_append_right (by show 4 ≤ 4 + k; omega)]
    show (List.replicate 57 big)[4 + k - 4]? = _
    rw [List.getElem?_replicate, if_pos (by omega)]
  have d0 := hb1 0 3 rfl
  have d1 := hb1 1 8 rfl
  have d2 := hb1 2 20 rfl
  have d3 := hb1 3 6 rfl
  have dk : ∀ k, k < 57 → 0 ≤ (digitsOf c ([3, 8, 20, 6] ++ List.replicate 57 big)).getD (4 + k) 0 ∧ (digitsOf c ([3, 8, 20, 6] ++ List.replicate 57 big)).getD (4 + k) 0 < big := fun k hk => hb1 (4 + k) big (hbig k hk)
  generalize digitsOf c ([3, 8, 20, 6] ++ List.replicate 57 big) = ds at d0 d1 d2 d3 dk hl1
  have g1 : Gr H B (upd B p1 (.lst (ds.map V.int))) := gr_new h1B h1H
  have hp1 : SqL K (upd B p1 (.lst (ds.map V.int))) p1 (ds.map V.int) := sq_of upd_same
  generalize upd B p1 (.lst (ds.map V.int)) = B1 at g1 hp1
  obtain ⟨wd, hwd⟩ : ∃ wd : Nat, 1 + ds.getD 0 0 = (wd : Int) := ⟨(1 + ds.getD 0 0).toNat, by omega⟩
  have hw3 : wd = 1 ∨ wd = 2 ∨ wd = 3 := by omega
  refine x_asgV (v := .int (wd : Int)) (ev_is (ev_op ev_c (ev_dg (k := 0) (ev_var rfl) hp1 ev_c (by omega)) rv_I0) (congrArg V.int hwd)) ?_
  have hq : 0 ≤ (ds.getD 2 0 + 5) % (57 / (wd : Int)) ∧ (ds.getD 2 0 + 5) % (57 / (wd : Int)) < 57 / (wd : Int) ∧ (ds.getD 2 0 + 5) % (57 / (wd : Int)) ≤ 24 ∧ 0 < 57 / (wd : Int) := by
    rcases hw3 with h | h | h <;> subst h <;> omega
  obtain ⟨m, hm, hat⟩ : ∃ m : Nat, (m * wd ≤ 57 ∧ m ≤ 25) ∧ atI [V.int (1 + (ds.getD 2 0 + 5) % (57 / (wd : Int))), .int 1, .int 0] (if (0 : Int) > ds.getD 1 0 - 5 then 0 else ds.getD 1 0 - 5) = some (.int (m : Int)) := by
    by_cases h5 : ds.getD 1 0 ≤ 5
    · refine ⟨(1 + (ds.getD 2 0 + 5) % (57 / (wd : Int))).toNat, ?_, ?_⟩
      · rcases hw3 with h | h | h <;> subst h <;> omega
      · have e : (if (0 : Int) > ds.getD 1 0 - 5 then 0 else ds.getD 1 0 - 5) = ((0 : Nat) : Int) := by split <;> omega
        rw [e, Int.toNat_of_nonneg (by omega)]
        exact atI_nat rfl
    · by_cases h6 : ds.getD 1 0 = 6
      · refine ⟨1, by rcases hw3 with h | h | h <;> subst h <;> omega, ?_⟩
        have e : (if (0 : Int) > ds.getD 1 0 - 5 then 0 else ds.getD 1 0 - 5) = ((1 : Nat) : Int) := by split <;> omega
        rw [e]
        exact atI_nat rfl
      · refine ⟨0, by omega, ?_⟩
        have e : (if (0 : Int) > ds.getD 1 0 - 5 then 0 else ds.getD 1 0 - 5) = ((2 : Nat) : Int) := by split <;> omega
        rw [e]
        exact atI_nat rfl
  refine x_asgV (v := .int (m : Int)) (ev_opL1 (xs := [V.int (1 + (ds.getD 2 0 + 5) % (57 / (wd : Int))), .int 1, .int 0]) (el_lst (ea_cons (ev_op ev_c (ev_op (ev_int (ev_op (ev_dg (k := 2) (ev_var rfl) hp1 ev_c (by omega)) ev_c rv_I0)) (ev_op ev_c (ev_var rfl) (rv_div (by omega))) (rv_mod hq.2.2.2)) rv_I0) (ea_cons ev_c (ea_cons ev_c ea_nil))) (show (3 : Nat) ≤ 100000 by decide)) (fun H1 e1 => ev_max2 (ev_op (ev_dg (k := 1) (ev_var rfl) (ex_l e1 hp1) ev_c (by omega)) ev_c rv_I0) ev_c) (fun p H1 hp _ => rv_ixL (sq_of hp) hat)) ?_
  have hix : ∀ k i, k < m → i < wd → 4 + (k * wd + i) < 61 ∧ k * wd + i < 57 := fun k i hk hi => by
    have : k * wd + wd ≤ m * wd := by rw [← Nat.succ_mul]; exact Nat.mul_le_mul_right _ hk
    omega
  have hrow : ∀ k, k < m → (((List.range wd).map fun i => ds.getD (4 + (k * wd + i)) 0).length : Int) = (wd : Int) ∧ TS.Bd big ((List.range wd).map fun i => ds.getD (4 + (k * wd + i)) 0) := fun k hk => ⟨by rw [List.length_map, List.length_range], fun x hx => by
    obtain ⟨i, hi, rfl⟩ := List.mem_map.mp hx
    exact dk _ (hix k i hk (List.mem_range.mp hi)).2⟩
  refine x_asg (P := fun z B' => ∃ (p : Addr) (ys : List V), z = .ref p ∧ B' p = some (.lst ys) ∧ A2 (IsTI K) ((List.range m).map fun k => (List.range wd).map fun i => ds.getD (4 + (k * wd + i)) 0) ys B') (er_lc1 (Pd := IsTI K) (xs := rngV 0 m) (fun _ => inferInstance) (ei_rng1 (n := (m : Int)) (ea_cons (ev_var rfl) ea_nil) (by omega)) (by rw [rngV_len]; omega) (by rw [rngV_len, List.length_map, List.length_range]) (fun _ => rfl) (fun k x B' d e1 hx hd => ?_)) fun z B2 g2 ⟨pf, ys, hz, hpf, hys⟩ => ?_
  · obtain ⟨rfl, hk⟩ := rng_get hx
    rw [List.getElem?_map, List.getElem?_range hk] at hd
    have hd := Option.some.inj hd
    subst hd
    have hin := el_lcR1 (σ := [some (V.int c), some (.int big), some (.ref p1), some (.int (wd : Int)), some (.int (m : Int)), none, some (.int (k : Int)), none]) (H := B') (t := tYes) (te := tOp (rIxL K) (tVar 2) (tOp (rI0 fun i j => .int (i + j)) (tOp (rI0 fun i j => .int (i + j)) (tC (.int 4)) (tOp (rI CMul fun i j => .int (i * j)) (tVar 6) (tVar 3))) (tVar 7))) (ta := tCons (tVar 3) tNil) (j := 7) (vs := [7]) (n := (wd : Int)) (fun _ => true) (fun i => .int (ds.getD (4 + (k * wd + i)) 0)) (ea_cons (ev_var rfl) ea_nil) (by omega) (fun _ => rfl) (fun _ _ _ _ => et_yes) (fun i H1 e2 hi _ => by
      have hik := hix k i hk (by omega)
      have e4 : (4 : Int) + (k : Int) * (wd : Int) + (i : Int) = ((4 + (k * wd + i) : Nat) : Int) := by
        rw [Int.natCast_add, Int.natCast_add, Int.natCast_mul, Int.add_assoc]
        rfl
      exact ev_dg (k := 4 + (k * wd + i)) (ev_var rfl) (ex_l (e1.trans e2) hp1) (ev_is (ev_op (ev_op ev_c (ev_op (ev_var rfl) (ev_var rfl) (rv_mulL (by omega))) rv_I0) (ev_var rfl) rv_I0) (congrArg V.int e4)) (by omega))
    rw [given_all, Int.toNat_natCast] at hin
    exact EvR.imp (er_tup (Py := fun ys _ => ys = ((List.range wd).map fun i => ds.getD (4 + (k * wd + i)) 0).map V.int) inferInstance (EvR.imp (rL hin) fun z B3 _ ⟨p, h1, h2⟩ => ⟨p, _, h1, .inl (sq_of h2), by rw [List.map_map]; rfl⟩)) fun z B3 _ ⟨p, ys, h1, h2, h3⟩ => ⟨p, h1, h3 ▸ h2⟩
  · subst hz
    have hyl : ys.length = m := by rw [hys.1, List.length_map, List.length_range]
    obtain ⟨n3, hn3⟩ : ∃ n3 : Nat, ds.getD 3 0 = (n3 : Int) := ⟨(ds.getD 3 0).toNat, by omega⟩
    have hp1' := ex_l g2.ex hp1
    have hsec := el_lcR1 (σ := [some (V.int c), some (.int big), some (.ref p1), some (.int (wd : Int)), some (.int (m : Int)), some (.ref pf), none, none]) (H := B2) (t := tTest (tOp (rI0 fun i j => .bl (decide (j < i))) (tVar 4) (tC (.int 0)))) (te := tOp (rIxL K) (tVar 5) (tOp (rI (fun _ j => 0 < j) fun i j => .int (i % j)) (tCB (fun xs H Q => (∃ i, xs = [.int i] ∧ Q (.int i) H) ∨ ∃ k, xs = [.bl k] ∧ Q (.int (if k then 1 else 0)) H) (tCons (tOp (rI0 fun i j => .int (i + j)) (tOp (rI CMul fun i j => .int (i * j)) (tC (.int 7)) (tVar 6)) (tOp (rIxL K) (tVar 2) (tC (.int 2)))) tNil)) (tVar 4))) (ta := tCons (tOp (rIxL K) (tVar 2) (tC (.int 3))) tNil) (j := 6) (vs := [6]) (n := (n3 : Int)) (fun _ => decide (0 < m)) (fun k => ys.getD ((7 * (k : Int) + ds.getD 2 0) % (m : Int)).toNat .non) (ea_cons (hn3 ▸ ev_dg (k := 3) (ev_var rfl) hp1' ev_c (by omega)) ea_nil) (by omega) (fun _ => rfl) (fun k H1 e2 hk => et_test (ev_is (ev_op (ev_var rfl) ev_c rv_I0) (by simp))) (fun k H1 e2 hk hm0 => by
      have hm0 : 0 < m := of_decide_eq_true hm0
      have hmod : 0 ≤ (7 * (k : Int) + ds.getD 2 0) % (m : Int) ∧ (7 * (k : Int) + ds.getD 2 0) % (m : Int) < (m : Int) := ⟨Int.emod_nonneg _ (by omega), Int.emod_lt_of_pos _ (by omega)⟩
      refine ev_op (ev_var rfl) (ev_op (ev_int (ev_op (ev_op ev_c (ev_var rfl) (rv_mulL (by omega))) (ev_dg (k := 2) (ev_var rfl) (ex_l e2 hp1') ev_c (by omega)) rv_I0)) (ev_var rfl) (rv_mod (by omega))) (rv_ixL (sq_of (e2 _ _ hpf)) ?_)
      obtain ⟨r, hr⟩ : ∃ r : Nat, (7 * (k : Int) + ds.getD 2 0) % (m : Int) = (r : Int) := ⟨_, (Int.toNat_of_nonneg hmod.1).symm⟩
      rw [hr, Int.toNat_natCast]
      refine atI_nat ?_
      rw [List.getD_eq_getElem?_getD, List.getElem?_eq_getElem (by omega)]
      rfl)
    rw [Int.toNat_natCast] at hsec
    have hcat := el_cat (ta := tVar 5) (σ := [some (V.int c), some (.int big), some (.ref p1), some (.int (wd : Int)), some (.int (m : Int)), some (.ref pf), none, none]) (ev_var rfl) hpf hsec (by have := given_len n3 (fun _ => decide (0 < m)) (fun k => ys.getD ((7 * (k : Int) + ds.getD 2 0) % (m : Int)).toNat .non); omega)
    obtain ⟨cs, hcs⟩ : ∃ cs : List V, cs = ys ++ given n3 (fun _ => decide (0 < m)) (fun k => ys.getD ((7 * (k : Int) + ds.getD 2 0) % (m : Int)).toNat .non) := ⟨_, rfl⟩
    rw [← hcs] at hcat
    refine x_ret (P := GivenAt K big) (EvR.imp (er_lstN (Pa := fun vs B' => ∃ z r, vs = z :: r ∧ IsV (.int (wd : Int)) z B' ∧ ∃ z2 r2, r = z2 :: r2 ∧ IsNL cs z2 B' ∧ r2 = []) inferInstance (ear inferInstance (eR_v (ev_var rfl)) (ear inferInstance (rL hcat) ear_nil)) ?_) ?_) (fun z B' H' g p e1 e2 => q z H' B' e2 ((g1.trans g2).trans g) e1 p)
    · rintro vs B' ⟨z, r, rfl, _, z2, r2, rfl, _, rfl⟩
      show (2 : Nat) ≤ 100000
      decide
    · rintro z B' e3 ⟨p, vs, rfl, hp, z1, r, rfl, hz1, z2, r2, rfl, ⟨p2, rfl, hp2⟩, rfl⟩
      have hz1 : z1 = .int (wd : Int) := hz1
      subst hz1
      subst hcs
      refine ⟨p, p2, (wd : Int), _, ((List.range m).map fun k => (List.range wd).map fun i => ds.getD (4 + (k * wd + i)) 0) ++ ((List.range n3).filter fun _ => decide (0 < m)).map fun (k : Nat) => ((List.range m).map fun k => (List.range wd).map fun i => ds.getD (4 + (k * wd + i)) 0).getD ((7 * (k : Int) + ds.getD 2 0) % (m : Int)).toNat [], rfl, hp, hp2, A2.append (A2.mono (fun _ => inferInstance) e3 hys) (a2_map fun k hk => ?_), by omega, by omega, fun r hr => ?_, ?_⟩
      · have hm0 : 0 < m := of_decide_eq_true (List.mem_filter.mp hk).2
        have hmod : 0 ≤ (7 * (k : Int) + ds.getD 2 0) % (m : Int) ∧ (7 * (k : Int) + ds.getD 2 0) % (m : Int) < (m : Int) := ⟨Int.emod_nonneg _ (by omega), Int.emod_lt_of_pos _ (by omega)⟩
        have hlt : ((7 * (k : Int) + ds.getD 2 0) % (m : Int)).toNat < m := by omega
        generalize ((7 * (k : Int) + ds.getD 2 0) % (m : Int)).toNat = t at hlt
        refine Mo.mo e3 (hys.2 t _ _ ?_ ?_)
        · rw [List.getD_eq_getElem?_getD, List.getElem?_eq_getElem (by omega)]
          rfl
        · rw [List.getD_eq_getElem?_getD, List.getElem?_map, List.getElem?_range hlt]
          rfl
      · rcases List.mem_append.mp hr with h | h
        · obtain ⟨k, hk, rfl⟩ := List.mem_map.mp h
          exact hrow k (List.mem_range.mp hk)
        · obtain ⟨k, hk, rfl⟩ := List.mem_map.mp h
          have hm0 : 0 < m := of_decide_eq_true (List.mem_filter.mp hk).2
          have hmod : 0 ≤ (7 * (k : Int) + ds.getD 2 0) % (m : Int) ∧ (7 * (k : Int) + ds.getD 2 0) % (m : Int) < (m : Int) := ⟨Int.emod_nonneg _ (by omega), Int.emod_lt_of_pos _ (by omega)⟩
          have hlt : ((7 * (k : Int) + ds.getD 2 0) % (m : Int)).toNat < m := by omega
          generalize ((7 * (k : Int) + ds.getD 2 0) % (m : Int)).toNat = t at hlt
          rw [List.getD_eq_getElem?_getD, List.getElem?_map, List.getElem?_range hlt]
          exact hrow t hlt
      · rw [List.length_append, List.length_map, List.length_map, List.length_range]
        have := List.length_filter_le (fun _ => decide (0 < m)) (List.range n3)
        rw [List.length_range] at this
        omega
end Kx
namespace Kx
open PySem PySem.Spec PyProof.Rows L2 Evl LX T XV RX WS
variable {P : Program} {w : World} {K : PySem.W.Frag} {mg : Str → Option Value} {base : Heap}
theorem ev_whole {σ : L2.St} {B : Hp} {te : TE} {i : Int} (h : Ev te σ B (.int i)) : Ev (tCall (spV dWhole) [] E0 (tCons te tNil)) σ B (.bl true) := ev_call (ea_cons h ea_nil) (spV_at fun H' e => ⟨i, rfl, rfl⟩)
theorem ev_lenT {σ : L2.St} {B : Hp} {te : TE} {a : Addr} {xs : List V} (ha : Ev te σ B (.ref a)) (h : SqT K B a xs) : Ev (tCB (rLenS K) (tCons te tNil)) σ B (.int (xs.length : Int)) := ev_lenA ha (.inr h)
theorem atI_get {α : Type} {xs : List α} {k : Nat} {x : α} (h : xs[k]? = some x) : atI xs (k : Int) = some x := atI_nat h
/-! ### is_row -/
def dIsRow (K : PySem.W.Frag) : List V → Hp → (V → Hp → Prop) → Prop := fun vs B Pz => ∃ (a b : Addr) (r : List Int), vs = [.ref a, .ref b] ∧ SqT K B a (r.map V.int) ∧ SqT K B b (r.map V.int) ∧ r.length ≤ 40000 ∧ Pz = IsV (.bl true)
abbrev law_is_row_N : List Str := ["actual", "row", "k"]
abbrev law_is_row_P : List Str := ["actual", "row"]
theorem sc_law_is_row : FnScope ["actual", "row", "k"] ["actual", "row"] (defScope s_law_is_row) := ⟨rfl, rfl, rfl, by decide +kernel, rfl, by decide +kernel, by decide +kernel⟩
theorem ok_lrow (T : TX K mg) : OkF P w K mg base 2 "_law_is_row" ["actual", "row"] (spR (dIsRow K)) := by
  have n_isinstance := T.n "isinstance" (by decide +kernel)
  have n_tuple := T.n "tuple" (by decide +kernel)
  have n_len := T.n "len" (by decide +kernel)
  have n_range := T.n "range" (by decide +kernel)
  refine T.okF 35 rfl (by decide +kernel) (fun f fd F => ?_) (fun _ _ _ _ _ _ us hl => match us, hl with | [_, _], _ => rfl)
  have O__law_whole := ok_whole (P := P) (w := w) (base := base) T
  refine F.ok sc_law_is_row (fun vs H Q E h => spR_len h (by rintro B Pz ⟨a, b, r, rfl, _⟩; rfl)) (fun cdv A outer s H vs Q E hr ⟨B, Pz, e, ⟨a, b, r, hvs, hA, hB, hl, hP⟩, q⟩ => ?_)
  subst hvs hP
  refine ⟨_, (pss_cons (ps_if (pw_or (pt_not (pt_val (pe_callB (LX.k_isi (K := K)) (by rfl) n_isinstance (by decide +kernel) (pa_cons (pv 0) (pa_cons (pe_bltn (v := .ty "tuple") (u := .type "tuple") (by rfl) n_tuple (by decide +kernel) rfl) pa_nil))))) (pw_or1 (pt_cmpR op_ne (pe_callB (LX.k_len (K := K)) (by rfl) n_len (by decide +kernel) (pa_cons (pv 0) pa_nil)) (pe_callB (LX.k_len (K := K)) (by rfl) n_len (by decide +kernel) (pa_cons (pv 1) pa_nil)) (nomark _)))).pt (pss_one (ps_ret pe_bl)) pss_nil)
        (pss_cons (ps_for PassesOwn.never rfl (pi_range1 (by rfl) n_range (pa_cons (pe_callB (LX.k_len (K := K)) (by rfl) n_len (by decide +kernel) (pa_cons (pv 1) pa_nil)) pa_nil)) (pg_name (i := 2) sc_law_is_row.nd rfl (.inl rfl)) (pss_one (ps_if (pw_or (pt_not (pt_val (LX.pe_f O__law_whole hr (by decide) (pa_cons (pe_ix (LX.k_ixt (K := K)) (pv 0) (pv 2) (fun _ _ => rfl)) pa_nil)))) (pw_or1 (pt_cmpR op_ne (pe_ix (LX.k_ixt (K := K)) (pv 0) (pv 2) (fun _ _ => rfl)) (pe_ix (LX.k_ixt (K := K)) (pv 1) (pv 2) (fun _ _ => rfl)) (nomark _)))).pt (pss_one (ps_ret pe_bl)) pss_nil)))
        (pss_one (ps_ret pe_bl)))), ?_⟩
  have ht : ∀ H1, Ex B H1 → TyX K H1 (.ref a) (.type "tuple") := fun H1 e => sqt_ty (ex_t e hA)
  refine x_when (X := H) (B := B) (b := false) (et_is (et_or (a := false) (b := false) (et_not (a := true) (et_B (ev_isi (ev_var rfl) (.ty "tuple") ht (kit_ty (show kitB "tuple" "tuple" = _ by decide +kernel))))) (fun _ => et_test (ev_is (ev_op (ev_lenT (ev_var rfl) hA) (ev_lenT (ev_var rfl) hB) (rv_ne rfl)) (by simp)))) rfl) (fun h => nomatch h) (fun _ => ?_) H e (Ex.refl H)
  refine x_for (F := B) (Ex.refl _) (ei_rng1 (n := (r.length : Int)) (ea_cons (ev_is (ev_lenT (ev_var rfl) hB) (by rw [List.length_map])) ea_nil) (by omega)) (fun F' ys i σ' B' => B' = F' ∧ ∃ y, σ' = [some (V.ref a), some (.ref b), y]) (fun F' ys g hy av => ⟨NM.mrg_self g.ex, none, rfl⟩) (fun F' ys i σ' B' h => h.1 ▸ Ex.refl _) (fun F' ys i x σ' B' g hy hxi h => ?_) (fun F' ys σ' B' g hy h => ?_)
  · obtain ⟨rfl, y, rfl⟩ := h
    rw [hy] at hxi
    obtain ⟨rfl, hi⟩ := rng_get hxi
    rw [Int.toNat_natCast] at hi
    have hg : (r.map V.int)[i]? = some (.int r[i]) := by rw [List.getElem?_map, List.getElem?_eq_getElem hi]; rfl
    have eA := rv_ixT (K := K) (ex_t g.ex hA) (atI_get hg)
    have eB := rv_ixT (K := K) (ex_t g.ex hB) (atI_get hg)
    refine x_last (x_when (b := false) (et_is (et_or (a := false) (b := false) (et_not (a := true) (et_B (ev_whole (ev_op (ev_var rfl) (ev_var rfl) eA)))) (fun _ => et_test (ev_is (ev_op (ev_op (ev_var rfl) (ev_var rfl) eA) (ev_op (ev_var rfl) (ev_var rfl) eB) (rv_ne rfl)) (by simp)))) rfl) (fun h => nomatch h) (fun _ => x_nx rfl ⟨rfl, _, rfl⟩))
  · obtain ⟨rfl, y, rfl⟩ := h
    exact x_ret (eR_v ev_c) (fun z B' H' g2 p e1 e2 => q z H' B' e2 (g.trans g2) e1 p)
theorem ev_lrow {σ : L2.St} {B : Hp} {ta tb : TE} {a b : Addr} {r : List Int} (h1 : Ev ta σ B (.ref a)) (h2 : Ev tb σ B (.ref b)) (hA : SqT K B a (r.map V.int)) (hB : SqT K B b (r.map V.int)) (hl : r.length ≤ 40000) : Ev (tCall (spR (dIsRow K)) [] E0 (tCons ta (tCons tb tNil))) σ B (.bl true) :=
  (er_callV (P := IsV _) (ea_cons h1 (ea_cons h2 ea_nil)) ⟨a, b, r, rfl, hA, hB, hl, rfl⟩ fun B' e => ⟨a, b, r, rfl, ex_t e hA, ex_t e hB, hl, rfl⟩).val
/-! ### is_fact -/
def dIsFact (K : PySem.W.Frag) : List V → Hp → (V → Hp → Prop) → Prop := fun vs B Pz => ∃ (v : V) (b : Addr) (n : Str) (r : List Int), vs = [v, .str n, .ref b] ∧ FactAt K (n, r) v B ∧ SqT K B b (r.map V.int) ∧ r.length ≤ 40000 ∧ Pz = IsV (.bl true)
abbrev law_is_fact_N : List Str := ["actual", "word", "row"]
abbrev law_is_fact_P : List Str := ["actual", "word", "row"]
theorem sc_law_is_fact : FnScope ["actual", "word", "row"] ["actual", "word", "row"] (defScope s_law_is_fact) := ⟨rfl, rfl, rfl, by decide +kernel, rfl, by decide +kernel, by decide +kernel⟩
theorem ok_fact (T : TX K mg) : OkF P w K mg base 3 "_law_is_fact" ["actual", "word", "row"] (spR (dIsFact K)) := by
  have n_isinstance := T.n "isinstance" (by decide +kernel)
  have n_tuple := T.n "tuple" (by decide +kernel)
  have n_len := T.n "len" (by decide +kernel)
  have n_str := T.n "str" (by decide +kernel)
  refine T.okF 36 rfl (by decide +kernel) (fun f fd F => ?_) (fun _ _ _ _ _ _ us hl => match us, hl with | [_, _, _], _ => rfl)
  have O__law_is_row := ok_lrow (P := P) (w := w) (base := base) T
  refine F.ok sc_law_is_fact (fun vs H Q E h => spR_len h (by rintro B Pz ⟨v, b, n, r, rfl, _⟩; rfl)) (fun cdv A outer s H vs Q E hr ⟨B, Pz, e, ⟨v, b, n, r, hvs, hF, hB, hl, hP⟩, q⟩ => ?_)
  subst hvs hP
  refine ⟨_, (pss_cons (ps_if (pw_or (pt_not (pt_val (pe_callB (LX.k_isi (K := K)) (by rfl) n_isinstance (by decide +kernel) (pa_cons (pv 0) (pa_cons (pe_bltn (v := .ty "tuple") (u := .type "tuple") (by rfl) n_tuple (by decide +kernel) rfl) pa_nil))))) (pw_or (pt_cmpR op_ne (pe_callB (LX.k_len (K := K)) (by rfl) n_len (by decide +kernel) (pa_cons (pv 0) pa_nil)) pe_int (nomark _)) (pw_or1 (pt_not (pt_val (pe_callB (LX.k_isi (K := K)) (by rfl) n_isinstance (by decide +kernel) (pa_cons (pe_ix (LX.k_ixt (K := K)) (pv 0) pe_int (fun _ _ => rfl)) (pa_cons (pe_bltn (v := .ty "str") (u := .type "str") (by rfl) n_str (by decide +kernel) rfl) pa_nil)))))))).pt (pss_one (ps_ret pe_bl)) pss_nil)
        (pss_one (ps_ret (pe_and (pe_cmpR op_eq (pe_ix (LX.k_ixt (K := K)) (pv 0) pe_int (fun _ _ => rfl)) (pv 1) (nomark _)) (pe_one (LX.pe_f O__law_is_row hr (by decide) (pa_cons (pe_ix (LX.k_ixt (K := K)) (pv 0) pe_int (fun _ _ => rfl)) (pa_cons (pv 2) pa_nil)))))))), ?_⟩
  obtain ⟨a, c, rfl, hA, hC⟩ := hF
  have ht : ∀ H1, Ex B H1 → TyX K H1 (.ref a) (.type "tuple") := fun H1 e => sqt_ty (ex_t e hA)
  have e0 := rv_ixT (K := K) hA at2.1
  have e1 := rv_ixT (K := K) hA at2.2
  refine x_when (X := H) (B := B) (b := false) (et_is (et_or (a := false) (b := false) (et_not (a := true) (et_B (ev_isi (ev_var rfl) (.ty "tuple") ht (kit_ty (show kitB "tuple" "tuple" = _ by decide +kernel))))) (fun _ => et_is (et_or (a := false) (b := false) (et_test (ev_is (ev_op (ev_lenT (ev_var rfl) hA) ev_c (rv_ne rfl)) (by simp))) (fun _ => et_not (a := true) (et_B (ev_isi_str (ev_op (ev_var rfl) ev_c e0) (show kitB "str" "str" = _ by decide +kernel))))) rfl)) rfl) (fun h => nomatch h) (fun _ => ?_) H e (Ex.refl H)
  exact x_ret (eR_v (v := .bl true) (ev_is (ev_andV (a := true) (b := true) (ev_is (ev_op (ev_op (ev_var rfl) ev_c e0) (ev_var rfl) (rv_eq rfl)) (by simp)) fun _ => ev_lrow (ev_op (ev_var rfl) ev_c e1) (ev_var rfl) hC hB hl) rfl)) (fun z B' H' g2 p e1 e2 => q z H' B' e2 g2 e1 p)
theorem ev_lfact {σ : L2.St} {B : Hp} {ta tn tb : TE} {v : V} {b : Addr} {n : Str} {r : List Int} (h1 : Ev ta σ B v) (hn : Ev tn σ B (.str n)) (h2 : Ev tb σ B (.ref b)) (hF : FactAt K (n, r) v B) (hB : SqT K B b (r.map V.int)) (hl : r.length ≤ 40000) : Ev (tCall (spR (dIsFact K)) [] E0 (tCons ta (tCons tn (tCons tb tNil)))) σ B (.bl true) :=
  (er_callV (P := IsV _) (ea_cons h1 (ea_cons hn (ea_cons h2 ea_nil))) ⟨v, b, n, r, rfl, hF, hB, hl, rfl⟩ fun B' e => ⟨v, b, n, r, rfl, Mo.mo e hF, ex_t e hB, hl, rfl⟩).val
end Kx
namespace Kx
open PySem PySem.Spec PyProof.Rows L2 Evl LX T XV RX WS
variable {P : Program} {w : World} {K : PySem.W.Frag} {mg : Str → Option Value} {base : Heap}
/-! ### the law's model -/
def MEnt (K : PySem.W.Frag) (r : Rel) : V → Hp → Prop := fun v B => ∃ t q ys, v = .ref t ∧ B t = some (.lst [.int r.ar, .ref q]) ∧ B q = some (.lst ys) ∧ RowsAt K r.rows ys B
instance {r : Rel} : Mo (MEnt K r) := ⟨fun e ⟨t, q, ys, h, a, b, c⟩ => ⟨t, q, ys, h, e _ _ a, e _ _ b, MoA.mo e c⟩⟩
def MTab (K : PySem.W.Frag) (rels : List Rel) (kvs : List (Key × V)) (B : Hp) : Prop := kvs.map (·.1) = rels.map (fun r => (Sum.inr r.name : Key)) ∧ ∀ (i : Nat) (p : Key × V) (r : Rel), kvs[i]? = some p → rels[i]? = some r → MEnt K r p.2 B
theorem MTab.mono {rels : List Rel} {kvs : List (Key × V)} {B B' : Hp} (e : Ex B B') (h : MTab K rels kvs B) : MTab K rels kvs B' := ⟨h.1, fun i p r a b => Mo.mo e (h.2 i p r a b)⟩
theorem MTab.get {B : Hp} {s : Str} : ∀ {rels : List Rel} {kvs : List (Key × V)}, MTab K rels kvs B → s ∈ rels.map Rel.name → ∃ r v, rels.find? (fun r => decide (r.name = s)) = some r ∧ valV kvs (Sum.inr s) = some v ∧ MEnt K r v B
  | [], kvs, h, hs => nomatch hs
  | r :: rels, [], h, hs => by
    have := congrArg List.length h.1
    simp at this
  | r :: rels, p :: kvs, h, hs => by
    have h0 := h.1
    rw [List.map_cons, List.map_cons] at h0
    obtain ⟨hk, hk2⟩ := List.cons.inj h0
    have ht : MTab K rels kvs B := ⟨hk2, fun i q r' a b => h.2 (i + 1) q r' a b⟩
    rw [List.find?_cons]
    by_cases c : r.name = s
    · rw [decide_eq_true c]
      exact ⟨r, p.2, rfl, valV_pos (by rw [hk, c]), h.2 0 p r rfl rfl⟩
    · rw [decide_eq_false c]
      have hn : ¬ p.1 = Sum.inr s := fun z => c (by rw [hk] at z; exact Sum.inr.inj z)
      rw [valV_neg hn]
      rw [List.map_cons, List.mem_cons] at hs
      exact MTab.get ht (hs.resolve_left fun e => c e.symm)
structure RelsFit (rels : List Rel) : Prop where
  few : rels.length ≤ 12
  nd : (rels.map Rel.name).Nodup
  rows : ∀ n, (rowsIn rels n).length ≤ 63
  row : ∀ n, ∀ r ∈ rowsIn rels n, r.length ≤ 3
def dIsWorld (K : PySem.W.Frag) (P : Program) (w : World) (C : Addr) : List V → Hp → (V → Hp → Prop) → Prop := fun vs B Pz => ∃ (x m : Addr) (big : Int) (rels : List Rel) (kvs : List (Key × V)), vs = [.ref x, .int big, .ref m] ∧ WorldAt K P w C big rels x B ∧ B m = some (.dK kvs) ∧ MTab K rels kvs B ∧ RelsFit rels ∧ Pz = IsV (.bl true)
theorem facts_take {rels : List Rel} {ns : List Str} {i : Nat} {n : Str} (h : ns[i]? = some n) : (factsOf rels (ns.take (i + 1))).length = (factsOf rels (ns.take i)).length + (rowsIn rels n).length := by
  unfold factsOf
  rw [take_snoc h, List.flatMap_append, List.length_append]
  simp
theorem facts_at {rels : List Rel} {ns : List Str} {i j : Nat} {n : Str} {r : List Int} (h : ns[i]? = some n) (hr : (rowsIn rels n)[j]? = some r) : (factsOf rels ns)[(factsOf rels (ns.take i)).length + j]? = some (n, r) := by
  obtain ⟨hi, e⟩ := List.getElem?_eq_some_iff.mp h
  have hl : ns = ns.take i ++ n :: ns.drop (i + 1) := by rw [← e]; simp
  have : factsOf rels ns = factsOf rels (ns.take i) ++ ((rowsIn rels n).map (fun r => (n, r)) ++ factsOf rels (ns.drop (i + 1))) := by
    conv => lhs; rw [hl]
    unfold factsOf
    rw [List.flatMap_append, List.flatMap_cons]
  rw [this, List.getElem?_append_right (Nat.le_add_right _ _), Nat.add_sub_cancel_left]
  have hj := (List.getElem?_eq_some_iff.mp hr).1
  rw [List.getElem?_append_left (by rw [List.length_map]; exact hj), List.getElem?_map, hr]
  rfl
abbrev law_is_world_N : List Str := ["world", "big", "model", "known", "at", "k", "word", "wide", "told", "row", "i"]
abbrev law_is_world_P : List Str := ["world", "big", "model"]
theorem sc_law_is_world : FnScope ["world", "big", "model", "known", "at", "k", "word", "wide", "told", "row", "i"] ["world", "big", "model"] (defScope s_law_is_world) := ⟨rfl, rfl, rfl, by decide +kernel, rfl, by decide +kernel, by decide +kernel⟩
theorem ok_lworld (T : TX K mg) {C : Addr} (hC : Cls K C) (hN : ∀ f ∈ fieldsN, NoAttr K C f) (M_arity : OkM P w K mg base 2 C "arity" ["self", "name"] (spR (dArity K P w C))) (M_rows : OkM P w K mg base 2 C "rows" ["self", "name"] (spR (dRows K P w C))) : OkF P w K mg base 4 "_law_is_world" ["world", "big", "model"] (spR (dIsWorld K P w C)) := by
  have n_sorted := T.n "sorted" (by decide +kernel)
  have n_isinstance := T.n "isinstance" (by decide +kernel)
  have n_tuple := T.n "tuple" (by decide +kernel)
  have n_len := T.n "len" (by decide +kernel)
  have n_range := T.n "range" (by decide +kernel)
  have n_str := T.n "str" (by decide +kernel)
  refine T.okF 37 rfl (by decide +kernel) (fun f fd F => ?_) (fun _ _ _ _ _ _ us hl => match us, hl with | [_, _, _], _ => rfl)
  have O__law_whole := ok_whole (P := P) (w := w) (base := base) T
  have O__law_is_row := ok_lrow (P := P) (w := w) (base := base) T
  have O__law_is_fact := ok_fact (P := P) (w := w) (base := base) T
  refine F.ok sc_law_is_world (fun vs H Q E h => spR_len h (by rintro B Pz ⟨x, m, b, r, k, rfl, _⟩; rfl)) (fun cdv A outer s H vs Q E hr ⟨B, Pz, e, ⟨x, m, big, rels, kvs, hvs, hW, hm, hT, hfit, hP⟩, q⟩ => ?_)
  subst hvs hP
  refine ⟨_, (pss_cons (ps_set (i := 3) sc_law_is_world.nd rfl (.inl rfl) (pe_callB (RX.k_sortD rfl) (by rfl) n_sorted (by decide +kernel) (pa_cons (pv 2) pa_nil)))
        (pss_cons (ps_if (pw_or (pt_not (pt_val (LX.pe_f O__law_whole hr (by decide) (pa_cons (LX.k_fld (K := K) (pv 0) (by rfl)) pa_nil)))) (pw_or1 (pt_cmpR op_ne (LX.k_fld (K := K) (pv 0) (by rfl)) (pv 1) (nomark _)))).pt (pss_one (ps_ret pe_bl)) pss_nil)
        (pss_cons (ps_if (pw_or (pt_not (pt_val (pe_callB (LX.k_isi (K := K)) (by rfl) n_isinstance (by decide +kernel) (pa_cons (LX.k_fld (K := K) (pv 0) (by rfl)) (pa_cons (pe_bltn (v := .ty "tuple") (u := .type "tuple") (by rfl) n_tuple (by decide +kernel) rfl) pa_nil))))) (pw_or (pt_cmpR op_ne (pe_callB (LX.k_len (K := K)) (by rfl) n_len (by decide +kernel) (pa_cons (LX.k_fld (K := K) (pv 0) (by rfl)) pa_nil)) (pe_callB (LX.k_len (K := K)) (by rfl) n_len (by decide +kernel) (pa_cons (pv 3) pa_nil)) (nomark _)) (pw_or1 (pt_not (pt_val (pe_callB (LX.k_isi (K := K)) (by rfl) n_isinstance (by decide +kernel) (pa_cons (LX.k_fld (K := K) (pv 0) (by rfl)) (pa_cons (pe_bltn (v := .ty "tuple") (u := .type "tuple") (by rfl) n_tuple (by decide +kernel) rfl) pa_nil)))))))).pt (pss_one (ps_ret pe_bl)) pss_nil)
        (pss_cons (ps_set (i := 4) sc_law_is_world.nd rfl (.inl rfl) pe_int)
        (pss_cons (ps_for PassesOwn.never rfl (pi_range1 (by rfl) n_range (pa_cons (pe_callB (LX.k_len (K := K)) (by rfl) n_len (by decide +kernel) (pa_cons (pv 3) pa_nil)) pa_nil)) (pg_name (i := 5) sc_law_is_world.nd rfl (.inl rfl)) (pss_cons (ps_set (i := 6) sc_law_is_world.nd rfl (.inl rfl) (pe_ix (LX.k_ixl (K := K)) (pv 3) (pv 5) (fun _ _ => rfl)))
        (pss_cons (ps_if (pw_or (pt_not (pt_val (pe_callB (LX.k_isi (K := K)) (by rfl) n_isinstance (by decide +kernel) (pa_cons (pe_ix (LX.k_ixt (K := K)) (LX.k_fld (K := K) (pv 0) (by rfl)) (pv 5) (fun _ _ => rfl)) (pa_cons (pe_bltn (v := .ty "str") (u := .type "str") (by rfl) n_str (by decide +kernel) rfl) pa_nil))))) (pw_or1 (pt_cmpR op_ne (pe_ix (LX.k_ixt (K := K)) (LX.k_fld (K := K) (pv 0) (by rfl)) (pv 5) (fun _ _ => rfl)) (pv 6) (nomark _)))).pt (pss_one (ps_ret pe_bl)) pss_nil)
        (pss_cons (ps_set (i := 7) sc_law_is_world.nd rfl (.inl rfl) (RX.pe_m M_arity hC hr (by decide) (pv 0) (pa_cons (pv 6) pa_nil)))
        (pss_cons (ps_set (i := 8) sc_law_is_world.nd rfl (.inl rfl) (RX.pe_m M_rows hC hr (by decide) (pv 0) (pa_cons (pv 6) pa_nil)))
        (pss_cons (ps_if (pw_or (pt_not (pt_val (LX.pe_f O__law_whole hr (by decide) (pa_cons (pv 7) pa_nil)))) (pw_or1 (pt_cmpR op_ne (pv 7) (pe_ix (LX.k_ixl (K := K)) (pe_dget (LX.u1 hr) (pv 2) (pv 6) (fun _ _ => rfl)) pe_int (fun _ _ => rfl)) (nomark _)))).pt (pss_one (ps_ret pe_bl)) pss_nil)
        (pss_cons (ps_if (pw_or (pt_not (pt_val (pe_callB (LX.k_isi (K := K)) (by rfl) n_isinstance (by decide +kernel) (pa_cons (pv 8) (pa_cons (pe_bltn (v := .ty "tuple") (u := .type "tuple") (by rfl) n_tuple (by decide +kernel) rfl) pa_nil))))) (pw_or1 (pt_cmpR op_ne (pe_callB (LX.k_len (K := K)) (by rfl) n_len (by decide +kernel) (pa_cons (pv 8) pa_nil)) (pe_callB (LX.k_len (K := K)) (by rfl) n_len (by decide +kernel) (pa_cons (pe_ix (LX.k_ixl (K := K)) (pe_dget (LX.u1 hr) (pv 2) (pv 6) (fun _ _ => rfl)) pe_int (fun _ _ => rfl)) pa_nil)) (nomark _)))).pt (pss_one (ps_ret pe_bl)) pss_nil)
        (pss_cons (ps_for PassesOwn.never rfl (RX.k_pil (K := K) (pe_ix (LX.k_ixl (K := K)) (pe_dget (LX.u1 hr) (pv 2) (pv 6) (fun _ _ => rfl)) pe_int (fun _ _ => rfl))) (pg_name (i := 9) sc_law_is_world.nd rfl (.inl rfl)) (pss_cons (ps_if (pw_or (pt_cmpR op_ge (pv 4) (pe_callB (LX.k_len (K := K)) (by rfl) n_len (by decide +kernel) (pa_cons (LX.k_fld (K := K) (pv 0) (by rfl)) pa_nil)) (nomark _)) (pw_or1 (pt_not (pt_val (LX.pe_f O__law_is_fact hr (by decide) (pa_cons (pe_ix (LX.k_ixt (K := K)) (LX.k_fld (K := K) (pv 0) (by rfl)) (pv 4) (fun _ _ => rfl)) (pa_cons (pv 6) (pa_cons (pv 9) pa_nil)))))))).pt (pss_one (ps_ret pe_bl)) pss_nil)
        (pss_one (ps_set (i := 4) sc_law_is_world.nd rfl (.inl rfl) (pe_op op_add (pv 4) pe_int)))))
        (pss_one (ps_for PassesOwn.never rfl (pi_range1 (by rfl) n_range (pa_cons (pe_callB (LX.k_len (K := K)) (by rfl) n_len (by decide +kernel) (pa_cons (pv 8) pa_nil)) pa_nil)) (pg_name (i := 10) sc_law_is_world.nd rfl (.inl rfl)) (pss_one (ps_if (pt_not (pt_val (LX.pe_f O__law_is_row hr (by decide) (pa_cons (pe_ix (LX.k_ixt (K := K)) (pv 8) (pv 10) (fun _ _ => rfl)) (pa_cons (pe_ix (LX.k_ixl (K := K)) (pe_ix (LX.k_ixl (K := K)) (pe_dget (LX.u1 hr) (pv 2) (pv 6) (fun _ _ => rfl)) pe_int (fun _ _ => rfl)) (pv 10) (fun _ _ => rfl)) pa_nil))))) (pss_one (ps_ret pe_bl)) pss_nil))))))))))))
        (pss_one (ps_ret (pe_cmpR op_eq (pe_callB (LX.k_len (K := K)) (by rfl) n_len (by decide +kernel) (pa_cons (LX.k_fld (K := K) (pv 0) (by rfl)) pa_nil)) (pv 4) (nomark _))))))))), ?_⟩
  have hW0 := hW
  obtain ⟨dx, zn, pf, t, za, ps, tk, fs, st, ns, h1, ⟨pn, _, rfl, hpn, rfl⟩, h3, h4, h5, h6, h7, h8, h9, h10, hperm, hsort⟩ := hW
  refine x_asg (X := H) (B := B) (er_sortD (K := K) (ks := rels.map Rel.name) (ev_var rfl) hm (by rw [hT.1, List.map_map]; rfl) (by rw [List.length_map]; have := hfit.few; omega)) (fun z B1 g1 hz => ?_) H e (Ex.refl H)
  obtain ⟨pk, _, rfl, hpk, ns', rfl, hperm', hsort'⟩ := hz
  have hns : ns' = ns := SS.sorted_uniq hsort' hsort (hperm'.trans hperm.symm)
  subst hns
  have h1' := g1.ex _ _ h1
  have hpn' := ex_t g1.ex hpn
  have h3' := ex_t g1.ex h3
  have h4' : A2 (FactAt K) (factsOf rels ns') fs B1 := MoA.mo g1.ex h4
  have fld : ∀ {σ : L2.St} {B' : Hp} {te : TE} {f : Str} {v : V}, Ex B1 B' → Ev te σ B' (.ref x) → f ∈ fieldsN → ([("size", V.int big), ("names", .ref pn), ("facts", .ref pf), ("_tables", .ref t), ("_arities", za), ("_stands", .ref ps)] : List (Str × V)).lookup f = some v → Ev (tFld K te f) σ B' v := fun {σ B' te f v} e1 h hf hv => ev_fldI h (e1 _ _ h1') hC (hN f hf) hv
  have e11 := Ex.refl B1
  refine x_when (b := false) (et_is (et_or (a := false) (b := false) (et_not (a := true) (et_B (ev_whole (fld e11 (ev_var rfl) (by decide) rfl)))) (fun _ => et_test (ev_is (ev_op (fld e11 (ev_var rfl) (f := "size") (by decide) rfl) (ev_var rfl) (rv_ne rfl)) (by simp)))) rfl) (fun h => nomatch h) (fun _ => ?_)
  have htn : ∀ H1, Ex B1 H1 → TyX K H1 (.ref pn) (.type "tuple") := fun H1 e => sqt_ty (ex_t e hpn')
  have htf : ∀ H1, Ex B1 H1 → TyX K H1 (.ref pf) (.type "tuple") := fun H1 e => sqt_ty (ex_t e h3')
  refine x_when (b := false) (et_is (et_or (a := false) (b := false) (et_not (a := true) (et_B (ev_isi (fld e11 (ev_var rfl) (f := "names") (by decide) rfl) (.ty "tuple") htn (kit_ty (show kitB "tuple" "tuple" = _ by decide +kernel))))) (fun _ => et_is (et_or (a := false) (b := false) (et_test (ev_is (ev_op (ev_lenT (fld e11 (ev_var rfl) (f := "names") (by decide) rfl) hpn') (ev_len (ev_var rfl) hpk) (rv_ne rfl)) (by simp))) (fun _ => et_not (a := true) (et_B (ev_isi (fld e11 (ev_var rfl) (f := "facts") (by decide) rfl) (.ty "tuple") htf (kit_ty (show kitB "tuple" "tuple" = _ by decide +kernel)))))) rfl)) rfl) (fun h => nomatch h) (fun _ => ?_)
  refine x_asgV (v := .int 0) ev_c ?_
  have hnl : ns'.length ≤ 12 := by rw [hperm.length_eq, List.length_map]; exact hfit.few
  have hmem : ∀ n ∈ ns', n ∈ rels.map Rel.name := fun n hn => hperm.mem_iff.mp hn
  have hTm : MTab K rels kvs B1 := hT.mono g1.ex
  have hm1 := g1.ex _ _ hm
  have hW1 : WorldAt K P w C big rels x B1 := hW0.mono g1.ex
  refine x_for (F := B1) (Ex.refl _) (ei_rng1 (n := (ns'.length : Int)) (ea_cons (ev_is (ev_len (ev_var rfl) hpk) (by rw [List.length_map])) ea_nil) (by omega)) (fun F' ys i σ' B' => Ex F' B' ∧ Gr H B1 B' ∧ ∃ y1 y2 y3 y4 y5 y6 : Option V, σ' = [some (V.ref x), some (.int big), some (.ref m), some (.ref pk), some (.int ((factsOf rels (ns'.take i)).length : Int)), y1, y2, y3, y4, y5, y6]) (fun F' ys g hy av => ⟨by rw [NM.mrg_self g.ex]; exact Ex.refl _, by rw [NM.mrg_self g.ex]; exact g, none, none, none, none, none, none, rfl⟩) (fun F' ys i σ' B' h => h.1) (fun F' ys i xx σ' B' g hy hxi h => ?_) (fun F' ys σ' B' g hy h => ?_)
  · obtain ⟨eF, gB, y1, y2, y3, y4, y5, y6, rfl⟩ := h
    rw [hy] at hxi
    obtain ⟨rfl, hi⟩ := rng_get hxi
    rw [Int.toNat_natCast] at hi
    have hn : ns'[i]? = some ns'[i] := List.getElem?_eq_getElem hi
    generalize ns'[i] = n at hn
    have hnm : n ∈ rels.map Rel.name := hmem n (List.mem_of_getElem? hn)
    have hgn : (ns'.map V.str)[i]? = some (.str n) := by rw [List.getElem?_map, hn]; rfl
    have e1 := gB.ex
    refine x_asgV (v := .str n) (ev_op (ev_var rfl) (ev_var rfl) (rv_ixL (ex_l e1 hpk) (atI_get hgn))) ?_
    have hname : ∀ {σ : L2.St} {tk : TE}, σ[0]? = some (some (V.ref x)) → Ev tk σ B' (.int (i : Int)) → Ev (tOp (rIxT K) (tFld K (tVar 0) "names") tk) σ B' (.str n) := fun {σ tk} h hk => ev_op (fld e1 (ev_var h) (f := "names") (by decide) rfl) hk (rv_ixT (ex_t e1 hpn') (atI_get hgn))
    refine x_when (b := false) (et_is (et_or (a := false) (b := false) (et_not (a := true) (et_B (ev_isi_str (hname rfl (ev_var rfl)) (show kitB "str" "str" = _ by decide +kernel)))) (fun _ => et_test (ev_is (ev_op (hname rfl (ev_var rfl)) (ev_var rfl) (rv_ne rfl)) (by simp)))) rfl) (fun h => nomatch h) (fun _ => ?_)
    obtain ⟨r, v, hf, hv, tm, qm, ms, rfl, hm2, hm3, hm4⟩ := hTm.get hnm
    have har : arIn rels n = r.ar := arIn_some hf
    have hrw : rowsIn rels n = r.rows := rowsIn_some hf
    refine x_asgV (v := .int r.ar) (har ▸ (er_meth (P := IsV (.int (arIn rels n))) (ev_var rfl) (e1 _ _ h1') rfl (ea_cons (ev_var rfl) ea_nil) fun B'' e2 => ⟨x, big, rels, n, rfl, hW1.mono (e1.trans e2), hnm, rfl⟩).val) ?_
    refine x_asg (er_meth (P := TpP K (RowsAt K (rowsIn rels n))) (ev_var rfl) (e1 _ _ h1') rfl (ea_cons (ev_var rfl) ea_nil) fun B'' e2 => ⟨x, big, rels, n, rfl, hW1.mono (e1.trans e2), hnm, rfl⟩) fun z B2 g2 hz => ?_
    obtain ⟨pt, ts, rfl, hpt, hts⟩ := hz
    rw [hrw] at hts
    have gB2 := gB.trans g2
    have e2 := gB2.ex
    have hmv : ∀ {σ : L2.St}, σ[2]? = some (some (V.ref m)) → σ[6]? = some (some (.str n)) → ∀ {B3 : Hp}, Ex B1 B3 → Ev (tDGet (tVar 2) (tVar 6)) σ B3 (.ref tm) := fun {σ} h h' {B3} e3 => ev_dget (ev_var h) (ev_var h') (e3 _ _ hm1) hv
    have ix0 : ∀ {B3 : Hp}, Ex B1 B3 → RV (rIxL K) (.ref tm) (.int 0) B3 (.int r.ar) := fun {B3} e3 => rv_ixL (sq_of (e3 _ _ hm2)) (atI_nat (j := 0) rfl)
    have ix1 : ∀ {B3 : Hp}, Ex B1 B3 → RV (rIxL K) (.ref tm) (.int 1) B3 (.ref qm) := fun {B3} e3 => rv_ixL (sq_of (e3 _ _ hm2)) (atI_nat (j := 1) rfl)
    refine x_when (b := false) (et_is (et_or (a := false) (b := false) (et_not (a := true) (et_B (ev_whole (ev_var rfl)))) (fun _ => et_test (ev_is (ev_op (ev_var rfl) (ev_op (hmv rfl rfl e2) ev_c (ix0 e2)) (rv_ne rfl)) (by simp)))) rfl) (fun h => nomatch h) (fun _ => ?_)
    have htt : ∀ H1, Ex B2 H1 → TyX K H1 (.ref pt) (.type "tuple") := fun H1 e => sqt_ty (ex_t e hpt)
    refine x_when (b := false) (et_is (et_or (a := false) (b := false) (et_not (a := true) (et_B (ev_isi (ev_var rfl) (.ty "tuple") htt (kit_ty (show kitB "tuple" "tuple" = _ by decide +kernel))))) (fun _ => et_test (ev_is (ev_op (ev_lenT (ev_var rfl) hpt) (ev_len (ev_op (hmv rfl rfl e2) ev_c (ix1 e2)) (sq_of (e2 _ _ hm3))) (rv_ne rfl)) (by rw [hts.1, hm4.1]; simp)))) rfl) (fun h => nomatch h) (fun _ => ?_)
    have hr63 : r.rows.length ≤ 63 := by rw [← hrw]; exact hfit.rows n
    have hr3 : ∀ y ∈ r.rows, y.length ≤ 3 := by rw [← hrw]; exact hfit.row n
    refine x_for (F := B2) (Ex.refl _) (ei_list (ev_op (hmv rfl rfl e2) ev_c (ix1 e2)) (sq_of (e2 _ _ hm3))) (fun F2 ys2 j σ2 B3 => B3 = F2 ∧ ∃ y5 y6 : Option V, σ2 = [some (V.ref x), some (.int big), some (.ref m), some (.ref pk), some (.int (((factsOf rels (ns'.take i)).length + j : Nat) : Int)), some (.int (i : Int)), some (.str n), some (.int r.ar), some (.ref pt), y5, y6]) (fun F2 ys2 g3 hy3 av3 => ⟨NM.mrg_self g3.ex, y5, y6, rfl⟩) (fun F2 ys2 j σ2 B3 h => h.1 ▸ Ex.refl _) (fun F2 ys2 j x2 σ2 B3 g3 hy3 hx3 h => ?_) (fun F2 ys2 σ2 B3 g3 hy3 h => ?_)
    · obtain ⟨rfl, y7, y8, rfl⟩ := h
      subst hy3
      have hj := (List.getElem?_eq_some_iff.mp hx3).1
      obtain ⟨row, hrj⟩ : ∃ row, r.rows[j]? = some row := ⟨_, List.getElem?_eq_getElem (by rw [← hm4.1]; exact hj)⟩
      obtain ⟨b, rfl, hb⟩ := hm4.2 j x2 row hx3 hrj
      have e3 := e2.trans g3.ex
      have hfa := facts_at hn (by rw [hrw]; exact hrj)
      have hlt := (List.getElem?_eq_some_iff.mp hfa).1
      obtain ⟨fv, hfs⟩ : ∃ fv, fs[(factsOf rels (ns'.take i)).length + j]? = some fv := ⟨_, List.getElem?_eq_getElem (by rw [h4'.1]; exact hlt)⟩
      have hFA := h4'.2 _ fv (n, row) hfs hfa
      have hff : ∀ {σ : L2.St}, σ[0]? = some (some (V.ref x)) → Ev (tFld K (tVar 0) "facts") σ B3 (.ref pf) := fun {σ} h => fld e3 (ev_var h) (f := "facts") (by decide) rfl
      refine x_when (b := false) (et_is (et_or (a := false) (b := false) (et_test (ev_is (ev_op (ev_var rfl) (ev_lenT (hff rfl) (ex_t e3 h3')) rv_I0) (congrArg V.bl (decide_eq_false (by rw [h4'.1]; omega))))) (fun _ => et_not (a := true) (et_B (ev_lfact (ev_op (hff rfl) (ev_var rfl) (rv_ixT (ex_t e3 h3') (atI_get hfs))) (ev_var rfl) (ev_var rfl) (Mo.mo e3 hFA) (ex_t e3 (ex_t (Ex.refl _) hb)) (by have := hr3 row (List.mem_of_getElem? hrj); omega))))) rfl) (fun h => nomatch h) (fun _ => ?_)
      refine x_last (x_asgV (v := .int (((factsOf rels (ns'.take i)).length + (j + 1) : Nat) : Int)) (ev_is (ev_op (ev_var rfl) ev_c rv_I0) (congrArg V.int (by omega))) (x_nx rfl ⟨rfl, _, _, rfl⟩))
    · obtain ⟨rfl, y7, y8, rfl⟩ := h
      subst hy3
      have e3 := e2.trans g3.ex
      refine x_last (x_for (F := B3) (Ex.refl _) (ei_rng1 (n := (r.rows.length : Int)) (ea_cons (ev_is (ev_lenT (ev_var rfl) (ex_t g3.ex hpt)) (by rw [hts.1])) ea_nil) (by omega)) (fun F4 ys4 j σ2 B4 => B4 = F4 ∧ ∃ y6 : Option V, σ2 = [some (V.ref x), some (.int big), some (.ref m), some (.ref pk), some (.int (((factsOf rels (ns'.take i)).length + ys2.length : Nat) : Int)), some (.int (i : Int)), some (.str n), some (.int r.ar), some (.ref pt), y7, y6]) (fun F4 ys4 g5 hy5 av5 => ⟨NM.mrg_self g5.ex, y8, rfl⟩) (fun F4 ys4 j σ2 B4 h => h.1 ▸ Ex.refl _) (fun F4 ys4 j x2 σ2 B4 g5 hy5 hx5 h => ?_) (fun F4 ys4 σ2 B4 g5 hy5 h => ?_))
      · obtain ⟨rfl, y9, rfl⟩ := h
        rw [hy5] at hx5
        obtain ⟨rfl, hj⟩ := rng_get hx5
        rw [Int.toNat_natCast] at hj
        obtain ⟨row, hrj⟩ : ∃ row, r.rows[j]? = some row := ⟨_, List.getElem?_eq_getElem hj⟩
        obtain ⟨mv, hmj⟩ : ∃ mv, ys2[j]? = some mv := ⟨_, List.getElem?_eq_getElem (by rw [hm4.1]; exact hj)⟩
        obtain ⟨tv, htj⟩ : ∃ tv, ts[j]? = some tv := ⟨_, List.getElem?_eq_getElem (by rw [hts.1]; exact hj)⟩
        obtain ⟨b, rfl, hb⟩ := hm4.2 j mv row hmj hrj
        obtain ⟨a, rfl, ha⟩ := hts.2 j tv row htj hrj
        have e5 := e3.trans g5.ex
        refine x_last (x_when (b := false) (et_not (a := true) (et_B (ev_lrow (ev_op (ev_var rfl) (ev_var rfl) (rv_ixT (ex_t (g3.ex.trans g5.ex) hpt) (atI_get htj))) (ev_op (ev_op (hmv rfl rfl e5) ev_c (ix1 e5)) (ev_var rfl) (rv_ixL (sq_of (e5 _ _ hm3)) (atI_get hmj))) (ex_t (g3.ex.trans g5.ex) ha) (ex_t e5 hb) (by have := hr3 row (List.mem_of_getElem? hrj); omega)))) (fun h => nomatch h) (fun _ => x_nx rfl ⟨rfl, _, rfl⟩))
      · obtain ⟨rfl, y9, rfl⟩ := h
        have hoff : (factsOf rels (ns'.take (i + 1))).length = (factsOf rels (ns'.take i)).length + ys2.length := by rw [facts_take hn, hrw, hm4.1]
        exact x_nx rfl ⟨(eF.trans g2.ex).trans (g3.ex.trans g5.ex), (gB2.trans g3).trans g5, some (.int (i : Int)), some (.str n), some (.int r.ar), some (.ref pt), y7, y9, by rw [hoff]⟩
  · obtain ⟨eF, gB, y1, y2, y3, y4, y5, y6, rfl⟩ := h
    have hyl : ys.length = ns'.length := by rw [hy, rngV_len, Int.toNat_natCast]
    rw [hyl, List.take_length]
    exact x_ret (eR_v (v := .bl true) (ev_is (ev_op (ev_lenT (fld gB.ex (ev_var rfl) (f := "facts") (by decide) rfl) (ex_t gB.ex h3')) (ev_var rfl) (rv_eq rfl)) (by rw [h4'.1]; simp))) (fun z B' H' g2 p e1 e2 => q z H' B' e2 ((g1.trans gB).trans g2) e1 p)
end Kx
namespace Kx
open PySem PySem.Spec PyProof.Rows L2 Evl LX T XV RX WS
variable {P : Program} {w : World} {K : PySem.W.Frag} {mg : Str → Option Value} {base : Heap}
/-! ### model -/
/-- what _law_given gives, told: g its arity and rows -/
def GivenR (K : PySem.W.Frag) (g : Int × List (List Int)) : V → Hp → Prop := fun z B => ∃ (p l : Addr) (ys : List V), z = .ref p ∧ B p = some (.lst [.int g.1, .ref l]) ∧ B l = some (.lst ys) ∧ A2 (IsTI K) g.2 ys B
instance {g : Int × List (List Int)} : Mo (GivenR K g) := ⟨fun e ⟨p, l, ys, h, a, b, c⟩ => ⟨p, l, ys, h, e _ _ a, e _ _ b, A2.mono (fun _ => inferInstance) e c⟩⟩
def GivenOk (big : Int) (g : Int × List (List Int)) : Prop := 1 ≤ g.1 ∧ g.1 ≤ 3 ∧ (∀ r ∈ g.2, (r.length : Int) = g.1 ∧ TS.Bd big r) ∧ g.2.length ≤ 31
def relG (big : Int) (n : Str) (g : Int × List (List Int)) : Rel := ⟨n, g.1, AS.ascR big g.2⟩
def relsG (big : Int) (ns : List Str) (gs : List (Int × List (List Int))) : List Rel := List.zipWith (relG big) ns gs
def dModel (K : PySem.W.Frag) : List V → Hp → (V → Hp → Prop) → Prop := fun vs B Pz => ∃ (big : Int) (a b : Addr) (ns : List Str) (gs : List (Int × List (List Int))) (ts : List V), vs = [.ref a, .ref b] ∧ B a = some (.lst (ns.map V.str)) ∧ ns.Nodup ∧ ns.length ≤ 12 ∧ B b = some (.lst ts) ∧ A2 (GivenR K) gs ts B ∧ gs.length = ns.length ∧ (∀ g ∈ gs, GivenOk big g) ∧
  Pz = fun z B' => ∃ p kvs, z = .ref p ∧ B' p = some (.dK kvs) ∧ MTab K (relsG big ns gs) kvs B'
theorem dd_append {big : Int} {d : Nat} {S A : List (List Int)} {k : Nat} {r : List Int} (hS : S.Pairwise fun q r => TS.code big q ≤ TS.code big r) (hok : ∀ x ∈ S, AS.Ok big d x) (hr : S[k]? = some r) (hA : AS.Asc big A) (hm : ∀ x, x ∈ A ↔ x ∈ S.take k) (hl : A.getLast? = (S.take k).getLast?) (hne : A.getLast? ≠ some r) :
    AS.Asc big (A ++ [r]) ∧ (∀ x, x ∈ A ++ [r] ↔ x ∈ S.take (k + 1)) ∧ (A ++ [r]).getLast? = (S.take (k + 1)).getLast? := by
  have ht := take_snoc hr
  have hrm : r ∈ S := List.mem_of_getElem? hr
  refine ⟨?_, fun x => by rw [ht, List.mem_append, List.mem_append, hm], by rw [ht, List.getLast?_append, List.getLast?_append]; rfl⟩
  refine List.pairwise_append.mpr ⟨hA, List.pairwise_singleton _ _, fun x hx y hy => ?_⟩
  rw [List.mem_singleton] at hy
  subst hy
  have hle : TS.code big x ≤ TS.code big y := by
    have hx' := (hm x).mp hx
    have h2 : (S.take k ++ [y]).Pairwise fun q r => TS.code big q ≤ TS.code big r := by
      rw [← ht]
      exact List.Pairwise.sublist (List.take_sublist _ _) hS
    exact (List.pairwise_append.mp h2).2.2 x hx' y (List.mem_singleton.mpr rfl)
  rcases Int.lt_or_eq_of_le hle with c | c
  · exact c
  · exfalso
    have hxS : x ∈ S := List.mem_of_mem_take ((hm x).mp hx)
    have e := AS.ok_inj (hok x hxS) (hok y hrm) c
    subst e
    -- x is the last of A, since no larger one stands in A
    obtain ⟨l, hlast⟩ : ∃ l, A.getLast? = some l := by
      cases q : A.getLast? with
      | none => rw [List.getLast?_eq_none_iff] at q; rw [q] at hx; exact nomatch hx
      | some l => exact ⟨l, rfl⟩
    have hlA : l ∈ A := List.mem_of_getLast? hlast
    have hll : TS.code big l ≤ TS.code big x := by
      have hx' := (hm l).mp hlA
      have h2 : (S.take k ++ [x]).Pairwise fun q r => TS.code big q ≤ TS.code big r := by
        rw [← ht]
        exact List.Pairwise.sublist (List.take_sublist _ _) hS
      exact (List.pairwise_append.mp h2).2.2 l hx' x (List.mem_singleton.mpr rfl)
    have hne' : l ≠ x := fun c => hne (by rw [hlast, c])
    obtain ⟨A', hA'⟩ : ∃ A', A = A' ++ [l] := by
      have := List.getLast?_eq_some_iff.mp hlast
      exact this
    rw [hA'] at hx hA
    rcases List.mem_append.mp hx with h | h
    · have := (List.pairwise_append.mp hA).2.2 x h l (List.mem_singleton.mpr rfl)
      omega
    · rw [List.mem_singleton] at h
      exact hne' h.symm
theorem dd_skip {S A : List (List Int)} {k : Nat} {r : List Int} (hr : S[k]? = some r) (hm : ∀ x, x ∈ A ↔ x ∈ S.take k) (he : A.getLast? = some r) : (∀ x, x ∈ A ↔ x ∈ S.take (k + 1)) ∧ A.getLast? = (S.take (k + 1)).getLast? := by
  have ht := take_snoc hr
  refine ⟨fun x => ?_, by rw [ht, List.getLast?_append, he]; rfl⟩
  rw [ht, List.mem_append, hm, List.mem_singleton]
  exact ⟨.inl, fun h => h.elim id fun c => c ▸ (hm r).mp (List.mem_of_getLast? he)⟩
theorem sqt_del {B : Hp} {q p : Addr} {xs : List V} {kvs : List (Key × V)} (h : SqT K B q xs) (hp : B p = some (.dK kvs)) : SqT K (RX.del B p) q xs := by
  refine h.imp (fun h => ?_) id
  rcases h with h | ⟨o, h⟩
  · exact .inl (by rw [RX.del_ne fun c => by subst c; rw [hp] at h; exact nomatch h]; exact h)
  · exact .inr ⟨o, by rw [RX.del_ne fun c => by subst c; rw [hp] at h; exact nomatch h]; exact h⟩
theorem ex_del {B B' : Hp} {p : Addr} (e : Ex B B') (h : B p = none) : Ex B (RX.del B' p) := fun a o ha => by
  have c : a ≠ p := fun c => by subst c; rw [h] at ha; exact nomatch ha
  rw [RX.del_ne c]; exact e a o ha
theorem valV_no {kvs : List (Key × V)} {k : Key} (h : k ∉ kvs.map (·.1)) : valV kvs k = none := by
  unfold valV
  rw [Option.map_eq_none_iff, List.find?_eq_none]
  intro p hp c
  exact h (of_decide_eq_true c ▸ List.mem_map_of_mem hp)
theorem MTab.snoc {rels : List Rel} {kvs : List (Key × V)} {B : Hp} {r : Rel} {v : V} (h : MTab K rels kvs B) (hv : MEnt K r v B) : MTab K (rels ++ [r]) (kvs ++ [(Sum.inr r.name, v)]) B := by
  refine ⟨by rw [List.map_append, List.map_append, h.1]; rfl, fun i p r' hp hr => ?_⟩
  have hl : kvs.length = rels.length := by
    have := congrArg List.length h.1
    rw [List.length_map, List.length_map] at this
    exact this
  by_cases c : i < kvs.length
  · rw [List.getElem?_append_left c] at hp
    rw [List.getElem?_append_left (by omega)] at hr
    exact h.2 i p r' hp hr
  · have c2 := (List.getElem?_eq_some_iff.mp hp).1
    rw [List.length_append, List.length_singleton] at c2
    have c3 : i = kvs.length := by omega
    subst c3
    rw [List.getElem?_append_right (Nat.le_refl _), Nat.sub_self] at hp
    rw [hl, List.getElem?_append_right (Nat.le_refl _), Nat.sub_self] at hr
    cases hp
    cases hr
    exact hv
theorem relsG_get {big : Int} {ns : List Str} {gs : List (Int × List (List Int))} {i : Nat} {n : Str} {g : Int × List (List Int)} (h1 : ns[i]? = some n) (h2 : gs[i]? = some g) : (relsG big ns gs)[i]? = some (relG big n g) := by
  unfold relsG
  rw [List.getElem?_zipWith, h1, h2]
theorem relsG_names {big : Int} : ∀ {ns : List Str} {gs : List (Int × List (List Int))}, gs.length = ns.length → (relsG big ns gs).map Rel.name = ns
  | [], [], _ => rfl
  | [], _ :: _, h => by simp at h
  | _ :: _, [], h => by simp at h
  | n :: ns, g :: gs, h => by
    show n :: (relsG big ns gs).map Rel.name = _
    rw [relsG_names (by simpa using h)]
abbrev law_model_N : List Str := ["names", "tables", "model", "j", "alone", "row"]
abbrev law_model_P : List Str := ["names", "tables"]
theorem sc_law_model : FnScope ["names", "tables", "model", "j", "alone", "row"] ["names", "tables"] (defScope s_law_model) := ⟨rfl, rfl, rfl, by decide +kernel, rfl, by decide +kernel, by decide +kernel⟩
theorem ok_model (T : TX K mg) : OkF P w K mg base 1 "_law_model" ["names", "tables"] (spR (dModel K)) := by
  have n_range := T.n "range" (by decide +kernel)
  have n_len := T.n "len" (by decide +kernel)
  have n_sorted := T.n "sorted" (by decide +kernel)
  refine T.okF 34 rfl (by decide +kernel) (fun f fd F => ?_) (fun _ _ _ _ _ _ us hl => match us, hl with | [_, _], _ => rfl)
  refine F.ok sc_law_model (fun vs H Q E h => spR_len h (by rintro B Pz ⟨big, a, b, ns, gs, ts, rfl, _⟩; rfl)) (fun cdv A outer s H vs Q E hr ⟨B, Pz, e, ⟨big, a, b, ns, gs, ts, hvs, hA, hnd, hnl, hB, hG, hgl, hok, hP⟩, q⟩ => ?_)
  subst hvs hP
  refine ⟨_, (pss_cons (ps_set (i := 2) sc_law_model.nd rfl (.inl rfl) pe_dnewK)
        (pss_cons (ps_for PassesOwn.never rfl (pi_range1 (by rfl) n_range (pa_cons (pe_callB (LX.k_len (K := K)) (by rfl) n_len (by decide +kernel) (pa_cons (pv 0) pa_nil)) pa_nil)) (pg_name (i := 3) sc_law_model.nd rfl (.inl rfl)) (pss_cons (ps_set (i := 4) sc_law_model.nd rfl (.inl rfl) (pe_lst pa_nil))
        (pss_cons (ps_for PassesOwn.never rfl (RX.k_pil (K := K) (pe_callB (RX.k_sortRE (K := K)) (by rfl) n_sorted (by decide +kernel) (pa_cons (pe_ix (LX.k_ixl (K := K)) (pe_ix (LX.k_ixl (K := K)) (pv 1) (pv 3) (fun _ _ => rfl)) pe_int (fun _ _ => rfl)) pa_nil))) (pg_name (i := 5) sc_law_model.nd rfl (.inl rfl)) (pss_one (ps_if (pw_or (pt_cmpR op_eq (pe_callB (LX.k_len (K := K)) (by rfl) n_len (by decide +kernel) (pa_cons (pv 4) pa_nil)) pe_int (nomark _)) (pw_or1 (pt_cmpR (LX.k_neD (K := K) hr.units) (pe_ix (LX.k_ixl (K := K)) (pv 4) (pe_un un_neg pe_int) (fun _ _ => rfl)) (pv 5) (nomark _)))).pt (pss_one (ps_expr (pe_bm PySem.F.plainAttrs_list PySem.F.slot_list_append PySem.F.type_list_append mt_append (pv 4) (pa_cons (pv 5) pa_nil)))) pss_nil)))
        (pss_one (ps_dput (LX.u1 hr) (pv 2) (pe_ix (LX.k_ixl (K := K)) (pv 0) (pv 3) (fun _ _ => rfl)) (pe_lst (pa_cons (pe_ix (LX.k_ixl (K := K)) (pe_ix (LX.k_ixl (K := K)) (pv 1) (pv 3) (fun _ _ => rfl)) pe_int (fun _ _ => rfl)) (pa_cons (pv 4) pa_nil))) rfl)))))
        (pss_one (ps_ret (pv 2))))), ?_⟩
  refine x_asgD (X := H) (B := B) (fun p hpB hpH => ?_) H e (Ex.refl H)
  have hrl : (relsG big ns gs).map Rel.name = ns := relsG_names hgl
  refine x_for (F := B) (Ex.new hpB) (ei_rng1 (n := (ns.length : Int)) ?_ (by omega)) (fun F' ys i σ' B' => ∃ (y3 y4 y5 : Option V) (Bs : Hp) (kvs : List (Key × V)), σ' = [some (V.ref a), some (.ref b), some (.ref p), y3, y4, y5] ∧ B' = upd Bs p (.dK kvs) ∧ Bs p = none ∧ Gr H F' Bs ∧ MTab K ((relsG big ns gs).take i) kvs Bs) (fun F' ys g hy av => ?_) (fun F' ys i σ' B' h => ?_) (fun F' ys i xx σ' B' g hy hxi h => ?_) (fun F' ys σ' B' g hy h => ?_)
  · exact ea_cons (ev_is (ev_len (ev_var rfl) (sq_of hA)) (by rw [List.length_map])) ea_nil
  · have hF : F' p = none := av p hpB (by rw [upd_same]; exact Option.some_ne_none _)
    exact ⟨none, none, none, F', [], rfl, mrg_upd g.ex hF, hF, Gr.refl _ _, rfl, fun i p r h => nomatch h⟩
  · obtain ⟨y3, y4, y5, Bs, kvs, rfl, rfl, hp, gs', tb⟩ := h
    exact gs'.ex.trans (Ex.new hp)
  · obtain ⟨y3, y4, y5, Bs, kvs, rfl, rfl, hp, gF, tb⟩ := h
    rw [hy] at hxi
    obtain ⟨rfl, hi⟩ := rng_get hxi
    rw [Int.toNat_natCast] at hi
    obtain ⟨n, hn⟩ : ∃ n, ns[i]? = some n := ⟨_, List.getElem?_eq_getElem hi⟩
    obtain ⟨gv, hgv⟩ : ∃ gv, gs[i]? = some gv := ⟨_, List.getElem?_eq_getElem (by omega)⟩
    obtain ⟨tv, htv⟩ : ∃ tv, ts[i]? = some tv := ⟨_, List.getElem?_eq_getElem (by rw [hG.1]; omega)⟩
    obtain ⟨pg, lg, gy, rfl, hg1, hg2, hg3⟩ := hG.2 i tv gv htv hgv
    obtain ⟨ar, R⟩ := gv
    obtain ⟨ha1, ha3, hRok, hRl⟩ := hok _ (List.mem_of_getElem? hgv)
    have hRok : ∀ r ∈ R, AS.Ok big ar.toNat r := fun r hr => ⟨by have := (hRok r hr).1; have h1 : 1 ≤ ar := ha1; show r.length = ar.toNat; have h2 : (r.length : Int) = ar := this; omega, (hRok r hr).2⟩
    have ha1 : 1 ≤ ar := ha1
    have ha3 : ar ≤ 3 := ha3
    have eBs : Ex B Bs := g.ex.trans gF.ex
    have eBm : Ex B (upd Bs p (.dK kvs)) := eBs.trans (Ex.new hp)
    have tabj : ∀ {σ : L2.St} {B3 : Hp}, σ[1]? = some (some (V.ref b)) → σ[3]? = some (some (.int (i : Int))) → Ex B B3 → Ev (tOp (rIxL K) (tVar 1) (tVar 3)) σ B3 (.ref pg) := fun {σ B3} h1 h3 e3 => ev_op (ev_var h1) (ev_var h3) (rv_ixL (sq_of (e3 _ _ hB)) (atI_get htv))
    refine x_asgL (xs := []) (el_lst ea_nil (by decide)) fun p4 h4B h4H => ?_
    have hm : (upd Bs p (.dK kvs)) p = some (.dK kvs) := upd_same
    have gBm : Gr H F' (upd Bs p (.dK kvs)) := gF.trans (gr_new hp hpH)
    have eBsm : Ex Bs (upd Bs p (.dK kvs)) := Ex.new hp
    generalize upd Bs p (.dK kvs) = Bm at eBm h4B hm gBm eBsm
    refine x_for (F := Bm) (Ex.new h4B) (ei_listR (Pxs := fun ys B' => ∃ S, A2 (IsTI K) S ys B' ∧ S.Perm R ∧ S.Pairwise fun q r => TS.code big q ≤ TS.code big r) (EvR.imp (er_sortRE (Bn := big) (d := ar.toNat) (R := R) (ev_op (tabj rfl rfl eBm) ev_c (rv_ixL (sq_of (eBm _ _ hg1)) (atI_nat (j := 1) rfl))) (sq_of (eBm _ _ hg2)) (A2.mono (fun _ => inferInstance) eBm hg3) hRok (by rw [hg3.1]; have : R.length ≤ 31 := hRl; omega) (by omega) (by omega)) fun z B' _ ⟨p, ys, S, h1, h2, h3, h4, h5⟩ => ⟨p, ys, h1, sq_of h2, S, h3, h4, h5⟩)) (fun F2 ys2 k σ2 B2 => ∃ (y5 : Option V) (Bs2 : Hp) (al : List V) (A S : List (List Int)), σ2 = [some (V.ref a), some (.ref b), some (.ref p), some (.int (i : Int)), some (.ref p4), y5] ∧ B2 = upd Bs2 p4 (.lst al) ∧ Bs2 p4 = none ∧ Gr H F2 Bs2 ∧ (A2 (IsTI K) S ys2 F2 ∧ S.Perm R ∧ S.Pairwise fun q r => TS.code big q ≤ TS.code big r) ∧ A2 (IsTI K) A al Bs2 ∧ AS.Asc big A ∧ (∀ x, x ∈ A ↔ x ∈ S.take k) ∧ A.getLast? = (S.take k).getLast?) (fun F2 ys2 g3 ⟨S, hS1, hS2, hS3⟩ av => ?_) (fun F2 ys2 k σ2 B2 h => ?_) (fun F2 ys2 k x2 σ2 B2 g3 _ hx2 h => ?_) (fun F2 ys2 σ2 B2 g3 _ h => ?_)
    · have hF : F2 p4 = none := av p4 h4B (by rw [upd_same]; exact Option.some_ne_none _)
      exact ⟨y5, F2, [], [], S, rfl, mrg_upd g3.ex hF, hF, Gr.refl _ _, ⟨hS1, hS2, hS3⟩, a2_nil, List.Pairwise.nil, fun x => by rw [List.take_zero], rfl⟩
    · obtain ⟨y6, Bs2, al, A, S, rfl, rfl, hp4, g4, _⟩ := h
      exact g4.ex.trans (Ex.new hp4)
    · obtain ⟨y6, Bs2, al, A, S, rfl, rfl, hp4, g4, ⟨hS1, hS2, hS3⟩, hal, hAs, hAm, hAl⟩ := h
      have hk := (List.getElem?_eq_some_iff.mp hx2).1
      obtain ⟨r, hr⟩ : ∃ r, S[k]? = some r := ⟨_, List.getElem?_eq_getElem (by rw [← hS1.1]; exact hk)⟩
      obtain ⟨br, rfl, hbr⟩ := hS1.2 k x2 r hx2 hr
      have hSok : ∀ x ∈ S, AS.Ok big ar.toNat x := fun x hx => hRok x (hS2.mem_iff.mp hx)
      have hl4 : (upd Bs2 p4 (.lst al)) p4 = some (.lst al) := upd_same
      have hallen : al.length < 100000 := by
        have h1 : A.length ≤ S.length := NM.pigeon (asc_nodup hAs) fun x hx => List.mem_of_mem_take ((hAm x).mp hx)
        have h2 : S.length ≤ 31 := by rw [hS2.length_eq]; exact hRl
        rw [hal.1]
        omega
      have hupd : upd (upd Bs2 p4 (.lst al)) p4 (.lst (al ++ [.ref br])) = upd Bs2 p4 (.lst (al ++ [.ref br])) := by
        funext z
        by_cases c : z = p4
        · subst c; rw [upd_same, upd_same]
        · rw [upd_ne c, upd_ne c, upd_ne c]
      have hbr2 : IsTI K r (.ref br) Bs2 := Mo.mo g4.ex ⟨br, rfl, hbr⟩
      rcases List.eq_nil_or_concat A with hAn | ⟨A', l, hAc⟩
      · have haln : al = [] := List.length_eq_zero_iff.mp (by rw [hal.1, hAn]; rfl)
        have hne : A.getLast? ≠ some r := by rw [hAn]; exact fun c => nomatch c
        obtain ⟨q1, q2, q3⟩ := dd_append hS3 hSok hr hAs hAm hAl hne
        refine x_last (x_when (b := true) (et_or (a := true) (b := true) (et_test (ev_is (ev_op (ev_len (ev_var rfl) (sq_of hl4)) ev_c (rv_eq rfl)) (by rw [haln]; rfl))) (fun h => nomatch h)) (fun _ => x_last (NM.x_appV (l := p4) hl4 h4H (ev_var rfl) (ev_var rfl) hallen ?_)) (fun h => nomatch h))
        rw [hupd]
        exact x_nx rfl ⟨some (.ref br), Bs2, al ++ [.ref br], A ++ [r], S, rfl, rfl, hp4, g4, ⟨hS1, hS2, hS3⟩, hal.snoc hbr2, q1, q2, q3⟩
      · rw [List.concat_eq_append] at hAc
        have hall' : al.length = A'.length + 1 := by rw [hal.1, hAc, List.length_append]; rfl
        obtain ⟨vl, hvl⟩ : ∃ vl, al[A'.length]? = some vl := ⟨_, List.getElem?_eq_getElem (by omega)⟩
        have hAl' : A[A'.length]? = some l := by rw [hAc, List.getElem?_append_right (Nat.le_refl _), Nat.sub_self]; rfl
        obtain ⟨bl, rfl, hbl⟩ := hal.2 _ vl l hvl hAl'
        have hlast : A.getLast? = some l := by rw [hAc, List.getLast?_append]; rfl
        obtain ⟨al', hal'⟩ : ∃ al', al = al' ++ [.ref bl] := by
          refine ⟨al.take A'.length, ?_⟩
          have := take_snoc hvl
          rw [← this, List.take_of_length_le (by omega)]
        have hatl : atI al (-1) = some (.ref bl) := by rw [hal']; exact atI_last _ _
        refine x_last (x_when (b := !decide (l = r)) (et_is (et_or (a := false) (b := !decide (l = r)) (et_test (ev_is (ev_op (ev_len (ev_var rfl) (sq_of hl4)) ev_c (rv_eq rfl)) (congrArg V.bl (decide_eq_false (fun c => by have c := V.int.inj c; omega))))) (fun _ => et_test (ev_op (ev_op (ev_var rfl) (ev_un ev_c ru_neg) (rv_ixL (sq_of hl4) hatl)) (ev_var rfl) (rv_neT (ex_t (Ex.new hp4) hbl) (ex_t (g4.ex.trans (Ex.new hp4)) hbr))))) (Bool.false_or _)) (fun hb => ?_) (fun hb => ?_))
        · have hne : A.getLast? ≠ some r := by
            rw [hlast]
            intro c
            have c := Option.some.inj c
            rw [decide_eq_true c] at hb
            exact nomatch hb
          obtain ⟨q1, q2, q3⟩ := dd_append hS3 hSok hr hAs hAm hAl hne
          refine x_last (NM.x_appV (l := p4) hl4 h4H (ev_var rfl) (ev_var rfl) hallen ?_)
          rw [hupd]
          exact x_nx rfl ⟨some (.ref br), Bs2, al ++ [.ref br], A ++ [r], S, rfl, rfl, hp4, g4, ⟨hS1, hS2, hS3⟩, hal.snoc hbr2, q1, q2, q3⟩
        · have hlr : l = r := by
            by_cases c : l = r
            · exact c
            · rw [decide_eq_false c] at hb; exact nomatch hb
          obtain ⟨q2, q3⟩ := dd_skip hr hAm (by rw [hlast, hlr])
          exact x_nx rfl ⟨some (.ref br), Bs2, al, A, S, rfl, rfl, hp4, g4, ⟨hS1, hS2, hS3⟩, hal, hAs, q2, q3⟩
    · obtain ⟨y6, Bs2, al, A, S, rfl, rfl, hp4, g4, ⟨hS1, hS2, hS3⟩, hal, hAs, hAm, hAl⟩ := h
      rw [hS1.1, List.take_length] at hAm
      have hAR : A = AS.ascR big R := AS.asc_uniq hAs (AS.ascR_asc hRok) fun x => (hAm x).trans (hS2.mem_iff.trans AS.mem_ascR.symm)
      have e42 : Ex Bm (upd Bs2 p4 (.lst al)) := (g3.ex.trans g4.ex).trans (Ex.new hp4)
      have hp2 : (upd Bs2 p4 (.lst al)) p = some (.dK kvs) := e42 _ _ hm
      have hBd : Ex B (RX.del (upd Bs2 p4 (.lst al)) p) := ex_del (eBm.trans e42) hpB
      have hnp : p4 ≠ p := fun c => by subst c; rw [hm] at h4B; exact nomatch h4B
      have h4d : (RX.del (upd Bs2 p4 (.lst al)) p) p4 = some (.lst al) := by rw [RX.del_ne hnp]; exact upd_same
      have hrows : RowsAt K (AS.ascR big R) al (RX.del (upd Bs2 p4 (.lst al)) p) := by
        rw [← hAR]
        refine ⟨hal.1, fun k y r h1 h2 => ?_⟩
        obtain ⟨q1, hq1, hq2⟩ := hal.2 k y r h1 h2
        exact ⟨q1, hq1, sqt_del (ex_t (Ex.new hp4) hq2) hp2⟩
      have hkeys : valV kvs (Sum.inr n) = none := valV_no (by
        rw [tb.1]
        intro c
        obtain ⟨r, hr, hrn⟩ := List.mem_map.mp c
        have hrn := Sum.inr.inj hrn
        have : n ∈ (ns.take i).map (fun z => z) := by
          rw [List.map_id', ← hrl, ← List.map_take]
          exact hrn ▸ List.mem_map_of_mem hr
        exact nodup_take (f := fun (z : Str) => z) (by rw [List.map_id']; exact hnd) hn this)
      have hkl : kvs.length ≤ i := by
        have := congrArg List.length tb.1
        rw [List.length_map, List.length_map, List.length_take] at this
        omega
      have hnm : Ev (tOp (rIxL K) (tVar 0) (tVar 3)) [some (V.ref a), some (.ref b), some (.ref p), some (.int (i : Int)), some (.ref p4), y6] (upd Bs2 p4 (.lst al)) (.str n) := ev_op (ev_var rfl) (ev_var rfl) (rv_ixL (sq_of ((eBm.trans e42) _ _ hA)) (atI_get (by rw [List.getElem?_map, hn]; rfl)))
      refine x_last (x_dput (l := p) (Pe := MEnt K (relG big n (ar, R))) hp2 hpH (ev_var rfl) hnm (EvR.imp (er_lstN (Pa := fun vs B' => ∃ z r, vs = z :: r ∧ IsV (.int ar) z B' ∧ ∃ z2 r2, r = z2 :: r2 ∧ IsV (.ref p4) z2 B' ∧ r2 = []) inferInstance (ear inferInstance (eR_v (ev_op (tabj rfl rfl hBd) ev_c (rv_ixL (sq_of (hBd _ _ hg1)) (atI_nat (j := 0) rfl)))) (ear inferInstance (eR_v (ev_var rfl)) ear_nil)) ?_) ?_) (by omega) (fun z' B'' g5 hp5 hz' => ?_))
      · rintro vs B' ⟨z, r, rfl, _, z2, r2, rfl, _, rfl⟩
        show (2 : Nat) ≤ 100000
        decide
      · rintro z B' e5 ⟨pn, vs, rfl, hpn, z1, r, rfl, hz1, z2, r2, rfl, hz2, rfl⟩
        have hz1 : z1 = .int ar := hz1
        have hz2 : z2 = .ref p4 := hz2
        subst hz1
        subst hz2
        exact ⟨pn, p4, al, rfl, hpn, e5 _ _ h4d, MoA.mo e5 hrows⟩
      · have hFp : F' p = none := none_of gF.ex hp
        have gF5 : Gr H F' B'' := (NM.gr_del ((gBm.trans (g3.trans g4)).trans (gr_new hp4 h4H)) hFp).trans g5
        have hti : (relsG big ns gs).take (i + 1) = (relsG big ns gs).take i ++ [relG big n (ar, R)] := take_snoc (relsG_get hn hgv)
        rw [putK_new _ hkeys]
        refine x_nx rfl ⟨_, _, _, B'', _, rfl, rfl, hp5, gF5, ?_⟩
        rw [hti]
        exact (tb.mono ((ex_del (eBsm.trans e42) hp).trans g5.ex)).snoc hz'
  · obtain ⟨y3, y4, y5, Bs, kvs, rfl, rfl, hp, gF, tb⟩ := h
    have hyl : ys.length = ns.length := by rw [hy, rngV_len, Int.toNat_natCast]
    have hrn : (relsG big ns gs).length = ns.length := by
      have := congrArg List.length hrl
      rw [List.length_map] at this
      exact this
    rw [hyl, ← hrn, List.take_length] at tb
    exact x_ret (rVp (P := fun z B' => ∃ p kvs, z = .ref p ∧ B' p = some (.dK kvs) ∧ MTab K (relsG big ns gs) kvs B') (ev_var rfl) ⟨p, kvs, rfl, upd_same, tb.mono (Ex.new hp)⟩) (fun z' B' H' g2 hz e1 e2 => q z' H' B' e2 (((g.trans gF).trans (gr_new hp hpH)).trans g2) e1 hz)
end Kx
namespace Kx
open PySem PySem.Spec PyProof.Rows L2 Evl LX T XV RX WS
variable {P : Program} {w : World} {K : PySem.W.Frag} {mg : Str → Option Value} {base : Heap}
/-! ### big -/
def IsBig : V → Hp → Prop := fun z _ => ∃ b : Int, z = .int b ∧ 2 ≤ b ∧ b ≤ 400
instance : Mo IsBig := ⟨fun _ h => h⟩
def dBig : List V → Hp → (V → Hp → Prop) → Prop := fun vs B Pz => ∃ (kind wide : Int), vs = [.int kind, .int wide] ∧ 0 ≤ kind ∧ kind < 8 ∧ 0 ≤ wide ∧ wide < 399 ∧ Pz = IsBig
abbrev law_big_N : List Str := ["kind", "wide"]
abbrev law_big_P : List Str := ["kind", "wide"]
theorem sc_law_big : FnScope ["kind", "wide"] ["kind", "wide"] (defScope s_law_big) := ⟨rfl, rfl, rfl, by decide +kernel, rfl, by decide +kernel, by decide +kernel⟩
theorem ok_big (T : TX K mg) : OkF P w K mg base 1 "_law_big" ["kind", "wide"] (spR dBig) := by
  have n_int := T.n "int" (by decide +kernel)
  refine T.okF 42 rfl (by decide +kernel) (fun f fd F => ?_) (fun _ _ _ _ _ _ us hl => match us, hl with | [_, _], _ => rfl)
  refine F.ok sc_law_big (fun vs H Q E h => spR_len h (by rintro B Pz ⟨k, w, rfl, _⟩; rfl)) (fun cdv A outer s H vs Q E hr ⟨B, Pz, e, ⟨kind, wide, hvs, hk0, hk8, hw0, hw9, hP⟩, q⟩ => ?_)
  subst hvs hP
  refine ⟨_, (pss_one (ps_ret (pe_ix (LX.k_ixl (K := K)) (pe_lst (pa_cons (pe_op op_add pe_int (pe_op op_mod (pe_callTy call_int1 (by rfl) n_int (by decide +kernel) (pa_cons (pv 1) pa_nil)) pe_int)) (pa_cons pe_int (pa_cons pe_int (pa_cons (pe_op op_add pe_int (pe_op op_mod (pe_callTy call_int1 (by rfl) n_int (by decide +kernel) (pa_cons (pv 1) pa_nil)) pe_int)) (pa_cons (pe_op op_add pe_int (pe_op op_mod (pe_callTy call_int1 (by rfl) n_int (by decide +kernel) (pa_cons (pv 1) pa_nil)) pe_int)) (pa_cons (pe_op op_add pe_int (pv 1)) (pa_cons (pe_op op_add pe_int (pv 1)) (pa_cons (pe_op op_sub pe_int (pe_op op_mod (pe_callTy call_int1 (by rfl) n_int (by decide +kernel) (pa_cons (pv 1) pa_nil)) pe_int)) pa_nil))))))))) (pv 0) (fun _ _ => rfl)))), ?_⟩
  obtain ⟨b, hb2, hb4, hat⟩ : ∃ b : Int, 2 ≤ b ∧ b ≤ 400 ∧ atI [V.int (2 + wide % 14), .int 3, .int 2, .int (2 + wide % 5), .int (10 + wide % 40), .int (2 + wide), .int (2 + wide), .int (400 - wide % 3)] kind = some (.int b) := by
    have hc : kind = 0 ∨ kind = 1 ∨ kind = 2 ∨ kind = 3 ∨ kind = 4 ∨ kind = 5 ∨ kind = 6 ∨ kind = 7 := by omega
    rcases hc with c | c | c | c | c | c | c | c <;> subst c
    · exact ⟨_, by omega, by omega, atI_nat (j := 0) rfl⟩
    · exact ⟨_, by omega, by omega, atI_nat (j := 1) rfl⟩
    · exact ⟨_, by omega, by omega, atI_nat (j := 2) rfl⟩
    · exact ⟨_, by omega, by omega, atI_nat (j := 3) rfl⟩
    · exact ⟨_, by omega, by omega, atI_nat (j := 4) rfl⟩
    · exact ⟨_, by omega, by omega, atI_nat (j := 5) rfl⟩
    · exact ⟨_, by omega, by omega, atI_nat (j := 6) rfl⟩
    · exact ⟨_, by omega, by omega, atI_nat (j := 7) rfl⟩
  have im : ∀ {σ : L2.St} {m : Int}, 0 < m → σ[1]? = some (some (V.int wide)) → Ev (tOp (rI (fun _ j => 0 < j) fun i j => .int (i % j)) (tCB (fun xs H Q => (∃ i, xs = [.int i] ∧ Q (.int i) H) ∨ ∃ k, xs = [.bl k] ∧ Q (.int (if k then 1 else 0)) H) (tCons (tVar 1) tNil)) (tC (.int m))) σ B (.int (wide % m)) := fun {σ m} hm h => ev_op (ev_int (ev_var h)) ev_c (rv_mod hm)
  refine x_ret (X := H) (B := B) (P := IsBig) (rVp (v := .int b) (ev_opL1 (el_lst (ea_cons (ev_op ev_c (im (by decide) rfl) rv_I0) (ea_cons ev_c (ea_cons ev_c (ea_cons (ev_op ev_c (im (by decide) rfl) rv_I0) (ea_cons (ev_op ev_c (im (by decide) rfl) rv_I0) (ea_cons (ev_op ev_c (ev_var rfl) rv_I0) (ea_cons (ev_op ev_c (ev_var rfl) rv_I0) (ea_cons (ev_op ev_c (im (by decide) rfl) rv_I0) ea_nil)))))))) (show (8 : Nat) ≤ 100000 by decide)) (fun H1 e1 => ev_var rfl) (fun p H1 hp _ => rv_ixL (sq_of hp) hat)) ⟨b, rfl, hb2, hb4⟩) (fun z B' H' g p e1 e2 => q z H' B' e2 g e1 p) H e (Ex.refl H)
end Kx
namespace Kx
open PySem PySem.Spec PyProof.Rows L2 Evl LX T XV RX WS
variable {P : Program} {w : World} {K : PySem.W.Frag} {mg : Str → Option Value} {base : Heap}
/-! ### absent -/
theorem cutS_le (z : Str) (lo hi : Option Int) : (cutS z lo hi).length ≤ z.length := by
  show (cutS z lo hi).cps.size ≤ z.cps.size
  unfold cutS
  rw [List.size_toArray, List.length_take, List.length_drop, Array.length_toList]
  omega
def IsAbsent (ns : List Str) : V → Hp → Prop := fun z B => ∃ (p : Addr) (L : List Str), z = .ref p ∧ B p = some (.lst (L.map V.str)) ∧ L.length ≤ 9 ∧ ∀ s ∈ L, s ∉ ns ∧ s.length ≤ 100
instance {ns : List Str} : Mo (IsAbsent ns) := ⟨fun e ⟨p, L, h, a, b⟩ => ⟨p, L, h, e _ _ a, b⟩⟩
def dAbsent (K : PySem.W.Frag) : List V → Hp → (V → Hp → Prop) → Prop := fun vs B Pz => ∃ (a : Addr) (pick : Int) (ns : List Str), vs = [.ref a, .int pick] ∧ B a = some (.lst (ns.map V.str)) ∧ ns.length ≤ 12 ∧ (∀ s ∈ ns, NM.Nam s) ∧ 0 ≤ pick ∧ Pz = IsAbsent ns
theorem er_absent {σ : L2.St} {B : Hp} {a pf : Addr} {ns L : List Str} (hσ0 : σ[0]? = some (some (V.ref a))) (hσ2 : σ[2]? = some (some (.ref pf))) (hσl : σ.length = 5) (hA : B a = some (.lst (ns.map V.str))) (hL : B pf = some (.lst (L.map V.str))) (hl : L.length ≤ 9) (hz : ∀ s ∈ L, s.length ≤ 100) :
    EvR (tLc (iList K (tVar 2)) (gName 4) (tTest (tOp (rIn K true) (tVar 4) (tVar 0))) (tVar 4) [4]) σ B (IsAbsent ns) := by
  match σ, hσl, hσ0, hσ2 with
  | [s0, s1, s2, s3, s4], _, h0, h2 =>
    have e0 : s0 = some (V.ref a) := Option.some.inj h0
    have e2 : s2 = some (V.ref pf) := Option.some.inj h2
    subst e0
    subst e2
    have hget : ∀ {i : Nat} {x : V}, (L.map V.str)[i]? = some x → x = .str (L.getD i "") := fun {i x} h => by
      rw [List.getElem?_map] at h
      cases q : L[i]? with
      | none => rw [q] at h; exact nomatch h
      | some s => rw [q] at h; rw [List.getD_eq_getElem?_getD, q]; exact (Option.some.inj h).symm
    have hfl : (ns.map V.str).all flatV = true := by
      rw [List.all_map]
      exact List.all_eq_true.mpr fun _ _ => rfl
    refine EvR.imp (er_lc (fun _ i => decide (L.getD i "" ∉ ns)) (fun _ i => IsV (.str (L.getD i ""))) (fun _ _ => inferInstance) moA_eq (ei_list (ev_var rfl) (sq_of hL)) (fun _ => rfl) (fun xs B' h => by rw [h, List.length_map]; omega) (fun xs i x B' e1 hx hxi => ?_) (fun xs i x B' e1 hx hxi _ => ?_)) ?_
    · subst hx
      have := hget hxi
      subst this
      exact et_test (ev_is (ev_op (ev_var rfl) (ev_var rfl) (rv_niL (sq_of (e1 _ _ hA)) rfl hfl)) (by rw [NM.inV_str]; simp))
    · subst hx
      have := hget hxi
      subst this
      exact eR_v (ev_var rfl)
    · rintro z B' _ ⟨xs, p, ys, hxs, rfl, hp, htold⟩
      subst hxs
      rw [List.length_map] at htold
      obtain ⟨hlen, hval⟩ := htold
      refine ⟨p, ((List.range L.length).filter fun i => decide (L.getD i "" ∉ ns)).map fun i => L.getD i "", rfl, ?_, ?_, fun s hs => ?_⟩
      · rw [hp, List.map_map]
        congr 2
        apply List.ext_getElem?
        intro k
        rw [List.getElem?_map]
        by_cases c : k < ys.length
        · obtain ⟨n, hn⟩ : ∃ n, ((List.range L.length).filter fun i => decide (L.getD i "" ∉ ns))[k]? = some n := ⟨_, List.getElem?_eq_getElem (by rw [← hlen]; exact c)⟩
          have h1 := List.getElem?_eq_getElem c
          have h2 : ys[k] = .str (L.getD n "") := hval k _ n h1 hn
          rw [h1, hn, h2]
          rfl
        · rw [List.getElem?_eq_none (by omega), List.getElem?_eq_none (by rw [← hlen]; omega)]
          rfl
      · rw [List.length_map]
        have := List.length_filter_le (fun i => decide (L.getD i "" ∉ ns)) (List.range L.length)
        rw [List.length_range] at this
        omega
      · obtain ⟨i, hi, rfl⟩ := List.mem_map.mp hs
        obtain ⟨h1, h2⟩ := List.mem_filter.mp hi
        refine ⟨of_decide_eq_true h2, hz _ ?_⟩
        have hi := List.mem_range.mp h1
        rw [List.getD_eq_getElem?_getD, List.getElem?_eq_getElem hi]
        exact List.getElem_mem _
abbrev law_absent_N : List Str := ["names", "pick", "found", "near", "text"]
abbrev law_absent_P : List Str := ["names", "pick"]
theorem sc_law_absent : FnScope ["names", "pick", "found", "near", "text"] ["names", "pick"] (defScope s_law_absent) := ⟨rfl, rfl, rfl, by decide +kernel, rfl, by decide +kernel, by decide +kernel⟩
theorem ok_absent (T : TX K mg) : OkF P w K mg base 1 "_law_absent" ["names", "pick"] (spR (dAbsent K)) := by
  have n_len := T.n "len" (by decide +kernel)
  have n_int := T.n "int" (by decide +kernel)
  refine T.okF 40 rfl (by decide +kernel) (fun f fd F => ?_) (fun _ _ _ _ _ _ us hl => match us, hl with | [_, _], _ => rfl)
  refine F.ok sc_law_absent (fun vs H Q E h => spR_len h (by rintro B Pz ⟨a, p, ns, rfl, _⟩; rfl)) (fun cdv A outer s H vs Q E hr ⟨B, Pz, e, ⟨a, pick, ns, hvs, hA, hnl, hnm, hp0, hP⟩, q⟩ => ?_)
  subst hvs hP
  refine ⟨_, (pss_cons (ps_set (i := 2) sc_law_absent.nd rfl (.inl rfl) (pe_lst (pa_cons pe_str (pa_cons pe_str (pa_cons pe_str (pa_cons pe_str (pa_cons pe_str pa_nil)))))))
        (pss_cons (ps_if (pt_cmpR op_gt (pe_callB (LX.k_len (K := K)) (by rfl) n_len (by decide +kernel) (pa_cons (pv 0) pa_nil)) pe_int (nomark _)) (pss_cons (ps_set (i := 3) sc_law_absent.nd rfl (.inl rfl) (pe_ix (LX.k_ixl (K := K)) (pv 0) (pe_op op_mod (pe_callTy call_int1 (by rfl) n_int (by decide +kernel) (pa_cons (pv 1) pa_nil)) (pe_callB (LX.k_len (K := K)) (by rfl) n_len (by decide +kernel) (pa_cons (pv 0) pa_nil))) (fun _ _ => rfl)))
        (pss_one (ps_set (i := 2) sc_law_absent.nd rfl (.inl rfl) (pe_op op_cat (pv 2) (pe_lst (pa_cons (pe_op op_add_str (pv 3) pe_str) (pa_cons (pe_slice sl_str (pv 3) po_none (po_some (pe_un un_neg pe_int))) (pa_cons (pe_slice sl_str (pv 3) (po_some pe_int) po_none) (pa_cons (pe_op op_add_str (pe_slice sl_str (pv 3) po_none (po_some (pe_un un_neg pe_int))) (pe_ix ix_str pe_str (pe_op op_mod (pe_callTy call_int1 (by rfl) n_int (by decide +kernel) (pa_cons (pv 1) pa_nil)) pe_int) (fun _ _ => rfl))) pa_nil))))))))) pss_nil)
        (pss_one (ps_ret (pe_lc (own := [("text", 4)]) (g := gName 4) rfl sc_law_absent.nd (RX.k_pil (K := K) (pv 2)) (blkOk_by (N := law_absent_N) (sc := defScope s_law_absent) (by decide +kernel)) (fun _ _ _ _ _ => pg_name (i := 4) sc_law_absent.nd rfl (Or.inl rfl)) (fun _ _ _ _ _ => pts_one (pt_cmpR (LX.k_notIn (K := K)) (pv 4) (pv 0) (by rfl))) (fun _ _ _ _ _ => (pv 4))))))), ?_⟩
  refine x_asgL (X := H) (B := B) (xs := (["", "some", "Edge", "changed", "changed2"] : List Str).map V.str) (el_lst (ea_cons ev_c (ea_cons ev_c (ea_cons ev_c (ea_cons ev_c (ea_cons ev_c ea_nil))))) (show (5 : Nat) ≤ 100000 by decide)) (fun pf hfB hfH => ?_) H e (Ex.refl H)
  have g1 : Gr H B (upd B pf (.lst ((["", "some", "Edge", "changed", "changed2"] : List Str).map V.str))) := gr_new hfB hfH
  have hf1 : (upd B pf (.lst ((["", "some", "Edge", "changed", "changed2"] : List Str).map V.str))) pf = some (.lst ((["", "some", "Edge", "changed", "changed2"] : List Str).map V.str)) := upd_same
  generalize upd B pf (.lst ((["", "some", "Edge", "changed", "changed2"] : List Str).map V.str)) = B1 at g1 hf1
  have h5 : ∀ s ∈ (["", "some", "Edge", "changed", "changed2"] : List Str), s.length ≤ 100 := by decide +kernel
  have hA1 := g1.ex _ _ hA
  refine x_when (b := decide (0 < ns.length)) (et_test (ev_is (ev_op (ev_len (ev_var rfl) (sq_of hA1)) ev_c rv_I0) (by rw [List.length_map]; simp))) (fun hb => ?_) (fun hb => ?_)
  · have hb := of_decide_eq_true hb
    have hm : 0 ≤ pick % (ns.length : Int) ∧ pick % (ns.length : Int) < (ns.length : Int) := ⟨Int.emod_nonneg _ (by omega), Int.emod_lt_of_pos _ (by omega)⟩
    obtain ⟨k, hk⟩ : ∃ k : Nat, pick % (ns.length : Int) = (k : Int) := ⟨_, (Int.toNat_of_nonneg hm.1).symm⟩
    obtain ⟨near, hnear⟩ : ∃ near, ns[k]? = some near := ⟨_, List.getElem?_eq_getElem (by omega)⟩
    have hNam := hnm near (List.mem_of_getElem? hnear)
    have hnlen : near.length ≤ 12 := by rw [hNam.len]; exact hNam.few
    refine x_asgV (v := .str near) (ev_op (ev_var rfl) (ev_is (ev_op (ev_int (ev_var rfl)) (ev_len (ev_var rfl) (sq_of hA1)) (rv_mod (by rw [List.length_map]; omega))) (by rw [List.length_map, hk])) (rv_ixL (sq_of hA1) (atI_get (by rw [List.getElem?_map, hnear]; rfl)))) ?_
    have hm36 : 0 ≤ pick % 36 ∧ pick % 36 < 36 := ⟨Int.emod_nonneg _ (by decide), Int.emod_lt_of_pos _ (by decide)⟩
    have hc1 := cutS_le near none (some (-1))
    have hc2 := cutS_le near (some 1) none
    have hcut : ∀ {σ : L2.St}, σ[3]? = some (some (V.str near)) → Ev (tSl rSlS (tVar 3) tNoPart (tPart (tUn (rU fun i => .int (-i)) (tC (.int 1))))) σ B1 (.str (cutS near none (some (-1)))) := fun {σ} h => NM.ev_slS (ev_var h) eo_none (eo_some (ev_un ev_c ru_neg)) (by omega)
    refine x_last (x_asgL (xs := (["", "some", "Edge", "changed", "changed2"] : List Str).map V.str ++ [.str (near ++ ("a" : Str)), .str (cutS near none (some (-1))), .str (cutS near (some 1) none), .str (cutS near none (some (-1)) ++ NM.mk [NM.lets.getD (pick % 36).toNat 0])]) (el_cat (ev_var rfl) hf1 (el_lst (ea_cons (ev_op (ev_var rfl) ev_c (rv_addS (by show _ + 1 ≤ 100000; omega))) (ea_cons (hcut rfl) (ea_cons (NM.ev_slS (ev_var rfl) (eo_some ev_c) eo_none (by omega)) (ea_cons (ev_op (hcut rfl) (NM.ev_letter ev_c (ev_op (ev_int (ev_var rfl)) ev_c (rv_mod (by decide))) hm36.1 hm36.2) (rv_addS (by rw [NM.mk_len]; show _ + 1 ≤ 100000; omega))) ea_nil)))) (show (4 : Nat) ≤ 100000 by decide)) (show 5 + 4 ≤ 100000 by decide)) fun p2 h2B h2H => ?_)
    have g2 := g1.trans (gr_new (o := .lst ((["", "some", "Edge", "changed", "changed2", near ++ ("a" : Str), cutS near none (some (-1)), cutS near (some 1) none, cutS near none (some (-1)) ++ NM.mk [NM.lets.getD (pick % 36).toNat 0]] : List Str).map V.str)) h2B h2H)
    refine x_end (x_ret (er_absent (pf := p2) (L := ["", "some", "Edge", "changed", "changed2", near ++ ("a" : Str), cutS near none (some (-1)), cutS near (some 1) none, cutS near none (some (-1)) ++ NM.mk [NM.lets.getD (pick % 36).toNat 0]]) rfl rfl rfl (g2.ex _ _ hA) upd_same (show (9 : Nat) ≤ 9 by decide) (fun s hs => ?_)) (fun z B' H' g p e1 e2 => q z H' B' e2 (g2.trans g) e1 p))
    have hap : ∀ (x y : Str), (x ++ y).length = x.length + y.length := fun x y => by
      show (x.cps ++ y.cps).size = _
      rw [Array.size_append]
      rfl
    have hs' : s ∈ (["", "some", "Edge", "changed", "changed2"] : List Str) ∨ s = near ++ ("a" : Str) ∨ s = cutS near none (some (-1)) ∨ s = cutS near (some 1) none ∨ s = cutS near none (some (-1)) ++ NM.mk [NM.lets.getD (pick % 36).toNat 0] := by
      simp only [List.mem_cons, List.not_mem_nil, or_false] at hs ⊢
      rcases hs with h | h | h | h | h | h | h | h | h <;> simp [h]
    rcases hs' with h | h | h | h | h
    · exact h5 s h
    · rw [h, hap]
      have : ("a" : Str).length = 1 := by decide +kernel
      omega
    · rw [h]; omega
    · rw [h]; omega
    · rw [h, hap, NM.mk_len]
      show _ + 1 ≤ 100
      omega
  · exact x_ret (er_absent (pf := pf) (L := ["", "some", "Edge", "changed", "changed2"]) rfl rfl rfl hA1 hf1 (by decide) h5) (fun z B' H' g p e1 e2 => q z H' B' e2 (g1.trans g) e1 p)
end Kx
namespace Kx
open PySem PySem.Spec PyProof.Rows L2 Evl LX T XV RX WS
variable {P : Program} {w : World} {K : PySem.W.Frag} {mg : Str → Option Value} {base : Heap}
/-! ### handed -/
def formD (flag : Int) (ds : List PyData) : PyData := if flag = 1 then .list ds else .tuple ds
theorem formD_seq {f : Int} {ds : List PyData} : seqD (formD f ds) = some ds := by unfold formD; split <;> rfl
def rowDt (fl : List Int) (j k : Nat) (r : List Int) : PyData := formD (fl.getD ((j + k) % 7) 0) (r.map PyData.int)
def rowsDt (fl : List Int) (j : Nat) (R : List (List Int)) : List PyData := (List.range R.length).map fun k => rowDt fl j k (R.getD k [])
def entDt (fl : List Int) (j : Nat) (n : Str) (g : Int × List (List Int)) : PyData := formD (fl.getD (19 + j) 0) [.str n, .int g.1, formD (fl.getD (7 + j) 0) (rowsDt fl j g.2)]
def entsDt (fl : List Int) (ns : List Str) (gs : List (Int × List (List Int))) : List PyData := (List.range ns.length).map fun j => entDt fl j (ns.getD j "") (gs.getD j (0, []))
def handedDt (fl : List Int) (ns : List Str) (gs : List (Int × List (List Int))) : PyData := formD (fl.getD 31 0) (entsDt fl ns gs)
/-- a list that Y does not know, or a tuple -/
def SqO (K : PySem.W.Frag) (Y B : Hp) (a : Addr) (xs : List V) : Prop := (B a = some (.lst xs) ∧ Y a = none) ∨ SqT K B a xs
theorem SqO.a {Y B : Hp} {a : Addr} {xs : List V} (h : SqO K Y B a xs) : SqA K B a xs := h.imp (fun h => sq_of h.1) id
theorem SqO.ex {Y B B' : Hp} {a : Addr} {xs : List V} (e : Ex B B') (h : SqO K Y B a xs) : SqO K Y B' a xs := h.imp (fun h => ⟨e _ _ h.1, h.2⟩) (ex_t e)
def RowT (K : PySem.W.Frag) (Y : Hp) : V → Hp → Prop := fun y B => ∃ (a : Addr) (n : Int) (ns : List Int), y = .ref a ∧ SqO K Y B a (.int n :: ns.map V.int)
def GivT (K : PySem.W.Frag) (Y : Hp) (L : Nat) : Addr → Hp → Prop := fun g B => ∃ ys, SqO K Y B g ys ∧ ys.length ≤ L ∧ ∀ y ∈ ys, RowT K Y y B
def EntT (K : PySem.W.Frag) (Y : Hp) (L : Nat) : V → Hp → Prop := fun e B => ∃ (a : Addr) (s : Str) (n : Int) (g : Addr), e = .ref a ∧ SqO K Y B a [.str s, .int n, .ref g] ∧ 1 ≤ n ∧ n ≤ 3 ∧ GivT K Y L g B
structure Nest (K : PySem.W.Frag) (Y : Hp) (L : Nat) (hd : Addr) (B : Hp) : Prop where
  ex : ∃ (es : List V) (Z : Hp), (∀ a, Z a = none → Y a = none) ∧ ((B hd = some (.lst es) ∧ Y hd = none ∧ Z hd ≠ none) ∨ SqT K B hd es) ∧ es.length ≤ 12 ∧ ∀ e ∈ es, EntT K Z L e B
theorem RowT.mo {Y B B' : Hp} {y : V} (e : Ex B B') (h : RowT K Y y B) : RowT K Y y B' := by
  obtain ⟨a, n, ns, h1, h2⟩ := h
  exact ⟨a, n, ns, h1, h2.ex e⟩
theorem GivT.mo {Y B B' : Hp} {L : Nat} {g : Addr} (e : Ex B B') (h : GivT K Y L g B) : GivT K Y L g B' := by
  obtain ⟨ys, h1, h2, h3⟩ := h
  exact ⟨ys, h1.ex e, h2, fun y hy => (h3 y hy).mo e⟩
theorem EntT.mo {Y B B' : Hp} {L : Nat} {v : V} (e : Ex B B') (h : EntT K Y L v B) : EntT K Y L v B' := by
  obtain ⟨a, s, n, g, h1, h2, h3, h4, h5⟩ := h
  exact ⟨a, s, n, g, h1, h2.ex e, h3, h4, h5.mo e⟩
theorem Nest.mo {Y B B' : Hp} {L : Nat} {hd : Addr} (e : Ex B B') (h : Nest K Y L hd B) : Nest K Y L hd B' := by
  obtain ⟨es, Z, h1, h2, h3, h4⟩ := h
  exact ⟨es, Z, h1, h2.imp (fun h => ⟨e _ _ h.1, h.2⟩) (ex_t e), h3, fun v hv => (h4 v hv).mo e⟩
/-- what may not be known: another heap for it -/
theorem SqO.to {Y Z B : Hp} {a : Addr} {xs : List V} (f : ∀ a xs, Y a = none → B a = some (.lst xs) → Z a = none) (h : SqO K Y B a xs) : SqO K Z B a xs := h.imp (fun h => ⟨h.1, f a _ h.2 h.1⟩) id
theorem RowT.to {Y Z B : Hp} {y : V} (f : ∀ a xs, Y a = none → B a = some (.lst xs) → Z a = none) (h : RowT K Y y B) : RowT K Z y B := by
  obtain ⟨a, n, ns, h1, h2⟩ := h
  exact ⟨a, n, ns, h1, h2.to f⟩
theorem GivT.to {Y Z B : Hp} {L : Nat} {g : Addr} (f : ∀ a xs, Y a = none → B a = some (.lst xs) → Z a = none) (h : GivT K Y L g B) : GivT K Z L g B := by
  obtain ⟨ys, h1, h2, h3⟩ := h
  exact ⟨ys, h1.to f, h2, fun y hy => (h3 y hy).to f⟩
theorem EntT.to {Y Z B : Hp} {L : Nat} {v : V} (f : ∀ a xs, Y a = none → B a = some (.lst xs) → Z a = none) (h : EntT K Y L v B) : EntT K Z L v B := by
  obtain ⟨a, s, n, g, h1, h2, h3, h4, h5⟩ := h
  exact ⟨a, s, n, g, h1, h2.to f, h3, h4, h5.to f⟩
theorem Nest.gr {X B B' : Hp} {L : Nat} {hd : Addr} (g : Gr X B B') (h : Nest K B L hd B') : Nest K (mrg B X) L hd B' := by
  obtain ⟨es, Z, h1, h2, h3, h4⟩ := h
  have key : ∀ a, B a = none → B' a ≠ none → X a = none := fun a ha hb => Decidable.byContradiction fun c => hb (g.av a ha c)
  have hm : ∀ {C : Hp} {a}, mrg C X a = none → C a = none ∧ X a = none := fun {C a} h => by
    cases q : C a with
    | none => rw [mrg_none q] at h; exact ⟨rfl, h⟩
    | some o => rw [mrg_some q] at h; exact nomatch h
  refine ⟨es, mrg Z X, fun a h => ?_, h2.imp (fun h => ⟨h.1, ?_, ?_⟩) id, h3, fun v hv => (h4 v hv).to fun a _ ha hb => ?_⟩
  · obtain ⟨a1, a2⟩ := hm h
    rw [mrg_none (h1 a a1), a2]
  · rw [mrg_none h.2.1]
    exact key hd h.2.1 (by rw [h.1]; exact Option.some_ne_none _)
  · cases q : Z hd with
    | none => exact absurd q h.2.2
    | some o => rw [mrg_some q]; exact Option.some_ne_none _
  · rw [mrg_none ha]
    exact key a (h1 a ha) (by rw [hb]; exact Option.some_ne_none _)
def FormAt (K : PySem.W.Frag) (B : Hp) (flag : Int) (xs : List V) : V → Hp → Prop := fun z B' => ∃ p, z = .ref p ∧ if flag = 1 then (B' p = some (.lst xs) ∧ B p = none) else SqT K B' p xs
theorem FormAt.dp {B B' : Hp} {flag : Int} {xs : List V} {z : V} {ds : List PyData} (h : FormAt K B flag xs z B') (hs : DpAll K B' xs ds) : Dp K B' z (formD flag ds) := by
  obtain ⟨p, rfl, h⟩ := h
  unfold formD
  split at h
  · rename_i c
    rw [if_pos c]
    exact .lst (sq_of h.1) hs
  · rename_i c
    rw [if_neg c]
    exact .tup h hs
theorem FormAt.sqo {Y B B' : Hp} {flag : Int} {xs : List V} {z : V} (e : Ex Y B) (h : FormAt K B flag xs z B') : ∃ p, z = .ref p ∧ SqO K Y B' p xs := by
  obtain ⟨p, rfl, h⟩ := h
  refine ⟨p, rfl, ?_⟩
  split at h
  · exact .inl ⟨h.1, none_of e h.2⟩
  · exact .inr h
def RowP (K : PySem.W.Frag) (Y : Hp) (d : PyData) : V → Hp → Prop := fun y B => Dp K B y d ∧ RowT K Y y B
def EntP (K : PySem.W.Frag) (Y : Hp) (d : PyData) : V → Hp → Prop := fun y B => Dp K B y d ∧ EntT K Y 100 y B
def GivP (K : PySem.W.Frag) (Y : Hp) (d : PyData) : V → Hp → Prop := fun y B => Dp K B y d ∧ ∃ g, y = .ref g ∧ GivT K Y 100 g B
instance {Y : Hp} {d : PyData} : Mo (RowP K Y d) := ⟨fun e h => ⟨dp_ex e h.1, h.2.mo e⟩⟩
instance {Y : Hp} {d : PyData} : Mo (EntP K Y d) := ⟨fun e h => ⟨dp_ex e h.1, h.2.mo e⟩⟩
instance {Y : Hp} {d : PyData} : Mo (GivP K Y d) := ⟨fun e ⟨h, g, a, b⟩ => ⟨dp_ex e h, g, a, b.mo e⟩⟩
theorem a2_dps {Pd : PyData → V → Hp → Prop} (f : ∀ d y B, Pd d y B → Dp K B y d) {B : Hp} : ∀ {ds : List PyData} {ys : List V}, A2 Pd ds ys B → DpAll K B ys ds
  | [], ys, h => by
    have : ys = [] := List.length_eq_zero_iff.mp h.1
    subst this
    exact .nil
  | d :: ds, [], h => by have := h.1; simp at this
  | d :: ds, y :: ys, h => by
    obtain ⟨h1, h2⟩ := h.uncons
    exact .cons (f _ _ _ h1) (a2_dps f h2)
theorem a2_mem {δ : Type} {Pd : δ → V → Hp → Prop} {B : Hp} {ds : List δ} {ys : List V} (h : A2 Pd ds ys B) {y : V} (hy : y ∈ ys) : ∃ d, d ∈ ds ∧ Pd d y B := by
  obtain ⟨k, hk, rfl⟩ := List.mem_iff_getElem.mp hy
  have hd : ds[k]? = some (ds[k]'(by rw [← h.1]; exact hk)) := List.getElem?_eq_getElem _
  exact ⟨_, List.mem_of_getElem? hd, h.2 k _ _ (List.getElem?_eq_getElem hk) hd⟩
def EntA (K : PySem.W.Frag) (Y : Hp) (n : Str) (ar : Int) (d : PyData) : List V → Hp → Prop := fun us B => ∃ u, us = [.str n, .int ar, u] ∧ GivP K Y d u B
instance {Y : Hp} {n : Str} {ar : Int} {d : PyData} : MoA (EntA K Y n ar d) := ⟨fun e ⟨u, a, b⟩ => ⟨u, a, Mo.mo e b⟩⟩
def dHanded (K : PySem.W.Frag) : List V → Hp → (V → Hp → Prop) → Prop := fun vs B Pz => ∃ (big : Int) (a b c : Addr) (ns : List Str) (gs : List (Int × List (List Int))) (ts : List V) (fl : List Int), vs = [.ref a, .ref b, .ref c] ∧ B a = some (.lst (ns.map V.str)) ∧ ns.length ≤ 12 ∧ B b = some (.lst ts) ∧ A2 (GivenR K) gs ts B ∧ gs.length = ns.length ∧ (∀ g ∈ gs, GivenOk big g) ∧
  SqL K B c (fl.map V.int) ∧ fl.length = 32 ∧ Pz = fun z B' => ∃ hd, z = .ref hd ∧ Dp K B' z (handedDt fl ns gs) ∧ Nest K B 100 hd B'
abbrev law_handed_N : List Str := ["names", "tables", "flags", "entries", "j", "given", "k"]
abbrev law_handed_P : List Str := ["names", "tables", "flags"]
theorem sc_law_handed : FnScope ["names", "tables", "flags", "entries", "j", "given", "k"] ["names", "tables", "flags"] (defScope s_law_handed) := ⟨rfl, rfl, rfl, by decide +kernel, rfl, by decide +kernel, by decide +kernel⟩
theorem ok_handed (T : TX K mg) : OkF P w K mg base 2 "_law_handed" ["names", "tables", "flags"] (spR (dHanded K)) := by
  have n_range := T.n "range" (by decide +kernel)
  have n_len := T.n "len" (by decide +kernel)
  have n_int := T.n "int" (by decide +kernel)
  refine T.okF 33 rfl (by decide +kernel) (fun f fd F => ?_) (fun _ _ _ _ _ _ us hl => match us, hl with | [_, _, _], _ => rfl)
  have O__law_form := ok_form (P := P) (w := w) (base := base) T
  refine F.ok sc_law_handed (fun vs H Q E h => spR_len h (by rintro B Pz ⟨big, a, b, c, ns, gs, ts, fl, rfl, _⟩; rfl)) (fun cdv A outer s H vs Q E hr ⟨B, Pz, e, ⟨big, a, b, c, ns, gs, ts, fl, hvs, hA, hnl, hB, hG, hgl, hok, hC, hfl, hP⟩, q⟩ => ?_)
  subst hvs hP
  refine ⟨_, (pss_cons (ps_set (i := 3) sc_law_handed.nd rfl (.inl rfl) (pe_lst pa_nil))
        (pss_cons (ps_for PassesOwn.never rfl (pi_range1 (by rfl) n_range (pa_cons (pe_callB (LX.k_len (K := K)) (by rfl) n_len (by decide +kernel) (pa_cons (pv 0) pa_nil)) pa_nil)) (pg_name (i := 4) sc_law_handed.nd rfl (.inr rfl)) (pss_cons (ps_setLc (i := 5) (own := [("k", 6)]) (g := gName 6) (tt := tYes) rfl sc_law_handed.nd rfl rfl (sw_true rfl rfl rfl (by decide +kernel)) (pi_range1 (by rfl) n_range (pa_cons (pe_callB (LX.k_len (K := K)) (by rfl) n_len (by decide +kernel) (pa_cons (pe_ix (LX.k_ixl (K := K)) (pe_ix (LX.k_ixl (K := K)) (pv 1) (pv 4) (fun _ _ => rfl)) pe_int (fun _ _ => rfl)) pa_nil)) pa_nil)) (blkOk_by (N := law_handed_N) (sc := defScope s_law_handed) (by decide +kernel)) (fun _ _ _ _ _ => pg_name (i := 6) sc_law_handed.nd rfl (Or.inl rfl)) (fun _ _ _ _ _ => pts_nil) (fun _ _ _ _ _ => (LX.pe_f O__law_form hr (by decide) (pa_cons (pe_ix (LX.k_ixl (K := K)) (pe_ix (LX.k_ixl (K := K)) (pe_ix (LX.k_ixl (K := K)) (pv 1) (pv 4) (fun _ _ => rfl)) pe_int (fun _ _ => rfl)) (pv 6) (fun _ _ => rfl)) (pa_cons (pe_ix (LX.k_ixl (K := K)) (pv 2) (pe_op op_mod (pe_callTy call_int1 (by rfl) n_int (by decide +kernel) (pa_cons (pe_op op_add (pv 4) (pv 6)) pa_nil)) pe_int) (fun _ _ => rfl)) pa_nil)))))
        (pss_one (ps_expr (pe_bm PySem.F.plainAttrs_list PySem.F.slot_list_append PySem.F.type_list_append mt_append (pv 3) (pa_cons (LX.pe_f O__law_form hr (by decide) (pa_cons (pe_lst (pa_cons (pe_ix (LX.k_ixl (K := K)) (pv 0) (pv 4) (fun _ _ => rfl)) (pa_cons (pe_ix (LX.k_ixl (K := K)) (pe_ix (LX.k_ixl (K := K)) (pv 1) (pv 4) (fun _ _ => rfl)) pe_int (fun _ _ => rfl)) (pa_cons (LX.pe_f O__law_form hr (by decide) (pa_cons (pv 5) (pa_cons (pe_ix (LX.k_ixl (K := K)) (pv 2) (pe_op op_add pe_int (pv 4)) (fun _ _ => rfl)) pa_nil))) pa_nil)))) (pa_cons (pe_ix (LX.k_ixl (K := K)) (pv 2) (pe_op op_add pe_int (pv 4)) (fun _ _ => rfl)) pa_nil))) pa_nil))))))
        (pss_one (ps_ret (LX.pe_f O__law_form hr (by decide) (pa_cons (pv 3) (pa_cons (pe_ix (LX.k_ixl (K := K)) (pv 2) pe_int (fun _ _ => rfl)) pa_nil))))))), ?_⟩
  refine x_asgL (X := H) (B := B) (xs := []) (el_lst ea_nil (by decide)) (fun p hpB hpH => ?_) H e (Ex.refl H)
  refine x_for (F := B) (Ex.new hpB) (ei_rng1 (n := (ns.length : Int)) (ea_cons (ev_is (ev_len (ev_var rfl) (sq_of hA)) (by rw [List.length_map])) ea_nil) (by omega)) (fun F' ys i σ' B' => ∃ (y4 y5 y6 : Option V) (Bs : Hp) (es : List V), σ' = [some (V.ref a), some (.ref b), some (.ref c), some (.ref p), y4, y5, y6] ∧ B' = upd Bs p (.lst es) ∧ Bs p = none ∧ Gr H F' Bs ∧ A2 (EntP K B) ((List.range i).map fun j => entDt fl j (ns.getD j "") (gs.getD j (0, []))) es Bs) (fun F' ys g hy av => ?_) (fun F' ys i σ' B' h => ?_) (fun F' ys i xx σ' B' g hy hxi h => ?_) (fun F' ys σ' B' g hy h => ?_)
  · have hF : F' p = none := av p hpB (by rw [upd_same]; exact Option.some_ne_none _)
    exact ⟨none, none, none, F', [], rfl, mrg_upd g.ex hF, hF, Gr.refl _ _, a2_nil⟩
  · obtain ⟨y4, y5, y6, Bs, es, rfl, rfl, hp, gs', tb⟩ := h
    exact gs'.ex.trans (Ex.new hp)
  · obtain ⟨y4, y5, y6, Bs, es, rfl, rfl, hp, gF, tb⟩ := h
    rw [hy] at hxi
    obtain ⟨rfl, hi⟩ := rng_get hxi
    rw [Int.toNat_natCast] at hi
    obtain ⟨n, hn⟩ : ∃ n, ns[i]? = some n := ⟨_, List.getElem?_eq_getElem hi⟩
    obtain ⟨gv, hgv⟩ : ∃ gv, gs[i]? = some gv := ⟨_, List.getElem?_eq_getElem (by omega)⟩
    obtain ⟨tv, htv⟩ : ∃ tv, ts[i]? = some tv := ⟨_, List.getElem?_eq_getElem (by rw [hG.1]; omega)⟩
    obtain ⟨pg, lg, gy, rfl, hg1, hg2, hg3⟩ := hG.2 i tv gv htv hgv
    have hnD : ns.getD i "" = n := by rw [List.getD_eq_getElem?_getD, hn]; rfl
    have hgD : gs.getD i (0, []) = gv := by rw [List.getD_eq_getElem?_getD, hgv]; rfl
    obtain ⟨ar, R⟩ := gv
    obtain ⟨ha1, ha3, hRok, hRl⟩ := hok _ (List.mem_of_getElem? hgv)
    have ha1 : 1 ≤ ar := ha1
    have ha3 : ar ≤ 3 := ha3
    have hRl : R.length ≤ 31 := hRl
    have hRok : ∀ r ∈ R, (r.length : Int) = ar ∧ TS.Bd big r := hRok
    have hg1 : B pg = some (.lst [.int ar, .ref lg]) := hg1
    have hg3 : A2 (IsTI K) R gy B := hg3
    have eBs : Ex B Bs := g.ex.trans gF.ex
    have eBm : Ex B (upd Bs p (.lst es)) := eBs.trans (Ex.new hp)
    have tabj : ∀ {σ : L2.St} {B3 : Hp}, σ[1]? = some (some (V.ref b)) → σ[4]? = some (some (.int (i : Int))) → Ex B B3 → Ev (tOp (rIxL K) (tVar 1) (tVar 4)) σ B3 (.ref pg) := fun {σ B3} h1 h4 e3 => ev_op (ev_var h1) (ev_var h4) (rv_ixL (sq_of (e3 _ _ hB)) (atI_get htv))
    have tab0 : ∀ {σ : L2.St} {B3 : Hp}, σ[1]? = some (some (V.ref b)) → σ[4]? = some (some (.int (i : Int))) → Ex B B3 → Ev (tOp (rIxL K) (tOp (rIxL K) (tVar 1) (tVar 4)) (tC (.int 0))) σ B3 (.int ar) := fun {σ B3} h1 h4 e3 => ev_op (tabj h1 h4 e3) ev_c (rv_ixL (sq_of (e3 _ _ hg1)) (atI_nat (j := 0) rfl))
    have tab1 : ∀ {σ : L2.St} {B3 : Hp}, σ[1]? = some (some (V.ref b)) → σ[4]? = some (some (.int (i : Int))) → Ex B B3 → Ev (tOp (rIxL K) (tOp (rIxL K) (tVar 1) (tVar 4)) (tC (.int 1))) σ B3 (.ref lg) := fun {σ B3} h1 h4 e3 => ev_op (tabj h1 h4 e3) ev_c (rv_ixL (sq_of (e3 _ _ hg1)) (atI_nat (j := 1) rfl))
    have hesl : es.length = i := by rw [tb.1, List.length_map, List.length_range]
    -- given
    refine x_asgO (P := fun z B' => ∃ (q : Addr) (ys : List V), z = .ref q ∧ B' q = some (.lst ys) ∧ A2 (RowP K B) (rowsDt fl i R) ys B') hp (er_lc1 (Pd := RowP K B) (xs := rngV 0 R.length) (ds := rowsDt fl i R) (fun _ => inferInstance) (ei_rng1 (n := (R.length : Int)) (ea_cons (ev_is (ev_len (tab1 rfl rfl eBs) (sq_of (eBs _ _ hg2))) (by rw [hg3.1])) ea_nil) (by omega)) (by rw [rngV_len]; omega) (by unfold rowsDt; rw [rngV_len, List.length_map, List.length_range]) (fun _ => rfl) (fun k x B' d e1 hx hd => ?_)) fun z B2 g2 hp2 ⟨pv, ys2, hz, hpv, hys2⟩ => ?_
    · obtain ⟨rfl, hk⟩ := rng_get hx
      unfold rowsDt at hd
      rw [List.getElem?_map, List.getElem?_range hk] at hd
      have hd := Option.some.inj hd
      subst hd
      obtain ⟨r, hr⟩ : ∃ r, R[k]? = some r := ⟨_, List.getElem?_eq_getElem hk⟩
      obtain ⟨yv, hyv⟩ : ∃ yv, gy[k]? = some yv := ⟨_, List.getElem?_eq_getElem (by rw [hg3.1]; exact hk)⟩
      obtain ⟨pr, rfl, hpr⟩ := hg3.2 k yv r hyv hr
      have hrD : R.getD k [] = r := by rw [List.getD_eq_getElem?_getD, hr]; rfl
      have eB' := eBs.trans e1
      have e7 : ((i : Int) + (k : Int)) % 7 = (((i + k) % 7 : Nat) : Int) := by omega
      refine EvR.imp (er_callB (Dd := dForm K) (Pz := FormAt K B' (fl.getD ((i + k) % 7) 0) (r.map V.int)) (ea_cons (ev_op (tab1 rfl rfl eB') (ev_var rfl) (rv_ixL (sq_of (eB' _ _ hg2)) (atI_get hyv))) (ea_cons (ev_dg (k := (i + k) % 7) (ev_var rfl) (ex_l eB' hC) (ev_is (ev_op (ev_int (ev_op (ev_var rfl) (ev_var rfl) rv_I0)) ev_c (rv_mod (by decide))) (congrArg V.int e7)) (by omega)) ea_nil)) ⟨pr, _, _, rfl, .inr (ex_t eB' hpr), rfl⟩) fun z B'' e2 hz => ?_
      obtain ⟨hrl, _⟩ := hRok r (List.mem_of_getElem? hr)
      refine ⟨?_, ?_⟩
      · unfold rowDt
        show Dp K B'' z (formD _ ((R.getD k []).map PyData.int))
        rw [hrD]
        exact hz.dp (dp_ints r)
      · obtain ⟨q', rfl, hq⟩ := hz.sqo eB'
        match r, hrl, hq with
        | m :: ms, _, hq => exact ⟨q', m, ms, rfl, hq⟩
        | [], hrl, _ => exact absurd hrl (by rw [List.length_nil]; omega)
    subst hz
    have e2B : Ex B B2 := eBs.trans g2.ex
    have hys2l : ys2.length ≤ 100 := by rw [hys2.1]; unfold rowsDt; rw [List.length_map, List.length_range]; omega
    have hidx : ∀ {m : Nat}, (m : Int) + (i : Int) = ((m + i : Nat) : Int) := fun {m} => by omega
    refine x_last (x_appO (P := EntP K B (entDt fl i n (ar, R))) inferInstance hp2 hpH (ev_var rfl) ?_ (by omega) fun z B3 g3 hp3 hz => ?_)
    · have hgiv : EvR (tCall (spR (dForm K)) [] E0 (tCons (tVar 5) (tCons (tOp (rIxL K) (tVar 2) (tOp (rI0 fun i j => .int (i + j)) (tC (.int 7)) (tVar 4))) tNil))) [some (V.ref a), some (.ref b), some (.ref c), some (.ref p), some (.int (i : Int)), some (.ref pv), y6] B2 (GivP K B (formD (fl.getD (7 + i) 0) (rowsDt fl i R))) := EvR.imp (er_callB (Dd := dForm K) (Pz := FormAt K B2 (fl.getD (7 + i) 0) ys2) (ea_cons (ev_var rfl) (ea_cons (ev_dg (k := 7 + i) (ev_var rfl) (ex_l e2B hC) (ev_is (ev_op ev_c (ev_var rfl) rv_I0) (congrArg V.int (hidx (m := 7)))) (by omega)) ea_nil)) ⟨pv, _, _, rfl, .inl (sq_of hpv), rfl⟩) fun z B' e3 hz => by
        refine ⟨hz.dp (dps_ex e3 (a2_dps (fun d y B h => h.1) hys2)), ?_⟩
        obtain ⟨g, rfl, hq⟩ := hz.sqo e2B
        refine ⟨g, rfl, ys2, hq, hys2l, fun y hy => ?_⟩
        obtain ⟨d, _, _, h⟩ := a2_mem hys2 hy
        exact h.mo e3
      have hlst : EvR (tLst (tCons (tOp (rIxL K) (tVar 0) (tVar 4)) (tCons (tOp (rIxL K) (tOp (rIxL K) (tVar 1) (tVar 4)) (tC (.int 0))) (tCons (tCall (spR (dForm K)) [] E0 (tCons (tVar 5) (tCons (tOp (rIxL K) (tVar 2) (tOp (rI0 fun i j => .int (i + j)) (tC (.int 7)) (tVar 4))) tNil))) tNil)))) [some (V.ref a), some (.ref b), some (.ref c), some (.ref p), some (.int (i : Int)), some (.ref pv), y6] B2 (IsLA (EntA K B n ar (formD (fl.getD (7 + i) 0) (rowsDt fl i R)))) := er_lstA inferInstance (EvAR.imp (ear inferInstance (eR_v (v := .str n) (ev_op (ev_var rfl) (ev_var rfl) (rv_ixL (sq_of (e2B _ _ hA)) (atI_get (by rw [List.getElem?_map, hn]; rfl))))) (ear inferInstance (eR_v (v := .int ar) (tab0 rfl rfl e2B)) (ear inferInstance hgiv ear_nil))) fun us B' _ ⟨u1, r1, h1, h2, u2, r2, h3, h4, u3, r3, h5, h6, h7⟩ => by
        have h2 : u1 = .str n := h2
        have h4 : u2 = .int ar := h4
        subst h7 h5 h4 h3 h2 h1
        exact ⟨u3, rfl, h6⟩) fun us B' ⟨u, h, _⟩ => by rw [h]; show (3 : Nat) ≤ 100000; decide
      refine er_callP (Pa := fun vs B' => ∃ z1 r, vs = z1 :: r ∧ IsLA (EntA K B n ar (formD (fl.getD (7 + i) 0) (rowsDt fl i R))) z1 B' ∧ ∃ z2 r2, r = z2 :: r2 ∧ IsV (.int (fl.getD (19 + i) 0)) z2 B' ∧ r2 = []) (ear inferInstance hlst (ear inferInstance (eR_v (ev_dg (k := 19 + i) (ev_var rfl) (ex_l e2B hC) (ev_is (ev_op ev_c (ev_var rfl) rv_I0) (congrArg V.int (hidx (m := 19)))) (by omega))) ear_nil)) ?_
      · rintro vs B' e3 ⟨z1, r, rfl, ⟨q', us, rfl, hq', u3, rfl, hu3⟩, z2, r2', rfl, hz2, rfl⟩
        have hz2 : z2 = .int (fl.getD (19 + i) 0) := hz2
        subst hz2
        refine ⟨FormAt K B' (fl.getD (19 + i) 0) [.str n, .int ar, u3], ⟨q', _, _, rfl, .inl (sq_of hq'), rfl⟩, fun z B'' e4 hz => ?_⟩
        refine ⟨hz.dp (.cons (.str n) (.cons (.int ar) (.cons (dp_ex e4 hu3.1) .nil))), ?_⟩
        obtain ⟨q2, rfl, hq2⟩ := hz.sqo (e2B.trans e3)
        obtain ⟨_, g, rfl, hg⟩ := hu3
        exact ⟨q2, n, ar, g, rfl, hq2, ha1, ha3, hg.mo e4⟩
    · refine x_nx rfl ⟨_, _, _, B3, _, rfl, rfl, hp3, (gF.trans g2).trans g3, ?_⟩
      rw [List.range_succ, List.map_append]
      have := (A2.mono (fun _ => inferInstance) (g2.ex.trans g3.ex) tb).snoc hz
      rw [← hnD, ← hgD] at this
      exact this
  · obtain ⟨y4, y5, y6, Bs, es, rfl, rfl, hp, gF, tb⟩ := h
    have hyl : ys.length = ns.length := by rw [hy, rngV_len, Int.toNat_natCast]
    rw [hyl] at tb
    have eBs : Ex B Bs := g.ex.trans gF.ex
    have eBm : Ex B (upd Bs p (.lst es)) := eBs.trans (Ex.new hp)
    refine x_ret (P := fun z B' => ∃ hd, z = .ref hd ∧ Dp K B' z (handedDt fl ns gs) ∧ Nest K B 100 hd B') (EvR.imp (er_callB (Dd := dForm K) (Pz := FormAt K (upd Bs p (.lst es)) (fl.getD 31 0) es) (ea_cons (ev_var rfl) (ea_cons (ev_dg (k := 31) (ev_var rfl) (ex_l eBm hC) ev_c (by omega)) ea_nil)) ⟨p, _, _, rfl, .inl (sq_of upd_same), rfl⟩) fun z B' e2 hz => ?_) (fun z' B' H' g2 hz e1 e2 => q z' H' B' e2 (((g.trans gF).trans (gr_new hp hpH)).trans g2) e1 hz)
    have hdp := hz.dp (dps_ex ((Ex.new hp).trans e2) (a2_dps (fun d y B h => h.1) tb))
    have hesl : es.length ≤ 12 := by rw [tb.1, List.length_map, List.length_range]; exact hnl
    have hents : ∀ v ∈ es, EntT K B 100 v Bs := fun v hv => by
      obtain ⟨d, _, _, h⟩ := a2_mem tb hv
      exact h
    obtain ⟨hd, rfl, hq⟩ := hz
    refine ⟨hd, rfl, hdp, ?_⟩
    split at hq
    · obtain ⟨q1, q2⟩ := hq
      have hBh : Bs hd = none := none_of (Ex.new hp) q2
      refine ⟨es, upd B hd (.lst []), fun a ha => ?_, .inl ⟨q1, none_of eBm q2, by rw [upd_same]; exact Option.some_ne_none _⟩, hesl, fun v hv => ((hents v hv).to fun a _ ha hb => ?_).mo ((Ex.new hp).trans e2)⟩
      · by_cases c : a = hd
        · subst c; rw [upd_same] at ha; exact nomatch ha
        · rw [upd_ne c] at ha; exact ha
      · rw [upd_ne fun c => by subst c; rw [hBh] at hb; exact nomatch hb]
        exact ha
    · exact ⟨es, B, fun _ h => h, .inr hq, hesl, fun v hv => (hents v hv).mo ((Ex.new hp).trans e2)⟩
end Kx
namespace Kx
open PySem PySem.Spec PyProof.Rows L2 Evl LX T XV RX WS
variable {P : Program} {w : World} {K : PySem.W.Frag} {mg : Str → Option Value} {base : Heap}
/-! ### spoil -/
/-- all stays but the list at l -/
def Kb (l : Addr) (B Bn : Hp) : Prop := ∀ a o, a ≠ l → B a = some o → Bn a = some o
theorem kb_upd {l : Addr} {B : Hp} {o : HO} : Kb l B (upd B l o) := fun a u h e => by rw [upd_ne h]; exact e
section
variable {l : Addr} {B Bn Z : Hp} {x0 x1 : List V}
theorem sqt_kb (k : Kb l B Bn) (h0 : B l = some (.lst x0)) {a : Addr} {xs : List V} (h : SqT K B a xs) : SqT K Bn a xs := by
  have hne : ∀ {o : HO}, B a = some o → (∀ ys, o ≠ .lst ys) → Bn a = some o := fun {o} h hn => k a o (fun c => by
    subst c
    rw [h0] at h
    exact hn x0 (Option.some.inj h).symm) h
  refine h.imp (fun h => ?_) id
  rcases h with h | ⟨o, h⟩
  · exact .inl (hne h fun ys c => nomatch c)
  · exact .inr ⟨o, hne h fun ys c => nomatch c⟩
theorem SqO.kb (k : Kb l B Bn) (h0 : B l = some (.lst x0)) {a : Addr} {xs : List V} (hx : xs ≠ x0) (h : SqO K Z B a xs) : SqO K Z Bn a xs :=
  h.imp (fun h => ⟨k a _ (fun c => by
    subst c
    have := h.1
    rw [h0] at this
    have := Option.some.inj this
    injection this with this
    exact hx this.symm) h.1, h.2⟩) (sqt_kb k h0)
theorem RowT.ref {y : V} (h : RowT K Z y B) : ∃ a, y = .ref a := by
  obtain ⟨a, _, _, h, _⟩ := h
  exact ⟨a, h⟩
theorem rows_ne_int {Z' : Hp} {ys : List V} {n : Int} {t : List V} (h : ∀ y ∈ ys, RowT K Z' y B) : ys ≠ .int n :: t := fun c => by
  subst c
  obtain ⟨a, e⟩ := (h _ List.mem_cons_self).ref
  exact nomatch e
theorem rows_ne_str {Z' : Hp} {ys : List V} {n : Str} {t : List V} (h : ∀ y ∈ ys, RowT K Z' y B) : ys ≠ .str n :: t := fun c => by
  subst c
  obtain ⟨a, e⟩ := (h _ List.mem_cons_self).ref
  exact nomatch e
/-- a row is changed -/
theorem RowT.kb1 {m m' : Int} {ms : List Int} (k : Kb l B Bn) (h0 : B l = some (.lst (.int m :: ms.map V.int))) (h1 : Bn l = some (.lst (.int m' :: ms.map V.int))) {y : V} (h : RowT K Z y B) : RowT K Z y Bn := by
  obtain ⟨a, n, ns, rfl, h⟩ := h
  rcases h with h | h
  · by_cases c : a = l
    · subst c
      exact ⟨a, m', ms, rfl, .inl ⟨h1, h.2⟩⟩
    · exact ⟨a, n, ns, rfl, .inl ⟨k a _ c h.1, h.2⟩⟩
  · exact ⟨a, n, ns, rfl, .inr (sqt_kb k h0 h)⟩
theorem GivT.kb1 {m m' : Int} {ms : List Int} (k : Kb l B Bn) (h0 : B l = some (.lst (.int m :: ms.map V.int))) (h1 : Bn l = some (.lst (.int m' :: ms.map V.int))) {L : Nat} {g : Addr} (h : GivT K Z L g B) : GivT K Z L g Bn := by
  obtain ⟨ys, h2, h3, h4⟩ := h
  exact ⟨ys, h2.kb k h0 (rows_ne_int h4), h3, fun y hy => (h4 y hy).kb1 k h0 h1⟩
theorem EntT.kb1 {m m' : Int} {ms : List Int} (k : Kb l B Bn) (h0 : B l = some (.lst (.int m :: ms.map V.int))) (h1 : Bn l = some (.lst (.int m' :: ms.map V.int))) {L : Nat} {v : V} (h : EntT K Z L v B) : EntT K Z L v Bn := by
  obtain ⟨a, s, n, g, rfl, h2, h3, h4, h5⟩ := h
  exact ⟨a, s, n, g, rfl, h2.kb k h0 (fun c => nomatch c), h3, h4, h5.kb1 k h0 h1⟩
/-- rows get one more -/
theorem RowT.kb2 (k : Kb l B Bn) (h0 : B l = some (.lst x0)) {Z' : Hp} (hr : ∀ y ∈ x0, RowT K Z' y B) {y : V} (h : RowT K Z y B) : RowT K Z y Bn := by
  obtain ⟨a, n, ns, rfl, h⟩ := h
  exact ⟨a, n, ns, rfl, h.kb k h0 fun c => rows_ne_int hr c.symm⟩
theorem GivT.kb2 (k : Kb l B Bn) (h0 : B l = some (.lst x0)) (hr : ∀ y ∈ x0, RowT K Z y B) {t : V} (h1 : Bn l = some (.lst (x0 ++ [t]))) (ht : RowT K Z t Bn) {L : Nat} {g : Addr} (h : GivT K Z L g B) : GivT K Z (L + 1) g Bn := by
  obtain ⟨ys, h2, h3, h4⟩ := h
  rcases h2 with h2 | h2
  · by_cases c : g = l
    · subst c
      have e : x0 = ys := by
        have := h2.1
        rw [h0] at this
        have := Option.some.inj this
        injection this
      subst e
      refine ⟨x0 ++ [t], .inl ⟨h1, h2.2⟩, by rw [List.length_append, List.length_singleton]; omega, fun y hy => ?_⟩
      rcases List.mem_append.mp hy with hy | hy
      · exact (h4 y hy).kb2 k h0 hr
      · rw [List.mem_singleton.mp hy]; exact ht
    · exact ⟨ys, .inl ⟨k g _ c h2.1, h2.2⟩, by omega, fun y hy => (h4 y hy).kb2 k h0 hr⟩
  · exact ⟨ys, .inr (sqt_kb k h0 h2), by omega, fun y hy => (h4 y hy).kb2 k h0 hr⟩
theorem EntT.kb2 (k : Kb l B Bn) (h0 : B l = some (.lst x0)) (hr : ∀ y ∈ x0, RowT K Z y B) {t : V} (h1 : Bn l = some (.lst (x0 ++ [t]))) (ht : RowT K Z t Bn) {L : Nat} {v : V} (h : EntT K Z L v B) : EntT K Z (L + 1) v Bn := by
  obtain ⟨a, s, n, g, rfl, h2, h3, h4, h5⟩ := h
  exact ⟨a, s, n, g, rfl, h2.kb k h0 (fun c => rows_ne_str hr c.symm), h3, h4, h5.kb2 k h0 hr h1 ht⟩
/-- an entry is changed -/
theorem RowT.kb3 {s : Str} {xs : List V} (k : Kb l B Bn) (h0 : B l = some (.lst (.str s :: xs))) {y : V} (h : RowT K Z y B) : RowT K Z y Bn := by
  obtain ⟨a, n, ns, rfl, h⟩ := h
  exact ⟨a, n, ns, rfl, h.kb k h0 fun c => nomatch c⟩
theorem GivT.kb3 {s : Str} {xs : List V} (k : Kb l B Bn) (h0 : B l = some (.lst (.str s :: xs))) {L : Nat} {g : Addr} (h : GivT K Z L g B) : GivT K Z L g Bn := by
  obtain ⟨ys, h2, h3, h4⟩ := h
  exact ⟨ys, h2.kb k h0 (rows_ne_str h4), h3, fun y hy => (h4 y hy).kb3 k h0⟩
theorem EntT.kb3 {s s' : Str} {n n' : Int} {g0 : Addr} (k : Kb l B Bn) (h0 : B l = some (.lst [.str s, .int n, .ref g0])) (h1 : Bn l = some (.lst [.str s', .int n', .ref g0])) (hn1 : 1 ≤ n') (hn3 : n' ≤ 3) {L : Nat} {v : V} (h : EntT K Z L v B) : EntT K Z L v Bn := by
  obtain ⟨a, s2, n2, g, rfl, h2, h3, h4, h5⟩ := h
  have h5' := h5.kb3 k h0
  rcases h2 with h2 | h2
  · by_cases c : a = l
    · subst c
      have e : [V.str s, .int n, .ref g0] = [V.str s2, .int n2, .ref g] := by
        have := h2.1
        rw [h0] at this
        have := Option.some.inj this
        injection this
      have e : g0 = g := by
        injection e with _ e
        injection e with _ e
        injection e with e _
        injection e
      subst e
      exact ⟨a, s', n', g0, rfl, .inl ⟨h1, h2.2⟩, hn1, hn3, h5'⟩
    · exact ⟨a, s2, n2, g, rfl, .inl ⟨k a _ c h2.1, h2.2⟩, h3, h4, h5'⟩
  · exact ⟨a, s2, n2, g, rfl, .inr (sqt_kb k h0 h2), h3, h4, h5'⟩
theorem GivT.up {L L' : Nat} {g : Addr} (hl : L ≤ L') (h : GivT K Z L g B) : GivT K Z L' g B := by
  obtain ⟨ys, h2, h3, h4⟩ := h
  exact ⟨ys, h2, Nat.le_trans h3 hl, h4⟩
theorem EntT.up {L L' : Nat} {v : V} (hl : L ≤ L') (h : EntT K Z L v B) : EntT K Z L' v B := by
  obtain ⟨a, s, n, g, h1, h2, h3, h4, h5⟩ := h
  exact ⟨a, s, n, g, h1, h2, h3, h4, h5.up hl⟩
end
theorem ixN_zero (n : Nat) : ixN (n + 1) 0 = some 0 := by unfold ixN; simp
/-- the heap that knows the one object alone -/
def sg (B : Hp) (a : Addr) : Hp := fun b => if b = a then B a else none
theorem sg_ex {B : Hp} {a : Addr} : Ex (sg B a) B := fun b o h => by
  unfold sg at h
  split at h
  · rename_i c; rw [c]; exact h
  · exact nomatch h
theorem sg_same {B : Hp} {a : Addr} : sg B a a = B a := if_pos rfl
theorem sg_ne {B : Hp} {a b : Addr} (h : b ≠ a) : sg B a b = none := if_neg h
/-- a sequence alone: no other list is known there -/
theorem alone {B : Hp} {a : Addr} {xs : List V} (Ok : Addr → Prop) {C : Prop} (h : (B a = some (.lst xs) ∧ ¬ Ok a ∧ C) ∨ SqT K B a xs) : ∃ F, Ex F B ∧ ((F a = some (.lst xs) ∧ C) ∨ SqT K F a xs) ∧ ∀ b ys, B b = some (.lst ys) → Ok b → F b = none := by
  rcases h with ⟨h1, h2, h3⟩ | h
  · refine ⟨sg B a, sg_ex, .inl ⟨by rw [sg_same]; exact h1, h3⟩, fun b ys _ hb => sg_ne fun c => ?_⟩
    subst c
    exact h2 hb
  · rcases h with h | h
    · have hnl : ∀ ys, B a ≠ some (.lst ys) := fun ys c => by
        rcases h with h | ⟨o, h⟩
        · rw [c] at h; exact nomatch h
        · rw [c] at h; exact nomatch h
      refine ⟨sg B a, sg_ex, .inr (.inl ?_), fun b ys h1 _ => sg_ne fun c => ?_⟩
      · rcases h with h | ⟨o, h⟩
        · exact .inl (by rw [sg_same]; exact h)
        · exact .inr ⟨o, by rw [sg_same]; exact h⟩
      · subst c
        exact hnl ys h1
    · exact ⟨(fun _ => none : Hp), (fun _ _ h => nomatch h), .inr (.inr h), fun _ _ _ _ => rfl⟩
def T1 : V → Hp → Prop := fun _ _ => True
instance : Mo T1 := ⟨fun _ _ => trivial⟩
def spSpoil (K : PySem.W.Frag) : Sp := fun vs H Q _ => ∃ (hd : Addr) (X B : Hp), vs = [.ref hd] ∧ Ex X H ∧ Ex B H ∧ Nest K X 100 hd B ∧ ∀ H2, Ex X H2 → Q .non H2
theorem mrg_no {A C : Hp} {a : Addr} (h : mrg A C a = none) : A a = none ∧ C a = none := by
  cases q : A a with
  | none => rw [mrg_none q] at h; exact ⟨rfl, h⟩
  | some o => rw [mrg_some q] at h; exact nomatch h
abbrev law_spoil_N : List Str := ["handed", "j", "entry", "given", "k", "row", "i"]
abbrev law_spoil_P : List Str := ["handed"]
theorem sc_law_spoil : FnScope ["handed", "j", "entry", "given", "k", "row", "i"] ["handed"] (defScope s_law_spoil) := ⟨rfl, rfl, rfl, by decide +kernel, rfl, by decide +kernel, by decide +kernel⟩
theorem ok_spoil (T : TX K mg) : OkF P w K mg base 1 "_law_spoil" ["handed"] (spSpoil K) := by
  have n_range := T.n "range" (by decide +kernel)
  have n_len := T.n "len" (by decide +kernel)
  have n_isinstance := T.n "isinstance" (by decide +kernel)
  have n_list := T.n "list" (by decide +kernel)
  have n_min := T.n "min" (by decide +kernel)
  have n_tuple := T.n "tuple" (by decide +kernel)
  refine T.okF 38 rfl (by decide +kernel) (fun f fd F => ?_) (fun _ _ _ _ _ _ us hl => match us, hl with | [_], _ => rfl)
  refine F.ok sc_law_spoil (fun vs H Q E h => by obtain ⟨hd, X, B, rfl, _⟩ := h; rfl) (fun cdv A outer s H vs Q E hr ⟨hd, X, B, hvs, eX, e, hN, q⟩ => ?_)
  subst hvs
  refine ⟨_, (pss_cons (ps_for PassesOwn.never rfl (pi_range1 (by rfl) n_range (pa_cons (pe_callB (LX.k_len (K := K)) (by rfl) n_len (by decide +kernel) (pa_cons (pv 0) pa_nil)) pa_nil)) (pg_name (i := 1) sc_law_spoil.nd rfl (.inl rfl)) (pss_cons (ps_set (i := 2) sc_law_spoil.nd rfl (.inl rfl) (pe_ix (RX.k_ixa (K := K)) (pv 0) (pv 1) (fun _ _ => rfl)))
        (pss_cons (ps_set (i := 3) sc_law_spoil.nd rfl (.inl rfl) (pe_ix (RX.k_ixa (K := K)) (pv 2) pe_int (fun _ _ => rfl)))
        (pss_cons (ps_for PassesOwn.never rfl (pi_range1 (by rfl) n_range (pa_cons (pe_callB (LX.k_len (K := K)) (by rfl) n_len (by decide +kernel) (pa_cons (pv 3) pa_nil)) pa_nil)) (pg_name (i := 4) sc_law_spoil.nd rfl (.inl rfl)) (pss_cons (ps_set (i := 5) sc_law_spoil.nd rfl (.inl rfl) (pe_ix (RX.k_ixa (K := K)) (pv 3) (pv 4) (fun _ _ => rfl)))
        (pss_one (ps_if (pt_val (pe_callB (LX.k_isi (K := K)) (by rfl) n_isinstance (by decide +kernel) (pa_cons (pv 5) (pa_cons (pe_bltn (v := .ty "list") (u := .type "list") (by rfl) n_list (by decide +kernel) rfl) pa_nil)))) (pss_one (ps_asg (pe_op op_sub pe_int (pe_callB (call_min2 rfl) (by rfl) n_min (by decide +kernel) (pa_cons (pe_ix (RX.k_ixa (K := K)) (pv 5) pe_int (fun _ _ => rfl)) (pa_cons pe_int pa_nil)))) (pg_sub (pv 5) pe_int set_list))) pss_nil))))
        (pss_cons (ps_if (pt_val (pe_callB (LX.k_isi (K := K)) (by rfl) n_isinstance (by decide +kernel) (pa_cons (pv 3) (pa_cons (pe_bltn (v := .ty "list") (u := .type "list") (by rfl) n_list (by decide +kernel) rfl) pa_nil)))) (pss_one (ps_expr (pe_bm PySem.F.plainAttrs_list PySem.F.slot_list_append PySem.F.type_list_append mt_append (pv 3) (pa_cons (pe_callTy (LX.k_tupOf (K := K)) (by rfl) n_tuple (by decide +kernel) (pa_cons (pe_lc (own := [("i", 6)]) (g := gName 6) (tt := tYes) rfl sc_law_spoil.nd (pi_range1 (by rfl) n_range (pa_cons (pe_ix (RX.k_ixa (K := K)) (pv 2) pe_int (fun _ _ => rfl)) pa_nil)) (blkOk_by (N := law_spoil_N) (sc := defScope s_law_spoil) (by decide +kernel)) (fun _ _ _ _ _ => pg_name (i := 6) sc_law_spoil.nd rfl (Or.inl rfl)) (fun _ _ _ _ _ => pts_nil) (fun _ _ _ _ _ => pe_int)) pa_nil)) pa_nil)))) pss_nil)
        (pss_one (ps_if (pt_val (pe_callB (LX.k_isi (K := K)) (by rfl) n_isinstance (by decide +kernel) (pa_cons (pv 2) (pa_cons (pe_bltn (v := .ty "list") (u := .type "list") (by rfl) n_list (by decide +kernel) rfl) pa_nil)))) (pss_cons (ps_asg pe_str (pg_sub (pv 2) pe_int set_list))
        (pss_one (ps_asg (pe_op op_sub pe_int (pe_ix (RX.k_ixa (K := K)) (pv 2) pe_int (fun _ _ => rfl))) (pg_sub (pv 2) pe_int set_list)))) pss_nil)))))))
        (pss_one (ps_if (pt_val (pe_callB (LX.k_isi (K := K)) (by rfl) n_isinstance (by decide +kernel) (pa_cons (pv 0) (pa_cons (pe_bltn (v := .ty "list") (u := .type "list") (by rfl) n_list (by decide +kernel) rfl) pa_nil)))) (pss_one (ps_expr (pe_bm PySem.F.plainAttrs_list PySem.F.slot_list_append PySem.F.type_list_append mt_append (pv 0) (pa_cons (pe_tup (pa_cons pe_str (pa_cons pe_int (pa_cons (pe_tup (pa_cons (pe_tup (pa_cons pe_int pa_nil)) pa_nil)) pa_nil)))) pa_nil)))) pss_nil))), ?_⟩
  obtain ⟨es, Z, hZ, hhd, hel, hents⟩ := hN
  obtain ⟨F0, eF0, hF0o, hF0n⟩ := alone (K := K) (B := B) (a := hd) (xs := es) (fun a => Z a = none) (C := X hd = none) (hhd.imp (fun h => ⟨h.1, h.2.2, h.2.1⟩) id)
  have hF0 : SqA K F0 hd es := hF0o.imp (fun h => sq_of h.1) id
  have fin : ∀ {D : Ends} {σ : L2.St} {B' : Hp}, D.nx = (fun _ H' => Q .non H') → Sx X tNext D σ B' := fun {D σ B'} hD H' e1 e2 => by
    show D.nx σ H'
    rw [hD]
    exact q H' e2
  refine x_for (X := X) (F := F0) (B := B) eF0 (ei_rng1 (n := (es.length : Int)) (ea_cons (ev_lenA (ev_var rfl) hF0) ea_nil) (by omega)) (fun F' ys i σ' B' => ∃ y1 y2 y3 y4 y5 y6 : Option V, σ' = [some (V.ref hd), y1, y2, y3, y4, y5, y6] ∧ Ex F' B' ∧ ∀ v ∈ es, EntT K (mrg Z F') (100 + i) v B') (fun F' ys g hy av => ?_) (fun F' ys i σ' B' h => ?_) (fun F' ys i xx σ' B' g hy hxi h => ?_) (fun F' ys σ' B' g hy h => ?_) H e eX
  · refine ⟨none, none, none, none, none, none, rfl, mrg_l, fun v hv => ((hents v hv).to (Z := mrg Z F') fun a xs h1 h2 => ?_).mo (mrg_r (B1 := F') (B2 := B) (H := mrg F' B) mrg_l ?_)⟩
    · rw [mrg_none h1]
      exact av a (hF0n a xs h2 h1) (by rw [h2]; exact Option.some_ne_none _)
    · intro a o ha
      cases c : F' a with
      | none => rw [mrg_none c]; exact ha
      | some u =>
        rw [mrg_some c]
        cases c2 : F0 a with
        | none => exact absurd (av a c2 (by rw [ha]; exact Option.some_ne_none _)) (by rw [c]; exact Option.some_ne_none _)
        | some u2 => rw [← c, g.ex a u2 c2, ← eF0 a u2 c2, ha]
  · obtain ⟨_, _, _, _, _, _, _, h, _⟩ := h
    exact h
  · obtain ⟨y1, y2, y3, y4, y5, y6, rfl, eF, hE⟩ := h
    rw [hy] at hxi
    obtain ⟨rfl, hi⟩ := rng_get hxi
    rw [Int.toNat_natCast] at hi
    obtain ⟨v, hv⟩ : ∃ v, es[i]? = some v := ⟨_, List.getElem?_eq_getElem hi⟩
    obtain ⟨a, s, n, gv, rfl, ha, hn1, hn3, ys2, hg, hgl, hgr⟩ := hE v (List.mem_of_getElem? hv)
    have hXn : ∀ b, mrg Z F' b = none → X b = none := fun b hb => hZ b (mrg_no hb).1
    have hFn : ∀ b, mrg Z F' b = none → F' b = none := fun b hb => (mrg_no hb).2
    have hF' : SqA K F' hd es := ex_a g.ex hF0
    refine x_asgV (v := .ref a) (ev_op (ev_var rfl) (ev_var rfl) (rv_ixA (ex_a eF hF') (atI_get hv))) ?_
    refine x_asgV (v := .ref gv) (ev_op (ev_var rfl) ev_c (rv_ixA ha.a at3.2.2)) ?_
    -- the rows
    obtain ⟨F2, eF2, hF2o, hF2n⟩ := alone (K := K) (B := B') (a := gv) (xs := ys2) (fun b => ∃ m ms, B' b = some (.lst (.int m :: ms))) (C := True) (hg.imp (fun h => ⟨h.1, (fun ⟨m, ms, c⟩ => rows_ne_int hgr (by
      rw [h.1] at c
      have c := Option.some.inj c
      injection c)), trivial⟩) id)
    have hF2 : SqA K F2 gv ys2 := hF2o.imp (fun h => sq_of h.1) id
    refine x_for (F := F2) eF2 (ei_rng1 (n := (ys2.length : Int)) (ea_cons (ev_lenA (ev_var rfl) hF2) ea_nil) (by omega)) (fun G zs k σ2 B2 => ∃ z4 z5 z6 : Option V, σ2 = [some (V.ref hd), some (.int (i : Int)), some (.ref a), some (.ref gv), z4, z5, z6] ∧ Ex G B2 ∧ Ex F' B2 ∧ (∀ v ∈ es, EntT K (mrg Z F') (100 + i) v B2) ∧ SqO K (mrg Z F') B2 a [.str s, .int n, .ref gv] ∧ SqO K (mrg Z F') B2 gv ys2 ∧ (∀ y ∈ ys2, RowT K (mrg Z F') y B2) ∧ ∀ y ∈ ys2, RowT K (mrg (mrg Z F') G) y B2) (fun G zs g2 hy2 av2 => ?_) (fun G zs k σ2 B2 h => ?_) (fun G zs k x2 σ2 B2 g2 hy2 hx2 h => ?_) (fun G zs σ2 B2 g2 hy2 h => ?_)
    · have eBG : Ex B' (mrg G B') := fun b o hb => by
        cases c : G b with
        | none => rw [mrg_none c]; exact hb
        | some u =>
          rw [mrg_some c]
          cases c2 : F2 b with
          | none => exact absurd (av2 b c2 (by rw [hb]; exact Option.some_ne_none _)) (by rw [c]; exact Option.some_ne_none _)
          | some u2 => rw [← c, g2.ex b u2 c2, ← eF2 b u2 c2, hb]
      refine ⟨y4, y5, y6, rfl, mrg_l, eF.trans eBG, fun v hv => (hE v hv).mo eBG, ha.ex eBG, hg.ex eBG, fun y hy => (hgr y hy).mo eBG, fun y hy => ?_⟩
      obtain ⟨b, m, ms, rfl, hb⟩ := hgr y hy
      refine ⟨b, m, ms, rfl, ?_⟩
      rcases hb with hb | hb
      · refine .inl ⟨eBG _ _ hb.1, ?_⟩
        rw [mrg_none hb.2]
        exact av2 b (hF2n b _ hb.1 ⟨m, _, hb.1⟩) (by rw [hb.1]; exact Option.some_ne_none _)
      · exact .inr (ex_t eBG hb)
    · obtain ⟨_, _, _, _, h, _⟩ := h
      exact h
    · obtain ⟨z4, z5, z6, rfl, eG, eF2', hE2, ha2, hg2, hgr2, hgr3⟩ := h
      rw [hy2] at hx2
      obtain ⟨rfl, hk⟩ := rng_get hx2
      rw [Int.toNat_natCast] at hk
      obtain ⟨y, hyk⟩ : ∃ y, ys2[k]? = some y := ⟨_, List.getElem?_eq_getElem hk⟩
      obtain ⟨b, m, ms, rfl, hb⟩ := hgr3 y (List.mem_of_getElem? hyk)
      refine x_asgV (v := .ref b) (ev_op (ev_var rfl) (ev_var rfl) (rv_ixA hg2.a (atI_get hyk))) ?_
      rcases hb with ⟨hb, hbn⟩ | hb
      · obtain ⟨hbn1, hbG⟩ := mrg_no hbn
        refine x_last (x_when (b := true) (et_B (ev_isL (ev_var rfl) hb)) (fun _ => ?_) (fun h => nomatch h))
        refine x_last (x_setL (l := b) (j := 0) (v := .int (1 - if 1 < m then 1 else m)) hb (hXn b hbn1) (ev_op ev_c (ev_min2 (ev_op (ev_var rfl) ev_c (rv_ixA (.inl (sq_of hb)) (atI_nat (j := 0) rfl))) ev_c) rv_I0) (ev_var rfl) ev_c (ixN_zero _) ?_)
        have kb : Kb b B2 (upd B2 b (.lst (.int (1 - if 1 < m then 1 else m) :: ms.map V.int))) := kb_upd
        have h1 : (upd B2 b (.lst (.int (1 - if 1 < m then 1 else m) :: ms.map V.int))) b = some (.lst (.int (1 - if 1 < m then 1 else m) :: ms.map V.int)) := upd_same
        have exu : ∀ {C : Hp}, Ex C B2 → C b = none → Ex C (upd B2 b (.lst (.int (1 - if 1 < m then 1 else m) :: ms.map V.int))) := fun {C} ec hc d o hd' => by
          rw [upd_ne fun c => by subst c; rw [hc] at hd'; exact nomatch hd']
          exact ec d o hd'
        exact x_nx rfl ⟨_, _, _, rfl, exu eG hbG, exu eF2' (hFn b hbn1), fun v hv => (hE2 v hv).kb1 kb hb h1, ha2.kb kb hb (fun c => nomatch c), hg2.kb kb hb (rows_ne_int hgr2), fun y hy => (hgr2 y hy).kb1 kb hb h1, fun y hy => (hgr3 y hy).kb1 kb hb h1⟩
      · exact x_last (x_when (b := false) (et_B (ev_isLt (ev_var rfl) hb)) (fun h => nomatch h) (fun _ => x_nx rfl ⟨_, _, _, rfl, eG, eF2', hE2, ha2, hg2, hgr2, hgr3⟩))
    · obtain ⟨z4, z5, z6, rfl, eG, eF2', hE2, ha2, hg2, hgr2, _⟩ := h
      -- the end of a turn: the entry
      have last : ∀ {B3 : Hp}, Ex F' B3 → (∀ v ∈ es, EntT K (mrg Z F') (100 + (i + 1)) v B3) → SqO K (mrg Z F') B3 a [.str s, .int n, .ref gv] → ∀ {D : Ends}, D.nx = NxS X (fun σ' B' => ∃ y1 y2 y3 y4 y5 y6 : Option V, σ' = [some (V.ref hd), y1, y2, y3, y4, y5, y6] ∧ Ex F' B' ∧ ∀ v ∈ es, EntT K (mrg Z F') (100 + (i + 1)) v B') → Sx X (tSeq (tIfS (tTest (tCB (rIsi K) (tCons (tVar 2) (tCons (tC (.ty "list")) tNil)))) (tSeq (tAsg (tC (.str "changed")) (gSub (tVar 2) (tC (.int 0)) rSetL)) (tAsg (tOp (rI0 fun i j => .int (i - j)) (tC (.int 4)) (tOp (rIxA K) (tVar 2) (tC (.int 1)))) (gSub (tVar 2) (tC (.int 1)) rSetL))) tNext) tNext) D [some (V.ref hd), some (.int (i : Int)), some (.ref a), some (.ref gv), z4, z5, z6] B3 := fun {B3} e3 hE3 ha3 {D} hD => by
        rcases ha3 with ⟨ha3, han⟩ | ha3
        · refine x_when (b := true) (et_B (ev_isL (ev_var rfl) ha3)) (fun _ => ?_) (fun h => nomatch h)
          refine x_setL (l := a) (k := 0) (j := 0) ha3 (hXn a han) ev_c (ev_var rfl) ev_c rfl ?_
          refine x_last (x_setL (l := a) (xs := [.str "changed", .int n, .ref gv]) (k := 1) (j := 1) (v := .int (4 - n)) upd_same (hXn a han) (ev_op ev_c (ev_op (ev_var rfl) ev_c (rv_ixA (.inl (sq_of upd_same)) at3.2.1)) rv_I0) (ev_var rfl) ev_c rfl ?_)
          have kb : Kb a B3 (upd (upd B3 a (.lst [.str "changed", .int n, .ref gv])) a (.lst [.str "changed", .int (4 - n), .ref gv])) := fun b o h1 h2 => by rw [upd_ne h1, upd_ne h1]; exact h2
          refine x_nx hD ⟨_, _, _, _, _, _, rfl, fun b o hb => ?_, fun v hv => (hE3 v hv).kb3 kb ha3 upd_same (by omega) (by omega)⟩
          have c : b ≠ a := fun c => by subst c; rw [hFn b han] at hb; exact nomatch hb
          exact kb b o c (e3 b o hb)
        · exact x_when (b := false) (et_B (ev_isLt (ev_var rfl) ha3)) (fun h => nomatch h) (fun _ => x_nx hD ⟨_, _, _, _, _, _, rfl, e3, hE3⟩)
      rcases hg2 with ⟨hg2, hgn⟩ | hg2
      · refine x_when (b := true) (et_B (ev_isL (ev_var rfl) hg2)) (fun _ => ?_) (fun h => nomatch h)
        have haD : SqA K (RX.del B2 gv) a [.str s, .int n, .ref gv] := by
          have hd : Kb gv B2 (RX.del B2 gv) := fun b o h1 h2 => by rw [RX.del_ne h1]; exact h2
          exact (ha2.kb hd hg2 fun c => rows_ne_str hgr2 c.symm).a
        refine x_last (x_app (l := gv) (P := TpP K fun us _ => us = (List.replicate n.toNat (1 : Int)).map V.int) inferInstance hg2 (hXn gv hgn) (ev_var rfl) (er_tup inferInstance (EvR.imp (rL (el_lcR1 (n := n) (fun _ => true) (fun _ => .int 1) (ea_cons (ev_op (ev_var rfl) ev_c (rv_ixA haD at3.2.1)) ea_nil) (by omega) (fun _ => rfl) (fun _ _ _ _ => et_yes) (fun i H1 e hi _ => ev_c))) fun z B' _ ⟨p, h1, h2⟩ => ⟨p, _, h1, .inl (sq_of h2), ?_⟩)) (by omega) fun z B3 g3 hgv3 hz => ?_)
        · rw [given_all]
          apply List.ext_getElem?
          intro k
          rw [List.getElem?_map, List.getElem?_map, List.getElem?_replicate]
          by_cases c : k < n.toNat
          · rw [List.getElem?_range c, if_pos c]; rfl
          · rw [List.getElem?_eq_none (by rw [List.length_range]; omega), if_neg c]; rfl
        · obtain ⟨pt, _, rfl, hpt, rfl⟩ := hz
          have kb : Kb gv B2 (upd B3 gv (.lst (ys2 ++ [.ref pt]))) := fun b o h1 h2 => by
            rw [upd_ne h1]
            exact g3.ex b o (by rw [RX.del_ne h1]; exact h2)
          have hnr : (List.replicate n.toNat (1 : Int)) = 1 :: List.replicate (n.toNat - 1) 1 := by
            have : n.toNat = (n.toNat - 1) + 1 := by omega
            rw [this, List.replicate_succ]
            rfl
          have hpt2 : SqT K (upd B3 gv (.lst (ys2 ++ [.ref pt]))) pt ((List.replicate n.toNat (1 : Int)).map V.int) := by
            refine hpt.imp (fun h => ?_) id
            have c : pt ≠ gv := fun c => by
              subst c
              rcases h with h | ⟨o, h⟩ <;> (rw [hgv3] at h; exact nomatch h)
            exact h.imp (fun h => by rw [upd_ne c]; exact h) fun ⟨o, h⟩ => ⟨o, by rw [upd_ne c]; exact h⟩
          have hrow : RowT K (mrg Z F') (.ref pt) (upd B3 gv (.lst (ys2 ++ [.ref pt]))) := by
            rw [hnr] at hpt2
            exact ⟨pt, 1, _, rfl, .inr hpt2⟩
          refine x_end (x_last (last (fun b o hb => ?_) (fun v hv => (hE2 v hv).kb2 kb hg2 hgr2 upd_same hrow) (ha2.kb kb hg2 fun c => rows_ne_str hgr2 c.symm) rfl))
          have c : b ≠ gv := fun c => by subst c; rw [hFn b hgn] at hb; exact nomatch hb
          exact kb b o c (eF2' b o hb)
      · exact x_when (b := false) (et_B (ev_isLt (ev_var rfl) hg2)) (fun h => nomatch h) (fun _ => x_last (last eF2' (fun v hv => (hE2 v hv).up (by omega)) ha2 rfl))
  · obtain ⟨y1, y2, y3, y4, y5, y6, rfl, eF, hE⟩ := h
    rcases hF0o with ⟨h1, h2⟩ | hh0
    · have hh : B' hd = some (.lst es) := eF _ _ (g.ex _ _ h1)
      refine x_last (x_when (b := true) (et_B (ev_isL (ev_var rfl) hh)) (fun _ => ?_) (fun h => nomatch h))
      have h1 : ∀ {σ : L2.St} {C : Hp}, EvR (tTup (tCons (tC (.int 0)) tNil)) σ C T1 := fun {σ C} => EvR.imp (rU (eu_tup (ea_cons ev_c ea_nil) (show 1 ≤ 100000 by decide))) fun _ _ _ _ => trivial
      have h2' : ∀ {σ : L2.St} {C : Hp}, EvR (tTup (tCons (tTup (tCons (tC (.int 0)) tNil)) tNil)) σ C T1 := fun {σ C} => EvR.imp (er_tupN (Pa := fun vs B' => ∃ z r, vs = z :: r ∧ T1 z B' ∧ r = []) inferInstance (ear inferInstance h1 ear_nil) fun vs B' ⟨z, r, h, _, h2⟩ => by subst h2 h; show (1 : Nat) ≤ 100000; decide) fun _ _ _ _ => trivial
      exact x_last (x_app (l := hd) (P := T1) inferInstance hh h2 (ev_var rfl) (EvR.imp (er_tupN (Pa := fun vs B' => ∃ z r, vs = z :: r ∧ T1 z B' ∧ ∃ z r', r = z :: r' ∧ T1 z B' ∧ ∃ z r'', r' = z :: r'' ∧ T1 z B' ∧ r'' = []) inferInstance (ear inferInstance (rVp ev_c trivial) (ear inferInstance (rVp ev_c trivial) (ear inferInstance h2' ear_nil))) fun vs B' ⟨z, r, h, _, z', r', h', _, z'', r'', h'', _, h3⟩ => by subst h3 h'' h' h; show (3 : Nat) ≤ 100000; decide) fun _ _ _ _ => trivial) (by omega) fun z B3 g3 h4 _ => fin rfl)
    · exact x_last (x_when (b := false) (et_B (ev_isLt (ev_var rfl) (ex_t (g.ex.trans eF) hh0))) (fun h => nomatch h) (fun _ => fin rfl))
end Kx
namespace Kx
open PySem PySem.Spec PyProof.Rows L2 Evl LX T XV RX WS
variable {P : Program} {w : World} {K : PySem.W.Frag} {mg : Str → Option Value} {base : Heap}
/-! ### the class NoSuchRelation -/
theorem xk (T : TX K mg) : ExK K (nsr K) := XV.exB_ok (He.ba (He.ba (He.ba T.t.x).1).1).1
theorem x_init (T : TX K mg) : (PySem.W.findIn K (.ref (nsr K)) "__init__" = some (some (.ref (He.ma K (nsr K) "__init__"))) ∧ PySem.W.typeIn K (.ref (He.ma K (nsr K) "__init__")) = some (.type "function")) ∧ PySem.W.findIn K (.ref (nsr K)) "name" = some none := by
  have z := (He.ba (He.ba (He.ba T.t.x).1).1).2
  obtain ⟨z1, z2⟩ := He.ba z
  obtain ⟨z3, z4⟩ := He.ba z1
  exact ⟨⟨of_decide_eq_true z3, of_decide_eq_true z4⟩, of_decide_eq_true z2⟩
theorem x_kit (T : TX K mg) {x : Str} {b : Bool} (h : (x, b) ∈ kitN) : PySem.W.kitOne K (.ref (nsr K)) (.ref (He.ga K x)) = some b := of_decide_eq_true (List.all_eq_true.mp (He.ba (He.ba (He.ba T.t.x).1).2).1 (x, b) h)
theorem x_kitV (T : TX K mg) : PySem.W.kitOne K (.ref (nsr K)) (.type "ValueError") = some true := of_decide_eq_true (He.ba (He.ba (He.ba (He.ba T.t.x).1).2).2).1
theorem x_exm (T : TX K mg) : PySem.W.exmOne K (.ref (nsr K)) (.ref (He.ga K "OnceError")) = some true := of_decide_eq_true (He.ba (He.ba (He.ba (He.ba T.t.x).1).2).2).2
def okY : V → Hp → Prop := fun _ _ => True
abbrev NoSuchRelation_init_N : List Str := ["self", "name"]
abbrev NoSuchRelation_init_P : List Str := ["self", "name"]
theorem sc_NoSuchRelation_init : FnScope ["self", "name"] ["self", "name"] (defScope s_NoSuchRelation_init) := ⟨rfl, rfl, rfl, by decide +kernel, rfl, by decide +kernel, by decide +kernel⟩
theorem ok_nsr (T : TX K mg) : OkC P w K mg base 1 "NoSuchRelation" ["self", "name"] (spInit K (nsr K) "name" okY) := by
  have o : mg "NoSuchRelation" = some (.ref (nsr K)) ∧ OexC K (nsr K) := ⟨T.g _ (by decide +kernel), (xk T).o⟩
  obtain ⟨hi, hno⟩ := x_init T
  refine T.okC 1 rfl o hi (fun f fd F => ?_) (fun _ _ _ _ _ _ us hl => match us, hl with | [_, _], _ => rfl)
  refine F.ok sc_NoSuchRelation_init (fun vs H Q E h => ?_) (fun cdv A outer s H vs Q E hr h => ?_)
  · obtain ⟨a, y, rfl, _⟩ := h
    rfl
  · obtain ⟨a, y, rfl, hy, ha, q⟩ := h
    refine ⟨_, (pss_one (ps_ost (pv 0) (pv 1))), ?_⟩
    exact ⟨y, rfl, .ref a, rfl, a, _, rfl, o.2, hno, .inl ⟨ha, q⟩⟩
/-! ### arity and rows of a name that is not there -/
def spRaise (K : PySem.W.Frag) (P : Program) (w : World) (C : Addr) : Sp := fun vs H _ E => ∃ (x : Addr) (size : Int) (rels : List Rel) (n : Str) (B : Hp), vs = [.ref x, .str n] ∧ Ex B H ∧ WorldAt K P w C size rels x B ∧ n ∉ rels.map Rel.name ∧ ∀ d H2, Ex H H2 → H2 d = some (.xd [("name", .str n)]) → E (.ref (nsr K)) (some d) H2
theorem fnX_table (T : TX K mg) {C f : Addr} {fd : FuncData} (F : Fun K "_table" "World._table" s_World__table f fd) (hC : Cls K C) (hN : NoAttr K C "_tables") : FnOk P w K mg base (L2.CX P w) 3 f fd ["self", "name"] (spRaise K P w C) := by
  have n_isinstance := T.n "isinstance" (by decide +kernel)
  have n_str := T.n "str" (by decide +kernel)
  have C_nsr := ok_nsr (P := P) (w := w) (base := base) T
  refine F.okX sc_World__table (fun vs H Q E h => by obtain ⟨x, s, r, n, B, rfl, _⟩ := h; rfl) (fun cdv A outer s H vs Q E hr ⟨x, size, rels, n, B, hvs, e, hW, hn, q⟩ => ?_)
  subst hvs
  refine ⟨_, (pss_cons (ps_if (pw_or (pt_not (pt_val (pe_callB (LX.k_isi (K := K)) (by rfl) n_isinstance (by decide +kernel) (pa_cons (pv 1) (pa_cons (pe_bltn (v := .ty "str") (u := .type "str") (by rfl) n_str (by decide +kernel) rfl) pa_nil))))) (pw_or1 (pt_cmp (pc_dnotin (LX.u1 hr) (pv 1) (LX.k_fld (K := K) (pv 0) (by rfl)))))).pt (pss_one (ps_raise rfl (takes_of rfl rfl rfl rfl) (RX.pmk_c C_nsr hr (by decide) (pa_cons (pv 1) pa_nil)))) pss_nil)
        (pss_one (ps_ret (pe_dget (LX.u1 hr) (LX.k_fld (K := K) (pv 0) (by rfl)) (pv 1) (fun _ _ => rfl))))), ?_⟩
  obtain ⟨dx, zn, pf, t, za, ps, kvs, ys, st, ns, h1, h2, h3, h4, h5, h6, _⟩ := hW
  have hv : valV kvs (Sum.inr n) = none := by
    have := TabAt.find (s := n) h6
    rw [find_none hn] at this
    exact this
  refine x_when (X := H) (B := B) (b := true) (et_is (et_or (a := false) (b := true) (et_not (a := true) (et_B (ev_isi_str (ev_var rfl) (show kitB "str" "str" = _ by decide +kernel)))) fun _ => et_B (ev_is (et_dnin (ev_var rfl) (ev_fldI (ev_var rfl) h1 hC hN rfl) h5) (by rw [hv]; rfl))) rfl) (fun _ => ?_) (fun h => nomatch h) H e (Ex.refl H)
  exact x_raise (f := "name") (ea_cons (ev_var rfl) ea_nil) fun d H' e1 h => q d H' e1 h
theorem x_retE {X B : Hp} {σ : L2.St} {D : Ends} {C x dx : Addr} {fs : List (Str × V)} {vs : List V} {m : Str} {sp : Sp} {E : L2.St → XK} {ta tb : TE} {tr : TA} {r : R2} (ho : Ev ta σ B (.ref x)) (hx : B x = some (.ins C dx fs)) (hl : fs.lookup m = none) (h : EvA tr σ B vs) (hs : ∀ H1 Q, Ex B H1 → Ex X H1 → sp (.ref x :: vs) H1 Q (E σ)) : Sx X (tRet (tOp r (tMethE C m sp E ta tr) tb)) D σ B := fun H e eX => by
  show ta σ H _
  exact ho H e _ fun H1 e1 => ⟨x, dx, fs, rfl, e1 _ _ (e _ _ hx), hl, h H1 (e.trans e1) _ fun H2 e2 => hs H2 _ ((e.trans e1).trans e2) ((eX.trans e1).trans e2)⟩
theorem fnX_arity (T : TX K mg) {C f : Addr} {fd : FuncData} (F : Fun K "arity" "World.arity" s_World_arity f fd) (hC : Cls K C) (M__table : OkMX P w K mg base 3 C "_table" ["self", "name"] (spRaise K P w C)) : FnOk P w K mg base (L2.CX P w) 4 f fd ["self", "name"] (spRaise K P w C) := by
  
  refine F.okX sc_World_arity (fun vs H Q E h => by obtain ⟨x, s, r, n, B, rfl, _⟩ := h; rfl) (fun cdv A outer s H vs Q E hr ⟨x, size, rels, n, B, hvs, e, hW, hn, q⟩ => ?_)
  subst hvs
  refine ⟨_, (pss_one (ps_ret (pe_ix (LX.k_ixt (K := K)) (RX.pe_methE M__table hC hr (by decide) (fun σ => passAt (takes_of rfl rfl rfl rfl) σ) (pv 0) (pa_cons (pv 1) pa_nil)) pe_int (fun _ _ => rfl)))), ?_⟩
  have hlk : ∃ (dx : Addr) (fs : List (Str × V)), B x = some (.ins C dx fs) ∧ fs.lookup (Str.ofString "_table") = none := by
    obtain ⟨dx, zn, pf, t, za, ps, kvs, ys, st, ns, h1, _⟩ := hW
    exact ⟨dx, _, h1, rfl⟩
  obtain ⟨dx, fs, hx, hl⟩ := hlk
  exact x_retE (X := H) (ev_var rfl) hx hl (ea_cons (ev_var rfl) ea_nil) (fun H1 Q1 e1 e2 => ⟨x, size, rels, n, B, rfl, e1, hW, hn, fun d H2 e3 h => q d H2 (e2.trans e3) h⟩) H e (Ex.refl H)
theorem fnX_rows (T : TX K mg) {C f : Addr} {fd : FuncData} (F : Fun K "rows" "World.rows" s_World_rows f fd) (hC : Cls K C) (M__table : OkMX P w K mg base 3 C "_table" ["self", "name"] (spRaise K P w C)) : FnOk P w K mg base (L2.CX P w) 4 f fd ["self", "name"] (spRaise K P w C) := by
  
  refine F.okX sc_World_rows (fun vs H Q E h => by obtain ⟨x, s, r, n, B, rfl, _⟩ := h; rfl) (fun cdv A outer s H vs Q E hr ⟨x, size, rels, n, B, hvs, e, hW, hn, q⟩ => ?_)
  subst hvs
  refine ⟨_, (pss_one (ps_ret (pe_ix (LX.k_ixt (K := K)) (RX.pe_methE M__table hC hr (by decide) (fun σ => passAt (takes_of rfl rfl rfl rfl) σ) (pv 0) (pa_cons (pv 1) pa_nil)) pe_int (fun _ _ => rfl)))), ?_⟩
  have hlk : ∃ (dx : Addr) (fs : List (Str × V)), B x = some (.ins C dx fs) ∧ fs.lookup (Str.ofString "_table") = none := by
    obtain ⟨dx, zn, pf, t, za, ps, kvs, ys, st, ns, h1, _⟩ := hW
    exact ⟨dx, _, h1, rfl⟩
  obtain ⟨dx, fs, hx, hl⟩ := hlk
  exact x_retE (X := H) (ev_var rfl) hx hl (ea_cons (ev_var rfl) ea_nil) (fun H1 Q1 e1 e2 => ⟨x, size, rels, n, B, rfl, e1, hW, hn, fun d H2 e3 h => q d H2 (e2.trans e3) h⟩) H e (Ex.refl H)
/-! ### refuses -/
def dRefuses (K : PySem.W.Frag) (P : Program) (w : World) (C : Addr) : List V → Hp → (V → Hp → Prop) → Prop := fun vs B Pz => ∃ (x : Addr) (n : Str) (which : Int) (size : Int) (rels : List Rel), vs = [.ref x, .str n, .int which] ∧ WorldAt K P w C size rels x B ∧ n ∉ rels.map Rel.name ∧ Pz = IsV (.bl true)
abbrev law_refuses_N : List Str := ["world", "text", "which", "e"]
abbrev law_refuses_P : List Str := ["world", "text", "which"]
theorem sc_law_refuses : FnScope ["world", "text", "which", "e"] ["world", "text", "which"] (defScope s_law_refuses) := ⟨rfl, rfl, rfl, by decide +kernel, rfl, by decide +kernel, by decide +kernel⟩
section
variable {σ : L2.St} {B : Hp} {te : TE} {a : Addr} {cls : Value} {d : Option Addr}
theorem ev_isED {D dd : Addr} {fs : List (Str × V)} {c : V} {cv : Value} {b : Bool} (h : Ev te σ B (.ref a)) (h1 : cls = .ref D) (h2 : d = some dd) (h3 : B dd = some (.xd fs)) (T : ExK K D) (hc : ClsV c cv) (hk : PySem.W.kitOne K (.ref D) cv = some b) : Ev (tCB (rIsED K a cls d) (tCons te (tCons (tC c) tNil))) σ B (.bl b) :=
  ev_cb (ea_cons h (ea_cons ev_c ea_nil)) fun H1 e Q q => ⟨D, dd, fs, c, cv, b, h1, h2, e _ _ h3, T, rfl, hc, hk, q H1 (Ex.refl H1)⟩
theorem ev_xf {C dd : Addr} {f : Str} {fs : List (Str × V)} {v : V} (h : Ev te σ B (.ref a)) (h1 : cls = .ref C) (h2 : d = some dd) (h3 : B dd = some (.xd fs)) (hl : fs.lookup f = some v) : Ev (tXf a cls d C f te) σ B v := fun H1 e Q q =>
  h H1 e _ fun H2 e2 => ⟨rfl, h1, dd, fs, v, h2, (e.trans e2) _ _ h3, hl, q H2 e2⟩
end
theorem x_methE {X B : Hp} {σ : L2.St} {D : Ends} {C x dx : Addr} {fs : List (Str × V)} {vs : List V} {m : Str} {sp : Sp} {E : L2.St → XK} {ta : TE} {tr : TA} (ho : Ev ta σ B (.ref x)) (hx : B x = some (.ins C dx fs)) (hl : fs.lookup m = none) (h : EvA tr σ B vs) (hs : ∀ H1 Q, Ex B H1 → Ex X H1 → sp (.ref x :: vs) H1 Q (E σ)) : Sx X (tDrop (tMethE C m sp E ta tr)) D σ B := fun H e eX => by
  show ta σ H _
  exact ho H e _ fun H1 e1 => ⟨x, dx, fs, rfl, e1 _ _ (e _ _ hx), hl, h H1 (e.trans e1) _ fun H2 e2 => hs H2 _ ((e.trans e1).trans e2) ((eX.trans e1).trans e2)⟩
theorem x_tryM {X B : Hp} {σ : L2.St} {D : Ends} {tz : TS} {t : TT} {b : Bool} {C : Addr} {m1 m2 : Str} {sp : Sp} {ta : TE} {tr : TA} {K' : PySem.W.Frag} {c : Value} {i : Nat} {ts : Addr → Value → Option Addr → TS} {Wout : WX} (h : EvT t σ B b)
    (h1 : b = true → Sx X (tDrop (tMethE C m1 sp (WE (wAs K' c i ts Wout { D with nx := tz D })) ta tr)) { D with nx := tz D } σ B)
    (h2 : b = false → Sx X (tDrop (tMethE C m2 sp (WE (wAs K' c i ts Wout { D with nx := tz D })) ta tr)) { D with nx := tz D } σ B) :
    Sx X (tSeq (fun D σ H => tIfS t (tDrop (tMethE C m1 sp (WE (wAs K' c i ts Wout D)) ta tr)) (tDrop (tMethE C m2 sp (WE (wAs K' c i ts Wout D)) ta tr)) D σ H) tz) D σ B := fun H e eX =>
  (x_if (tz := tz) (D := D) h h1 h2) H e eX
theorem ok_refuses (T : TX K mg) {C : Addr} (hC : Cls K C) (M_arity : OkMX P w K mg base 4 C "arity" ["self", "name"] (spRaise K P w C)) (M_rows : OkMX P w K mg base 4 C "rows" ["self", "name"] (spRaise K P w C)) : OkF P w K mg base 5 "_law_refuses" ["world", "text", "which"] (spR (dRefuses K P w C)) := by
  have n_isinstance := T.n "isinstance" (by decide +kernel)
  have n_ValueError := T.n "ValueError" (by decide +kernel)
  have n_str := T.n "str" (by decide +kernel)
  have g_OnceError := T.g "OnceError" (by decide +kernel)
  have g_NoSuchRelation := T.g "NoSuchRelation" (by decide +kernel)
  have g_BadWorld := T.g "BadWorld" (by decide +kernel)
  have g_BadRow := T.g "BadRow" (by decide +kernel)
  have g_BadOrder := T.g "BadOrder" (by decide +kernel)
  have g_TakenName := T.g "TakenName" (by decide +kernel)
  have g_UnknownWatch := T.g "UnknownWatch" (by decide +kernel)
  refine T.okF 39 rfl (by decide +kernel) (fun f fd F => ?_) (fun _ _ _ _ _ _ us hl => match us, hl with | [_, _, _], _ => rfl)
  refine F.ok sc_law_refuses (fun vs H Q E h => spR_len h (by rintro B Pz ⟨x, n, wh, s, r, rfl, _⟩; rfl)) (fun cdv A outer s H vs Q E hr ⟨B, Pz, e, ⟨x, n, which, size, rels, hvs, hW, hn, hP⟩, q⟩ => ?_)
  subst hvs hP
  refine ⟨_, (pss_cons (ps_try_as (i := 3) (Wout := fun _ _ _ _ => False) rfl rfl sc_law_refuses.nd rfl rfl ⟨rfl, by decide, Or.inl g_OnceError⟩ takes0 (fun W pn xe tk _ => (pss_one (ps_if (pt_cmpR op_eq (pv 2) pe_int (nomark _)) (pss_one (ps_expr (RX.pe_methE M_arity hC hr (by decide) (fun σ => passAt tk σ) (pv 0) (pa_cons (pv 1) pa_nil)))) (pss_one (ps_expr (RX.pe_methE M_rows hC hr (by decide) (fun σ => passAt tk σ) (pv 0) (pa_cons (pv 1) pa_nil))))))) (fun a oe cls d pn hz hf => (pss_cons (ps_if (pw_or (pt_not (pt_val (pe_callB (RX.call_isED (K := K) hz hf) (by rfl) n_isinstance (by decide +kernel) (pa_cons (pv 3) (pa_cons (pe_glob (v := .ref (He.ga K "NoSuchRelation")) (by rfl) g_NoSuchRelation rfl) pa_nil))))) (pw_or (pt_not (pt_val (pe_callB (RX.call_isED (K := K) hz hf) (by rfl) n_isinstance (by decide +kernel) (pa_cons (pv 3) (pa_cons (pe_bltn (v := .ty "ValueError") (u := .type "ValueError") (by rfl) n_ValueError (by decide +kernel) rfl) pa_nil))))) (pw_or1 (pt_val (pe_callB (RX.call_isED (K := K) hz hf) (by rfl) n_isinstance (by decide +kernel) (pa_cons (pv 3) (pa_cons (pe_glob (v := .ref (He.ga K "BadWorld")) (by rfl) g_BadWorld rfl) pa_nil))))))).pt (pss_one (ps_ret pe_bl)) pss_nil)
        (pss_cons (ps_if (pw_or (pt_val (pe_callB (RX.call_isED (K := K) hz hf) (by rfl) n_isinstance (by decide +kernel) (pa_cons (pv 3) (pa_cons (pe_glob (v := .ref (He.ga K "BadRow")) (by rfl) g_BadRow rfl) pa_nil)))) (pw_or (pt_val (pe_callB (RX.call_isED (K := K) hz hf) (by rfl) n_isinstance (by decide +kernel) (pa_cons (pv 3) (pa_cons (pe_glob (v := .ref (He.ga K "BadOrder")) (by rfl) g_BadOrder rfl) pa_nil)))) (pw_or (pt_val (pe_callB (RX.call_isED (K := K) hz hf) (by rfl) n_isinstance (by decide +kernel) (pa_cons (pv 3) (pa_cons (pe_glob (v := .ref (He.ga K "TakenName")) (by rfl) g_TakenName rfl) pa_nil)))) (pw_or1 (pt_val (pe_callB (RX.call_isED (K := K) hz hf) (by rfl) n_isinstance (by decide +kernel) (pa_cons (pv 3) (pa_cons (pe_glob (v := .ref (He.ga K "UnknownWatch")) (by rfl) g_UnknownWatch rfl) pa_nil)))))))).pt (pss_one (ps_ret pe_bl)) pss_nil)
        (pss_one (ps_ret (pe_and (pe_callB (LX.k_isi (K := K)) (by rfl) n_isinstance (by decide +kernel) (pa_cons (pe_xf (xk T).x (x_init T).2 hz hf (pv 3)) (pa_cons (pe_bltn (v := .ty "str") (u := .type "str") (by rfl) n_str (by decide +kernel) rfl) pa_nil))) (pe_one (pe_cmpR op_eq (pe_xf (xk T).x (x_init T).2 hz hf (pv 3)) (pv 1) (nomark _))))))))))
        (pss_one (ps_ret pe_bl))), ?_⟩
  have hlk : ∃ (dx : Addr) (fs : List (Str × V)), B x = some (.ins C dx fs) ∧ fs.lookup (Str.ofString "arity") = none ∧ fs.lookup (Str.ofString "rows") = none := by
    obtain ⟨dx, zn, pf, t, za, ps, kvs, ys, st, ns, h1, _⟩ := hW
    exact ⟨dx, _, h1, rfl, rfl⟩
  obtain ⟨dx, fs, hx, hla, hlr⟩ := hlk
  have TK := xk T
  have call : ∀ {m : Str} {W : WX} {D : Ends}, fs.lookup m = none → (∀ d H2, Ex B H2 → Ex H H2 → H2 d = some (.xd [("name", .str n)]) → W (.ref (nsr K)) (some d) (start law_refuses_N [V.ref x, .str n, .int which]) H2) → Sx H (tDrop (tMethE C m (spRaise K P w C) (WE W) (tVar 0) (tCons (tVar 1) tNil))) D (start law_refuses_N [V.ref x, .str n, .int which]) B := fun {m W D} hl hW' =>
    x_methE (ev_var rfl) hx hl (ea_cons (ev_var rfl) ea_nil) fun H3 Q3 e3 eX3 => ⟨x, size, rels, n, B, rfl, e3, hW, hn, fun d H4 e4 hd => hW' d H4 (e3.trans e4) (eX3.trans e4) hd⟩
  refine x_tryM (X := H) (B := B) (b := decide (which = 0)) (et_test (ev_is (ev_op (ev_var rfl) ev_c (rv_eq rfl)) (by simp))) (fun _ => call hla fun d H2 e2 eX2 hd => ?_) (fun _ => call hlr fun d H2 e2 eX2 hd => ?_) H e (Ex.refl H)
  all_goals
    refine ⟨true, x_exm T, fun _ a ha => ?_, fun h => nomatch h⟩
    have hB4 : Ex (upd B d (.xd [("name", .str n)])) H2 := ex_upd e2 hd
    have hd4 : (upd B d (.xd [("name", .str n)])) d = some (.xd [("name", .str n)]) := upd_same
    have hBB : ∀ {H' : Hp}, Ex (upd B d (.xd [("name", .str n)])) H' → Ex B H' := fun {H'} h b o hb => by
      by_cases c : b = d
      · subst c
        have := e2 _ _ hb
        rw [hd] at this
        rw [h _ _ upd_same, this]
      · exact h b o (by rw [upd_ne c]; exact hb)
    generalize upd B d (.xd [("name", .str n)]) = B4 at hB4 hd4 hBB
    have is_ : ∀ {y : Str} {b : Bool} {σ : L2.St}, (y, b) ∈ kitN → σ[3]? = some (some (V.ref a)) → Ev (tCB (rIsED K a (.ref (nsr K)) (some d)) (tCons (tVar 3) (tCons (tC (.ref (He.ga K y))) tNil))) σ B4 (.bl b) := fun {y b σ} hy h3 => ev_isED (ev_var h3) rfl rfl hd4 TK (.own _) (x_kit T hy)
    refine x_when (X := H) (B := B4) (b := false) (et_is (et_or (a := false) (b := false) (et_not (a := true) (et_B (is_ (y := "NoSuchRelation") (by decide +kernel) rfl))) fun _ => et_is (et_or (a := false) (b := false) (et_not (a := true) (et_B (ev_isED (ev_var rfl) rfl rfl hd4 TK (.ty _) (x_kitV T)))) fun _ => et_B (is_ (y := "BadWorld") (by decide +kernel) rfl)) rfl) rfl) (fun h => nomatch h) (fun _ => ?_) H2 hB4 eX2
    refine x_when (b := false) (et_is (et_or (a := false) (b := false) (et_B (is_ (y := "BadRow") (by decide +kernel) rfl)) fun _ => et_is (et_or (a := false) (b := false) (et_B (is_ (y := "BadOrder") (by decide +kernel) rfl)) fun _ => et_is (et_or (a := false) (b := false) (et_B (is_ (y := "TakenName") (by decide +kernel) rfl)) fun _ => et_B (is_ (y := "UnknownWatch") (by decide +kernel) rfl)) rfl) rfl) rfl) (fun h => nomatch h) (fun _ => ?_)
    have nm : ∀ {σ : L2.St}, σ[3]? = some (some (V.ref a)) → Ev (tXf a (.ref (nsr K)) (some d) (nsr K) "name" (tVar 3)) σ B4 (.str n) := fun {σ} h3 => ev_xf (ev_var h3) rfl rfl hd4 rfl
    exact x_ret (eR_v (v := .bl true) (ev_is (ev_andV (a := true) (b := true) (ev_isi_str (nm rfl) (show kitB "str" "str" = _ by decide +kernel)) fun _ => ev_is (ev_op (nm rfl) (ev_var rfl) (rv_eq rfl)) (by simp)) rfl)) (fun z B' H' g p e1 e2 => q z H' B (e2) (Gr.refl _ _) (hBB (g.ex.trans e1)) p)
theorem ev_refuses {C : Addr} {σ : L2.St} {B : Hp} {ta tb tc : TE} {x : Addr} {n : Str} {which size : Int} {rels : List Rel} (h1 : Ev ta σ B (.ref x)) (h2 : Ev tb σ B (.str n)) (h3 : Ev tc σ B (.int which)) (hW : WorldAt K P w C size rels x B) (hn : n ∉ rels.map Rel.name) : Ev (tCall (spR (dRefuses K P w C)) [] E0 (tCons ta (tCons tb (tCons tc tNil)))) σ B (.bl true) :=
  (er_callV (P := IsV _) (ea_cons h1 (ea_cons h2 (ea_cons h3 ea_nil))) ⟨x, n, which, size, rels, rfl, hW, hn, rfl⟩ fun B' e => ⟨x, n, which, size, rels, rfl, hW.mono e, hn, rfl⟩).val
end Kx
namespace Kx
open PySem PySem.Spec PyProof.Rows L2 Evl LX T XV RX WS
variable {P : Program} {w : World} {K : PySem.W.Frag} {mg : Str → Option Value} {base : Heap}
/-! ### the class World -/
abbrev wC (K : PySem.W.Frag) : Addr := He.ga K "World"
theorem w_cls (T : TX K mg) : Cls K (wC K) := He.cls_ok (He.ba (He.ba T.t.x).2).1
theorem w_mkr (T : TX K mg) : Mk K (wC K) (He.ma K (wC K) "__init__") := He.mkr_ok (He.ba (He.ba (He.ba T.t.x).2).2).1
theorem w_noat (T : TX K mg) : ∀ f ∈ fieldsN, NoAttr K (wC K) f := fun f hf => He.noat_ok (List.all_eq_true.mp (He.ba (He.ba (He.ba (He.ba (He.ba T.t.x).2).2).2).1).1 f hf)
theorem w_meth (T : TX K mg) {m : Str} (h : m ∈ (["arity", "rows", "_table"] : List Str)) : Meth K (wC K) m (He.ma K (wC K) m) := He.meth_ok (List.all_eq_true.mp (He.ba (He.ba (He.ba (He.ba (He.ba T.t.x).2).2).2).1).2 m h)
theorem w_dfl (T : TX K mg) (H : Hp) : SqT K H (dfl0 K) [] := by
  have z : emptyB K (dfl0 K) = true := (He.ba (He.ba (He.ba (He.ba T.t.x).2).2).2).2
  unfold emptyB at z
  split at z
  · rename_i dct its n sl ho
    have e : its = #[] := Array.isEmpty_iff.mp z
    subst e
    exact .inr ⟨_, #[], n, ho, rfl, rfl, Nat.zero_le _, .nil⟩
  · exact nomatch z
theorem w_table (T : TX K mg) : OkM P w K mg base 1 (wC K) "_table" ["self", "name"] (spR (dTable K P w (wC K))) := by
  obtain ⟨fd, F⟩ := T.t.d _ (List.mem_of_getElem? (i := 19) rfl)
  have F2 : Fun K "_table" "World._table" s_World__table (He.ma K (wC K) "_table") fd := fun_of F
  exact ⟨_, fd, w_meth T (by decide +kernel), fn_table T F2 (w_cls T) (w_noat T _ (by decide +kernel)), F2.binds fun _ _ _ _ _ _ us hl => match us, hl with | [_, _], _ => rfl⟩
theorem w_arity (T : TX K mg) : OkM P w K mg base 2 (wC K) "arity" ["self", "name"] (spR (dArity K P w (wC K))) := by
  obtain ⟨fd, F⟩ := T.t.d _ (List.mem_of_getElem? (i := 14) rfl)
  have F2 : Fun K "arity" "World.arity" s_World_arity (He.ma K (wC K) "arity") fd := fun_of F
  exact ⟨_, fd, w_meth T (by decide +kernel), fn_arity T F2 (w_cls T) (w_table T), F2.binds fun _ _ _ _ _ _ us hl => match us, hl with | [_, _], _ => rfl⟩
theorem w_rows (T : TX K mg) : OkM P w K mg base 2 (wC K) "rows" ["self", "name"] (spR (dRows K P w (wC K))) := by
  obtain ⟨fd, F⟩ := T.t.d _ (List.mem_of_getElem? (i := 15) rfl)
  have F2 : Fun K "rows" "World.rows" s_World_rows (He.ma K (wC K) "rows") fd := fun_of F
  exact ⟨_, fd, w_meth T (by decide +kernel), fn_rows T F2 (w_cls T) (w_table T), F2.binds fun _ _ _ _ _ _ us hl => match us, hl with | [_, _], _ => rfl⟩
theorem wX_table (T : TX K mg) : OkMX P w K mg base 3 (wC K) "_table" ["self", "name"] (spRaise K P w (wC K)) := by
  obtain ⟨fd, F⟩ := T.t.d _ (List.mem_of_getElem? (i := 19) rfl)
  have F2 : Fun K "_table" "World._table" s_World__table (He.ma K (wC K) "_table") fd := fun_of F
  exact ⟨_, fd, w_meth T (by decide +kernel), fnX_table T F2 (w_cls T) (w_noat T _ (by decide +kernel)), F2.binds fun _ _ _ _ _ _ us hl => match us, hl with | [_, _], _ => rfl⟩
theorem wX_arity (T : TX K mg) : OkMX P w K mg base 4 (wC K) "arity" ["self", "name"] (spRaise K P w (wC K)) := by
  obtain ⟨fd, F⟩ := T.t.d _ (List.mem_of_getElem? (i := 14) rfl)
  have F2 : Fun K "arity" "World.arity" s_World_arity (He.ma K (wC K) "arity") fd := fun_of F
  exact ⟨_, fd, w_meth T (by decide +kernel), fnX_arity T F2 (w_cls T) (wX_table T), F2.binds fun _ _ _ _ _ _ us hl => match us, hl with | [_, _], _ => rfl⟩
theorem wX_rows (T : TX K mg) : OkMX P w K mg base 4 (wC K) "rows" ["self", "name"] (spRaise K P w (wC K)) := by
  obtain ⟨fd, F⟩ := T.t.d _ (List.mem_of_getElem? (i := 15) rfl)
  have F2 : Fun K "rows" "World.rows" s_World_rows (He.ma K (wC K) "rows") fd := fun_of F
  exact ⟨_, fd, w_meth T (by decide +kernel), fnX_rows T F2 (w_cls T) (wX_table T), F2.binds fun _ _ _ _ _ _ us hl => match us, hl with | [_, _], _ => rfl⟩
theorem w_init (T : TX K mg) : ∃ fd, FunD K "__init__" "World.__init__" (defArgs s_World_init) (defBody s_World_init) (defScope s_World_init) [.ref (dfl0 K)] [] (He.ma K (wC K) "__init__") fd := T.t.d _ (List.mem_of_getElem? (i := 13) rfl)
/-- World(size, relations) -/
theorem w_mk2 (T : TX K mg) : OkI P w K mg base 7 "World" (wC K) ["self", "size", "relations"] (spInitW K P w (wC K)) [] := by
  obtain ⟨fd, F⟩ := w_init T
  obtain ⟨ds, hv, hb⟩ := FunD.binds1 (ps := ["self", "size", "relations"]) F 3 1 (fun z => nomatch z) rfl (fun TT kV doc pm an cdv ct us its l1 l2 => match us, l1, its, l2 with | [_, _, _], _, [_], _ => ⟨_, rfl, rfl⟩)
  exact ⟨T.g "World" (by decide +kernel), _, fd, ds, w_mkr T, ok_init T F (w_cls T) (w_noat T), hb, hv⟩
/-- World(size) -/
theorem w_mk1 (T : TX K mg) : OkI P w K mg base 7 "World" (wC K) ["self", "size", "relations"] (spInitW K P w (wC K)) [.ref (dfl0 K)] := by
  obtain ⟨fd, F⟩ := w_init T
  obtain ⟨ds, hv, hb⟩ := FunD.binds1 (ps := ["self", "size", "relations"]) F 2 0 (fun z => nomatch z) rfl (fun TT kV doc pm an cdv ct us its l1 l2 => match us, l1, its, l2 with | [_, _], _, [_], _ => ⟨_, rfl, rfl⟩)
  exact ⟨T.g "World" (by decide +kernel), _, fd, ds, w_mkr T, ok_init T F (w_cls T) (w_noat T), hb, hv⟩
/-- World(size, relations=..) -/
def gK {α : Type} (us ds ws : List α) : List α := us ++ ws
structure OkIK (P : Program) (w : World) (K : PySem.W.Frag) (mg : Str → Option Value) (base : Heap) (k n : Nat) (x : Str) (C : Addr) (ps ks : List Str) (sp : Sp) (gV : List V → List V → List V) : Prop where
  g : mg x = some (.ref C)
  ex : ∃ (f : Addr) (fd : FuncData) (g : List Value → List Value → List Value), Mk K C f ∧ FnOk P w K mg base CX0 k f fd ps sp ∧ KBn K fd ps (n + 1) ks g gV
theorem w_mkK (T : TX K mg) : OkIK P w K mg base 7 1 "World" (wC K) ["self", "size", "relations"] ["relations"] (spInitW K P w (wC K)) (fun us ws => us ++ ws) := by
  obtain ⟨fd, F⟩ := w_init T
  obtain ⟨its, hb⟩ := FunD.kbindsD (ps := ["self", "size", "relations"]) F 2 ["relations"] gK (fun z => nomatch z) (fun r1 _ r3 => r1.append r3) (fun TT kV doc pm an cdv ct us its ws l1 l2 l3 => match us, l1, its, l2, ws, l3 with | [_, _], _, [_], _, [_], _ => ⟨_, rfl, rfl⟩)
  exact ⟨T.g "World" (by decide +kernel), _, fd, _, w_mkr T, ok_init T F (w_cls T) (w_noat T), hb⟩
theorem pe_iK {X : Cx} {x : Str} {C : Addr} {e : Expr} {es : List Expr} {kws : List Keyword} {p pos : Pos} {k j n : Nat} {ps ks : List Str} {sp : Sp} {gV : List V → List V → List V} {t tk : TA} (O : OkIK X.prog X.w X.K X.mg X.base k n x C ps ks sp gV) (hr : Room j X.A) (hj : k + 1 ≤ j) (ha : PA X (e :: es) t) (hkw : PK X kws tk) (hg : Gl X x := by rfl)
    (hall : (backToKw pos (keywordEach kws X.env)).all (·.1.isSome) = true := by rfl) (hks : (backToKw pos (keywordEach kws X.env)).filterMap (·.1) = ks := by rfl)
    (hdb : (x == ("__debug__" : Str)) = false := by decide) (he : starEach (e :: es) X.env = (false, eval e X.env) :: starEach es X.env := by rfl) (hpl : ((backTo pos (starEach (e :: es) X.env)).any (·.1) || (backToKw pos (keywordEach kws X.env)).any (·.1.isNone)) = false := by rfl) :
    PE X (.Call (.Name x p) (e :: es) kws pos) (tMakeN C n ks.length sp gV E0 t tk) := by
  obtain ⟨f, fd, g, M, F, b⟩ := O.ex
  exact pe_makeN M F (hr.mono hj) hg O.g b pass0 ha hkw hall hks hdb he hpl
theorem er_makeK {σ : L2.St} {B : Hp} {te : TE} {tk : TA} {C : Addr} {E : XK} {size : Int} {d : PyData} {ds : List PyData} (h1 : Ev te σ B (.int size)) (h : EvAR tk σ B fun vs B' => ∃ v, vs = [v] ∧ Dp K B' v d) (hs : seqD d = some ds) (hok : RelsOk size ds) (h2 : 2 ≤ size) (h4 : size ≤ 400) :
    EvR (tMakeN C 1 1 (spInitW K P w C) (fun us ws => us ++ ws) E (tCons te tNil) tk) σ B fun z B' => ∃ x, z = .ref x ∧ WorldAt K P w C size (ds.map (relOf size)) x B' := fun H1 e Q q =>
  h1 H1 e _ fun H0 e0 => h H0 (e.trans e0) _ fun vs H2 B1 e2' g' e3 ⟨v, hv, hd⟩ => ⟨rfl, by rw [hv]; rfl, fun x dx hx hdx hne => by
    have e2 := e0.trans e2'
    have g : Gr H1 B B1 := g'.back e0
    have hB1x : B1 x = none := none_of e3 hx
    have hB1d : B1 dx = none := none_of e3 hdx
    have eD : Ex H2 (RX.del (upd (upd H2 dx (.own x)) x (.ins C dx [])) x) := fun a o ha => by
      have c1 : a ≠ x := fun c => by subst c; rw [hx] at ha; exact nomatch ha
      have c2 : a ≠ dx := fun c => by subst c; rw [hdx] at ha; exact nomatch ha
      rw [RX.del_ne c1, upd_ne c1, upd_ne c2]; exact ha
    refine ⟨x, dx, B1, v, d, ds, size, by rw [hv]; rfl, upd_same, hB1x, fun a o ha => ?_, hd, hs, hok, h2, h4, fun H3 B' e4 g2 e5 hW => ⟨rfl, q _ H3 B' ((e2.trans eD).trans e4) (g.trans (g2.back (e2.trans eD))) e5 ⟨x, rfl, hW⟩⟩⟩
    have c1 : a ≠ x := fun c => by subst c; rw [hB1x] at ha; exact nomatch ha
    have c2 : a ≠ dx := fun c => by subst c; rw [hB1d] at ha; exact nomatch ha
    rw [upd_ne c1, upd_ne c2]
    exact e3 a o ha⟩
end Kx
namespace Kx
open PySem PySem.Spec PyProof.Rows L2 Evl LX T XV RX WS
variable {P : Program} {w : World} {K : PySem.W.Frag} {mg : Str → Option Value} {base : Heap}
/-! ### what is handed in, as data -/
structure EntD (d : PyData) (n : Str) (g : Int × List (List Int)) : Prop where
  ex : ∃ (gd : PyData) (rds : List PyData), seqD d = some [.str n, .int g.1, gd] ∧ seqD gd = some rds ∧ rds.length = g.2.length ∧ ∀ (k : Nat) (rd : PyData) (r : List Int), rds[k]? = some rd → g.2[k]? = some r → seqD rd = some (r.map PyData.int)
theorem rowOf_ints {rd : PyData} {r : List Int} (h : seqD rd = some (r.map PyData.int)) : rowOf rd = r := by
  unfold rowOf
  rw [h]
  show (r.map PyData.int).map intD = r
  rw [List.map_map]
  exact List.map_id' r
theorem rows_are {rds : List PyData} {R : List (List Int)} (hl : rds.length = R.length) (h : ∀ (k : Nat) (rd : PyData) (r : List Int), rds[k]? = some rd → R[k]? = some r → seqD rd = some (r.map PyData.int)) : rds.map rowOf = R := by
  apply List.ext_getElem?
  intro k
  rw [List.getElem?_map]
  by_cases c : k < R.length
  · have h1 : rds[k]? = some (rds[k]'(by omega)) := List.getElem?_eq_getElem _
    have h2 : R[k]? = some R[k] := List.getElem?_eq_getElem c
    rw [h1, h2]
    exact congrArg some (rowOf_ints (h k _ _ h1 h2))
  · rw [List.getElem?_eq_none (by omega), List.getElem?_eq_none (by omega)]
    rfl
theorem EntD.rel {big : Int} {d : PyData} {n : Str} {g : Int × List (List Int)} (h : EntD d n g) : relOf big d = relG big n g := by
  obtain ⟨gd, rds, h1, h2, h3, h4⟩ := h
  rw [relOf_some h1, h2]
  show (⟨n, g.1, AS.ascR big (rds.map rowOf)⟩ : Rel) = _
  rw [rows_are h3 h4]
  rfl
theorem sm_of_seq {d : PyData} {ds : List PyData} (h : seqD d = some ds) (hl : ds.length ≤ 40000) (hs : ∀ x ∈ ds, smD x = true) : smD d = true := by
  cases d with
  | list l =>
    cases h
    rw [smD, decide_eq_true hl, smAll_of hs]
    rfl
  | tuple l =>
    cases h
    rw [smD, decide_eq_true hl, smAll_of hs]
    rfl
  | _ => exact nomatch h
theorem nm_sm {n : Str} (h : nameOkS n = true) : n.length ≤ 12 := by
  unfold nameOkS at h
  simp only [Bool.and_eq_true] at h
  have := of_decide_eq_true h.1.1.2
  omega
theorem EntD.ok {big : Int} {d : PyData} {n : Str} {g : Int × List (List Int)} (h : EntD d n g) (hn : nameOkS n = true) (hg : GivenOk big g) : relD d big = true ∧ smD d = true ∧ fewD d = true := by
  obtain ⟨gd, rds, h1, h2, h3, h4⟩ := h
  obtain ⟨a1, a3, hr, hl⟩ := hg
  have hrow : ∀ rd ∈ rds, ∃ r, r ∈ g.2 ∧ seqD rd = some (r.map PyData.int) := fun rd hrd => by
    obtain ⟨k, hk, rfl⟩ := List.mem_iff_getElem.mp hrd
    have q2 : g.2[k]? = some (g.2[k]'(by omega)) := List.getElem?_eq_getElem _
    exact ⟨_, List.mem_of_getElem? q2, h4 k _ _ (List.getElem?_eq_getElem hk) q2⟩
  refine ⟨?_, ?_, ?_⟩
  · rw [relD_some h1]
    show (nameOkS n && (decide (1 ≤ g.1) && decide (g.1 ≤ 3) && rowsD gd g.1 big)) = true
    rw [hn, decide_eq_true a1, decide_eq_true a3, rowsD_some h2, Bool.true_and, Bool.true_and, Bool.true_and]
    refine List.all_eq_true.mpr fun rd hrd => ?_
    obtain ⟨r, hr1, hr2⟩ := hrow rd hrd
    obtain ⟨q1, q2⟩ := hr r hr1
    rw [rowD_some hr2, List.length_map, decide_eq_true q1, Bool.true_and]
    refine List.all_eq_true.mpr fun x hx => ?_
    obtain ⟨i, hi, rfl⟩ := List.mem_map.mp hx
    obtain ⟨b1, b2⟩ := q2 i hi
    show (decide (0 ≤ i) && decide (i ≤ big - 1)) = true
    rw [decide_eq_true b1, decide_eq_true (by omega)]
    rfl
  · refine sm_of_seq h1 (show (3 : Nat) ≤ 40000 by decide) fun x hx => ?_
    have hx : x = .str n ∨ x = .int g.1 ∨ x = gd := by simpa using hx
    rcases hx with c | c | c
    · subst c
      exact decide_eq_true (by have := nm_sm hn; omega)
    · subst c; rfl
    · subst c
      refine sm_of_seq h2 (by rw [h3]; omega) fun rd hrd => ?_
      obtain ⟨r, hr1, hr2⟩ := hrow rd hrd
      refine sm_of_seq hr2 (by rw [List.length_map]; have := (hr r hr1).1; omega) fun y hy => ?_
      obtain ⟨i, hi, rfl⟩ := List.mem_map.mp hy
      rfl
  · unfold fewD
    rw [h1]
    show decide (((seqD gd).getD []).length < 63) = true
    rw [h2]
    exact decide_eq_true (by show rds.length < 63; omega)
theorem rels_of {big : Int} {ds : List PyData} {ns : List Str} {gs : List (Int × List (List Int))} (hl : ds.length = ns.length) (hg : gs.length = ns.length) (h : ∀ (i : Nat) (d : PyData) (n : Str) (g : Int × List (List Int)), ds[i]? = some d → ns[i]? = some n → gs[i]? = some g → EntD d n g)
    (hn : ∀ s ∈ ns, nameOkS s = true) (hnd : ns.Nodup) (h12 : ns.length ≤ 12) (hok : ∀ g ∈ gs, GivenOk big g) : RelsOk big ds ∧ ds.map (relOf big) = relsG big ns gs := by
  have he : ds.map (relOf big) = relsG big ns gs := by
    apply List.ext_getElem?
    intro i
    rw [List.getElem?_map]
    by_cases c : i < ns.length
    · have h1 : ds[i]? = some (ds[i]'(by omega)) := List.getElem?_eq_getElem _
      have h2 : ns[i]? = some ns[i] := List.getElem?_eq_getElem c
      have h3 : gs[i]? = some (gs[i]'(by omega)) := List.getElem?_eq_getElem _
      rw [h1, relsG_get h2 h3]
      exact congrArg some (h i _ _ _ h1 h2 h3).rel
    · rw [List.getElem?_eq_none (by omega), List.getElem?_eq_none (by unfold relsG; rw [List.length_zipWith]; omega)]
      rfl
  have hone : ∀ d ∈ ds, relD d big = true ∧ smD d = true ∧ fewD d = true := fun d hd => by
    obtain ⟨i, hi, rfl⟩ := List.mem_iff_getElem.mp hd
    have h2 : ns[i]? = some (ns[i]'(by omega)) := List.getElem?_eq_getElem _
    have h3 : gs[i]? = some (gs[i]'(by omega)) := List.getElem?_eq_getElem _
    exact (h i _ _ _ (List.getElem?_eq_getElem hi) h2 h3).ok (hn _ (List.mem_of_getElem? h2)) (hok _ (List.mem_of_getElem? h3))
  refine ⟨⟨by omega, fun d hd => (hone d hd).1, fun d hd => (hone d hd).2.1, fun d hd => (hone d hd).2.2, ?_⟩, he⟩
  have : (ds.map fun x => (relOf big x).name) = ns := by
    have q := congrArg (List.map Rel.name) he
    rw [List.map_map, relsG_names hg] at q
    exact q
  rw [this]
  exact hnd
theorem relsG_fit {big : Int} {ns : List Str} {gs : List (Int × List (List Int))} (hg : gs.length = ns.length) (hnd : ns.Nodup) (h12 : ns.length ≤ 12) (hok : ∀ g ∈ gs, GivenOk big g) : RelsFit (relsG big ns gs) := by
  have hin : ∀ n, rowsIn (relsG big ns gs) n = [] ∨ ∃ g ∈ gs, rowsIn (relsG big ns gs) n = AS.ascR big g.2 := fun n => by
    unfold rowsIn
    cases q : (relsG big ns gs).find? (fun r => decide (r.name = n)) with
    | none => exact .inl rfl
    | some r =>
      obtain ⟨i, hi, hr⟩ := List.mem_iff_getElem.mp (List.mem_of_find?_eq_some q)
      have hlz : (relsG big ns gs).length = ns.length := by unfold relsG; rw [List.length_zipWith]; omega
      have h2 : ns[i]? = some (ns[i]'(by omega)) := List.getElem?_eq_getElem _
      have h3 : gs[i]? = some (gs[i]'(by omega)) := List.getElem?_eq_getElem _
      have := relsG_get (big := big) h2 h3
      rw [List.getElem?_eq_getElem hi, hr] at this
      have this := Option.some.inj this
      subst this
      exact .inr ⟨_, List.mem_of_getElem? h3, rfl⟩
  refine ⟨by unfold relsG; rw [List.length_zipWith]; omega, by rw [relsG_names hg]; exact hnd, fun n => ?_, fun n r hr => ?_⟩
  · rcases hin n with c | ⟨g, hg, c⟩
    · rw [c]; exact Nat.zero_le _
    · rw [c]
      have := len_ascR (B := big) (L := g.2)
      have := (hok g hg).2.2.2
      omega
  · rcases hin n with c | ⟨g, hg, c⟩
    · rw [c] at hr; exact nomatch hr
    · rw [c] at hr
      obtain ⟨a1, a3, h, _⟩ := hok g hg
      have := (h r (AS.mem_ascR.mp hr)).1
      omega
/-- what is handed in -/
theorem handed_ent {fl : List Int} {ns : List Str} {gs : List (Int × List (List Int))} (i : Nat) (d : PyData) (n : Str) (g : Int × List (List Int)) (h1 : (entsDt fl ns gs)[i]? = some d) (h2 : ns[i]? = some n) (h3 : gs[i]? = some g) : EntD d n g := by
  have hi := (List.getElem?_eq_some_iff.mp h2).1
  unfold entsDt at h1
  rw [List.getElem?_map, List.getElem?_range hi] at h1
  have h1 : entDt fl i (ns.getD i "") (gs.getD i (0, [])) = d := Option.some.inj h1
  rw [List.getD_eq_getElem?_getD, h2, List.getD_eq_getElem?_getD, h3] at h1
  have h1 : entDt fl i n g = d := h1
  subst h1
  refine ⟨_, _, formD_seq, formD_seq, by unfold rowsDt; rw [List.length_map, List.length_range], fun k rd r hk hr => ?_⟩
  have hk' := (List.getElem?_eq_some_iff.mp hr).1
  unfold rowsDt at hk
  rw [List.getElem?_map, List.getElem?_range hk'] at hk
  have hk := Option.some.inj hk
  subst hk
  show seqD (formD _ ((g.2.getD k []).map PyData.int)) = _
  rw [formD_seq, List.getD_eq_getElem?_getD, hr]
  rfl
theorem handed_ok {big : Int} {fl : List Int} {ns : List Str} {gs : List (Int × List (List Int))} (hg : gs.length = ns.length) (hn : ∀ s ∈ ns, nameOkS s = true) (hnd : ns.Nodup) (h12 : ns.length ≤ 12) (hok : ∀ g ∈ gs, GivenOk big g) : RelsOk big (entsDt fl ns gs) ∧ (entsDt fl ns gs).map (relOf big) = relsG big ns gs :=
  rels_of (by unfold entsDt; rw [List.length_map, List.length_range]) hg handed_ent hn hnd h12 hok
/-! ### what stays while lists change -/
def Nl (B Bn : Hp) : Prop := ∀ a o, B a = some o → (∀ xs, o ≠ .lst xs) → Bn a = some o
theorem sqt_nl {B Bn : Hp} (k : Nl B Bn) {a : Addr} {xs : List V} (h : SqT K B a xs) : SqT K Bn a xs := by
  refine h.imp (fun h => ?_) id
  rcases h with h | ⟨o, h⟩
  · exact .inl (k _ _ h fun ys c => nomatch c)
  · exact .inr ⟨o, k _ _ h fun ys c => nomatch c⟩
theorem WorldAt.nl {C : Addr} {size : Int} {rels : List Rel} {x : Addr} {B B' : Hp} (e : Nl B B') (h : WorldAt K P w C size rels x B) : WorldAt K P w C size rels x B' := by
  obtain ⟨dx, zn, pf, t, za, ps, kvs, ys, st, ns, h1, ⟨p1, y1, r1, s1, q1⟩, h3, h4, h5, h6, ⟨p2, y2, r2, s2, q2⟩, h8, h9, h10, h11, h12⟩ := h
  refine ⟨dx, zn, pf, t, za, ps, kvs, ys, st, ns, e _ _ h1 (fun _ c => nomatch c), ⟨p1, y1, r1, sqt_nl e s1, q1⟩, sqt_nl e h3, ⟨h4.1, fun k y d hy hd => ?_⟩, e _ _ h5 (fun _ c => nomatch c), ⟨h6.1, fun i p r hp hr => ?_⟩, ⟨p2, y2, r2, sqt_nl e s2, q2⟩, e _ _ h8 (fun _ c => nomatch c), h9, h10, h11, h12⟩
  · obtain ⟨a, r, ha, hb, hc⟩ := h4.2 k y d hy hd
    exact ⟨a, r, ha, sqt_nl e hb, sqt_nl e hc⟩
  · obtain ⟨t', q', zs, ha, hb, hc, hd⟩ := h6.2 i p r hp hr
    refine ⟨t', q', zs, ha, sqt_nl e hb, sqt_nl e hc, hd.1, fun j y row hy hrow => ?_⟩
    obtain ⟨b, hb1, hb2⟩ := hd.2 j y row hy hrow
    exact ⟨b, hb1, sqt_nl e hb2⟩
end Kx
namespace Kx
open PySem PySem.Spec PyProof.Rows L2 Evl LX T XV RX WS
variable {P : Program} {w : World} {K : PySem.W.Frag} {mg : Str → Option Value} {base : Heap}
/-! ### shared -/
theorem a2_dpsM {α : Type} {Pd : α → V → Hp → Prop} {f : α → PyData} {B : Hp} (hf : ∀ n y, Pd n y B → Dp K B y (f n)) : ∀ {ns : List α} {ys : List V}, A2 Pd ns ys B → DpAll K B ys (ns.map f)
  | [], ys, h => by
    have : ys = [] := List.length_eq_zero_iff.mp h.1
    subst this
    exact .nil
  | d :: ds, [], h => by have := h.1; simp at this
  | d :: ds, y :: ys, h => by
    obtain ⟨h1, h2⟩ := h.uncons
    exact .cons (hf _ _ h1) (a2_dpsM hf h2)
def IsLI (r : List Int) : V → Hp → Prop := fun y B => ∃ p, y = .ref p ∧ B p = some (.lst (r.map V.int))
instance {r : List Int} : Mo (IsLI r) := ⟨fun e ⟨p, a, b⟩ => ⟨p, a, e _ _ b⟩⟩
def IsEL (ar : Int) (g : Addr) (n : Str) : V → Hp → Prop := fun y B => ∃ p, y = .ref p ∧ B p = some (.lst [.str n, .int ar, .ref g])
instance {ar : Int} {g : Addr} {n : Str} : Mo (IsEL ar g n) := ⟨fun e ⟨p, a, b⟩ => ⟨p, a, e _ _ b⟩⟩
def rowsL (R : List (List Int)) : PyData := .list (R.map fun r => .list (r.map PyData.int))
def sharedDt (ar : Int) (R : List (List Int)) (ns : List Str) : List PyData := ns.map fun n => .list [.str n, .int ar, rowsL R]
theorem shared_ent {ar : Int} {R : List (List Int)} {ns : List Str} (i : Nat) (d : PyData) (n : Str) (g : Int × List (List Int)) (h1 : (sharedDt ar R ns)[i]? = some d) (h2 : ns[i]? = some n) (h3 : (ns.map fun _ => (ar, R))[i]? = some g) : EntD d n g := by
  unfold sharedDt at h1
  rw [List.getElem?_map, h2] at h1 h3
  have h1 : PyData.list [.str n, .int ar, rowsL R] = d := Option.some.inj h1
  have h3 : (ar, R) = g := Option.some.inj h3
  subst h1 h3
  refine ⟨rowsL R, _, rfl, rfl, List.length_map .., fun k rd r hk hr => ?_⟩
  have hr : R[k]? = some r := hr
  rw [List.getElem?_map, hr] at hk
  have hk := Option.some.inj hk
  subst hk
  rfl
def dShared (K : PySem.W.Frag) : List V → Hp → (V → Hp → Prop) → Prop := fun vs B Pz => ∃ (a b : Addr) (big : Int) (ns : List Str) (gs : List (Int × List (List Int))) (ts : List V), vs = [.ref a, .ref b, .int big] ∧ B a = some (.lst (ns.map V.str)) ∧ ns.Nodup ∧ ns.length ≤ 12 ∧ (∀ s ∈ ns, nameOkS s = true) ∧ B b = some (.lst ts) ∧ A2 (GivenR K) gs ts B ∧ gs.length = ns.length ∧ (∀ g ∈ gs, GivenOk big g) ∧ 2 ≤ big ∧ big ≤ 400 ∧ Pz = IsV (.bl true)
/-- _law_is_world(world, big, model) -/
theorem ev_lworld {C : Addr} {σ : L2.St} {B : Hp} {ta tb tc : TE} {x : Addr} {big : Int} {rels : List Rel} (h1 : Ev ta σ B (.ref x)) (h2 : Ev tb σ B (.int big)) (h3 : EvR tc σ B fun z B' => ∃ p kvs, z = .ref p ∧ B' p = some (.dK kvs) ∧ MTab K rels kvs B') (hW : WorldAt K P w C big rels x B) (hf : RelsFit rels) : Ev (tCall (spR (dIsWorld K P w C)) [] E0 (tCons ta (tCons tb (tCons tc tNil)))) σ B (.bl true) :=
  EvR.val (er_callP (Pz := IsV (.bl true)) (Pa := fun vs B' => ∃ p kvs, vs = [.ref x, .int big, .ref p] ∧ B' p = some (.dK kvs) ∧ MTab K rels kvs B') (EvAR.imp (ear (Pr := fun r B' => ∃ z2 r2, r = z2 :: r2 ∧ IsV (.int big) z2 B' ∧ ∃ z3 r3, r2 = z3 :: r3 ∧ (∃ p kvs, z3 = .ref p ∧ B' p = some (.dK kvs) ∧ MTab K rels kvs B') ∧ r3 = []) inferInstance (mr := ⟨fun e ⟨z2, r2, a, b, z3, r3, c, ⟨p, kvs, d, f, g⟩, h⟩ => ⟨z2, r2, a, b, z3, r3, c, ⟨p, kvs, d, e _ _ f, g.mono e⟩, h⟩⟩) (eR_v h1) (ear inferInstance (mr := ⟨fun e ⟨z3, r3, c, ⟨p, kvs, d, f, g⟩, h⟩ => ⟨z3, r3, c, ⟨p, kvs, d, e _ _ f, g.mono e⟩, h⟩⟩) (eR_v h2) (ear ⟨fun e ⟨p, kvs, d, f, g⟩ => ⟨p, kvs, d, e _ _ f, g.mono e⟩⟩ h3 ear_nil))) (by
    rintro vs B' _ ⟨z1, r1, rfl, hz1, z2, r2, rfl, hz2, z3, r3, rfl, ⟨p, kvs, rfl, hp, hm⟩, rfl⟩
    have hz1 : z1 = .ref x := hz1
    have hz2 : z2 = .int big := hz2
    subst hz1 hz2
    exact ⟨p, kvs, rfl, hp, hm⟩)) (by
    rintro vs B' e ⟨p, kvs, rfl, hp, hm⟩
    exact ⟨_, ⟨x, p, big, rels, kvs, rfl, hW.mono e, hp, hm, hf, rfl⟩, fun z B'' _ h => h⟩))
abbrev law_shared_N : List Str := ["names", "tables", "big", "given", "world", "row", "text"]
abbrev law_shared_P : List Str := ["names", "tables", "big"]
theorem sc_law_shared : FnScope ["names", "tables", "big", "given", "world", "row", "text"] ["names", "tables", "big"] (defScope s_law_shared) := ⟨rfl, rfl, rfl, by decide +kernel, rfl, by decide +kernel, by decide +kernel⟩
theorem ok_shared (T : TX K mg) : OkF P w K mg base 9 "_law_shared" ["names", "tables", "big"] (spR (dShared K)) := by
  have n_len := T.n "len" (by decide +kernel)
  have n_list := T.n "list" (by decide +kernel)
  refine T.okF 41 rfl (by decide +kernel) (fun f fd F => ?_) (fun _ _ _ _ _ _ us hl => match us, hl with | [_, _, _], _ => rfl)
  have O__law_model := ok_model (P := P) (w := w) (base := base) T
  have O__law_is_world := ok_lworld (P := P) (w := w) (base := base) T (w_cls T) (w_noat T) (w_arity T) (w_rows T)
  have I_World2 := w_mk2 (P := P) (w := w) (base := base) T
  refine F.ok sc_law_shared (fun vs H Q E h => spR_len h (by rintro B Pz ⟨a, b, big, ns, gs, ts, rfl, _⟩; rfl)) (fun cdv A outer s H vs Q E hr ⟨B, Pz, e, ⟨a, b, big, ns, gs, ts, hvs, hA, hnd, hnl, hnm, hB, hG, hgl, hok, hb2, hb4, hP⟩, q⟩ => ?_)
  subst hvs hP
  refine ⟨_, (pss_cons (ps_if (pt_cmpR op_eq (pe_callB (LX.k_len (K := K)) (by rfl) n_len (by decide +kernel) (pa_cons (pv 0) pa_nil)) pe_int (nomark _)) (pss_one (ps_ret pe_bl)) pss_nil)
        (pss_cons (ps_set (i := 3) sc_law_shared.nd rfl (.inr rfl) (pe_lc (own := [("row", 5)]) (g := gName 5) (tt := tYes) rfl sc_law_shared.nd (RX.k_pil (K := K) (pe_ix (LX.k_ixl (K := K)) (pe_ix (LX.k_ixl (K := K)) (pv 1) pe_int (fun _ _ => rfl)) pe_int (fun _ _ => rfl))) (blkOk_by (N := law_shared_N) (sc := defScope s_law_shared) (by decide +kernel)) (fun _ _ _ _ _ => pg_name (i := 5) sc_law_shared.nd rfl (Or.inl rfl)) (fun _ _ _ _ _ => pts_nil) (fun _ _ _ _ _ => (pe_callTy (LX.k_listOf (K := K)) (by rfl) n_list (by decide +kernel) (pa_cons (pv 5) pa_nil)))))
        (pss_cons (ps_set (i := 4) sc_law_shared.nd rfl (.inl rfl) (pe_i I_World2 hr (by decide) (pa_cons (pv 2) (pa_cons (pe_lc (own := [("text", 6)]) (g := gName 6) (tt := tYes) rfl sc_law_shared.nd (RX.k_pil (K := K) (pv 0)) (blkOk_by (N := law_shared_N) (sc := defScope s_law_shared) (by decide +kernel)) (fun _ _ _ _ _ => pg_name (i := 6) sc_law_shared.nd rfl (Or.inl rfl)) (fun _ _ _ _ _ => pts_nil) (fun _ _ _ _ _ => (pe_lst (pa_cons (pv 6) (pa_cons (pe_ix (LX.k_ixl (K := K)) (pe_ix (LX.k_ixl (K := K)) (pv 1) pe_int (fun _ _ => rfl)) pe_int (fun _ _ => rfl)) (pa_cons (pv 3) pa_nil)))))) pa_nil))))
        (pss_cons (ps_expr (pe_bm0 PySem.F.plainAttrs_list PySem.F.slot_list_clear PySem.F.type_list_clear mt_clear (pv 3)))
        (pss_one (ps_ret (LX.pe_f O__law_is_world hr (by decide) (pa_cons (pv 4) (pa_cons (pv 2) (pa_cons (LX.pe_f O__law_model hr (by decide) (pa_cons (pv 0) (pa_cons (pe_lc (own := [("text", 6)]) (g := gName 6) (tt := tYes) rfl sc_law_shared.nd (RX.k_pil (K := K) (pv 0)) (blkOk_by (N := law_shared_N) (sc := defScope s_law_shared) (by decide +kernel)) (fun _ _ _ _ _ => pg_name (i := 6) sc_law_shared.nd rfl (Or.inl rfl)) (fun _ _ _ _ _ => pts_nil) (fun _ _ _ _ _ => (pe_ix (LX.k_ixl (K := K)) (pv 1) pe_int (fun _ _ => rfl)))) pa_nil))) pa_nil)))))))))), ?_⟩
  refine x_when (X := H) (B := B) (b := decide (ns.length = 0)) (et_test (ev_is (ev_op (ev_len (ev_var rfl) (sq_of hA)) ev_c (rv_eq rfl)) (by rw [List.length_map]; simp))) (fun _ => x_ret (eR_v ev_c) (fun z B' H' g p e1 e2 => q z H' B' e2 g e1 p)) (fun hz => ?_) H e (Ex.refl H)
  have hz : 0 < ns.length := by have := of_decide_eq_false hz; omega
  obtain ⟨gv, hgv⟩ : ∃ gv, gs[0]? = some gv := ⟨_, List.getElem?_eq_getElem (by omega)⟩
  obtain ⟨tv, htv⟩ : ∃ tv, ts[0]? = some tv := ⟨_, List.getElem?_eq_getElem (by rw [hG.1]; omega)⟩
  obtain ⟨pg, lg, gy, rfl, hg1, hg2, hg3⟩ := hG.2 0 tv gv htv hgv
  have hgo := hok _ (List.mem_of_getElem? hgv)
  obtain ⟨ar, R⟩ := gv
  have hg1 : B pg = some (.lst [.int ar, .ref lg]) := hg1
  have hg3 : A2 (IsTI K) R gy B := hg3
  have hRl : R.length ≤ 31 := hgo.2.2.2
  have tab : ∀ {σ : L2.St} {B3 : Hp}, σ[1]? = some (some (V.ref b)) → Ex B B3 → Ev (tOp (rIxL K) (tVar 1) (tC (.int 0))) σ B3 (.ref pg) := fun {σ B3} h1 e3 => ev_op (ev_var h1) ev_c (rv_ixL (sq_of (e3 _ _ hB)) (atI_get (k := 0) htv))
  -- given
  refine x_asg (P := fun z B' => ∃ (p : Addr) (ys : List V), z = .ref p ∧ B' p = some (.lst ys) ∧ B p = none ∧ A2 IsLI R ys B') (er_lc1N (Pd := IsLI) (xs := gy) (ds := R) (fun _ => inferInstance) (ei_list (ev_op (tab rfl (Ex.refl _)) ev_c (rv_ixL (sq_of hg1) (atI_nat (j := 1) rfl))) (sq_of hg2)) (by rw [hg3.1]; omega) hg3.1 (fun _ => rfl) (fun i y B' r e1 hy hr => ?_)) fun z B1 g1 ⟨pv, ys, hz1, hpv, hpvB, hys⟩ => ?_
  · obtain ⟨pr, rfl, hpr⟩ := hg3.2 i y r hy hr
    exact EvR.imp (er_list (Py := fun us _ => us = r.map V.int) inferInstance (rVp (ev_var rfl) ⟨pr, _, rfl, .inr (ex_t e1 hpr), rfl⟩)) fun z B'' _ ⟨p, us, h1, h2, _, h4⟩ => ⟨p, h1, h4 ▸ h2⟩
  subst hz1
  have hXpv : H pv = none := Decidable.byContradiction fun c => by
    have := g1.av pv hpvB c
    rw [hpv] at this
    exact nomatch this
  obtain ⟨hro, hre⟩ := rels_of (big := big) (ds := sharedDt ar R ns) (ns := ns) (gs := ns.map fun _ => (ar, R)) (by unfold sharedDt; rw [List.length_map]) (by rw [List.length_map]) shared_ent hnm hnd hnl (fun g hg => by
    obtain ⟨_, _, rfl⟩ := List.mem_map.mp hg
    exact hgo)
  -- world
  have e1A := g1.ex _ _ hA
  have hcomp : ∀ {B3 : Hp}, Ex B1 B3 → EvR (tLc (iList K (tVar 0)) (gName 6) tYes (tLst (tCons (tVar 6) (tCons (tOp (rIxL K) (tOp (rIxL K) (tVar 1) (tC (.int 0))) (tC (.int 0))) (tCons (tVar 3) tNil)))) [6]) [some (V.ref a), some (.ref b), some (.int big), some (.ref pv), none, none, none] B3 (IsLA (A2 (IsEL ar pv) ns)) := fun {B3} e3 =>
    er_lc1 (Pd := IsEL ar pv) (xs := ns.map V.str) (ds := ns) (fun _ => inferInstance) (ei_list (ev_var rfl) (sq_of (e3 _ _ e1A))) (by rw [List.length_map]; omega) (by rw [List.length_map]) (fun _ => rfl) fun i y B' n e1 hy hn => by
      rw [List.getElem?_map, hn] at hy
      have hy := Option.some.inj hy
      subst hy
      exact EvR.imp (rL (xs := [.str n, .int ar, .ref pv]) (el_lst (ea_cons (ev_var rfl) (ea_cons (ev_op (tab rfl ((g1.ex.trans e3).trans e1)) ev_c (rv_ixL (sq_of (((g1.ex.trans e3).trans e1) _ _ hg1)) (atI_nat (j := 0) rfl))) (ea_cons (ev_var rfl) ea_nil))) (show (3 : Nat) ≤ 100000 by decide))) fun z B'' _ h => h
  refine x_asg (er_make (C := wC K) (P := P) (w := w) (d := .list (sharedDt ar R ns)) (EvAR.imp (ear inferInstance (eR_v (v := .int big) (ev_var rfl)) (ear inferInstance (hcomp (Ex.refl _)) ear_nil)) fun vs B' e3 ⟨z1, r1, h1, h2, z2, r2, h3, ⟨p, us, h4, h5, h6⟩, h7⟩ => by
    have h2 : z1 = .int big := h2
    subst h7 h4 h3 h2 h1
    refine ⟨.ref p, rfl, .lst (sq_of h5) (a2_dpsM (fun n y ⟨p', hp1, hp2⟩ => ?_) h6)⟩
    subst hp1
    refine .lst (sq_of hp2) (.cons (.str n) (.cons (.int ar) (.cons (.lst (sq_of (e3 _ _ hpv)) (a2_dpsM (fun r y ⟨q', hq1, hq2⟩ => ?_) (A2.mono (fun _ => inferInstance) e3 hys))) .nil)))
    subst hq1
    exact .lst (sq_of hq2) (dp_ints r)) rfl hro hb2 hb4) fun z B2 g2 ⟨x, hx, hW⟩ => ?_
  subst hx
  rw [hre] at hW
  have hpv2 := g2.ex _ _ hpv
  refine x_clear hpv2 hXpv (ev_var rfl) ?_
  have hnl3 : Nl B2 (upd B2 pv (.lst [])) := fun c o hc ho => by
    rw [upd_ne fun d => by subst d; rw [hpv2] at hc; exact ho _ (Option.some.inj hc).symm]
    exact hc
  have hW3 := hW.nl hnl3
  have e3 : Ex B (upd B2 pv (.lst [])) := fun c o hc => by
    rw [upd_ne fun d => by subst d; rw [hpvB] at hc; exact nomatch hc]
    exact g2.ex _ _ (g1.ex _ _ hc)
  generalize upd B2 pv (.lst []) = B3 at hW3 e3
  have hgl2 : (ns.map fun _ => (ar, R)).length = ns.length := List.length_map ..
  have hok2 : ∀ g ∈ (ns.map fun _ => (ar, R)), GivenOk big g := fun g hg => by
    obtain ⟨_, _, rfl⟩ := List.mem_map.mp hg
    exact hgo
  refine x_ret (eR_v (v := .bl true) (ev_lworld (rels := relsG big ns (ns.map fun _ => (ar, R))) (ev_var rfl) (ev_var rfl) (er_callP (Dd := dModel K) (Pa := fun vs B' => ∃ p us, vs = [.ref a, .ref p] ∧ B' p = some (.lst us) ∧ A2 (fun _ : Str => IsV (.ref pg)) ns us B') (EvAR.imp (ear inferInstance (eR_v (v := .ref a) (ev_var rfl)) (ear inferInstance (?hl : EvR _ _ _ (IsLA (A2 (fun _ : Str => IsV (.ref pg)) ns))) ear_nil)) fun vs B' _ ⟨z1, r1, h1, h2, z2, r2, h3, ⟨p, us, h4, h5, h6⟩, h7⟩ => ?_) fun vs B' e4 ⟨p, us, h1, h2, h3⟩ => ?_) hW3 (relsG_fit hgl2 hnd hnl hok2))) (fun z B' H' g p e1 e2 => ?_)
  case hl =>
    exact er_lc1 (Pd := fun _ : Str => IsV (.ref pg)) (xs := ns.map V.str) (ds := ns) (fun _ => inferInstance) (ei_list (ev_var rfl) (sq_of (e3 _ _ hA))) (by rw [List.length_map]; omega) (by rw [List.length_map]) (fun _ => rfl) fun i y B' n e1 hy hn => eR_v (tab rfl (e3.trans e1))
  · have h2 : z1 = .ref a := h2
    subst h7 h4 h3 h2 h1
    exact ⟨p, us, rfl, h5, h6⟩
  · subst h1
    refine ⟨_, ⟨big, a, p, ns, ns.map fun _ => (ar, R), us, rfl, (e3.trans e4) _ _ hA, hnd, hnl, h2, ⟨by rw [h3.1, List.length_map], fun k y d hk hd => ?_⟩, hgl2, hok2, rfl⟩, fun z B'' _ h => h⟩
    rw [List.getElem?_map] at hd
    cases hn : ns[k]? with
    | none => rw [hn] at hd; exact nomatch hd
    | some n =>
      rw [hn] at hd
      have hd : (ar, R) = d := Option.some.inj hd
      subst hd
      have hy : y = .ref pg := h3.2 k y n hk hn
      subst hy
      exact ⟨pg, lg, gy, rfl, (e3.trans e4) _ _ hg1, (e3.trans e4) _ _ hg2, A2.mono (fun _ => inferInstance) (e3.trans e4) hg3⟩
  · exact q z H' B e2 (Gr.refl _ _) (e3.trans (g.ex.trans e1)) p
end Kx
namespace Kx
open PySem PySem.Spec PyProof.Rows L2 Evl LX T XV RX WS
variable {P : Program} {w : World} {K : PySem.W.Frag} {mg : Str → Option Value} {base : Heap}
/-! ### data that may be compared -/
inductive Pl : Nat → PyData → Prop
  | int {k : Nat} (i : Int) : Pl k (.int i)
  | str {k : Nat} {s : Str} (h : PySem.PyData.strOk s = true) : Pl k (.str s)
  | list {k : Nat} {ds : List PyData} (h : ∀ x ∈ ds, Pl k x) : Pl (k + 1) (.list ds)
  | tuple {k : Nat} {ds : List PyData} (h : ∀ x ∈ ds, Pl k x) : Pl (k + 1) (.tuple ds)
theorem lay_all : ∀ {ds : List PyData}, (∀ x ∈ ds, x.canLay0 = true) → PyData.canLayAll0 ds = true
  | [], _ => rfl
  | d :: ds, h => by
    show (PyData.canLay0 d && PyData.canLayAll0 ds) = true
    rw [h d List.mem_cons_self, lay_all fun x hx => h x (List.mem_cons_of_mem _ hx)]
    rfl
theorem depth_all {k : Nat} : ∀ {ds : List PyData}, (∀ x ∈ ds, x.depth ≤ k) → PyData.depthAll ds ≤ k
  | [], _ => Nat.zero_le _
  | d :: ds, h => by
    show max (PyData.depth d) (PyData.depthAll ds) ≤ k
    have h1 := h d List.mem_cons_self
    have h2 := depth_all (ds := ds) fun x hx => h x (List.mem_cons_of_mem _ hx)
    omega
theorem Pl.lay {k : Nat} {d : PyData} (h : Pl k d) : d.canLay0 = true ∧ d.depth ≤ k := by
  induction h with
  | int i => exact ⟨rfl, Nat.zero_le _⟩
  | str h => exact ⟨h, Nat.zero_le _⟩
  | list h ih => exact ⟨lay_all fun x hx => (ih x hx).1, Nat.succ_le_succ (depth_all fun x hx => (ih x hx).2)⟩
  | tuple h ih => exact ⟨lay_all fun x hx => (ih x hx).1, Nat.succ_le_succ (depth_all fun x hx => (ih x hx).2)⟩
theorem Pl.shaped {k : Nat} {d : PyData} (h : Pl k d) (hk : k ≤ 64) : SeqAt.shaped d = true := by
  obtain ⟨h1, h2⟩ := h.lay
  show (d.canLay0 && decide (d.depth ≤ 64)) = true
  rw [h1, decide_eq_true (by omega)]
  rfl
theorem Pl.form {k : Nat} {f : Int} {ds : List PyData} (h : ∀ x ∈ ds, Pl k x) : Pl (k + 1) (formD f ds) := by
  unfold formD
  split
  · exact .list h
  · exact .tuple h
theorem nam_ok2 {s : Str} (h : NM.Nam s) : PySem.PyData.strOk s = true := by
  show s.cps.all (· < 0x110000) = true
  rw [← Array.all_toList]
  refine List.all_eq_true.mpr fun c hc => decide_eq_true ?_
  rcases h.all c hc with ⟨_, q⟩ | ⟨_, q⟩ <;> omega
theorem handed_pl {fl : List Int} {ns : List Str} {gs : List (Int × List (List Int))} (hn : ∀ s ∈ ns, NM.Nam s) (hg : gs.length = ns.length) : Pl 4 (handedDt fl ns gs) := by
  refine Pl.form fun d hd => ?_
  obtain ⟨i, hi, rfl⟩ := List.mem_map.mp hd
  have hi := List.mem_range.mp hi
  refine Pl.form fun x hx => ?_
  have hx : x = .str (ns.getD i "") ∨ x = .int (gs.getD i (0, [])).1 ∨ x = formD (fl.getD (7 + i) 0) (rowsDt fl i (gs.getD i (0, [])).2) := by simpa using hx
  rcases hx with c | c | c
  · subst c
    refine .str (nam_ok2 ?_)
    rw [List.getD_eq_getElem?_getD, List.getElem?_eq_getElem hi]
    exact hn _ (List.getElem_mem _)
  · subst c; exact .int _
  · subst c
    refine Pl.form fun r hr => ?_
    obtain ⟨k, _, rfl⟩ := List.mem_map.mp hr
    refine Pl.form fun y hy => ?_
    obtain ⟨m, _, rfl⟩ := List.mem_map.mp hy
    exact .int m
/-! ### more readings -/
section
variable {σ : L2.St} {B X : Hp} {ta tb te : TE} {tz : TS} {D : Ends} {x v : V} {r : R2} {Pz : V → Hp → Prop}
theorem ev_opR (h1 : Ev ta σ B x) (h2 : EvR tb σ B Pz) (h : ∀ z B', Ex B B' → Pz z B' → RV r x z B' v) : Ev (tOp r ta tb) σ B v := fun H1 e Q q =>
  h1 H1 e _ fun H2 e2 => h2 H2 (e.trans e2) _ fun z H3 B' e3 g e4 p => h z B' g.ex p H3 e4 Q fun H4 e5 => q H4 ((e2.trans e3).trans e5)
theorem er_dnew : EvR tDNewK σ B fun z B' => ∃ p, z = .ref p ∧ B' p = some (.dK []) := fun H1 e Q q p hp => q _ _ (upd B p (.dK [])) (Ex.new hp) (gr_new (none_of e hp) hp) (fun a o ha => by
  by_cases c : a = p
  · subst c; rw [upd_same] at ha ⊢; exact ha
  · rw [upd_ne c] at ha ⊢; exact e a o ha) ⟨p, rfl, upd_same⟩
/-- B without lists but those that B0 knows -/
def noL (B0 B : Hp) : Hp := fun a => match B a with
  | some (.lst xs) => B0 a
  | o => o
theorem noL_lst {B0 B : Hp} {a : Addr} {xs : List V} (h : B a = some (.lst xs)) : noL B0 B a = B0 a := by unfold noL; rw [h]
theorem noL_ne {B0 B : Hp} {a : Addr} (h : ∀ xs, B a ≠ some (.lst xs)) : noL B0 B a = B a := by
  unfold noL
  split
  · rename_i xs h'; exact absurd h' (h xs)
  · rfl
theorem noL_ex {B0 B : Hp} (e : Ex B0 B) : Ex B0 (noL B0 B) := fun a o h => by
  by_cases c : ∃ xs, B a = some (.lst xs)
  · obtain ⟨xs, c⟩ := c
    rw [noL_lst c]; exact h
  · rw [noL_ne fun xs d => c ⟨xs, d⟩]; exact e a o h
theorem noL_le {B0 B : Hp} (e : Ex B0 B) : Ex (noL B0 B) B := fun a o h => by
  by_cases c : ∃ xs, B a = some (.lst xs)
  · obtain ⟨xs, c⟩ := c
    rw [noL_lst c] at h; exact e a o h
  · rw [noL_ne fun xs d => c ⟨xs, d⟩] at h; exact h
theorem noL_nl {B0 B : Hp} : Nl B (noL B0 B) := fun a o h ho => by
  rw [noL_ne fun xs d => ho xs (by rw [h] at d; exact Option.some.inj d)]
  exact h
theorem Nest.to {Y Y' B : Hp} {L : Nat} {hd : Addr} (f : ∀ a xs, Y a = none → B a = some (.lst xs) → Y' a = none) (h : Nest K Y L hd B) : Nest K Y' L hd B := by
  obtain ⟨es, Z, h1, h2, h3, h4⟩ := h
  have hm : ∀ {a}, mrg Z Y' a = none → Z a = none ∧ Y' a = none := mrg_no
  refine ⟨es, mrg Z Y', fun a ha => (hm ha).2, h2.imp (fun h => ⟨h.1, f hd es h.2.1 h.1, ?_⟩) id, h3, fun v hv => (h4 v hv).to fun a xs ha hb => ?_⟩
  · cases q : Z hd with
    | none => exact absurd q h.2.2
    | some o => rw [mrg_some q]; exact Option.some_ne_none _
  · rw [mrg_none ha]
    exact f a xs (h1 a ha) hb
/-- _law_spoil(handed): what was known ahead of it stays, and all that is no list -/
theorem x_spoil {B0 : Hp} {hd : Addr} (g : Gr X B0 B) (hN : Nest K B0 100 hd B) (h : Ev te σ B (.ref hd)) (k : Sx X tz D σ (noL B0 B)) : Sx X (tSeq (tDrop (tCall (spSpoil K) [] E0 (tCons te tNil))) tz) D σ B := fun H e eX => by
  refine h H e _ fun H1 e1 => ?_
  have eB := e.trans e1
  have eX1 := eX.trans e1
  have key : spSpoil K [.ref hd] H1 (fun _ H' => tz D σ H') E0 := ?_
  · exact key
  refine ⟨hd, mrg (noL B0 B) X, B, rfl, mrg_le ((noL_le g.ex).trans eB) eX1, eB, hN.to fun a xs h1 h2 => ?_, fun H2 e2 => k H2 (mrg_l.trans e2) (fun a o ha => ?_)⟩
  · rw [mrg_none (by rw [noL_lst h2]; exact h1)]
    exact Decidable.byContradiction fun c => by
      have := g.av a h1 c
      rw [h2] at this
      exact nomatch this
  · exact (mrg_r ((noL_le g.ex).trans eB) eX1 : Ex X (mrg (noL B0 B) X)).trans e2 a o ha
instance {big : Int} : Mo (GivenAt K big) := ⟨fun e ⟨⟨p, l, ar, ys, R, h1, h2, h3, h4, h5⟩⟩ => ⟨⟨p, l, ar, ys, R, h1, e _ _ h2, e _ _ h3, A2.mono (fun _ => inferInstance) e h4, h5⟩⟩⟩
theorem given_all2 {big : Int} : ∀ {ys : List V}, (∀ y ∈ ys, GivenAt K big y B) → ∃ gs, A2 (GivenR K) gs ys B ∧ ∀ g ∈ gs, GivenOk big g
  | [], _ => ⟨[], a2_nil, fun g h => nomatch h⟩
  | y :: ys, h => by
    obtain ⟨gs, h1, h2⟩ := given_all2 (ys := ys) fun y hy => h y (List.mem_cons_of_mem _ hy)
    obtain ⟨p, l, ar, zs, R, e1, e2, e3, e4, e5⟩ := h y List.mem_cons_self
    refine ⟨(ar, R) :: gs, A2.cons ⟨p, l, zs, e1, e2, e3, e4⟩ h1, fun g hg => ?_⟩
    rcases List.mem_cons.mp hg with c | c
    · rw [c]; exact e5
    · exact h2 g c
/-- [_law_given(_law_cell(script, k + j), big) for j in range(len(names))] -/
def IsGivens (K : PySem.W.Frag) (big : Int) (n : Nat) : V → Hp → Prop := fun z B => ∃ (p : Addr) (ts : List V) (gs : List (Int × List (List Int))), z = .ref p ∧ B p = some (.lst ts) ∧ A2 (GivenR K) gs ts B ∧ gs.length = n ∧ ∀ g ∈ gs, GivenOk big g
end
end Kx
namespace Kx
open PySem PySem.Spec PyProof.Rows L2 Evl LX T XV RX WS
variable {P : Program} {w : World} {K : PySem.W.Frag} {mg : Str → Option Value} {base : Heap}
/-! ### the law -/
def dLaw (K : PySem.W.Frag) : List V → Hp → V → Prop := fun vs H z => ∃ (a : Addr) (sc : List Int), vs = [.ref a] ∧ SqL K H a (sc.map V.int) ∧ sc.length ≤ 63 ∧ z = .bl true
def SZ6 : List Int := [8, 399, 13, 1000, 8, 399]
theorem SZ6_ok : ∀ s ∈ SZ6, 0 < s ∧ s < 1073741824 := by decide
theorem el_eq {σ : L2.St} {B : Hp} {te : TE} {xs ys : List V} (h : EvL te σ B xs) (e : xs = ys) : EvL te σ B ys := e ▸ h
abbrev law_N : List Str := ["script", "shape", "big", "names", "tables", "flags", "model", "handed", "world", "wide", "turned", "others", "second", "empty", "text", "which", "j", "k", "flag"]
abbrev law_P : List Str := ["script"]
theorem sc_law : FnScope ["script", "shape", "big", "names", "tables", "flags", "model", "handed", "world", "wide", "turned", "others", "second", "empty", "text", "which", "j", "k", "flag"] ["script"] (defScope s_law) := ⟨rfl, rfl, rfl, by decide +kernel, rfl, by decide +kernel, by decide +kernel⟩
theorem fn_law (T : TX K mg) {f : Addr} {fd : FuncData} (F : Fun K "law" "law" s_law f fd) : FnOk P w K mg base CX0 10 f fd ["script"] (spV (dLaw K)) := by
  have n_int := T.n "int" (by decide +kernel)
  have n_range := T.n "range" (by decide +kernel)
  have n_len := T.n "len" (by decide +kernel)
  have O__law_digits := ok_digits (P := P) (w := w) (base := base) T
  have O__law_cell := ok_cell (P := P) (w := w) (base := base) T
  have O__law_big := ok_big (P := P) (w := w) (base := base) T
  have O__law_names := ok_names (P := P) (w := w) (base := base) T
  have O__law_given := ok_given (P := P) (w := w) (base := base) T
  have O__law_model := ok_model (P := P) (w := w) (base := base) T
  have O__law_handed := ok_handed (P := P) (w := w) (base := base) T
  have O__law_is_world := ok_lworld (P := P) (w := w) (base := base) T (w_cls T) (w_noat T) (w_arity T) (w_rows T)
  have O__law_spoil := ok_spoil (P := P) (w := w) (base := base) T
  have O__law_shared := ok_shared (P := P) (w := w) (base := base) T
  have O__law_absent := ok_absent (P := P) (w := w) (base := base) T
  have O__law_refuses := ok_refuses (P := P) (w := w) (base := base) T (w_cls T) (wX_arity T) (wX_rows T)
  have I_World1 := w_mk1 (P := P) (w := w) (base := base) T
  have I_World2 := w_mk2 (P := P) (w := w) (base := base) T
  have I_WorldK := w_mkK (P := P) (w := w) (base := base) T
  refine F.ok sc_law (fun vs H Q E h => by obtain ⟨z, ⟨a, ns, rfl, _⟩, _⟩ := h; rfl) (fun cdv A outer s H vs Q E hr h => ?_)
  obtain ⟨z, ⟨a, sc, hvs, hS, hl, hz⟩, q⟩ := h
  subst hvs hz
  refine ⟨_, (pss_cons (ps_set (i := 1) sc_law.nd rfl (.inl rfl) (LX.pe_f O__law_digits hr (by decide) (pa_cons (LX.pe_f O__law_cell hr (by decide) (pa_cons (pv 0) (pa_cons pe_int pa_nil))) (pa_cons (pe_lst (pa_cons pe_int (pa_cons pe_int (pa_cons pe_int (pa_cons pe_int (pa_cons pe_int (pa_cons pe_int pa_nil))))))) pa_nil))))
        (pss_cons (ps_set (i := 2) sc_law.nd rfl (.inr rfl) (LX.pe_f O__law_big hr (by decide) (pa_cons (pe_ix (LX.k_ixl (K := K)) (pv 1) pe_int (fun _ _ => rfl)) (pa_cons (pe_ix (LX.k_ixl (K := K)) (pv 1) pe_int (fun _ _ => rfl)) pa_nil))))
        (pss_cons (ps_set (i := 3) sc_law.nd rfl (.inr rfl) (LX.pe_f O__law_names hr (by decide) (pa_cons (pv 0) (pa_cons pe_int (pa_cons (pe_op op_mod (pe_callTy call_int1 (by rfl) n_int (by decide +kernel) (pa_cons (pe_op op_add (pe_ix (LX.k_ixl (K := K)) (pv 1) pe_int (fun _ _ => rfl)) pe_int) pa_nil)) pe_int) pa_nil)))))
        (pss_cons (ps_setLc (i := 4) (own := [("j", 16)]) (g := gName 16) (tt := tYes) rfl sc_law.nd rfl rfl (sw_true rfl rfl rfl (by decide +kernel)) (pi_range1 (by rfl) n_range (pa_cons (pe_callB (LX.k_len (K := K)) (by rfl) n_len (by decide +kernel) (pa_cons (pv 3) pa_nil)) pa_nil)) (blkOk_by (N := law_N) (sc := defScope s_law) (by decide +kernel)) (fun _ _ _ _ _ => pg_name (i := 16) sc_law.nd rfl (Or.inl rfl)) (fun _ _ _ _ _ => pts_nil) (fun _ _ _ _ _ => (LX.pe_f O__law_given hr (by decide) (pa_cons (LX.pe_f O__law_cell hr (by decide) (pa_cons (pv 0) (pa_cons (pe_op op_add pe_int (pv 16)) pa_nil))) (pa_cons (pv 2) pa_nil)))))
        (pss_cons (ps_set (i := 5) sc_law.nd rfl (.inl rfl) (LX.pe_f O__law_digits hr (by decide) (pa_cons (LX.pe_f O__law_cell hr (by decide) (pa_cons (pv 0) (pa_cons pe_int pa_nil))) (pa_cons (pe_lc (own := [("k", 17)]) (g := gName 17) (tt := tYes) rfl sc_law.nd (pi_range1 (by rfl) n_range (pa_cons pe_int pa_nil)) (blkOk_by (N := law_N) (sc := defScope s_law) (by decide +kernel)) (fun _ _ _ _ _ => pg_name (i := 17) sc_law.nd rfl (Or.inl rfl)) (fun _ _ _ _ _ => pts_nil) (fun _ _ _ _ _ => pe_int)) pa_nil))))
        (pss_cons (ps_set (i := 6) sc_law.nd rfl (.inl rfl) (LX.pe_f O__law_model hr (by decide) (pa_cons (pv 3) (pa_cons (pv 4) pa_nil))))
        (pss_cons (ps_set (i := 7) sc_law.nd rfl (.inl rfl) (LX.pe_f O__law_handed hr (by decide) (pa_cons (pv 3) (pa_cons (pv 4) (pa_cons (pv 5) pa_nil)))))
        (pss_cons (ps_set (i := 8) sc_law.nd rfl (.inl rfl) (pe_i I_World2 hr (by decide) (pa_cons (pv 2) (pa_cons (pv 7) pa_nil))))
        (pss_cons (ps_if (pw_or (pt_cmpR (LX.k_neD (K := K) hr.units) (pv 7) (LX.pe_f O__law_handed hr (by decide) (pa_cons (pv 3) (pa_cons (pv 4) (pa_cons (pv 5) pa_nil)))) (nomark _)) (pw_or1 (pt_not (pt_val (LX.pe_f O__law_is_world hr (by decide) (pa_cons (pv 8) (pa_cons (pv 2) (pa_cons (pv 6) pa_nil)))))))).pt (pss_one (ps_ret pe_bl)) pss_nil)
        (pss_cons (ps_expr (LX.pe_f O__law_spoil hr (by decide) (pa_cons (pv 7) pa_nil)))
        (pss_cons (ps_if (pt_not (pt_val (LX.pe_f O__law_is_world hr (by decide) (pa_cons (pv 8) (pa_cons (pv 2) (pa_cons (pv 6) pa_nil)))))) (pss_one (ps_ret pe_bl)) pss_nil)
        (pss_cons (ps_set (i := 9) sc_law.nd rfl (.inr rfl) (LX.pe_f O__law_big hr (by decide) (pa_cons (pe_ix (LX.k_ixl (K := K)) (pv 1) pe_int (fun _ _ => rfl)) (pa_cons (pe_ix (LX.k_ixl (K := K)) (pv 1) pe_int (fun _ _ => rfl)) pa_nil))))
        (pss_cons (ps_setLc (i := 10) (own := [("j", 16)]) (g := gName 16) (tt := tYes) rfl sc_law.nd rfl rfl (sw_true rfl rfl rfl (by decide +kernel)) (pi_range1 (by rfl) n_range (pa_cons (pe_callB (LX.k_len (K := K)) (by rfl) n_len (by decide +kernel) (pa_cons (pv 3) pa_nil)) pa_nil)) (blkOk_by (N := law_N) (sc := defScope s_law) (by decide +kernel)) (fun _ _ _ _ _ => pg_name (i := 16) sc_law.nd rfl (Or.inl rfl)) (fun _ _ _ _ _ => pts_nil) (fun _ _ _ _ _ => (pe_ix (LX.k_ixl (K := K)) (pv 3) (pe_op op_sub (pe_op op_sub (pe_callB (LX.k_len (K := K)) (by rfl) n_len (by decide +kernel) (pa_cons (pv 3) pa_nil)) pe_int) (pv 16)) (fun _ _ => rfl))))
        (pss_cons (ps_setLc (i := 11) (own := [("j", 16)]) (g := gName 16) (tt := tYes) rfl sc_law.nd rfl rfl (sw_true rfl rfl rfl (by decide +kernel)) (pi_range1 (by rfl) n_range (pa_cons (pe_callB (LX.k_len (K := K)) (by rfl) n_len (by decide +kernel) (pa_cons (pv 3) pa_nil)) pa_nil)) (blkOk_by (N := law_N) (sc := defScope s_law) (by decide +kernel)) (fun _ _ _ _ _ => pg_name (i := 16) sc_law.nd rfl (Or.inl rfl)) (fun _ _ _ _ _ => pts_nil) (fun _ _ _ _ _ => (LX.pe_f O__law_given hr (by decide) (pa_cons (LX.pe_f O__law_cell hr (by decide) (pa_cons (pv 0) (pa_cons (pe_op op_add pe_int (pv 16)) pa_nil))) (pa_cons (pv 9) pa_nil)))))
        (pss_cons (ps_set (i := 12) sc_law.nd rfl (.inl rfl) (pe_iK I_WorldK hr (by decide) (pa_cons (pv 9) pa_nil) (pk_cons (LX.pe_f O__law_handed hr (by decide) (pa_cons (pv 10) (pa_cons (pv 11) (pa_cons (pe_lc (own := [("flag", 18)]) (g := gName 18) (tt := tYes) rfl sc_law.nd (RX.k_pil (K := K) (pv 5)) (blkOk_by (N := law_N) (sc := defScope s_law) (by decide +kernel)) (fun _ _ _ _ _ => pg_name (i := 18) sc_law.nd rfl (Or.inl rfl)) (fun _ _ _ _ _ => pts_nil) (fun _ _ _ _ _ => (pe_op op_sub pe_int (pv 18)))) pa_nil)))) pk_nil)))
        (pss_cons (ps_if (pw_or (pt_not (pt_val (LX.pe_f O__law_is_world hr (by decide) (pa_cons (pv 12) (pa_cons (pv 9) (pa_cons (LX.pe_f O__law_model hr (by decide) (pa_cons (pv 10) (pa_cons (pv 11) pa_nil))) pa_nil)))))) (pw_or1 (pt_not (pt_val (LX.pe_f O__law_is_world hr (by decide) (pa_cons (pv 8) (pa_cons (pv 2) (pa_cons (pv 6) pa_nil)))))))).pt (pss_one (ps_ret pe_bl)) pss_nil)
        (pss_cons (ps_if (pt_not (pt_val (LX.pe_f O__law_shared hr (by decide) (pa_cons (pv 3) (pa_cons (pv 4) (pa_cons (pv 2) pa_nil)))))) (pss_one (ps_ret pe_bl)) pss_nil)
        (pss_cons (ps_set (i := 13) sc_law.nd rfl (.inl rfl) (pe_i I_World1 hr (by decide) (pa_cons (pv 2) pa_nil)))
        (pss_cons (ps_for PassesOwn.never rfl (RX.k_pil (K := K) (LX.pe_f O__law_absent hr (by decide) (pa_cons (pv 3) (pa_cons (pe_ix (LX.k_ixl (K := K)) (pv 1) pe_int (fun _ _ => rfl)) pa_nil)))) (pg_name (i := 14) sc_law.nd rfl (.inl rfl)) (pss_one (ps_for PassesOwn.never rfl (pi_range1 (by rfl) n_range (pa_cons pe_int pa_nil)) (pg_name (i := 15) sc_law.nd rfl (.inl rfl)) (pss_one (ps_if (pw_or (pt_not (pt_val (LX.pe_f O__law_refuses hr (by decide) (pa_cons (pv 8) (pa_cons (pv 14) (pa_cons (pv 15) pa_nil)))))) (pw_or1 (pt_not (pt_val (LX.pe_f O__law_refuses hr (by decide) (pa_cons (pv 13) (pa_cons (pv 14) (pa_cons (pv 15) pa_nil)))))))).pt (pss_one (ps_ret pe_bl)) pss_nil)))))
        (pss_cons (ps_for PassesOwn.never rfl (RX.k_pil (K := K) (pv 3)) (pg_name (i := 14) sc_law.nd rfl (.inl rfl)) (pss_one (ps_if (pt_not (pt_val (LX.pe_f O__law_refuses hr (by decide) (pa_cons (pv 13) (pa_cons (pv 14) (pa_cons (pe_op op_mod (pe_callTy call_int1 (by rfl) n_int (by decide +kernel) (pa_cons (pe_ix (LX.k_ixl (K := K)) (pv 1) pe_int (fun _ _ => rfl)) pa_nil)) pe_int) pa_nil)))))) (pss_one (ps_ret pe_bl)) pss_nil)))
        (pss_one (ps_ret (pe_and (LX.pe_f O__law_is_world hr (by decide) (pa_cons (pv 13) (pa_cons (pv 2) (pa_cons pe_dnewK pa_nil)))) (pe_one (LX.pe_f O__law_is_world hr (by decide) (pa_cons (pv 8) (pa_cons (pv 2) (pa_cons (pv 6) pa_nil)))))))))))))))))))))))))))), ?_⟩
  have cell : ∀ {σ : L2.St} {B' : Hp} {te : TE} {k : Int}, Ex H B' → σ[0]? = some (some (V.ref a)) → Ev te σ B' (.int k) → 0 ≤ k → k < 1000 → Ev (tCall (spV (dCell K)) [] E0 (tCons (tVar 0) (tCons te tNil))) σ B' (.int (cellOf sc k)) := fun e h hk h0 h1 => ev_cell (ev_var h) (ex_l e hS) hk h0 (by omega) (by omega)
  -- shape
  refine x_asgL (X := H) (B := H) (xs := (digitsOf (cellOf sc 0) SZ6).map V.int) (el_digits (cell (Ex.refl _) rfl ev_c (by decide) (by decide)) (el_lst (ea_cons ev_c (ea_cons ev_c (ea_cons ev_c (ea_cons ev_c (ea_cons ev_c (ea_cons ev_c ea_nil)))))) (show (6 : Nat) ≤ 100000 by decide)) SZ6_ok (by decide)) (fun p1 h1B h1H => ?_) H (Ex.refl H) (Ex.refl H)
  have hb1 : ∀ i s, SZ6[i]? = some s → 0 ≤ (digitsOf (cellOf sc 0) SZ6).getD i 0 ∧ (digitsOf (cellOf sc 0) SZ6).getD i 0 < s := fun i s h => dg_bd (fun s hs => (SZ6_ok s hs).1) h
  have hl1 : (digitsOf (cellOf sc 0) SZ6).length = 6 := digits_len _ SZ6
  have d0 := hb1 0 8 rfl
  have d1 := hb1 1 399 rfl
  have d2 := hb1 2 13 rfl
  have d3 := hb1 3 1000 rfl
  have d4 := hb1 4 8 rfl
  have d5 := hb1 5 399 rfl
  clear hb1
  generalize digitsOf (cellOf sc 0) SZ6 = ds at d0 d1 d2 d3 d4 d5 hl1
  have g1 : Gr H H (upd H p1 (.lst (ds.map V.int))) := gr_new h1B h1H
  have hp1 : (upd H p1 (.lst (ds.map V.int))) p1 = some (.lst (ds.map V.int)) := upd_same
  generalize upd H p1 (.lst (ds.map V.int)) = B1 at g1 hp1
  -- big
  refine x_asg (er_callB (Dd := dBig) (Pz := IsBig) (ea_cons (ev_dg (k := 0) (ev_var rfl) (sq_of hp1) ev_c (by omega)) (ea_cons (ev_dg (k := 1) (ev_var rfl) (sq_of hp1) ev_c (by omega)) ea_nil)) ⟨_, _, rfl, d0.1, d0.2, d1.1, d1.2, rfl⟩) fun z B2 g2 ⟨big, hz, hb2, hb4⟩ => ?_
  subst hz
  have gB2 := g1.trans g2
  -- names
  refine x_asg (er_callB (Dd := dNames K) (Pz := IsNames ((ds.getD 2 0 + 6) % 13).toNat) (ea_cons (ev_var rfl) (ea_cons ev_c (ea_cons (ev_op (ev_int (ev_op (ev_dg (k := 2) (ev_var rfl) (sq_of (g2.ex _ _ hp1)) ev_c (by omega)) ev_c rv_I0)) ev_c (rv_mod (by decide))) ea_nil))) ⟨a, sc, 1, _, rfl, ex_l gB2.ex hS, by omega, by decide, by decide, by omega, by omega, rfl⟩) fun z B3 g3 ⟨pn, ns, hz, hpn, hnl, hnd, hnm⟩ => ?_
  subst hz
  have gB3 := gB2.trans g3
  have h12 : ns.length ≤ 12 := by omega
  have hNam : ∀ s ∈ ns, NM.Nam s := fun s hs => (hnm s hs).1
  have hnok : ∀ s ∈ ns, nameOkS s = true := fun s hs => nam_ok (hnm s hs).1 (hnm s hs).2
  have hp13 := g3.ex _ _ (g2.ex _ _ hp1)
  clear hnl
  -- tables
  refine x_asg (P := IsGivens K big ns.length) (EvR.imp (er_lc0 (Pe := fun _ => GivenAt K big) (xs := rngV 0 ns.length) (fun _ => inferInstance) (ei_rng1 (n := (ns.length : Int)) (ea_cons (ev_is (ev_len (ev_var rfl) (sq_of hpn)) (by rw [List.length_map])) ea_nil) (by omega)) (by rw [rngV_len]; omega) (fun _ => rfl) (fun k x B' e1 hx => ?_)) fun z B' _ ⟨p, ts, h1, h2, h3, h4⟩ => ?_) fun z B4 g4 hz => ?_
  · obtain ⟨rfl, hk⟩ := rng_get hx
    exact er_callB (Dd := dGiven K) (Pz := GivenAt K big) (ea_cons (cell (gB3.ex.trans e1) rfl (ev_op ev_c (ev_var rfl) rv_I0) (by omega) (by omega)) (ea_cons (ev_var rfl) ea_nil)) ⟨_, big, rfl, hb2, hb4, rfl⟩
  · obtain ⟨gs, q1, q2⟩ := given_all2 (K := K) (big := big) (B := B') (ys := ts) (fun y hy => by
      obtain ⟨k, hk, rfl⟩ := List.mem_iff_getElem.mp hy
      exact h4 k _ (List.getElem?_eq_getElem hk))
    exact ⟨p, ts, gs, h1, h2, q1, by rw [← q1.1, h3, rngV_len], q2⟩
  obtain ⟨pt, ts, gs, rfl, hpt, hG, hgl, hok⟩ := hz
  have gB4 := gB3.trans g4
  -- flags
  refine x_asgL (xs := (digitsOf (cellOf sc 38) (List.replicate 32 2)).map V.int) (el_digits (cell gB4.ex rfl ev_c (by decide) (by decide)) (el_eq (el_lcR1 (n := 32) (fun _ => true) (fun _ => .int 2) (ea_cons ev_c ea_nil) (by decide) (fun _ => rfl) (fun _ _ _ _ => et_yes) (fun i H1 e hi _ => ev_c)) (by rw [given_all]; rfl)) (fun s hs => by rw [(List.mem_replicate.mp hs).2]; decide) (by rw [List.length_replicate]; decide)) fun pf hfB hfH => ?_
  have hfl : (digitsOf (cellOf sc 38) (List.replicate 32 2)).length = 32 := by rw [digits_len, List.length_replicate]
  generalize digitsOf (cellOf sc 38) (List.replicate 32 2) = fl at hfl
  have g5 : Gr H B4 (upd B4 pf (.lst (fl.map V.int))) := gr_new hfB hfH
  have hpf : (upd B4 pf (.lst (fl.map V.int))) pf = some (.lst (fl.map V.int)) := upd_same
  generalize upd B4 pf (.lst (fl.map V.int)) = B5 at g5 hpf
  have gB5 := gB4.trans g5
  have hpn5 := g5.ex _ _ (g4.ex _ _ hpn)
  have hpt5 := g5.ex _ _ hpt
  have hG5 : A2 (GivenR K) gs ts B5 := A2.mono (fun _ => inferInstance) g5.ex hG
  have hp15 := g5.ex _ _ (g4.ex _ _ hp13)
  clear hpn hpt hG hp1 hp13
  -- model
  refine x_asg (er_callB (Dd := dModel K) (Pz := fun z B' => ∃ p kvs, z = .ref p ∧ B' p = some (.dK kvs) ∧ MTab K (relsG big ns gs) kvs B') (ea_cons (ev_var rfl) (ea_cons (ev_var rfl) ea_nil)) ⟨big, pn, pt, ns, gs, ts, rfl, hpn5, hnd, h12, hpt5, hG5, hgl, hok, rfl⟩) fun z B6 g6 ⟨pm, kvs, hz, hpm, hmt⟩ => ?_
  subst hz
  have gB6 := gB5.trans g6
  have hand : ∀ {σ : L2.St} {B' : Hp}, Ex B5 B' → σ[3]? = some (some (V.ref pn)) → σ[4]? = some (some (.ref pt)) → σ[5]? = some (some (.ref pf)) → EvR (tCall (spR (dHanded K)) [] E0 (tCons (tVar 3) (tCons (tVar 4) (tCons (tVar 5) tNil)))) σ B' (fun z B'' => ∃ hd, z = .ref hd ∧ Dp K B'' z (handedDt fl ns gs) ∧ Nest K B' 100 hd B'') := fun {σ B'} e5 h3 h4 h5 =>
    er_callB (Dd := dHanded K) (ea_cons (ev_var h3) (ea_cons (ev_var h4) (ea_cons (ev_var h5) ea_nil))) ⟨big, pn, pt, pf, ns, gs, ts, fl, rfl, e5 _ _ hpn5, h12, e5 _ _ hpt5, A2.mono (fun _ => inferInstance) e5 hG5, hgl, hok, sq_of (e5 _ _ hpf), hfl, rfl⟩
  -- handed
  refine x_asg (hand g6.ex rfl rfl rfl) fun z B7 g7 ⟨hd, hz, hdp, hnest⟩ => ?_
  subst hz
  obtain ⟨hro, hre⟩ := handed_ok (big := big) (fl := fl) hgl hnok hnd h12 hok
  have hfit := relsG_fit (big := big) hgl hnd h12 hok
  -- world
  refine x_asg (er_make (C := wC K) (P := P) (w := w) (d := handedDt fl ns gs) (EvAR.imp (rA (ea_cons (ev_var rfl) (ea_cons (ev_var rfl) ea_nil))) fun vs B' e3 h => ⟨.ref hd, by rw [h]; rfl, dp_ex e3 hdp⟩) formD_seq hro hb2 hb4) fun z B8 g8 ⟨x1, hz, hW⟩ => ?_
  subst hz
  rw [hre] at hW
  have g68 := g7.trans g8
  have model : ∀ {σ : L2.St} {B' : Hp} {te : TE}, Ex B6 B' → Ev te σ B' (.ref pm) → EvR te σ B' (fun z B'' => ∃ p kvs, z = .ref p ∧ B'' p = some (.dK kvs) ∧ MTab K (relsG big ns gs) kvs B'') := fun {σ B' te} e6 h => rVp h ⟨pm, kvs, rfl, e6 _ _ hpm, hmt.mono e6⟩
  have hsh := (handed_pl (fl := fl) (gs := gs) hNam hgl).shaped (by decide)
  refine x_when (b := false) (et_is (et_or (a := false) (b := false) (et_test (ev_opR (ev_var rfl) (hand (g6.ex.trans g68.ex) rfl rfl rfl) fun z B' e9 ⟨hd', h1, h2, _⟩ => ?_)) fun _ => et_not (a := true) (et_B (ev_lworld (ev_var rfl) (ev_var rfl) (model g68.ex (ev_var rfl)) hW hfit))) rfl) (fun h => nomatch h) (fun _ => ?_)
  · intro H1 e1 Q' k
    subst h1
    refine ⟨handedDt fl ns gs, handedDt fl ns gs, dp_ex ((g8.ex.trans e9).trans e1) hdp, dp_ex e1 h2, hsh, hsh, ?_⟩
    rw [SeqAt.eqv_refl _ (SeqAt.canLay_of_shaped hsh)]
    exact k H1 (Ex.refl _)
  -- spoil
  refine x_spoil g68 (hnest.mo g8.ex) (ev_var rfl) ?_
  have e69 : Ex B6 (noL B6 B8) := noL_ex g68.ex
  have hW9 := hW.nl (noL_nl (B0 := B6))
  generalize noL B6 B8 = B9 at e69 hW9
  clear hnest hdp hW g7 g8 g68
  refine x_when (b := false) (et_not (a := true) (et_B (ev_lworld (ev_var rfl) (ev_var rfl) (model e69 (ev_var rfl)) hW9 hfit))) (fun h => nomatch h) (fun _ => ?_)
  have e59 := g6.ex.trans e69
  have hp19 := e59 _ _ hp15
  have hpn9 := e59 _ _ hpn5
  -- wide
  refine x_asg (er_callB (Dd := dBig) (Pz := IsBig) (ea_cons (ev_dg (k := 4) (ev_var rfl) (sq_of hp19) ev_c (by omega)) (ea_cons (ev_dg (k := 5) (ev_var rfl) (sq_of hp19) ev_c (by omega)) ea_nil)) ⟨_, _, rfl, d4.1, d4.2, d5.1, d5.2, rfl⟩) fun z BA gA ⟨wide, hz, hw2, hw4⟩ => ?_
  subst hz
  have hpnA := gA.ex _ _ hpn9
  -- turned
  refine x_asg (P := IsLA (A2 (fun s : Str => IsV (.str s)) ns.reverse)) (er_lc1 (Pd := fun s : Str => IsV (.str s)) (xs := rngV 0 ns.length) (ds := ns.reverse) (fun _ => inferInstance) (ei_rng1 (n := (ns.length : Int)) (ea_cons (ev_is (ev_len (ev_var rfl) (sq_of hpnA)) (by rw [List.length_map])) ea_nil) (by omega)) (by rw [rngV_len]; omega) (by rw [rngV_len, List.length_reverse]) (fun _ => rfl) (fun k x B' s e1 hx hs => ?_)) fun z BB gB hz => ?_
  · obtain ⟨rfl, hk⟩ := rng_get hx
    have hs' : ns[ns.length - 1 - k]? = some s := by
      rw [List.getElem?_reverse hk] at hs
      exact hs
    have ei : ((ns.length : Int) - 1 - (k : Int)) = ((ns.length - 1 - k : Nat) : Int) := by omega
    exact eR_v (ev_op (ev_var rfl) (ev_is (ev_op (ev_op (ev_is (ev_len (ev_var rfl) (sq_of (e1 _ _ hpnA))) (by rw [List.length_map])) ev_c rv_I0) (ev_var rfl) rv_I0) (congrArg V.int ei)) (rv_ixL (sq_of (e1 _ _ hpnA)) (atI_get (by rw [List.getElem?_map, hs']; rfl))))
  obtain ⟨pu, us, rfl, hpu, hus⟩ := hz
  have hus := hus.vals
  subst hus
  have gAB := gA.trans gB
  have hpnB := gB.ex _ _ hpnA
  have hHB : Ex H BB := gB6.ex.trans (e69.trans gAB.ex)
  -- others
  refine x_asg (P := IsGivens K wide ns.length) (EvR.imp (er_lc0 (Pe := fun _ => GivenAt K wide) (xs := rngV 0 ns.length) (fun _ => inferInstance) (ei_rng1 (n := (ns.length : Int)) (ea_cons (ev_is (ev_len (ev_var rfl) (sq_of hpnB)) (by rw [List.length_map])) ea_nil) (by omega)) (by rw [rngV_len]; omega) (fun _ => rfl) (fun k x B' e1 hx => ?_)) fun z B' _ ⟨p, ts, h1, h2, h3, h4⟩ => ?_) fun z BC gC hz => ?_
  · obtain ⟨rfl, hk⟩ := rng_get hx
    exact er_callB (Dd := dGiven K) (Pz := GivenAt K wide) (ea_cons (cell (hHB.trans e1) rfl (ev_op ev_c (ev_var rfl) rv_I0) (by omega) (by omega)) (ea_cons (ev_var rfl) ea_nil)) ⟨_, wide, rfl, hw2, hw4, rfl⟩
  · obtain ⟨gs', q1, q2⟩ := given_all2 (K := K) (big := wide) (B := B') (ys := ts) (fun y hy => by
      obtain ⟨k, hk, rfl⟩ := List.mem_iff_getElem.mp hy
      exact h4 k _ (List.getElem?_eq_getElem hk))
    exact ⟨p, ts, gs', h1, h2, q1, by rw [← q1.1, h3, rngV_len], q2⟩
  obtain ⟨po, to, os, rfl, hpo, hGo, hol, hoo⟩ := hz
  have hpuC := gC.ex _ _ hpu
  have hnr : ns.reverse.length = ns.length := List.length_reverse
  have hol : os.length = ns.reverse.length := by rw [hnr]; exact hol
  have hndr : ns.reverse.Nodup := (List.reverse_perm ns).nodup_iff.mpr hnd
  have hnor : ∀ s ∈ ns.reverse, nameOkS s = true := fun s hs => hnok s (List.mem_reverse.mp hs)
  have h12r : ns.reverse.length ≤ 12 := by omega
  obtain ⟨hro2, hre2⟩ := handed_ok (big := wide) (fl := fl.map (1 - ·)) hol hnor hndr h12r hoo
  have hfit2 := relsG_fit (big := wide) hol hndr h12r hoo
  have e6C : Ex B6 BC := e69.trans (gAB.ex.trans gC.ex)
  have hpfC := e6C _ _ (g6.ex _ _ hpf)
  -- second
  refine x_asg (er_makeK (C := wC K) (P := P) (w := w) (d := handedDt (fl.map (1 - ·)) ns.reverse os) (ev_var rfl) (EvAR.imp (ear (P := fun z B' => Dp K B' z (handedDt (fl.map (1 - ·)) ns.reverse os)) ⟨fun e h => dp_ex e h⟩ (er_callP (Dd := dHanded K) (Pa := fun vs B' => ∃ c, vs = [.ref pu, .ref po, .ref c] ∧ B' c = some (.lst ((fl.map (1 - ·)).map V.int))) (EvAR.imp (ear inferInstance (eR_v (v := .ref pu) (ev_var rfl)) (ear inferInstance (eR_v (v := .ref po) (ev_var rfl)) (ear inferInstance (?hc : EvR _ _ _ (IsLA (A2 (fun i : Int => IsV (.int i)) (fl.map (1 - ·))))) ear_nil))) fun vs B' _ ⟨z1, r1, h1, h2, z2, r2, h3, h4, z3, r3, h5, ⟨c, us, h6, h7, h8⟩, h9⟩ => ?_) fun vs B' e1 ⟨c, h1, h2⟩ => ?_) ear_nil) fun vs B' _ ⟨z1, r1, h1, h2, h3⟩ => by subst h3 h1; exact ⟨z1, rfl, h2⟩) formD_seq hro2 hw2 hw4) fun z BD gD ⟨x2, hz, hW2⟩ => ?_
  case hc =>
    exact er_lc1 (Pd := fun i : Int => IsV (.int i)) (xs := fl.map V.int) (ds := fl.map (1 - ·)) (fun _ => inferInstance) (ei_list (ev_var rfl) (sq_of hpfC)) (by rw [List.length_map]; omega) (by rw [List.length_map, List.length_map]) (fun _ => rfl) fun i y B' d e1 hy hd => by
      rw [List.getElem?_map] at hy hd
      cases hc : fl[i]? with
      | none => rw [hc] at hy; exact nomatch hy
      | some c =>
        rw [hc] at hy hd
        have hy : V.int c = y := Option.some.inj hy
        have hd : 1 - c = d := Option.some.inj hd
        subst hy hd
        exact eR_v (ev_op ev_c (ev_var rfl) rv_I0)
  · have h2 : z1 = .ref pu := h2
    have h4 : z2 = .ref po := h4
    subst h9 h6 h5 h4 h3 h2 h1
    have h8 := h8.vals
    subst h8
    exact ⟨c, rfl, h7⟩
  · subst h1
    exact ⟨_, ⟨wide, pu, po, c, ns.reverse, os, to, fl.map (1 - ·), rfl, e1 _ _ hpuC, h12r, e1 _ _ hpo, A2.mono (fun _ => inferInstance) e1 hGo, hol, hoo, sq_of h2, by rw [List.length_map]; exact hfl, rfl⟩, fun z B'' _ ⟨hd', h3, h4, _⟩ => h4⟩
  subst hz
  rw [hre2] at hW2
  have e6D := e6C.trans gD.ex
  have hWD : WorldAt K P w (wC K) big (relsG big ns gs) x1 BD := hW9.mono ((gAB.ex.trans gC.ex).trans gD.ex)
  refine x_when (b := false) (et_is (et_or (a := false) (b := false) (et_not (a := true) (et_B (ev_lworld (ev_var rfl) (ev_var rfl) (er_callB (Dd := dModel K) (ea_cons (ev_var rfl) (ea_cons (ev_var rfl) ea_nil)) ⟨wide, pu, po, ns.reverse, os, to, rfl, gD.ex _ _ hpuC, hndr, h12r, gD.ex _ _ hpo, A2.mono (fun _ => inferInstance) gD.ex hGo, hol, hoo, rfl⟩) hW2 hfit2))) fun _ => et_not (a := true) (et_B (ev_lworld (ev_var rfl) (ev_var rfl) (model e6D (ev_var rfl)) hWD hfit))) rfl) (fun h => nomatch h) (fun _ => ?_)
  have hpnD := e6D _ _ (g6.ex _ _ hpn5)
  have hptD := e6D _ _ (g6.ex _ _ hpt5)
  have hGD : A2 (GivenR K) gs ts BD := A2.mono (fun _ => inferInstance) (g6.ex.trans e6D) hG5
  -- shared
  refine x_when (b := false) (et_not (a := true) (et_B (er_callB (Dd := dShared K) (Pz := IsV (.bl true)) (ea_cons (ev_var rfl) (ea_cons (ev_var rfl) (ea_cons (ev_var rfl) ea_nil))) ⟨pn, pt, big, ns, gs, ts, rfl, hpnD, hnd, h12, hnok, hptD, hGD, hgl, hok, hb2, hb4, rfl⟩).val)) (fun h => nomatch h) (fun _ => ?_)
  -- empty
  refine x_asg (er_make (C := wC K) (P := P) (w := w) (d := .tuple []) (ds := []) (EvAR.imp (rA (xs := [.int big]) (ea_cons (ev_var rfl) ea_nil)) fun vs B' e3 h => ⟨.ref (dfl0 K), by rw [h]; rfl, .tup (w_dfl T B') .nil⟩) rfl ⟨Nat.zero_le _, (fun x h => nomatch h), (fun x h => nomatch h), (fun x h => nomatch h), List.nodup_nil⟩ hb2 hb4) fun z BE gE ⟨x0, hz, hW0⟩ => ?_
  subst hz
  have e6E := e6D.trans gE.ex
  have hWE := hWD.mono gE.ex
  have hpnE := gE.ex _ _ hpnD
  have hp1E : BE p1 = some (.lst (ds.map V.int)) := e6E _ _ (g6.ex _ _ hp15)
  have hnW : ∀ {s : Str}, s ∉ ns → s ∉ (relsG big ns gs).map Rel.name := fun {s} h => by rw [relsG_names hgl]; exact h
  have hn0 : ∀ {s : Str}, s ∉ (([] : List PyData).map (relOf big)).map Rel.name := fun {s} h => nomatch h
  -- absent
  refine x_for (F := BE) (Ex.refl _) (ei_listR (Pxs := fun ys _ => ∃ L : List Str, ys = L.map V.str ∧ ∀ s ∈ L, s ∉ ns) (EvR.imp (er_callB (Dd := dAbsent K) (Pz := IsAbsent ns) (ea_cons (ev_var rfl) (ea_cons (ev_dg (k := 3) (ev_var rfl) (sq_of hp1E) ev_c (by omega)) ea_nil)) ⟨pn, _, ns, rfl, hpnE, h12, hNam, d3.1, rfl⟩) fun z B' _ ⟨p, L, h1, h2, h3, h4⟩ => ⟨p, _, h1, sq_of h2, L, rfl, fun s hs => (h4 s hs).1⟩)) (fun F' ys i σ' B' => Ex F' B' ∧ ∃ y14 y15 : Option V, σ' = [some (V.ref a), some (.ref p1), some (.int big), some (.ref pn), some (.ref pt), some (.ref pf), some (.ref pm), some (.ref hd), some (.ref x1), some (.int wide), some (.ref pu), some (.ref po), some (.ref x2), some (.ref x0), y14, y15, none, none, none]) (fun F' ys g hy av => ⟨mrg_l, none, none, rfl⟩) (fun F' ys i σ' B' h => h.1) (fun F' ys i xx σ' B' g hy hxi h => ?_) (fun F' ys σ' B' g hy h => ?_)
  · obtain ⟨eF, y14, y15, rfl⟩ := h
    obtain ⟨L, rfl, hL⟩ := hy
    obtain ⟨s, hs, rfl⟩ : ∃ s, L[i]? = some s ∧ xx = .str s := by
      rw [List.getElem?_map] at hxi
      cases hc : L[i]? with
      | none => rw [hc] at hxi; exact nomatch hxi
      | some c => rw [hc] at hxi; exact ⟨c, rfl, (Option.some.inj hxi).symm⟩
    have hsn := hL s (List.mem_of_getElem? hs)
    refine x_last (x_for (F := B') (Ex.refl _) (ei_rng1 (n := 2) (ea_cons ev_c ea_nil) (by decide)) (fun F2 ys2 j σ2 B2 => B2 = F2 ∧ ∃ y15 : Option V, σ2 = [some (V.ref a), some (.ref p1), some (.int big), some (.ref pn), some (.ref pt), some (.ref pf), some (.ref pm), some (.ref hd), some (.ref x1), some (.int wide), some (.ref pu), some (.ref po), some (.ref x2), some (.ref x0), some (.str s), y15, none, none, none]) (fun F2 ys2 g2 hy2 av2 => ⟨NM.mrg_self g2.ex, y15, rfl⟩) (fun F2 ys2 j σ2 B2 h => h.1 ▸ Ex.refl _) (fun F2 ys2 j x2' σ2 B2 g2 hy2 hx2 h => ?_) (fun F2 ys2 σ2 B2 g2 hy2 h => ?_))
    · obtain ⟨rfl, y, rfl⟩ := h
      rw [hy2] at hx2
      obtain ⟨rfl, hj⟩ := rng_get hx2
      have eE2 := (g.ex.trans eF).trans g2.ex
      exact x_last (x_when (b := false) (et_is (et_or (a := false) (b := false) (et_not (a := true) (et_B (ev_refuses (ev_var rfl) (ev_var rfl) (ev_var rfl) (hWE.mono eE2) (hnW hsn)))) fun _ => et_not (a := true) (et_B (ev_refuses (ev_var rfl) (ev_var rfl) (ev_var rfl) (hW0.mono eE2) hn0))) rfl) (fun h => nomatch h) (fun _ => x_nx rfl ⟨rfl, _, rfl⟩))
    · obtain ⟨rfl, y, rfl⟩ := h
      exact x_nx rfl ⟨eF.trans g2.ex, _, _, rfl⟩
  · obtain ⟨eF, y14, y15, rfl⟩ := h
    have eE1 := g.ex.trans eF
    refine x_for (F := B') (Ex.refl _) (ei_list (ev_var rfl) (sq_of (eE1 _ _ hpnE))) (fun F2 ys2 j σ2 B2 => B2 = F2 ∧ ∃ y14 : Option V, σ2 = [some (V.ref a), some (.ref p1), some (.int big), some (.ref pn), some (.ref pt), some (.ref pf), some (.ref pm), some (.ref hd), some (.ref x1), some (.int wide), some (.ref pu), some (.ref po), some (.ref x2), some (.ref x0), y14, y15, none, none, none]) (fun F2 ys2 g2 hy2 av2 => ⟨NM.mrg_self g2.ex, y14, rfl⟩) (fun F2 ys2 j σ2 B2 h => h.1 ▸ Ex.refl _) (fun F2 ys2 j x2' σ2 B2 g2 hy2 hx2 h => ?_) (fun F2 ys2 σ2 B2 g2 hy2 h => ?_)
    · obtain ⟨rfl, y, rfl⟩ := h
      subst hy2
      obtain ⟨s, hs, rfl⟩ : ∃ s, ns[j]? = some s ∧ x2' = .str s := by
        rw [List.getElem?_map] at hx2
        cases hc : ns[j]? with
        | none => rw [hc] at hx2; exact nomatch hx2
        | some c => rw [hc] at hx2; exact ⟨c, rfl, (Option.some.inj hx2).symm⟩
      have eE2 := eE1.trans g2.ex
      exact x_last (x_when (b := false) (et_not (a := true) (et_B (ev_refuses (ev_var rfl) (ev_var rfl) (ev_op (ev_int (ev_dg (k := 3) (ev_var rfl) (sq_of (eE2 _ _ hp1E)) ev_c (by omega))) ev_c (rv_mod (by decide))) (hW0.mono eE2) hn0))) (fun h => nomatch h) (fun _ => x_nx rfl ⟨rfl, _, rfl⟩))
    · obtain ⟨rfl, y, rfl⟩ := h
      have eE2 := eE1.trans g2.ex
      exact x_ret (eR_v (v := .bl true) (ev_is (ev_andV (a := true) (b := true) (ev_lworld (rels := []) (ev_var rfl) (ev_var rfl) (EvR.imp er_dnew fun z B'' _ ⟨p, h1, h2⟩ => ⟨p, [], h1, h2, rfl, fun i p r h => nomatch h⟩) (hW0.mono eE2) ⟨Nat.zero_le _, List.nodup_nil, fun _ => Nat.zero_le _, fun _ r h => nomatch h⟩) fun _ => ev_lworld (ev_var rfl) (ev_var rfl) (model (e6E.trans eE2) (ev_var rfl)) (hWE.mono eE2) hfit) rfl)) (fun z B' H' g p e1 e2 => by
        have p : z = .bl true := p
        subst p
        exact q H' e2)
end Kx
/-! ### the head -/
namespace Kx
open PySem PySem.Spec PyProof.Rows L2 Evl LX T XV RX
abbrev hk : PySem.W.Hook := KH.hook 5 fa fnD (exC intN tupN ex)
def ob (s : PySem.W.SharedT) : KH.Al := KH.obs 5 fa fnD (exC intN tupN ex) (HandSHeadRun.getT s)
theorem ob_eq (s : PySem.W.SharedT) : ob s = hk.obs s.abs := KH.obs_eq (HandSHeadRun.getT_eq s)
theorem run (w : World) : HandSHeadRun.RunEq R (PySem.W.view R.prog [lawAt]) hk ob 14000 loose w := by
  intro os
  kernel_rfl
theorem facts {P : Program} {w : World} {K : PySem.W.Frag} {h : Heap} {mg : Str → Option Value} {f : Addr} (X : K.In h) (G : h.Ns mainGlobals mg) (hfa : mg ("law" : Str) = some (.ref f)) (c : He.SaysD fa fnD K) (cx : exC intN tupN ex K = true) :
    ∃ fd : FuncData, (∀ (s : Shared) (v : Value), BindsTo s fd ⟨[v], []⟩ [("script", v)]) ∧ ∀ base : Heap, K.In base → base.Ns mainGlobals mg → FnOk P w K mg base CX0 10 f fd ["script"] (spV (dLaw K)) := by
  have T : TX K mg := RX.TxC.of (n := 0) X G c cx
  obtain ⟨fd, F⟩ := T.t.d (KH.dat ("law", none) "law" s_law) (List.mem_of_getElem? (i := lawIx) rfl)
  have e := hfa.symm.trans (T.g "law" (by decide +kernel))
  cases e
  have b := FunD.bindsA (ps := ["script"]) F fun _ _ _ _ _ _ us hl => match us, hl with | [_], _ => rfl
  exact ⟨fd, fun s v => b s [v] rfl, fun base _ _ => fn_law T (fun_of F)⟩
end Kx
open PySem PySem.W PySem.Calls PyProof.Rows
theorem PySem.Challenge.cw_onceread_k00_world_facts_holds : PySem.Challenge.rw_onceread_k00_world_facts.Holds := by
  w_on; o_law
  refine HandSHeadRun.head_any (r := OpenLaw.row PySem.Challenge.rw_onceread_k00_world_facts) (q := view (OpenLaw.row PySem.Challenge.rw_onceread_k00_world_facts).prog [T.lawAt]) (H := Kx.hk) (ob := Kx.ob) (M := 14000) (loose := T.loose) (d := HandSHeadRun.topDef (OpenLaw.row PySem.Challenge.rw_onceread_k00_world_facts).prog T.lawAt) (kwd := []) Kx.ob_eq
    (by kernel_rfl) (fun s => by kernel_rfl) Kx.run (by kernel_rfl) (by kernel_rfl) (by kernel_rfl) (by rfl) (by first | assumption | decide +kernel) (by decide +kernel) ⟨rfl, rfl, rfl, rfl, rfl, by decide +kernel⟩ ?hw ?hc
  case hw => w_witness2
  case hc =>
    refine L2.walk_ofE (l := PySem.Challenge.rw_onceread_k00_world_facts) (n := 63) (k := 10) (x := "script") (CX := L2.CX0) rfl (by decide) (by kernel_rfl) ⟨rfl, by decide, by decide⟩ ?F (fun _ _ _ _ z => z)
    intro w mg fa h Y G hmg0
    obtain ⟨K, KX, c, cx⟩ := Y
    have hmg : mg ("law" : PySem.Str) = some (.ref fa) := by
      have e : (HandSHeadRun.topDef (OpenLaw.row PySem.Challenge.rw_onceread_k00_world_facts).prog T.lawAt).name = ("law" : PySem.Str) := by kernel_rfl
      rw [← e]
      exact hmg0
    obtain ⟨fd, hb, hF⟩ := Kx.facts (P := (PySem.Challenge.rw_onceread_k00_world_facts).prog) (w := w) KX G hmg c cx
    exact ⟨K, fd, _, KX, hb, fun H a ns hl _ hS => ⟨.bl true, ⟨a, ns, rfl, hS, hl, rfl⟩, fun _ _ => rfl⟩, hF⟩
