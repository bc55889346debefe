import PyProof.Rows.All
import Wide.All
import OpenK.AllK
import Wide.FinOn
import HandS.ForMost
import HandS.Exc
import HandS.ExcOwn
import HandS.TryOnly
import HandS.WordsExc
import HandS.IsInst
import HandS.TupAny
import HandS.Wide
import HandS.TryMany
import KE.DataCmp
import KE.SortData
import HandS.Deep
import HandS.TupSets
import HandS.Zip
import HandS.HotCalls
import HandS.ExcIs
import KE.GoesEnumKw
import HandS.TupMul
import HandS.Defaults
import HandS.SetFor
import HandS.DictComp
import HandS.Strs
import HandS.SortInts
import PyProof.TupleOfSeq
import PySem.Challenge.RW_looksfar_k12_check_network
set_option Elab.async false
set_option linter.all false
set_option maxRecDepth 100000
set_option maxHeartbeats 400000
/-! ### defs that are called where no repr runs around (guards known to be none) -/
namespace LG
open PySem PySem.Spec PyProof.Rows L2
/-- a def's promise, kept wherever no repr is under way -/
structure FnG (P : Program) (w : World) (K : PySem.W.Frag) (mg : Str → Option Value) (base : Heap) (k : Nat) (f : Addr) (fd : FuncData) (ps : List Str) (sp : Sp) : Prop where
  many : ∀ vs H Q E, sp vs H Q E → vs.length = ps.length
  goes : ∀ (A : Around) (outer : List Env) (s : Shared) (H : Hp) (us : List Value) (vs : List V) (Q : VK) (E : XK), A.guards = some [] → Room k A → Env0 P w K mg base A outer s H →
    BindsTo s fd ⟨us, []⟩ (ps.zip us) → Vals vs us → sp vs H Q E → codeAny (model P w) A (.call (.ref f) ⟨us, []⟩) (CR CX0 outer P w H s Q E) s
section
variable {P : Program} {w : World} {K : PySem.W.Frag} {mg : Str → Option Value} {base : Heap}
theorem FnG.of {k : Nat} {f : Addr} {fd : FuncData} {ps : List Str} {sp : Sp} (F : FnOk P w K mg base CX0 k f fd ps sp) : FnG P w K mg base k f fd ps sp :=
  ⟨F.len, fun A outer s H us vs Q E _ hr e0 hb r h => F.run A outer s H ⟨us, []⟩ us vs Q E hr e0 hb r h⟩
theorem FnG.more {j k : Nat} {f : Addr} {fd : FuncData} {ps : List Str} {sp : Sp} (F : FnG P w K mg base j f fd ps sp) (h : j ≤ k) : FnG P w K mg base k f fd ps sp :=
  ⟨F.many, fun A outer s H us vs Q E hg hr => F.goes A outer s H us vs Q E hg (hr.mono h)⟩
theorem FnG.by {x qual : Str} {st : Stmt} {f : Addr} {fd : FuncData} {N ps : List Str} {k : Nat} {sp : Sp} (F : Fun K x qual st f fd) (S : FnScope N ps (defScope st)) (many : ∀ vs H Q E, sp vs H Q E → vs.length = ps.length)
    (body : ∀ (cdv : Value) (A : Around) (outer : List Env) (s : Shared) (H : Hp) (vs : List V) (Q : VK) (E : XK), (A.deeper (envOfC qual (defScope st) s.heap.objs.size f cdv)).guards = some [] →
      Room k (A.deeper (envOfC qual (defScope st) s.heap.objs.size f cdv)) → sp vs H Q E →
      ∃ t, PSs (cxOf CX0 P w K mg base N qual (defScope st) f cdv A outer s H E).nox (defBody st) t ∧ t { nx := fun _ H' => Q .non H', rt := Q } (start N vs) H) : FnG P w K mg base (k + 1) f fd ps sp := by
  obtain ⟨_, _, _, _, _, _, cdv, _, _, rfl, lk, code⟩ := F.ex
  refine ⟨many, fun A outer s H us vs Q E guard room e0 bind rel hsp => ?_⟩
  have inK : K.In s.heap := e0.mod.kin.keeps fun b o e => (e0.bs b o e).1
  have noLim : s.heap.NoLimit := e0.mod.nolimit.keeps fun b o e => (e0.bs b o e).1
  obtain ⟨t, run, start⟩ := body cdv A outer s H vs Q E guard (room.deeper _) hsp
  refine codeAny_call_function room.depth (inK _ _ lk) rfl S.co S.gen rfl (PySem.W.codeRec_of inK code) (bind _ _ _ _ ?_)
  refine wpAny_newFunctionEnv_cells S.kind (fun y hy => ?_) fun env he s1 made => ?_
  · rcases S.par y.1 (List.of_mem_zip (show (y.1, y.2) ∈ ps.zip us from hy)).1 with q | q
    · exact Or.inl q
    · exact Or.inr ⟨q, PySem.W.cellsFrom_some _ _ _ (Or.inl q)⟩
  subst he
  refine ⟨noLim.keeps made.toInCall.keep, codeAny_func ?_⟩
  have inv := inv_start (CX := CX0) (E := E) S room.hd e0 (many _ _ _ _ hsp) rel made
  refine wpAny_mono (run.nox.run [] s1 (L2.start N vs) H _ inv start) (fun flow s' got => ?_) fun _ _ bad => bad
  cases flow with
  | ret u =>
    obtain ⟨v, _, H', J, rv, q⟩ := got
    exact ⟨v, H', J.os, J.bare, J.base, J.hok, rv, q⟩
  | next =>
    obtain ⟨_, H', J, q⟩ := got
    exact ⟨V.non, H', J.os, J.bare, J.base, J.hok, rfl, q⟩
  | brk =>
    obtain ⟨_, _, _, no⟩ := got
    exact no.elim
  | cont =>
    obtain ⟨_, _, _, no⟩ := got
    exact no.elim
end
section
variable {X : Cx} {k : Nat} {f : Addr} {fd : FuncData} {ps : List Str} {sp : Sp} {x : Str} {p pos : Pos} {e : Expr} {es : List Expr} {t : TA}
/-- f(e, ..) of such a def -/
theorem pe_callG (F : FnG X.prog X.w X.K X.mg X.base k f fd ps sp) (guard : X.A.guards = some []) (room : Room k X.A) (hg : Gl X x) (hm : X.mg x = some (.ref f)) (hk : PySem.W.keepIn X.K (.ref f) = true) (hb : Binds X.K fd ps [])
    (ha : PA X (e :: es) t) (hdb : (x == ("__debug__" : Str)) = false := by decide) (he : starEach (e :: es) X.env = (false, eval e X.env) :: starEach es X.env := by rfl) (hpl : (backTo pos (starEach es X.env)).any (·.1) = false := by rfl) :
    PE X (.Call (.Name x p) (e :: es) [] pos) (tCall sp [] E0 t) := by
  constructor
  intro pins s σ H Q inv want
  refine wpAny_Call_Name_kw (ld_glob inv hg hm ?_ hdb)
  refine PySem.W.callWith_K (h₀ := X.base) inv.ok.mod.kin hk (thn (ha.run pos pins s σ H _ inv want) fun us s1 got => ?_) he hpl
  obtain ⟨vs, H1, inv1, rel, q⟩ := got
  rw [List.append_nil] at q
  have many : us.length = ps.length := by rw [← rel.length]; exact F.many _ _ _ _ q
  have bind := hb s1 us inv1.kIn (by rw [List.append_nil]; exact many)
  rw [List.append_nil] at bind
  refine ⟨inv1.kIn, wpAny_call (codeAny_mono (F.goes X.A X.stack s1 H1 us vs Q E0 guard room inv1.env0 bind rel q) fun r s' end_ => ?_)⟩
  cases r with
  | error _ => exact False.elim end_
  | ok flow =>
    cases flow with
    | ret _ => exact inv1.after end_
    | next => exact False.elim end_
    | brk => exact False.elim end_
    | cont => exact False.elim end_
end
/-! ### repr of data -/
section
variable {X : Cx}
/-- repr(v), v data of any depth: its text -/
def rRep (K : PySem.W.Frag) : List V → Hp → VK → Prop := fun xs H Q => ∃ (v : V) (d : PyData), xs = [v] ∧ Dp K H v d ∧ d.showable = true ∧ d.depth ≤ 60 ∧ d.shown.length ≤ sizeLine ∧ Q (.str d.shown) H
theorem Dp.noDict {K : PySem.W.Frag} {H : Hp} : ∀ (d : PyData) (v : V), Dp K H v d → d.hasDict = false
  | .none, _, _ => by simp only [PyData.hasDict]
  | .bool _, _, _ => by simp only [PyData.hasDict]
  | .int _, _, _ => by simp only [PyData.hasDict]
  | .str _, _, _ => by simp only [PyData.hasDict]
  | .dict _, _, h => by cases h
  | .list ds, _, h => by
    cases h with
    | lst _ ha =>
      simp only [PyData.hasDict]
      exact go ds _ ha
  | .tuple ds, _, h => by
    cases h with
    | tup _ ha =>
      simp only [PyData.hasDict]
      exact go ds _ ha
where go {K : PySem.W.Frag} {H : Hp} : ∀ (ds : List PyData) (vs : List V), DpAll K H vs ds → PyData.hasDictAll ds = false
  | [], _, _ => by simp only [PyData.hasDictAll]
  | d :: ds, _, h => by
    cases h with
    | cons h1 h2 => simp only [PyData.hasDictAll, Dp.noDict d _ h1, go ds _ h2, Bool.or_self]
theorem call_rep (guard : X.A.guards = some []) (room : X.A.units + 64 < cLine) : CallR X (.builtin "repr") (rRep X.K) := by
  intro pins s σ H xs us Q inv rel want
  obtain ⟨v, d, rfl, hd, hs, hn, hz, q⟩ := want
  cases rel with
  | cons r0 rr =>
  rename_i u us'
  cases rr
  obtain ⟨as, reads⟩ := Dp.reads inv d v u hd r0
  have dict := PyData.noDict_hsm (as := as) (Dp.noDict d v hd)
  cases hd with
  | non =>
    cases r0
    exact PySem.P.repr_of_none ⟨.str _, H, inv.tok _, ⟨_, rfl⟩, by simpa only [PyData.shown] using q⟩
  | bl b =>
    cases r0
    refine PySem.P.repr_of_bool ⟨.str _, H, inv.tok _, ⟨_, rfl⟩, by simpa only [PyData.shown] using q⟩
  | int i =>
    obtain ⟨t, rfl⟩ := r0
    exact PySem.P.repr_of_int (by simpa [PyData.showable] using hs) ⟨.str _, H, inv.tok _, ⟨_, rfl⟩, by simpa only [PyData.shown] using q⟩
  | str x =>
    obtain ⟨t, rfl⟩ := r0
    exact PySem.P.repr_of_str ⟨.str _, H, inv.tok _, ⟨_, rfl⟩, by simpa only [PyData.shown] using q⟩ (by simpa only [PyData.shown] using hz)
  | lst h1 h2 =>
    cases r0
    exact repr_of_reads' reads hs dict guard (by omega) (fun _ _ z => z) (fun h' u' tk keep => ⟨.str _, H, inv.kept keep, ⟨_, rfl⟩, q⟩) hz
  | tup h1 h2 =>
    cases r0
    exact repr_of_reads' reads hs dict guard (by omega) (fun _ _ z => z) (fun h' u' tk keep => ⟨.str _, H, inv.kept keep, ⟨_, rfl⟩, q⟩) hz
end
end LG
/-! ### the end: the law's promise, at the heap behind the top -/
namespace LG
open PySem PySem.W PySem.Spec PyProof.Rows L2
section
variable {P : Program} {w : World} {K : PySem.W.Frag} {mg mb : Str → Option Value} {k : Nat} {fa a : Addr} {fd : FuncData} {x : Str} {sp : Sp} {s : Shared} {vs : List Value} {ns : List Int}
/-- the call from an abstract heap that tracks at most the script -/
theorem end_from (inK : K.In s.heap) (mains : s.heap.Ns mainGlobals mg) (blts : s.heap.Ns builtinsNs mb) (boot : ∀ y : Str, y ≠ "__name__" → mb y = bootBuiltins y) (noLim : s.heap.NoLimit) (gens : s.gens = #[])
    (obj : s.heap.get? a = some { cls := .type "list", data := .seq vs.toArray }) (room : Room k callerA) (goesF : ∀ base : Heap, K.In base → base.Ns mainGlobals mg → FnG P w K mg base k fa fd [x] sp)
    (bind : ∀ (s : Shared) (u : Value), BindsTo s fd ⟨[u], []⟩ [(x, u)]) (H : Hp) (only : Only H) (held : HOk P w H s.heap) (alone : ∀ b, H b ≠ none → b = a) (away : H a ≠ none → K.lookup a = none)
    (want : sp [.ref a] H (fun v _ => v = .bl true) E0) :
    codeAny (model P w) callerA (.call (.ref fa) ⟨[.ref a], []⟩) (fun r s' => r = .ok (.ret (.bool true)) ∧ OldK s.heap s'.heap ∧ s'.os = s.os ∧ AllBare s'.gens) s := by
  have free : ∀ {b : Addr} {o : Obj}, s.heap.get? b = some o → (b = a → o ≠ { cls := .type "list", data := .seq vs.toArray }) → H b = none := fun {b o} e far => by
    cases q : H b with
    | none => rfl
    | some u =>
      have here : b = a := alone b (by rw [q]; exact nofun)
      refine absurd ?_ (far here)
      rw [here, obj] at e
      exact (Option.some.inj e).symm
  have space : ∀ {b : Addr} {m : Str → Option Value}, s.heap.Ns b m → (hidT s.heap H).Ns b m := fun {b m} ⟨o, es, ep, e, d, more⟩ =>
    ⟨o, es, ep, hidT_get e (free e fun _ same => by rw [same] at d; exact nomatch d), d, more⟩
  have baseK : K.In (hidT s.heap H) := fun b o e => hidT_get (inK b o e) (by
    cases q : H b with
    | none => rfl
    | some u =>
      have here : b = a := alone b (by rw [q]; exact nofun)
      have no := away (by rw [← here, q]; exact nofun)
      rw [here, no] at e
      exact nomatch e)
  have lim : (hidT s.heap H).NoLimit := by
    obtain ⟨mc, h1, h2⟩ := noLim
    exact ⟨mc, space h1, h2⟩
  have modu : Mod K mg (hidT s.heap H) := ⟨baseK, space mains, ⟨mb, space blts, boot⟩, lim⟩
  have e0 : Env0 P w K mg (hidT s.heap H) callerA [] s H := ⟨rfl, modu, fun _ _ e => of_hidT e, Nat.le_of_eq (hidT_size _ _), trivial, (fun _ hb => absurd (show _ ∈ ([] : List Addr) from hb) List.not_mem_nil), held, .of_eq gens⟩
  refine codeAny_mono ((goesF _ baseK (space mains)).goes callerA [] s H [.ref a] [.ref a] _ E0 rfl room e0 (bind s (.ref a)) (.cons rfl .nil) want) fun r s' got => ?_
  cases r with
  | error _ => exact False.elim got
  | ok flow =>
  cases flow with
  | next => exact False.elim got
  | brk => exact False.elim got
  | cont => exact False.elim got
  | ret u =>
    obtain ⟨v, H', sameOs, bare, un, held', rel, yes⟩ := got
    have yes' : v = .bl true := yes
    subst yes'
    obtain rfl : u = Value.bool true := rel
    refine ⟨rfl, OldK.of_keep fun b o e => ?_, sameOs, bare⟩
    rcases only b with free | ⟨ob, xs, fz⟩
    · exact un.keep b o e free (fun z => nomatch z) (fun z => nomatch z)
    · obtain ⟨e1, _⟩ := held b _ fz
      obtain ⟨e2, _⟩ := held' b _ (un.frzs b ob _ fz)
      rw [e2, ← e1, e]
/-- .. from the script as it lies -/
theorem end_call (inK : K.In s.heap) (mains : s.heap.Ns mainGlobals mg) (blts : s.heap.Ns builtinsNs mb) (boot : ∀ y : Str, y ≠ "__name__" → mb y = bootBuiltins y) (noLim : s.heap.NoLimit) (gens : s.gens = #[])
    (obj : s.heap.get? a = some { cls := .type "list", data := .seq vs.toArray }) (numbs : PyProof.Rows.IntsAre vs ns) (small : ns.length ≤ sizeLine) (room : Room k callerA)
    (goesF : ∀ base : Heap, K.In base → base.Ns mainGlobals mg → FnG P w K mg base k fa fd [x] sp) (bind : ∀ (s : Shared) (u : Value), BindsTo s fd ⟨[u], []⟩ [(x, u)])
    (want : ∀ H : Hp, Only H → SqL K H a (ns.map V.int) → sp [.ref a] H (fun v _ => v = .bl true) E0) :
    codeAny (model P w) callerA (.call (.ref fa) ⟨[.ref a], []⟩) (fun r s' => r = .ok (.ret (.bool true)) ∧ OldK s.heap s'.heap ∧ s'.os = s.os ∧ AllBare s'.gens) s := by
  have rel := vals_ints numbs
  cases hk : K.lookup a with
  | some o =>
    have e := inK a o hk
    rw [obj] at e
    obtain rfl := Option.some.inj e
    have only : Only fun _ => none := fun _ => Or.inl rfl
    have held : HOk P w (fun _ => none) s.heap := fun _ _ z => nomatch z
    refine end_from inK mains blts boot noLim gens obj room goesF bind (fun _ => none) only held (fun _ z => absurd rfl z) (fun z => absurd rfl z) (want _ only ?_)
    exact Or.inr ⟨_, vs.toArray, _, hk, rfl, rfl, rfl, by rw [List.size_toArray, numbs.length]; exact small, by simpa using rel⟩
  | none =>
    let one : Hp := upd (fun _ => none) a (.frz { cls := .type "list", data := .seq vs.toArray } (.lst (ns.map V.int)))
    have at_a : one a = some (.frz { cls := .type "list", data := .seq vs.toArray } (.lst (ns.map V.int))) := upd_same
    have off_a : ∀ b, b ≠ a → one b = none := fun b hb => upd_ne hb
    have only : Only one := fun b => by
      by_cases hb : b = a
      · subst hb
        exact Or.inr ⟨_, _, at_a⟩
      · exact Or.inl (off_a b hb)
    have held : HOk P w one s.heap := fun b u z => by
      by_cases hb : b = a
      · subst hb
        rw [at_a] at z
        obtain rfl := Option.some.inj z
        exact ⟨obj, by rw [List.length_map]; exact small, vs, _, rel, obj⟩
      · rw [off_a b hb] at z
        exact nomatch z
    exact end_from inK mains blts boot noLim gens obj room goesF bind one only held (fun b z => Classical.byContradiction fun hb => z (off_a b hb)) (fun _ => hk) (want _ only (.inl (.inr ⟨_, at_a⟩)))
end
/-- what is left of the statement behind the head -/
theorem walk_G {l : PySem.W.OpenLaw} {n k : Nat} {q : Program} {loose : List Str} {XP : (Str → Option Value) → Heap → Prop} {YP : World → Heap → Prop} {d : DefRec} {K : Params → PySem.W.Frag} {sp : PySem.W.Frag → Sp} {x : Str}
    (hn : l.most = some n) (small : n ≤ sizeLine) (plain : d.params.defaults = []) (room : Room k callerA) (hY : ∀ (w : World) (h : Heap), YP w h → (K w.params).In h)
    (F : ∀ (w : World) (mg : Str → Option Value) (fa : Addr) (h : Heap), (K w.params).In h → h.Ns mainGlobals mg → mg d.name = some (.ref fa) →
      ∃ fd : FuncData, (∀ (s : Shared) (u : Value), BindsTo s fd ⟨[u], []⟩ [(x, u)]) ∧ ∀ base : Heap, (K w.params).In base → base.Ns mainGlobals mg → FnG l.prog w (K w.params) mg base k fa fd [x] (sp (K w.params)))
    (want : ∀ (K : PySem.W.Frag) (H : Hp) (a : Addr) (ns : List Int), ns.length ≤ n → Only H → SqL K H a (ns.map V.int) → sp K [.ref a] H (fun v _ => v = .bl true) E0) :
    PySem.W.WalkO q loose XP YP l.row.toRowW d [] (fun f vs => PySem.call f vs) := by
  refine Att.attach_call hn plain fun w s0 s1 mg mb fa o pm cd doc a vs ns ground told ho hd hcd hmg obj numbs many gens => ?_
  have inK := hY w _ told
  obtain ⟨fd, bind, goesF⟩ := F w mg fa _ inK ground.T.g hmg
  exact end_call inK ground.T.g ground.T.b ground.T.builtins ground.T.nolimit gens obj numbs (Nat.le_trans many small) room goesF bind fun H only held => want (K w.params) H a ns many only held
end LG
/-! ### sizes of data, data of tuples, heaps -/
namespace LG
open PySem PySem.Spec PyProof.Rows L2
/-- data whose text is short: at most m parts, h deep -/
def Sized (m h : Nat) (d : PyData) : Prop := d.leavesShort 40 = true ∧ d.showable = true ∧ d.depth ≤ h ∧ d.bulk ≤ m
theorem Sized.more {m m' h h' : Nat} {d : PyData} (s : Sized m h d) (hm : m ≤ m') (hh : h ≤ h') : Sized m' h' d := ⟨s.1, s.2.1, Nat.le_trans s.2.2.1 hh, Nat.le_trans s.2.2.2 hm⟩
theorem sized_all {m h : Nat} : ∀ {ds : List PyData}, (∀ d ∈ ds, Sized m h d) → PyData.leavesShortAll 40 ds = true ∧ PyData.showableAll ds = true ∧ PyData.depthAll ds ≤ h ∧ PyData.bulkAll ds ≤ ds.length * (m + 1)
  | [], _ => ⟨by simp only [PyData.leavesShortAll], by simp only [PyData.showableAll], by simp only [PyData.depthAll]; omega, by simp only [PyData.bulkAll]; omega⟩
  | d :: ds, hd => by
    obtain ⟨a1, a2, a3, a4⟩ := hd d List.mem_cons_self
    obtain ⟨b1, b2, b3, b4⟩ := sized_all fun e he => hd e (List.mem_cons_of_mem _ he)
    refine ⟨by simp only [PyData.leavesShortAll, a1, b1, Bool.and_self], by simp only [PyData.showableAll, a2, b2, Bool.and_self], by simp only [PyData.depthAll]; omega, ?_⟩
    simp only [PyData.bulkAll, List.length_cons, Nat.add_mul, Nat.one_mul] at b4 ⊢
    omega
theorem sized_tup {m h : Nat} {ds : List PyData} (hd : ∀ d ∈ ds, Sized m h d) : Sized (ds.length * (m + 1)) (h + 1) (.tuple ds) := by
  obtain ⟨a1, a2, a3, a4⟩ := sized_all hd
  exact ⟨by simpa only [PyData.leavesShort] using a1, by simpa only [PyData.showable] using a2, by simp only [PyData.depth]; omega, by simpa only [PyData.bulk] using a4⟩
theorem sized_lst {m h : Nat} {ds : List PyData} (hd : ∀ d ∈ ds, Sized m h d) : Sized (ds.length * (m + 1)) (h + 1) (.list ds) := by
  obtain ⟨a1, a2, a3, a4⟩ := sized_all hd
  exact ⟨by simpa only [PyData.leavesShort] using a1, by simpa only [PyData.showable] using a2, by simp only [PyData.depth]; omega, by simpa only [PyData.bulk] using a4⟩
theorem sized_non : Sized 0 0 .none := ⟨by simp only [PyData.leavesShort], by simp only [PyData.showable], by simp only [PyData.depth]; omega, by simp only [PyData.bulk]; omega⟩
theorem sized_bl (b : Bool) : Sized 0 0 (.bool b) := ⟨by simp only [PyData.leavesShort], by simp only [PyData.showable], by simp only [PyData.depth]; omega, by simp only [PyData.bulk]; omega⟩
/-- an int of few digits -/
theorem sized_int {i : Int} (h : i.natAbs < 10 ^ 39) : Sized 0 0 (.int i) := by
  have short : (PyData.shown (.int i)).length ≤ 40 := by
    simp only [PyData.shown]
    show (Str.ofString (toString i)).length ≤ 40
    rw [PySem.ofString_length]
    exact int_text_length_le10 (by decide) h
  refine ⟨by simpa only [PyData.leavesShort, decide_eq_true_eq] using short, ?_, by simp only [PyData.depth]; omega, by simp only [PyData.bulk]; omega⟩
  simp only [PyData.showable, decide_eq_true_eq]
  by_cases z : i.natAbs = 0
  · rw [z]; decide
  · exact Nat.lt_of_lt_of_le ((Nat.log2_lt z).mpr (Nat.lt_of_lt_of_le h (by decide : 10 ^ 39 ≤ 2 ^ 130))) (by decide)
/-- what repr asks -/
theorem Sized.rep {m h : Nat} {d : PyData} (s : Sized m h d) (hm : m ≤ 390000) (hh : h ≤ 60) : d.showable = true ∧ d.depth ≤ 60 ∧ d.shown.length ≤ sizeLine := by
  refine ⟨s.2.1, Nat.le_trans s.2.2.1 hh, ?_⟩
  have z := PyData.shown_le_bulk 40 (by decide) d s.1
  have z2 := s.2.2.2
  rw [sizeLine_eq]
  omega
/-- tuples stay -/
def TupsStay (H H' : Hp) : Prop := ∀ b o, (∃ xs, o = .tup xs) ∨ (∃ ob xs, o = .frz ob (.tup xs)) → H b = some o → H' b = some o
theorem TupsStay.trans {H H1 H2 : Hp} (a : TupsStay H H1) (b : TupsStay H1 H2) : TupsStay H H2 := fun c o h e => b c o h (a c o h e)
theorem TupsStay.refl (H : Hp) : TupsStay H H := fun _ _ _ e => e
theorem _root_.L2.Same.tups {H H' : Hp} (s : Same H H') : TupsStay H H' := fun b o _ e => s b o e
theorem TupsStay.seq {K : PySem.W.Frag} {H H' : Hp} {a : Addr} {xs : List V} (t : TupsStay H H') (h : SqT K H a xs) : SqT K H' a xs := by
  rcases h with (h | ⟨o, h⟩) | h
  · exact .inl (.inl (t _ _ (.inl ⟨_, rfl⟩) h))
  · exact .inl (.inr ⟨o, t _ _ (.inr ⟨_, _, rfl⟩) h⟩)
  · exact .inr h
theorem _root_.L2.Same.seqT {K : PySem.W.Frag} {H H' : Hp} {a : Addr} {xs : List V} (s : Same H H') (h : SqT K H a xs) : SqT K H' a xs := (Same.tups s).seq h
theorem tups_lst {H : Hp} {p : Addr} {xs ys : List V} (h : H p = some (.lst xs)) : TupsStay H (upd H p (.lst ys)) := fun b o hk e => by
  rw [upd_ne (ne_of e h ?_)]
  · exact e
  · rcases hk with ⟨_, rfl⟩ | ⟨_, _, rfl⟩ <;> exact nofun
theorem same_new {H : Hp} {p : Addr} (h : H p = none) (o : HO) : Same H (upd H p o) := fun b u e => by
  rw [upd_ne (ne_of_none e h)]
  exact e
/-- a list that was made since changes -/
theorem same_own {H H' : Hp} {p : Addr} (s : Same H H') (h : H p = none) (o : HO) : Same H (upd H' p o) := fun b u e => by
  rw [upd_ne (ne_of_none e h)]
  exact s b u e
mutual
/-- data without lists -/
inductive Dt (K : PySem.W.Frag) (H : Hp) : V → PyData → Prop
  | non : Dt K H .non .none
  | bl (b : Bool) : Dt K H (.bl b) (.bool b)
  | int (i : Int) : Dt K H (.int i) (.int i)
  | str (x : Str) : Dt K H (.str x) (.str x)
  | tup {a : Addr} {xs : List V} {ds : List PyData} : SqT K H a xs → DtAll K H xs ds → Dt K H (.ref a) (.tuple ds)
inductive DtAll (K : PySem.W.Frag) (H : Hp) : List V → List PyData → Prop
  | nil : DtAll K H [] []
  | cons {v : V} {vs : List V} {d : PyData} {ds : List PyData} : Dt K H v d → DtAll K H vs ds → DtAll K H (v :: vs) (d :: ds)
end
section
variable {K : PySem.W.Frag} {H H' : Hp}
mutual
theorem Dt.dp : ∀ {v : V} {d : PyData}, Dt K H v d → Dp K H v d
  | _, _, .non => .non
  | _, _, .bl b => .bl b
  | _, _, .int i => .int i
  | _, _, .str x => .str x
  | _, _, .tup h a => .tup h a.dp
theorem DtAll.dp : ∀ {vs : List V} {ds : List PyData}, DtAll K H vs ds → DpAll K H vs ds
  | _, _, .nil => .nil
  | _, _, .cons h a => .cons h.dp a.dp
end
mutual
theorem Dt.stay (t : TupsStay H H') : ∀ {v : V} {d : PyData}, Dt K H v d → Dt K H' v d
  | _, _, .non => .non
  | _, _, .bl b => .bl b
  | _, _, .int i => .int i
  | _, _, .str x => .str x
  | _, _, .tup h a => .tup (t.seq h) (a.stay t)
theorem DtAll.stay (t : TupsStay H H') : ∀ {vs : List V} {ds : List PyData}, DtAll K H vs ds → DtAll K H' vs ds
  | _, _, .nil => .nil
  | _, _, .cons h a => .cons (h.stay t) (a.stay t)
end
theorem DtAll.len : ∀ {vs : List V} {ds : List PyData}, DtAll K H vs ds → vs.length = ds.length
  | _, _, .nil => rfl
  | _, _, .cons _ a => by rw [List.length_cons, List.length_cons, a.len]
theorem DtAll.at : ∀ {vs : List V} {ds : List PyData} {i : Nat} {d : PyData}, DtAll K H vs ds → ds[i]? = some d → ∃ v, vs[i]? = some v ∧ Dt K H v d
  | _, _, _, _, .nil, e => by simp at e
  | _, _, 0, _, .cons h _, e => by simp at e; subst e; exact ⟨_, rfl, h⟩
  | _, _, i + 1, d, .cons _ a, e => by simpa using a.at (i := i) (by simpa using e)
theorem DtAll.of : ∀ {vs : List V} {ds : List PyData} {i : Nat} {v : V}, DtAll K H vs ds → vs[i]? = some v → ∃ d, ds[i]? = some d ∧ Dt K H v d
  | _, _, _, _, .nil, e => by simp at e
  | _, _, 0, _, .cons h _, e => by simp at e; subst e; exact ⟨_, rfl, h⟩
  | _, _, i + 1, d, .cons _ a, e => by simpa using a.of (i := i) (by simpa using e)
theorem DtAll.app : ∀ {vs ws : List V} {ds es : List PyData}, DtAll K H vs ds → DtAll K H ws es → DtAll K H (vs ++ ws) (ds ++ es)
  | _, _, _, _, .nil, b => b
  | _, _, _, _, .cons h a, b => .cons h (a.app b)
theorem DtAll.take : ∀ {vs : List V} {ds : List PyData} (n : Nat), DtAll K H vs ds → DtAll K H (vs.take n) (ds.take n)
  | _, _, 0, _ => .nil
  | _, _, _ + 1, .nil => .nil
  | _, _, n + 1, .cons h a => .cons h (a.take n)
theorem DtAll.drop : ∀ {vs : List V} {ds : List PyData} (n : Nat), DtAll K H vs ds → DtAll K H (vs.drop n) (ds.drop n)
  | _, _, 0, a => a
  | _, _, _ + 1, .nil => .nil
  | _, _, n + 1, .cons _ a => a.drop n
theorem DtAll.ints : ∀ (ns : List Int), DtAll K H (ns.map V.int) (ns.map PyData.int)
  | [] => .nil
  | n :: ns => .cons (.int n) (DtAll.ints ns)
theorem item_of {ns : List Int} {i : Nat} {y : V} (hi : (ns.map V.int)[i]? = some y) : ∃ z, ns[i]? = some z ∧ y = V.int z := by
  rw [List.getElem?_map] at hi
  cases e : ns[i]? with
  | none => rw [e] at hi; cases hi
  | some z => rw [e] at hi; exact ⟨z, rfl, (Option.some.inj hi).symm⟩
theorem take_more {α : Type} : ∀ {l : List α} {i : Nat} {x : α}, l[i]? = some x → l.take (i + 1) = l.take i ++ [x]
  | [], i, x, h => by simp at h
  | a :: l, 0, x, h => by simp at h; simp [h]
  | a :: l, i + 1, x, h => by
    have ih := take_more (l := l) (i := i) (x := x) (by simpa using h)
    simp [ih]
end
end LG
/-! ### a def of the text with its promise, by its name -/
namespace LG
open PySem PySem.Spec PyProof.Rows L2
/-- the def of this name, the place hidden -/
structure Has (P : Program) (w : World) (K : PySem.W.Frag) (mg : Str → Option Value) (base : Heap) (CX : CXT) (k : Nat) (x : Str) (ps : List Str) (sp : Sp) : Prop where
  ex : ∃ (f : Addr) (fd : FuncData), FnOk P w K mg base CX k f fd ps sp ∧ mg x = some (.ref f) ∧ PySem.W.keepIn K (.ref f) = true ∧ Binds K fd ps []
structure HasG (P : Program) (w : World) (K : PySem.W.Frag) (mg : Str → Option Value) (base : Heap) (k : Nat) (x : Str) (ps : List Str) (sp : Sp) : Prop where
  ex : ∃ (f : Addr) (fd : FuncData), FnG P w K mg base k f fd ps sp ∧ mg x = some (.ref f) ∧ PySem.W.keepIn K (.ref f) = true ∧ Binds K fd ps []
/-- the def as the top has left it -/
structure Def (K : PySem.W.Frag) (mg : Str → Option Value) (x : Str) (st : Stmt) (ps : List Str) : Prop where
  ex : ∃ (f : Addr) (fd : FuncData), Fun K x x st f fd ∧ mg x = some (.ref f) ∧ Binds K fd ps []
section
variable {P : Program} {w : World} {K : PySem.W.Frag} {mg : Str → Option Value} {base : Heap} {CX : CXT} {k : Nat} {x : Str} {ps : List Str} {sp : Sp} {st : Stmt}
theorem Def.has (d : Def K mg x st ps) (h : ∀ (f : Addr) (fd : FuncData), Fun K x x st f fd → FnOk P w K mg base CX k f fd ps sp) : Has P w K mg base CX k x ps sp := by
  obtain ⟨f, fd, F, m, b⟩ := d.ex
  exact ⟨f, fd, h f fd F, m, F.kp, b⟩
theorem Def.hasG (d : Def K mg x st ps) (h : ∀ (f : Addr) (fd : FuncData), Fun K x x st f fd → FnG P w K mg base k f fd ps sp) : HasG P w K mg base k x ps sp := by
  obtain ⟨f, fd, F, m, b⟩ := d.ex
  exact ⟨f, fd, h f fd F, m, F.kp, b⟩
theorem Has.more {j : Nat} (h : Has P w K mg base CX k x ps sp) (hj : k ≤ j) : Has P w K mg base CX j x ps sp := by
  obtain ⟨f, fd, F, r⟩ := h.ex
  exact ⟨f, fd, F.mono hj, r⟩
theorem Has.imp {sp' : Sp} (h : Has P w K mg base CX k x ps sp) (i : ∀ vs H Q E, sp' vs H Q E → sp vs H Q E) : Has P w K mg base CX k x ps sp' := by
  obtain ⟨f, fd, F, r⟩ := h.ex
  exact ⟨f, fd, F.imp i, r⟩
end
section
variable {X : Cx} {k j : Nat} {ps : List Str} {sp : Sp} {x : Str} {p pos : Pos} {e : Expr} {es : List Expr} {t : TA}
/-- its call: nothing is raised -/
theorem pc (h : Has X.prog X.w X.K X.mg X.base CX0 k x ps sp) (hr : Room j X.A) (ha : PA X (e :: es) t) (hg : Gl X x := by rfl) (hj : k ≤ j := by first | decide | omega) (hdb : (x == ("__debug__" : Str)) = false := by decide)
    (he : starEach (e :: es) X.env = (false, eval e X.env) :: starEach es X.env := by rfl) (hpl : (backTo pos (starEach es X.env)).any (·.1) = false := by rfl) : PE X (.Call (.Name x p) (e :: es) [] pos) (tCall sp [] E0 t) := by
  obtain ⟨f, fd, F, m, kp, b⟩ := h.ex
  exact pe_call F (hr.mono hj) hg m kp b .nil pass0 ha hdb he hpl
theorem pcX (h : Has X.prog X.w X.K X.mg X.base (L2.CX X.prog X.w) k x ps sp) (hr : Room j X.A) (ha : PA X (e :: es) t) (hg : Gl X x := by rfl) (hj : k ≤ j := by first | decide | omega) (hdb : (x == ("__debug__" : Str)) = false := by decide)
    (he : starEach (e :: es) X.env = (false, eval e X.env) :: starEach es X.env := by rfl) (hpl : (backTo pos (starEach es X.env)).any (·.1) = false := by rfl) : PE X (.Call (.Name x p) (e :: es) [] pos) (tCall sp [] E0 t) := by
  obtain ⟨f, fd, F, m, kp, b⟩ := h.ex
  exact pe_call F (hr.mono hj) hg m kp b .nil passL ha hdb he hpl
theorem pcG (h : HasG X.prog X.w X.K X.mg X.base k x ps sp) (guard : X.A.guards = some []) (hr : Room j X.A) (ha : PA X (e :: es) t) (hg : Gl X x := by rfl) (hj : k ≤ j := by first | decide | omega) (hdb : (x == ("__debug__" : Str)) = false := by decide)
    (he : starEach (e :: es) X.env = (false, eval e X.env) :: starEach es X.env := by rfl) (hpl : (backTo pos (starEach es X.env)).any (·.1) = false := by rfl) : PE X (.Call (.Name x p) (e :: es) [] pos) (tCall sp [] E0 t) := by
  obtain ⟨f, fd, F, m, kp, b⟩ := h.ex
  exact pe_callG F guard (hr.mono hj) hg m kp b ha hdb he hpl
/-- its call: what it raises leaves this def too -/
theorem pcE {E : XK} (h : Has X.prog X.w X.K X.mg X.base (L2.CX X.prog X.w) k x ps sp) (hr : Room j X.A) (tk : Takes X (fun cls d _ H => E cls d H)) (ha : PA X (e :: es) t) (hg : Gl X x := by rfl) (hj : k ≤ j := by first | decide | omega) (hdb : (x == ("__debug__" : Str)) = false := by decide)
    (he : starEach (e :: es) X.env = (false, eval e X.env) :: starEach es X.env := by rfl) (hpl : (backTo pos (starEach es X.env)).any (·.1) = false := by rfl) : PE X (.Call (.Name x p) (e :: es) [] pos) (tCall sp [] E t) := by
  obtain ⟨f, fd, F, m, kp, b⟩ := h.ex
  exact pe_call F (hr.mono hj) hg m kp b .nil (passes_call tk fun _ _ _ _ z => z) ha hdb he hpl
/-- its call within a try's body: what it raises is wished for -/
theorem pcS {W : WX} (h : Has X.prog X.w X.K X.mg X.base (L2.CX X.prog X.w) k x ps sp) (hr : Room j X.A) (tk : Takes X W) (ha : PA X (e :: es) t) (hg : Gl X x := by rfl) (hj : k ≤ j := by first | decide | omega) (hdb : (x == ("__debug__" : Str)) = false := by decide)
    (he : starEach (e :: es) X.env = (false, eval e X.env) :: starEach es X.env := by rfl) (hpl : (backTo pos (starEach es X.env)).any (·.1) = false := by rfl) : PE X (.Call (.Name x p) (e :: es) [] pos) (tCallS sp (WE W) t) := by
  obtain ⟨f, fd, F, m, kp, b⟩ := h.ex
  exact pe_callS F (hr.mono hj) hg m kp b (fun σ => passAt tk σ) ha hdb he hpl
end
/-! ### places in lists of ints -/
theorem ix_of {n : Nat} {i : Int} (h0 : 0 ≤ i) (h1 : i < n) : ixN n i = some i.toNat := by
  unfold ixN
  rw [if_pos h0, if_pos h1]
theorem at_int {ns : List Int} {i : Int} (h0 : 0 ≤ i) (h1 : i < ns.length) : ∃ z, ns[i.toNat]? = some z ∧ z ∈ ns ∧ atI (ns.map V.int) i = some (.int z) := by
  have lt : i.toNat < ns.length := by omega
  refine ⟨ns[i.toNat], by simp, List.getElem_mem _, ?_⟩
  refine at_of (j := i.toNat) (by omega) ?_
  rw [List.getElem?_map]
  simp
theorem dec_t {p : Prop} [Decidable p] (h : decide p = true) : p := of_decide_eq_true h
theorem dec_f {p : Prop} [Decidable p] (h : ¬ decide p = true) : ¬ p := fun z => h (decide_eq_true z)
end LG
namespace LG
open PySem PySem.Spec PyProof.Rows L2
section
variable {X : Cx}
/-- == and != of ints -/
theorem op_eqi : OpR X (compareOp .Eq) (rI0 fun i j => .bl (decide (i = j))) := by
  intro pins s σ H x y v u Q inv rx ry want
  obtain ⟨i, j, rfl, rfl, q⟩ := want
  refine op_eq pins s σ H _ _ v u Q inv rx ry ⟨rfl, ?_⟩
  rw [show decide (V.int i = V.int j) = decide (i = j) from decide_eq_decide.mpr ⟨fun z => V.int.inj z, fun z => congrArg V.int z⟩]
  exact q
theorem op_nei : OpR X (compareOp .NotEq) (rI0 fun i j => .bl (!decide (i = j))) := by
  intro pins s σ H x y v u Q inv rx ry want
  obtain ⟨i, j, rfl, rfl, q⟩ := want
  refine op_ne pins s σ H _ _ v u Q inv rx ry ⟨rfl, ?_⟩
  rw [show decide (V.int i = V.int j) = decide (i = j) from decide_eq_decide.mpr ⟨fun z => V.int.inj z, fun z => congrArg V.int z⟩]
  exact q
/-- == and != of texts -/
theorem op_eqs : OpR X (compareOp .Eq) (fun x y H Q => ∃ a b, x = .str a ∧ y = .str b ∧ Q (.bl (decide (a = b))) H) := by
  intro pins s σ H x y v u Q inv rx ry want
  obtain ⟨i, j, rfl, rfl, q⟩ := want
  refine op_eq pins s σ H _ _ v u Q inv rx ry ⟨rfl, ?_⟩
  rw [show decide (V.str i = V.str j) = decide (i = j) from decide_eq_decide.mpr ⟨fun z => V.str.inj z, fun z => congrArg V.str z⟩]
  exact q
theorem op_nes : OpR X (compareOp .NotEq) (fun x y H Q => ∃ a b, x = .str a ∧ y = .str b ∧ Q (.bl (!decide (a = b))) H) := by
  intro pins s σ H x y v u Q inv rx ry want
  obtain ⟨i, j, rfl, rfl, q⟩ := want
  refine op_ne pins s σ H _ _ v u Q inv rx ry ⟨rfl, ?_⟩
  rw [show decide (V.str i = V.str j) = decide (i = j) from decide_eq_decide.mpr ⟨fun z => V.str.inj z, fun z => congrArg V.str z⟩]
  exact q
end
/-! ### parts of tuples -/
theorem cut_last (xs : List V) (v : V) : cutV (xs ++ [v]) none (some (-1)) = xs := by
  unfold cutV HT.sIx
  simp only [List.length_append, List.length_singleton]
  rw [if_pos (by decide)]
  rw [List.drop_zero, show ((-1 + ((xs.length + 1 : Nat) : Int)).toNat - 0) = xs.length from by omega]
  simp
theorem cut_last_whole (xs : List V) (v : V) : ¬ (HT.sIx (xs ++ [v]).length 0 none = 0 ∧ HT.sIx (xs ++ [v]).length (xs ++ [v]).length (some (-1)) = (xs ++ [v]).length) := by
  unfold HT.sIx
  simp only [List.length_append, List.length_singleton]
  rw [if_pos (by decide)]
  omega
theorem cut_to (xs : List V) (n : Nat) : cutV xs none (some (n : Int)) = xs.take n := by
  unfold cutV
  rw [HT.sIx_none, HT.sIx_nat, List.drop_zero, Nat.sub_zero]
  rcases Nat.le_total n xs.length with h | h
  · rw [Nat.min_eq_left h]
  · rw [Nat.min_eq_right h, List.take_of_length_le (Nat.le_refl _), List.take_of_length_le h]
theorem cut_from (xs : List V) (n : Nat) : cutV xs (some (n : Int)) none = xs.drop n := by
  unfold cutV
  rw [HT.sIx_none, HT.sIx_nat]
  rcases Nat.le_total n xs.length with h | h
  · rw [Nat.min_eq_left h, List.take_of_length_le (by rw [List.length_drop]; exact Nat.le_refl _)]
  · rw [Nat.min_eq_right h, List.drop_of_length_le (Nat.le_refl _), List.drop_of_length_le h, List.take_nil]
/-- a slice of a tuple: the tuple itself, or a new one, of these items -/
def rCut (K : PySem.W.Frag) : V → Option Int → Option Int → Hp → VK → Prop := fun x lo hi H Q => ∃ a xs, x = .ref a ∧ SqT K H a xs ∧
  ∀ p H', Same H H' → SqT K H' p (cutV xs lo hi) → Q (.ref p) H'
theorem sl_cut {X : Cx} : SlR X (rCut X.K) := by
  intro pins s σ H x v vl vu lo hi sl Q inv rx hs pl pu want
  obtain ⟨a, xs, rfl, hx, q⟩ := want
  refine sl_tupA pins s σ H _ v vl vu lo hi sl Q inv rx hs pl pu ⟨a, xs, rfl, hx, fun whole => q a H (Same.refl H) ?_, fun _ p hp => q p _ (same_new hp _) (SqT.of upd_same)⟩
  have e : cutV xs lo hi = xs := by
    unfold cutV
    rw [whole.1, whole.2, List.drop_zero, Nat.sub_zero, List.take_of_length_le (Nat.le_refl _)]
  rw [e]
  exact hx
/-- t + u: one of the two, or a new tuple, of these items -/
def rPlus (K : PySem.W.Frag) : R2 := fun x y H Q => ∃ a b xs ys, x = .ref a ∧ y = .ref b ∧ SqT K H a xs ∧ SqT K H b ys ∧ xs.length + ys.length ≤ sizeLine ∧
  ∀ p H', Same H H' → SqT K H' p (xs ++ ys) → Q (.ref p) H'
theorem op_plus {X : Cx} : OpR X (binaryOp .Add) (rPlus X.K) := by
  intro pins s σ H x y v u Q inv rx ry want
  obtain ⟨a, b, xs, ys, rfl, rfl, ha, hb, hz, q⟩ := want
  refine op_catA pins s σ H _ _ v u Q inv rx ry ⟨a, b, xs, ys, rfl, rfl, ha, hb, hz, fun e => q b H (Same.refl H) ?_, fun _ e => q a H (Same.refl H) ?_, fun _ _ p hp => q p _ (same_new hp _) (SqT.of upd_same)⟩
  · rw [e]
    exact hb
  · rw [e, List.append_nil]
    exact ha
theorem small16 {n : Nat} (h : n ≤ 100000) : n ≤ sizeLine := Nat.le_trans h (by decide)
end LG
/-! ### error classes of the text -/
namespace LG
open PySem PySem.Spec PyProof.Rows L2
/-- the class of this name over ValueError -/
structure Err (K : PySem.W.Frag) (mg : Str → Option Value) (x : Str) (C : Addr) : Prop where
  xi : PySem.W.excIn K C [.type "ValueError", .type "Exception", .type "BaseException", .type "object"] "ValueError.__new__" = true
  g : mg x = some (.ref C)
  k : PySem.W.keepIn K (.ref C) = true
  b : PySem.W.subIn K (.ref C) (.type "BaseException") = some true
  t : PySem.W.typeIn K (.ref C) = some (.type "type")
/-- what a clause for the class at D makes of an error of the class at C -/
theorem exm_of2 {K : PySem.W.Frag} {C D : Addr} {r : Bool} (h1 : PySem.W.subIn K (.ref D) (.type "BaseException") = some true) (h2 : PySem.W.isClsIn K D = true) (h3 : PySem.W.typeIn K (.ref D) = some (.type "type")) (h4 : PySem.W.subIn K (.ref C) (.ref D) = some r) :
    PySem.W.exmOne K (.ref C) (.ref D) = some r := by
  show (if (PySem.W.subIn K (.ref D) (.type "BaseException") == some true) = true then (if (PySem.W.isClsIn K D && PySem.W.typeIn K (.ref D) == some (.type "type")) = true then PySem.W.subIn K (.ref C) (.ref D) else none) else none) = some r
  rw [h1, h2, h3, h4]
  rfl
end LG
/-! ### the hand from which the law takes its draws -/
namespace LG
open PySem PySem.Spec PyProof.Rows L2
/-- hand at h: the draws at d, how many were taken -/
def Hand (H : Hp) (h d : Addr) (ds : List Int) (n : Nat) : Prop := H h = some (.lst [.ref d, .int n]) ∧ H d = some (.lst (ds.map V.int))
section
variable {H H' : Hp} {h d : Addr} {ds : List Int} {n : Nat}
theorem Hand.ne (x : Hand H h d ds n) : d ≠ h := by
  rintro rfl
  have e := x.1.symm.trans x.2
  cases ds with
  | nil => cases e
  | cons z ds => cases e
theorem Hand.next (x : Hand H h d ds n) : Hand (upd H h (.lst [.ref d, .int ((n + 1 : Nat) : Int)])) h d ds (n + 1) := ⟨upd_same, by rw [upd_ne x.ne]; exact x.2⟩
theorem Hand.same (x : Hand H h d ds n) (s : Same H H') : Hand H' h d ds n := ⟨s _ _ x.1, s _ _ x.2⟩
theorem Hand.tups (x : Hand H h d ds n) : TupsStay H (upd H h (.lst [.ref d, .int ((n + 1 : Nat) : Int)])) := tups_lst x.1
/-- another list stays -/
theorem Hand.keep {a : Addr} {ns : List Int} (x : Hand H h d ds n) (e : H a = some (.lst (ns.map V.int))) : (upd H h (.lst [.ref d, .int ((n + 1 : Nat) : Int)])) a = some (.lst (ns.map V.int)) := by
  rw [upd_ne]
  · exact e
  rintro rfl
  have q := x.1.symm.trans e
  cases ns with
  | nil => cases q
  | cons z ns => cases q
end
end LG
/-! ### data of any kind, outside the places that may change -/
namespace LG
open PySem PySem.Spec PyProof.Rows L2
/-- what lies outside M stays, and all tuples -/
structure Go (M : Addr → Prop) (H H' : Hp) : Prop where
  out : ∀ b o, ¬ M b → H b = some o → H' b = some o
  tups : TupsStay H H'
section
variable {M : Addr → Prop} {H H1 H' : Hp} {K : PySem.W.Frag}
theorem Go.refl (H : Hp) : Go M H H := ⟨fun _ _ _ e => e, TupsStay.refl H⟩
theorem Go.trans (a : Go M H H1) (b : Go M H1 H') : Go M H H' := ⟨fun c o m e => b.out c o m (a.out c o m e), a.tups.trans b.tups⟩
theorem _root_.L2.Same.go (s : Same H H') : Go M H H' := ⟨fun b o _ e => s b o e, s.tups⟩
theorem Go.put {a : Addr} {xs ys : List V} (m : M a) (h : H a = some (.lst xs)) : Go M H (upd H a (.lst ys)) := ⟨fun b u n e => by
  rw [upd_ne (fun z => n (by rw [z]; exact m))]
  exact e, tups_lst h⟩
theorem Go.new {p : Addr} (h : H p = none) (o : HO) : Go M H (L2.upd H p o) := L2.Same.go (same_new h o)
theorem Go.seqL {a : Addr} {xs : List V} (s : Go M H H') (m : ¬ M a) (h : SqL K H a xs) : SqL K H' a xs := by
  rcases h with (h | ⟨o, h⟩) | h
  · exact .inl (.inl (s.out _ _ m h))
  · exact .inl (.inr ⟨o, s.out _ _ m h⟩)
  · exact .inr h
theorem Go.seqT {a : Addr} {xs : List V} (s : Go M H H') (h : SqT K H a xs) : SqT K H' a xs := s.tups.seq h
end
mutual
inductive Dv (M : Addr → Prop) (K : PySem.W.Frag) (H : Hp) : V → PyData → Prop
  | non : Dv M K H .non .none
  | bl (b : Bool) : Dv M K H (.bl b) (.bool b)
  | int (i : Int) : Dv M K H (.int i) (.int i)
  | str (x : Str) : Dv M K H (.str x) (.str x)
  | lst {a : Addr} {xs : List V} {ds : List PyData} : ¬ M a → SqL K H a xs → DvAll M K H xs ds → Dv M K H (.ref a) (.list ds)
  | tup {a : Addr} {xs : List V} {ds : List PyData} : SqT K H a xs → DvAll M K H xs ds → Dv M K H (.ref a) (.tuple ds)
inductive DvAll (M : Addr → Prop) (K : PySem.W.Frag) (H : Hp) : List V → List PyData → Prop
  | nil : DvAll M K H [] []
  | cons {v : V} {vs : List V} {d : PyData} {ds : List PyData} : Dv M K H v d → DvAll M K H vs ds → DvAll M K H (v :: vs) (d :: ds)
end
section
variable {M M' : Addr → Prop} {K : PySem.W.Frag} {H H' : Hp}
mutual
theorem Dv.dp : ∀ {v : V} {d : PyData}, Dv M K H v d → Dp K H v d
  | _, _, .non => .non
  | _, _, .bl b => .bl b
  | _, _, .int i => .int i
  | _, _, .str x => .str x
  | _, _, .lst _ h a => .lst h a.dp
  | _, _, .tup h a => .tup h a.dp
theorem DvAll.dp : ∀ {vs : List V} {ds : List PyData}, DvAll M K H vs ds → DpAll K H vs ds
  | _, _, .nil => .nil
  | _, _, .cons h a => .cons h.dp a.dp
end
mutual
theorem Dv.stay (t : Go M H H') : ∀ {v : V} {d : PyData}, Dv M K H v d → Dv M K H' v d
  | _, _, .non => .non
  | _, _, .bl b => .bl b
  | _, _, .int i => .int i
  | _, _, .str x => .str x
  | _, _, .lst m h a => .lst m (t.seqL m h) (a.stay t)
  | _, _, .tup h a => .tup (t.seqT h) (a.stay t)
theorem DvAll.stay (t : Go M H H') : ∀ {vs : List V} {ds : List PyData}, DvAll M K H vs ds → DvAll M K H' vs ds
  | _, _, .nil => .nil
  | _, _, .cons h a => .cons (h.stay t) (a.stay t)
end
theorem DvAll.len : ∀ {vs : List V} {ds : List PyData}, DvAll M K H vs ds → vs.length = ds.length
  | _, _, .nil => rfl
  | _, _, .cons _ a => by rw [List.length_cons, List.length_cons, a.len]
theorem DvAll.at : ∀ {vs : List V} {ds : List PyData} {i : Nat} {d : PyData}, DvAll M K H vs ds → ds[i]? = some d → ∃ v, vs[i]? = some v ∧ Dv M K H v d
  | _, _, _, _, .nil, e => by simp at e
  | _, _, 0, _, .cons h _, e => by simp at e; subst e; exact ⟨_, rfl, h⟩
  | _, _, i + 1, d, .cons _ a, e => by simpa using a.at (i := i) (by simpa using e)
theorem DvAll.of : ∀ {vs : List V} {ds : List PyData} {i : Nat} {v : V}, DvAll M K H vs ds → vs[i]? = some v → ∃ d, ds[i]? = some d ∧ Dv M K H v d
  | _, _, _, _, .nil, e => by simp at e
  | _, _, 0, _, .cons h _, e => by simp at e; subst e; exact ⟨_, rfl, h⟩
  | _, _, i + 1, d, .cons _ a, e => by simpa using a.of (i := i) (by simpa using e)
theorem DvAll.app : ∀ {vs ws : List V} {ds es : List PyData}, DvAll M K H vs ds → DvAll M K H ws es → DvAll M K H (vs ++ ws) (ds ++ es)
  | _, _, _, _, .nil, b => b
  | _, _, _, _, .cons h a, b => .cons h (a.app b)
theorem DvAll.take : ∀ {vs : List V} {ds : List PyData} (n : Nat), DvAll M K H vs ds → DvAll M K H (vs.take n) (ds.take n)
  | _, _, 0, _ => .nil
  | _, _, _ + 1, .nil => .nil
  | _, _, n + 1, .cons h a => .cons h (a.take n)
theorem DvAll.drop : ∀ {vs : List V} {ds : List PyData} (n : Nat), DvAll M K H vs ds → DvAll M K H (vs.drop n) (ds.drop n)
  | _, _, 0, a => a
  | _, _, _ + 1, .nil => .nil
  | _, _, n + 1, .cons _ a => a.drop n
theorem DvAll.ints : ∀ (ns : List Int), DvAll M K H (ns.map V.int) (ns.map PyData.int)
  | [] => .nil
  | n :: ns => .cons (.int n) (DvAll.ints ns)
/-- the built-in type of data -/
def tyD : PyData → String
  | .none => "NoneType"
  | .bool _ => "bool"
  | .int _ => "int"
  | .str _ => "str"
  | .list _ => "list"
  | .tuple _ => "tuple"
  | .dict _ => "dict"
theorem tyx_lst {a : Addr} {xs : List V} (h : SqL K H a xs) : TyX K H (.ref a) (.type "list") := by
  rcases h with (h | ⟨o, h⟩) | ⟨o, its, n, hk, hc, _⟩
  · exact .base (.lst h)
  · exact .base (.frz h)
  · exact .kList hk hc
theorem tyx_tup {a : Addr} {xs : List V} (h : SqT K H a xs) : TyX K H (.ref a) (.type "tuple") := by
  rcases h with (h | ⟨o, h⟩) | ⟨o, its, n, hk, hc, _⟩
  · exact .base (.tup h)
  · exact .fTuple h
  · exact .kTuple hk hc
theorem Dv.ty {v : V} {d : PyData} (h : Dv M K H v d) : TyX K H v (.type (tyD d)) := by
  cases h with
  | non => exact .base .non
  | bl b => exact .base (.bl b)
  | int i => exact .base (.int i)
  | str x => exact .base (.str x)
  | lst _ h _ => exact tyx_lst h
  | tup h _ => exact tyx_tup h
/-- a dict with few keys, at the top of a value: what repr tells of it -/
def keyD : Key → PyData
  | .inl i => .int i
  | .inr x => .str x
/-- data, or a dict of such without lists -/
inductive Dq (M : Addr → Prop) (K : PySem.W.Frag) (H : Hp) : V → PyData → Prop
  | data {v : V} {d : PyData} : Dv M K H v d → Dq M K H v d
  | dct {a : Addr} {kvs : List (Key × V)} {ds : List PyData} : ¬ M a → H a = some (.dK kvs) → DtAll K H (kvs.map (·.2)) ds → Dq M K H (.ref a) (.dict ((kvs.map fun p => keyD p.1).zip ds))
end
section
variable {M : Addr → Prop} {K : PySem.W.Frag} {H H' : Hp}
mutual
theorem Dt.dv : ∀ {v : V} {d : PyData}, Dt K H v d → Dv M K H v d
  | _, _, .non => .non
  | _, _, .bl b => .bl b
  | _, _, .int i => .int i
  | _, _, .str x => .str x
  | _, _, .tup h a => .tup h a.dv
theorem DtAll.dv : ∀ {vs : List V} {ds : List PyData}, DtAll K H vs ds → DvAll M K H vs ds
  | _, _, .nil => .nil
  | _, _, .cons h a => .cons h.dv a.dv
end
theorem Dq.stay {v : V} {d : PyData} (t : Go M H H') (h : Dq M K H v d) : Dq M K H' v d := by
  cases h with
  | data h => exact .data (h.stay t)
  | dct m h a => exact .dct m (t.out _ _ m h) (a.stay t.tups)
theorem Dq.ty {v : V} {d : PyData} (h : Dq M K H v d) : TyX K H v (.type (tyD d)) := by
  cases h with
  | data h => exact h.ty
  | dct _ h _ => exact .base (.dK h)
end
section
variable {X : Cx} {pins : List (Addr × Obj)} {σ : L2.St} {H : Hp} {s : Shared} {M : Addr → Prop}
mutual
/-- data without lists is read without a list's place -/
theorem Dt.bare (I : Inv X pins σ H s) : ∀ (d : PyData) (v : V) (u : Value), Dt X.K H v d → RelV v u → Reads s.heap u d []
  | .none, _, _, h, r => by
    cases h
    cases r
    exact Reads.none
  | .bool b, _, _, h, r => by
    cases h
    cases r
    exact Reads.bool b
  | .int i, _, _, h, r => by
    cases h
    obtain ⟨t, rfl⟩ := r
    exact Reads.int i t
  | .str x, _, _, h, r => by
    cases h
    obtain ⟨t, rfl⟩ := r
    exact Reads.str x t
  | .tuple ds, _, _, h, r => by
    cases h with
    | tup hs ha =>
      cases r
      obtain ⟨its, rv, ⟨o, ho, hc, n, hd⟩, _⟩ := I.tuple hs
      exact Reads.tuple ho hc hd (DtAll.bare I ds _ its ha rv)
  | .list _, _, _, h, _ => by cases h
  | .dict _, _, _, h, _ => by cases h
theorem DtAll.bare (I : Inv X pins σ H s) : ∀ (ds : List PyData) (vs : List V) (us : List Value), DtAll X.K H vs ds → Vals vs us → ReadsAll s.heap us ds []
  | [], _, _, h, r => by
    cases h
    cases r
    exact ReadsAll.nil
  | d :: ds, _, _, h, r => by
    cases h with
    | cons h1 h2 =>
      cases r with
      | cons r1 r2 => exact ReadsAll.cons (Dt.bare I d _ _ h1 r1) (DtAll.bare I ds _ _ h2 r2)
end
/-- a dict's keys and values -/
theorem pairs_read {P : Program} {w : World} {kvs : List (Key × V)} {vs : List (Key × Value)} {es : List DictEntry} (kv : KV kvs vs) (ps : Pairs (mixKind P w) es vs) :
    Vals (kvs.map fun p => kV p.1) (es.map (·.key)) ∧ Vals (kvs.map (·.2)) (es.map (·.val)) := by
  induction ps generalizing kvs with
  | nil =>
    cases kv
    exact ⟨.nil, .nil⟩
  | cons hk hv _ ih =>
    cases kv with
    | cons r rr =>
      obtain ⟨i1, i2⟩ := ih rr
      obtain ⟨e1, e2⟩ := r
      refine ⟨.cons ?_ i1, .cons ?_ i2⟩
      · rw [← e1] at hk
        have hk' : keyIs _ _ = true := hk
        rcases keyIs_shape hk' with ⟨i, t, e, q⟩ | ⟨x, t, e, q⟩
        · show RelV (kV _) (DictEntry.key _)
          rw [e, q]
          exact ⟨t, rfl⟩
        · show RelV (kV _) (DictEntry.key _)
          rw [e, q]
          exact ⟨t, rfl⟩
      · show RelV (Prod.snd _) (DictEntry.val _)
        rw [hv]
        exact e2
theorem keys_dt {K : PySem.W.Frag} : ∀ kvs : List (Key × V), DtAll K H (kvs.map fun p => kV p.1) (kvs.map fun p => keyD p.1)
  | [] => .nil
  | (.inl i, v) :: r => .cons (.int i) (keys_dt r)
  | (.inr x, v) :: r => .cons (.str x) (keys_dt r)
/-- repr of such data -/
def rRepV (K : PySem.W.Frag) : List V → Hp → VK → Prop := fun xs H Q => ∃ (M : Addr → Prop) (v : V) (d : PyData), xs = [v] ∧ Dq M K H v d ∧ d.showable = true ∧ d.depth ≤ 60 ∧ d.shown.length ≤ sizeLine ∧ Q (.str d.shown) H
theorem call_repV (guard : X.A.guards = some []) (room : X.A.units + 64 < cLine) : CallR X (.builtin "repr") (rRepV X.K) := by
  intro pins s σ H xs us Q inv rel want
  obtain ⟨M, v, d, e, hd, h1, h2, h3, q⟩ := want
  cases hd with
  | data hd => exact call_rep guard room pins s σ H xs us Q inv rel ⟨v, d, e, hd.dp, h1, h2, h3, q⟩
  | @dct a kvs ds _ ha hv =>
    subst e
    cases rel with
    | cons r0 rr =>
      cases rr
      cases r0
      obtain ⟨_, sys, vs, kv, o, es, ep, ho, ex, hdat, _, ps, _⟩ := (show ObjOk X.prog X.w H s.heap a (.dK kvs) from inv.hok a _ ha)
      obtain ⟨r1, r2⟩ := pairs_read kv ps
      have k1 := DtAll.bare inv _ _ _ (keys_dt kvs) r1
      have k2 := DtAll.bare inv _ _ _ hv r2
      have len : (kvs.map fun p => keyD p.1).length = ds.length := by rw [List.length_map, ← hv.len, List.length_map]
      have z1 : ((kvs.map fun p => keyD p.1).zip ds).map (·.1) = kvs.map fun p => keyD p.1 := List.map_fst_zip (by rw [len]; exact Nat.le_refl _)
      have z2 : ((kvs.map fun p => keyD p.1).zip ds).map (·.2) = ds := List.map_snd_zip (by rw [len]; exact Nat.le_refl _)
      have reads : Reads s.heap (.ref a) (.dict ((kvs.map fun p => keyD p.1).zip ds)) (a :: [] ++ []) := Reads.dict ho ex.1 hdat (by rw [z1]; exact k1) (by rw [z2]; exact k2)
      refine repr_of_reads' reads h1 (fun _ mem => ?_) guard (by omega) (fun _ _ z => z) (fun h' u' tk keep => ⟨.str _, H, inv.kept keep, ⟨_, rfl⟩, q⟩) h3
      have e : sysModules = a := by simpa using mem
      rw [e] at sys
      simp at sys
end
end LG
namespace LG
open PySem PySem.Spec PyProof.Rows L2
section
variable {M : Addr → Prop} {K : PySem.W.Frag} {H H' : Hp}
/-- what was made since is changed -/
theorem Go.own {p : Addr} (g : Go M H H') (h : H p = none) (o : HO) : Go M H (L2.upd H' p o) := ⟨fun b u m e => by
  rw [upd_ne (ne_of_none e h)]
  exact g.out b u m e, fun b u k e => by
  rw [upd_ne (ne_of_none e h)]
  exact g.tups b u k e⟩
theorem Hand.off {h d p : Addr} {ds : List Int} {n : Nat} (x : Hand H h d ds n) (hp : p ≠ h) (dp : p ≠ d) (o : HO) : Hand (L2.upd H p o) h d ds n := ⟨by rw [upd_ne hp.symm]; exact x.1, by rw [upd_ne dp.symm]; exact x.2⟩
theorem Hand.go {h d : Addr} {ds : List Int} {n : Nat} (x : Hand H h d ds n) : Go (· = h) H (L2.upd H h (.lst [.ref d, .int ((n + 1 : Nat) : Int)])) := Go.put rfl x.1
theorem Hand.new {h d p : Addr} {ds : List Int} {n : Nat} (x : Hand H h d ds n) (hp : H p = none) (o : HO) : Hand (L2.upd H p o) h d ds n := x.same (same_new hp o)
theorem at_any {α : Type} {xs : List α} {i : Int} (h0 : -(xs.length : Int) ≤ i) (h1 : i < (xs.length : Int)) : ∃ (j : Nat) (y : α), xs[j]? = some y ∧ atI xs i = some y := by
  by_cases h : 0 ≤ i
  · have lt : i.toNat < xs.length := by omega
    refine ⟨i.toNat, xs[i.toNat], by simp [lt], ?_⟩
    unfold atI ixN
    rw [if_pos h, if_pos h1]
    simp [lt]
  · have lt : (i + (xs.length : Int)).toNat < xs.length := by omega
    refine ⟨(i + (xs.length : Int)).toNat, xs[(i + (xs.length : Int)).toNat], by simp [lt], ?_⟩
    unfold atI ixN
    rw [if_neg h, if_pos h0]
    simp [lt]
/-- some item of a row of data -/
theorem DvAll.pick {xs : List V} {ds : List PyData} {i : Int} (a : DvAll M K H xs ds) (h0 : -(ds.length : Int) ≤ i) (h1 : i < (ds.length : Int)) : ∃ y e, atI xs i = some y ∧ e ∈ ds ∧ Dv M K H y e := by
  rw [← a.len] at h0 h1
  obtain ⟨j, y, hj, hy⟩ := at_any h0 h1
  obtain ⟨e, he, d⟩ := a.of hj
  exact ⟨y, e, hy, List.mem_of_getElem? he, d⟩
theorem DtAll.pick {xs : List V} {ds : List PyData} {i : Int} (a : DtAll K H xs ds) (h0 : -(ds.length : Int) ≤ i) (h1 : i < (ds.length : Int)) : ∃ y e, atI xs i = some y ∧ e ∈ ds ∧ Dt K H y e := by
  rw [← a.len] at h0 h1
  obtain ⟨j, y, hj, hy⟩ := at_any h0 h1
  obtain ⟨e, he, d⟩ := a.of hj
  exact ⟨y, e, hy, List.mem_of_getElem? he, d⟩
inductive DqAll (M : Addr → Prop) (K : PySem.W.Frag) (H : Hp) : List V → List PyData → Prop
  | nil : DqAll M K H [] []
  | cons {v : V} {vs : List V} {d : PyData} {ds : List PyData} : Dq M K H v d → DqAll M K H vs ds → DqAll M K H (v :: vs) (d :: ds)
theorem DqAll.len : ∀ {vs : List V} {ds : List PyData}, DqAll M K H vs ds → vs.length = ds.length
  | _, _, .nil => rfl
  | _, _, .cons _ a => by rw [List.length_cons, List.length_cons, a.len]
theorem DqAll.of : ∀ {vs : List V} {ds : List PyData} {i : Nat} {v : V}, DqAll M K H vs ds → vs[i]? = some v → ∃ d, ds[i]? = some d ∧ Dq M K H v d
  | _, _, _, _, .nil, e => by simp at e
  | _, _, 0, _, .cons h _, e => by simp at e; subst e; exact ⟨_, rfl, h⟩
  | _, _, i + 1, d, .cons _ a, e => by simpa using a.of (i := i) (by simpa using e)
theorem DqAll.pick {xs : List V} {ds : List PyData} {i : Int} (a : DqAll M K H xs ds) (h0 : -(ds.length : Int) ≤ i) (h1 : i < (ds.length : Int)) : ∃ y e, atI xs i = some y ∧ e ∈ ds ∧ Dq M K H y e := by
  rw [← a.len] at h0 h1
  obtain ⟨j, y, hj, hy⟩ := at_any h0 h1
  obtain ⟨e, he, d⟩ := a.of hj
  exact ⟨y, e, hy, List.mem_of_getElem? he, d⟩
theorem DqAll.stay (t : Go M H H') : ∀ {vs : List V} {ds : List PyData}, DqAll M K H vs ds → DqAll M K H' vs ds
  | _, _, .nil => .nil
  | _, _, .cons h a => .cons (h.stay t) (a.stay t)
/-- two parts -/
theorem sized_two {m1 m2 h1 h2 : Nat} {a b : PyData} (sa : Sized m1 h1 a) (sb : Sized m2 h2 b) : Sized (m1 + m2 + 2) (max h1 h2 + 1) (.tuple [a, b]) := by
  obtain ⟨a1, a2, a3, a4⟩ := sa
  obtain ⟨b1, b2, b3, b4⟩ := sb
  refine ⟨?_, ?_, ?_, ?_⟩
  · simp only [PyData.leavesShort, PyData.leavesShortAll, a1, b1, Bool.and_self]
  · simp only [PyData.showable, PyData.showableAll, a2, b2, Bool.and_self]
  · simp only [PyData.depth, PyData.depthAll]
    omega
  · simp only [PyData.bulk, PyData.bulkAll]
    omega
theorem sized_str (x : Str) (h : (x.cps.toList.all fun c => decide (c < 16 ^ 8)) = true) (n : Nat) (hn : x.cps.size ≤ n) : Sized n 0 (.str x) := ⟨by simp only [PyData.leavesShort]; exact h, by simp only [PyData.showable], by simp only [PyData.depth]; omega, by simp only [PyData.bulk]; exact hn⟩
end
end LG
/-! ### tuples of ints: order, sorting; membership -/
namespace LG
open PySem PySem.Spec PyProof.Rows L2
/-- a row of ints as data -/
def tupI (r : List Int) : PyData := .tuple (r.map PyData.int)
section
variable {X : Cx}
theorem dp_row {K : PySem.W.Frag} {H : Hp} {a : Addr} {ns : List Int} (h : SqT K H a (ns.map V.int)) : Dp K H (.ref a) (tupI ns) := .tup h (DtAll.ints ns).dp
theorem row_depth (ns : List Int) : (tupI ns).depth = 1 := by
  unfold tupI
  simp only [PyData.depth, PySem.W.depth_ints]
theorem row_lt (ns ms : List Int) : PySem.W.dataLt (tupI ns) (tupI ms) = decide (ns < ms) := by
  rw [← PySem.W.dataLt_ints]
  exact PySem.W.dataLt_tuple _ _
theorem row_alike (ns ms : List Int) : PySem.W.alike (tupI ns) (tupI ms) = true := by
  unfold tupI
  rw [PySem.W.alike]
  exact PySem.W.alike_ints ns ms
/-- x >= y, rows of ints -/
def rGeR (K : PySem.W.Frag) : R2 := fun x y H Q => ∃ (a b : Addr) (ns ms : List Int), x = .ref a ∧ y = .ref b ∧ SqT K H a (ns.map V.int) ∧ SqT K H b (ms.map V.int) ∧ Q (.bl (!decide (ns < ms))) H
theorem op_geR (hu : X.A.units + 64 < cLine) : OpR X (compareOp .GtE) (rGeR X.K) := by
  intro pins s σ H x y v u Q I rx ry h
  obtain ⟨a, b, ns, ms, rfl, rfl, ha, hb, q⟩ := h
  obtain ⟨as, r1⟩ := Dp.reads I _ _ v (dp_row ha) rx
  obtain ⟨bs, r2⟩ := Dp.reads I _ _ u (dp_row hb) ry
  exact PySem.W.ge_data r1 r2 (row_alike ns ms) (by unfold tupI; exact nofun) (by rw [row_depth]; omega) ⟨.bl _, H, I, rfl, by rw [row_lt]; exact q⟩
def rLtR (K : PySem.W.Frag) : R2 := fun x y H Q => ∃ (a b : Addr) (ns ms : List Int), x = .ref a ∧ y = .ref b ∧ SqT K H a (ns.map V.int) ∧ SqT K H b (ms.map V.int) ∧ Q (.bl (decide (ns < ms))) H
theorem op_ltR (hu : X.A.units + 64 < cLine) : OpR X (compareOp .Lt) (rLtR X.K) := by
  intro pins s σ H x y v u Q I rx ry h
  obtain ⟨a, b, ns, ms, rfl, rfl, ha, hb, q⟩ := h
  obtain ⟨as, r1⟩ := Dp.reads I _ _ v (dp_row ha) rx
  obtain ⟨bs, r2⟩ := Dp.reads I _ _ u (dp_row hb) ry
  exact PySem.W.lt_data r1 r2 (row_alike ns ms) (by unfold tupI; exact nofun) (by rw [row_depth]; omega) ⟨.bl _, H, I, rfl, by rw [row_lt]; exact q⟩
/-- x in t, t a tuple of data -/
def rInTD (K : PySem.W.Frag) : R2 := fun x y H Q => ∃ d ds, Dp K H x d ∧ Dp K H y (.tuple ds) ∧ SeqAt.shaped d = true ∧ SeqAt.shaped (.list ds) = true ∧ Q (.bl (ds.any fun z => PyData.eqv z d)) H
theorem op_inTD (hu : X.A.units + 65 < cLine) : OpR X (compareOp .In) (rInTD X.K) := by
  intro pins s σ H x y v u Q I rx ry h
  obtain ⟨d, ds, hd, he, sd, se, q⟩ := h
  obtain ⟨as, r1⟩ := Dp.reads I d x v hd rx
  obtain ⟨bs, r2⟩ := Dp.reads I (.tuple ds) y u he ry
  exact SeqAt.in_tuple_reads r2 r1 (SeqAt.canLay_of_shaped se) (SeqAt.canLay_of_shaped sd) (room_in_shaped sd hu) ⟨.bl _, H, I, rfl, q⟩
/-- the order of sorting -/
def leR (a b : List Int) : Bool := !decide (b < a)
def rSortR (K : PySem.W.Frag) : List V → Hp → VK → Prop := fun vs H Q => ∃ (a : Addr) (xs : List V) (rs : List (List Int)), vs = [V.ref a] ∧ SqL K H a xs ∧ DtAll K H xs (rs.map tupI) ∧ rs.length ≤ 1000 ∧ (∀ r ∈ rs, r ≠ []) ∧
  ∀ (ys : List V) (p : Addr), H p = none → DtAll K H ys ((rs.mergeSort leR).map tupI) → Q (.ref p) (upd H p (.lst ys))
theorem each_of {K : PySem.W.Frag} {H : Hp} : ∀ {rs : List (List Int)} {xs : List V} {us : List Value}, DtAll K H xs (rs.map tupI) → Vals xs us → PySem.W.EachIs (fun u r => ∃ t, u = Value.ref t ∧ SqT K H t (r.map V.int)) us rs
  | [], _, _, h, r => by
    cases h
    cases r
    exact .nil
  | b :: bs, _, _, h, r => by
    cases h with
    | cons h1 h2 =>
      cases r with
      | cons r1 r2 =>
        refine .cons ?_ (each_of h2 r2)
        cases h1 with
        | @tup a ys ds hs ha =>
          cases r1
          refine ⟨a, rfl, ?_⟩
          have e : ys = b.map V.int := by
            clear hs h2 r2
            induction b generalizing ys with
            | nil => cases ha; rfl
            | cons x b ih =>
              cases ha with
              | cons h h' =>
                cases h
                rw [List.map_cons, ← ih h']
          rw [← e]
          exact hs
theorem each_back {K : PySem.W.Frag} {H : Hp} : ∀ {rs : List (List Int)} {us : List Value}, PySem.W.EachIs (fun u r => ∃ t, u = Value.ref t ∧ SqT K H t (r.map V.int)) us rs → ∃ ys, Vals ys us ∧ DtAll K H ys (rs.map tupI)
  | [], _, .nil => ⟨[], .nil, .nil⟩
  | b :: bs, _, .cons ⟨t, e, h⟩ r => by
    obtain ⟨ys, v, d⟩ := each_back r
    subst e
    exact ⟨.ref t :: ys, .cons rfl v, .cons (.tup h (DtAll.ints b)) d⟩
theorem cr_sortR (hu : X.A.units + 64 < cLine) : CallR X (.builtin "sorted") (rSortR X.K) := by
  intro pins s σ H vs us Q I r h
  obtain ⟨a, xs, rs, rfl, hs, hd, hz, ne, q⟩ := h
  obtain ⟨its, rv, hl, hz2⟩ := I.list hs
  rw [Vals.ref1 r]
  have ea := each_of hd rv
  have er : PySem.W.EachIs (fun v b => ∃ as, Reads s.heap v (tupI b) as) its rs := ea.mono fun u b ⟨t, e, ht⟩ => by
    subst e
    exact Dp.reads I _ _ _ (dp_row ht) rfl
  have al : PySem.W.AllAlike (rs.map tupI) := fun d hd d' hd' => by
    obtain ⟨x, _, rfl⟩ := List.mem_map.mp hd
    obtain ⟨y, _, rfl⟩ := List.mem_map.mp hd'
    exact row_alike x y
  have so : PySem.W.Sortable (rs.map tupI) := .inl fun d hd => by
    obtain ⟨x, hx, rfl⟩ := List.mem_map.mp hd
    cases x with
    | nil => exact absurd rfl (ne _ hx)
    | cons i x => exact ⟨_, _, rfl⟩
  refine PySem.W.sorted_data hl.isList ea er al so (Nat.le_trans hz (by decide)) (fun b _ => by rw [row_depth]; omega) fun out hlen hout => ?_
  have eo : PySem.W.dataLe false tupI = leR := by
    rw [PySem.W.dataLe_eq]
    funext x y
    simp only [cond_false, row_lt]
    rfl
  rw [eo] at hout
  obtain ⟨ys, vy, dy⟩ := each_back hout
  obtain ⟨ep, he'⟩ := PyProof.Rows.sortedAll_at s.heap its out.toArray
  have len : ys.length ≤ sizeLine := by
    rw [vy.length, hlen]
    exact Nat.le_trans hz (by decide)
  exact ⟨.ref _, upd H (s.heap.objs.size + 1) (.lst ys), I.laid (t' := s.toks) (fun _ _ => PyProof.Rows.sortedAll_old) (Nat.le_succ _) ⟨len, out, ep, vy, he'⟩, rfl, q _ _ (I.hok.fresh (Nat.le_succ _)) dy⟩
end
end LG
/-! ### data with dicts at any place -/
namespace LG
open PySem PySem.Spec PyProof.Rows L2
mutual
inductive Dn (M : Addr → Prop) (K : PySem.W.Frag) (H : Hp) : V → PyData → Prop
  | non : Dn M K H .non .none
  | bl (b : Bool) : Dn M K H (.bl b) (.bool b)
  | int (i : Int) : Dn M K H (.int i) (.int i)
  | str (x : Str) : Dn M K H (.str x) (.str x)
  | lst {a : Addr} {xs : List V} {ds : List PyData} : ¬ M a → H a = some (.lst xs) → DnAll M K H xs ds → Dn M K H (.ref a) (.list ds)
  | tup {a : Addr} {xs : List V} {ds : List PyData} : SqT K H a xs → DnAll M K H xs ds → Dn M K H (.ref a) (.tuple ds)
  | dct {a : Addr} {kvs : List (Key × V)} {ds : List PyData} : ¬ M a → H a = some (.dK kvs) → DnAll M K H (kvs.map (·.2)) ds → Dn M K H (.ref a) (.dict ((kvs.map fun p => keyD p.1).zip ds))
inductive DnAll (M : Addr → Prop) (K : PySem.W.Frag) (H : Hp) : List V → List PyData → Prop
  | nil : DnAll M K H [] []
  | cons {v : V} {vs : List V} {d : PyData} {ds : List PyData} : Dn M K H v d → DnAll M K H vs ds → DnAll M K H (v :: vs) (d :: ds)
end
section
variable {M M' : Addr → Prop} {K : PySem.W.Frag} {H H' : Hp}
mutual
theorem Dt.dn : ∀ {v : V} {d : PyData}, Dt K H v d → Dn M K H v d
  | _, _, .non => .non
  | _, _, .bl b => .bl b
  | _, _, .int i => .int i
  | _, _, .str x => .str x
  | _, _, .tup h a => .tup h a.dn
theorem DtAll.dn : ∀ {vs : List V} {ds : List PyData}, DtAll K H vs ds → DnAll M K H vs ds
  | _, _, .nil => .nil
  | _, _, .cons h a => .cons h.dn a.dn
end
mutual
theorem Dn.stay (t : Go M H H') : ∀ {v : V} {d : PyData}, Dn M K H v d → Dn M K H' v d
  | _, _, .non => .non
  | _, _, .bl b => .bl b
  | _, _, .int i => .int i
  | _, _, .str x => .str x
  | _, _, .lst m h a => .lst m (t.out _ _ m h) (a.stay t)
  | _, _, .tup h a => .tup (t.seqT h) (a.stay t)
  | _, _, .dct m h a => .dct m (t.out _ _ m h) (a.stay t)
theorem DnAll.stay (t : Go M H H') : ∀ {vs : List V} {ds : List PyData}, DnAll M K H vs ds → DnAll M K H' vs ds
  | _, _, .nil => .nil
  | _, _, .cons h a => .cons (h.stay t) (a.stay t)
end
theorem DnAll.len : ∀ {vs : List V} {ds : List PyData}, DnAll M K H vs ds → vs.length = ds.length
  | _, _, .nil => rfl
  | _, _, .cons _ a => by rw [List.length_cons, List.length_cons, a.len]
theorem DnAll.at : ∀ {vs : List V} {ds : List PyData} {i : Nat} {d : PyData}, DnAll M K H vs ds → ds[i]? = some d → ∃ v, vs[i]? = some v ∧ Dn M K H v d
  | _, _, _, _, .nil, e => by simp at e
  | _, _, 0, _, .cons h _, e => by simp at e; subst e; exact ⟨_, rfl, h⟩
  | _, _, i + 1, d, .cons _ a, e => by simpa using a.at (i := i) (by simpa using e)
theorem DnAll.of : ∀ {vs : List V} {ds : List PyData} {i : Nat} {v : V}, DnAll M K H vs ds → vs[i]? = some v → ∃ d, ds[i]? = some d ∧ Dn M K H v d
  | _, _, _, _, .nil, e => by simp at e
  | _, _, 0, _, .cons h _, e => by simp at e; subst e; exact ⟨_, rfl, h⟩
  | _, _, i + 1, d, .cons _ a, e => by simpa using a.of (i := i) (by simpa using e)
theorem DnAll.app : ∀ {vs ws : List V} {ds es : List PyData}, DnAll M K H vs ds → DnAll M K H ws es → DnAll M K H (vs ++ ws) (ds ++ es)
  | _, _, _, _, .nil, b => b
  | _, _, _, _, .cons h a, b => .cons h (a.app b)
theorem DnAll.take : ∀ {vs : List V} {ds : List PyData} (n : Nat), DnAll M K H vs ds → DnAll M K H (vs.take n) (ds.take n)
  | _, _, 0, _ => .nil
  | _, _, _ + 1, .nil => .nil
  | _, _, n + 1, .cons h a => .cons h (a.take n)
theorem DnAll.drop : ∀ {vs : List V} {ds : List PyData} (n : Nat), DnAll M K H vs ds → DnAll M K H (vs.drop n) (ds.drop n)
  | _, _, 0, a => a
  | _, _, _ + 1, .nil => .nil
  | _, _, n + 1, .cons _ a => a.drop n
theorem DnAll.pick {xs : List V} {ds : List PyData} {i : Int} (a : DnAll M K H xs ds) (h0 : -(ds.length : Int) ≤ i) (h1 : i < (ds.length : Int)) : ∃ y e, atI xs i = some y ∧ e ∈ ds ∧ Dn M K H y e := by
  rw [← a.len] at h0 h1
  obtain ⟨j, y, hj, hy⟩ := at_any h0 h1
  obtain ⟨e, he, d⟩ := a.of hj
  exact ⟨y, e, hy, List.mem_of_getElem? he, d⟩
theorem Dn.ty {v : V} {d : PyData} (h : Dn M K H v d) : TyX K H v (.type (tyD d)) := by
  cases h with
  | non => exact .base .non
  | bl b => exact .base (.bl b)
  | int i => exact .base (.int i)
  | str x => exact .base (.str x)
  | lst _ h _ => exact tyx_lst (SqL.of h)
  | tup h _ => exact tyx_tup h
  | dct _ h _ => exact .base (.dK h)
theorem dn_tup {x : V} {ds : List PyData} (h : Dn M K H x (.tuple ds)) : ∃ a xs, x = .ref a ∧ SqT K H a xs ∧ DnAll M K H xs ds := by
  cases h with
  | tup h1 h2 => exact ⟨_, _, rfl, h1, h2⟩
theorem dn_int {x : V} {i : Int} (h : Dn M K H x (.int i)) : x = .int i := by
  cases h
  rfl
theorem dn_str {x : V} {i : Str} (h : Dn M K H x (.str i)) : x = .str i := by
  cases h
  rfl
/-- without dicts it is the library's data -/
theorem Dn.dp : ∀ (d : PyData) {v : V}, d.hasDict = false → Dn M K H v d → Dp K H v d
  | .none, _, _, .non => .non
  | .bool b, _, _, .bl _ => .bl b
  | .int i, _, _, .int _ => .int i
  | .str x, _, _, .str _ => .str x
  | .list ds, _, n, .lst _ h a => .lst (SqL.of h) (go ds (by simpa only [PyData.hasDict] using n) a)
  | .tuple ds, _, n, .tup h a => .tup h (go ds (by simpa only [PyData.hasDict] using n) a)
  | .dict _, _, n, _ => by simp [PyData.hasDict] at n
where go : ∀ (ds : List PyData) {vs : List V}, PyData.hasDictAll ds = false → DnAll M K H vs ds → DpAll K H vs ds
  | [], _, _, .nil => .nil
  | d :: ds, _, n, .cons h a => by
    simp only [PyData.hasDictAll, Bool.or_eq_false_iff] at n
    exact .cons (Dn.dp d n.1 h) (go ds n.2 a)
/-- the table of modules is no list of ours -/
def Sys (K : PySem.W.Frag) (H : Hp) : Prop := ∃ o u, H sysModules = some (.frz o u)
theorem Sys.same (s : Sys K H) (e : Same H H') : Sys K H' := by
  obtain ⟨o, u, h⟩ := s
  exact ⟨o, u, e _ _ h⟩
theorem Sys.go (s : Sys K H) (e : Go M H H') (m : ¬ M sysModules) : Sys K H' := by
  obtain ⟨o, u, h⟩ := s
  exact ⟨o, u, e.out _ _ m h⟩
theorem Sys.lst (s : Sys K H) {a : Addr} {xs : List V} (h : H a = some (.lst xs)) : sysModules ≠ a := by
  obtain ⟨o, u, e⟩ := s
  rintro rfl
  rw [e] at h
  cases h
theorem Sys.ne (s : Sys K H) {a : Addr} {xs : List V} (h : H a = some (.lst xs)) : ¬ sysModules = a := s.lst h
end
section
variable {X : Cx} {pins : List (Addr × Obj)} {σ : L2.St} {H : Hp} {s : Shared} {M : Addr → Prop}
mutual
theorem Dn.reads (I : Inv X pins σ H s) (S : Sys X.K H) : ∀ {v : V} {d : PyData}, Dn M X.K H v d → ∀ u : Value, RelV v u → ∃ as, Reads s.heap u d as ∧ sysModules ∉ as
  | _, _, .non, _, r => by
    cases r
    exact ⟨_, Reads.none, List.not_mem_nil⟩
  | _, _, .bl b, _, r => by
    cases r
    exact ⟨_, Reads.bool b, List.not_mem_nil⟩
  | _, _, .int i, _, r => by
    obtain ⟨t, rfl⟩ := r
    exact ⟨_, Reads.int i t, List.not_mem_nil⟩
  | _, _, .str x, _, r => by
    obtain ⟨t, rfl⟩ := r
    exact ⟨_, Reads.str x t, List.not_mem_nil⟩
  | _, _, .lst _ hs ha, _, r => by
    cases r
    obtain ⟨its, rv, ⟨o, n, ho, hc, _, hd⟩, _⟩ := I.list (SqL.of hs)
    obtain ⟨as, q1, q2⟩ := DnAll.reads I S ha its rv
    refine ⟨_, Reads.list ho hc hd (by simpa using q1), ?_⟩
    rw [List.mem_cons]
    rintro (e | e)
    · exact S.lst hs e
    · exact q2 e
  | _, _, .tup hs ha, _, r => by
    cases r
    obtain ⟨its, rv, ⟨o, ho, hc, n, hd⟩, _⟩ := I.tuple hs
    obtain ⟨as, q1, q2⟩ := DnAll.reads I S ha its rv
    exact ⟨_, Reads.tuple ho hc hd (by simpa using q1), q2⟩
  | _, _, .dct (a := a) (kvs := kvs) (ds := ds) _ hH ha, _, r => by
    cases r
    obtain ⟨_, sys, vs, kv, o, es, ep, ho, ex, hdat, _, ps, _⟩ := (show ObjOk X.prog X.w H s.heap a (.dK kvs) from I.hok a _ hH)
    obtain ⟨r1, r2⟩ := pairs_read kv ps
    have k1 := DtAll.bare I _ _ _ (keys_dt kvs) r1
    have len : (kvs.map fun p => keyD p.1).length = ds.length := by rw [List.length_map, ← ha.len, List.length_map]
    have z1 : ((kvs.map fun p => keyD p.1).zip ds).map (·.1) = kvs.map fun p => keyD p.1 := List.map_fst_zip (by rw [len]; exact Nat.le_refl _)
    have z2 : ((kvs.map fun p => keyD p.1).zip ds).map (·.2) = ds := List.map_snd_zip (by rw [len]; exact Nat.le_refl _)
    obtain ⟨as, q1, q2⟩ := DnAll.reads I S ha _ r2
    refine ⟨_, Reads.dict ho ex.1 hdat (by rw [z1]; exact k1) (by rw [z2]; exact q1), ?_⟩
    rw [List.mem_append, List.mem_singleton]
    rintro (e | e)
    · rw [← e] at sys
      simp at sys
    · exact q2 e
theorem DnAll.reads (I : Inv X pins σ H s) (S : Sys X.K H) : ∀ {vs : List V} {ds : List PyData}, DnAll M X.K H vs ds → ∀ us : List Value, Vals vs us → ∃ as, ReadsAll s.heap us ds as ∧ sysModules ∉ as
  | _, _, .nil, _, r => by
    cases r
    exact ⟨_, ReadsAll.nil, List.not_mem_nil⟩
  | _, _, .cons h1 h2, _, r => by
    cases r with
    | cons r1 r2 =>
      obtain ⟨as, q1, n1⟩ := Dn.reads I S h1 _ r1
      obtain ⟨bs, q2, n2⟩ := DnAll.reads I S h2 _ r2
      refine ⟨_, ReadsAll.cons q1 q2, ?_⟩
      rw [List.mem_append]
      rintro (e | e)
      · exact n1 e
      · exact n2 e
end
end
section
variable {X : Cx}
/-- repr of such data -/
def rRepN (K : PySem.W.Frag) : List V → Hp → VK → Prop := fun xs H Q => ∃ (M : Addr → Prop) (v : V) (d : PyData), xs = [v] ∧ Dn M K H v d ∧ Sys K H ∧ d.showable = true ∧ d.depth ≤ 60 ∧ d.shown.length ≤ sizeLine ∧ Q (.str d.shown) H
theorem call_repN (guard : X.A.guards = some []) (room : X.A.units + 64 < cLine) : CallR X (.builtin "repr") (rRepN X.K) := by
  intro pins s σ H xs us Q inv rel want
  obtain ⟨M, v, d, rfl, hd, S, h1, h2, h3, q⟩ := want
  cases rel with
  | cons r0 rr =>
  rename_i u us'
  cases rr
  obtain ⟨as, reads, no⟩ := Dn.reads inv S hd u r0
  have dict : d.hasDict = true → sysModules ∉ as := fun _ => no
  cases hd with
  | non =>
    cases r0
    exact PySem.P.repr_of_none ⟨.str _, H, inv.tok _, ⟨_, rfl⟩, by simpa only [PyData.shown] using q⟩
  | bl b =>
    cases r0
    refine PySem.P.repr_of_bool ⟨.str _, H, inv.tok _, ⟨_, rfl⟩, by simpa only [PyData.shown] using q⟩
  | int i =>
    obtain ⟨t, rfl⟩ := r0
    exact PySem.P.repr_of_int (by simpa [PyData.showable] using h1) ⟨.str _, H, inv.tok _, ⟨_, rfl⟩, by simpa only [PyData.shown] using q⟩
  | str x =>
    obtain ⟨t, rfl⟩ := r0
    exact PySem.P.repr_of_str ⟨.str _, H, inv.tok _, ⟨_, rfl⟩, by simpa only [PyData.shown] using q⟩ (by simpa only [PyData.shown] using h3)
  | lst _ _ _ =>
    cases r0
    exact repr_of_reads' reads h1 dict guard (by omega) (fun _ _ z => z) (fun h' u' tk keep => ⟨.str _, H, inv.kept keep, ⟨_, rfl⟩, q⟩) h3
  | tup _ _ =>
    cases r0
    exact repr_of_reads' reads h1 dict guard (by omega) (fun _ _ z => z) (fun h' u' tk keep => ⟨.str _, H, inv.kept keep, ⟨_, rfl⟩, q⟩) h3
  | dct _ _ _ =>
    cases r0
    exact repr_of_reads' reads h1 dict guard (by omega) (fun _ _ z => z) (fun h' u' tk keep => ⟨.str _, H, inv.kept keep, ⟨_, rfl⟩, q⟩) h3
end
end LG
/-! ### the end, the table of modules told apart -/
namespace LG
open PySem PySem.W PySem.Spec PyProof.Rows L2
section
variable {P : Program} {w : World} {K : PySem.W.Frag} {mg mb : Str → Option Value} {k : Nat} {fa a : Addr} {fd : FuncData} {x : Str} {sp : Sp} {s : Shared} {vs : List Value} {ns : List Int}
theorem endS_from (inK : K.In s.heap) (mains : s.heap.Ns mainGlobals mg) (blts : s.heap.Ns builtinsNs mb) (boot : ∀ y : Str, y ≠ "__name__" → mb y = bootBuiltins y) (noLim : s.heap.NoLimit) (gens : s.gens = #[])
    (obj : s.heap.get? a = some { cls := .type "list", data := .seq vs.toArray }) (room : Room k callerA) (goesF : ∀ base : Heap, K.In base → base.Ns mainGlobals mg → FnG P w K mg base k fa fd [x] sp)
    (bind : ∀ (s : Shared) (u : Value), BindsTo s fd ⟨[u], []⟩ [(x, u)]) (H : Hp) (only : ∀ b, H b = none ∨ ∃ o u, H b = some (.frz o u)) (held : HOk P w H s.heap) (alone : ∀ b, H b ≠ none → b = a ∨ b = sysModules) (away : ∀ b, H b ≠ none → K.lookup b = none)
    (want : sp [.ref a] H (fun v _ => v = .bl true) E0) :
    codeAny (model P w) callerA (.call (.ref fa) ⟨[.ref a], []⟩) (fun r s' => r = .ok (.ret (.bool true)) ∧ OldK s.heap s'.heap ∧ s'.os = s.os ∧ AllBare s'.gens) s := by
  have space : ∀ {b : Addr} {m : Str → Option Value}, b ≠ sysModules → s.heap.Ns b m → (hidT s.heap H).Ns b m := fun {b m} nb ⟨o, es, ep, e, d, more⟩ =>
    ⟨o, es, ep, hidT_get e (by
      cases q : H b with
      | none => rfl
      | some u =>
        rcases alone b (by rw [q]; exact nofun) with here | here
        · rw [here, obj] at e
          have e2 := Option.some.inj e
          rw [← e2] at d
          exact nomatch d
        · exact absurd here nb), d, more⟩
  have baseK : K.In (hidT s.heap H) := fun b o e => hidT_get (inK b o e) (by
    cases q : H b with
    | none => rfl
    | some u =>
      have no := away b (by rw [q]; exact nofun)
      rw [no] at e
      exact nomatch e)
  have lim : (hidT s.heap H).NoLimit := by
    obtain ⟨mc, h1, h2⟩ := noLim
    exact ⟨mc, space (by decide) h1, h2⟩
  have mains2 := space (by decide) mains
  have modu : Mod K mg (hidT s.heap H) := ⟨baseK, mains2, ⟨mb, space (by decide) blts, boot⟩, lim⟩
  have e0 : Env0 P w K mg (hidT s.heap H) callerA [] s H := ⟨rfl, modu, fun _ _ e => of_hidT e, Nat.le_of_eq (hidT_size _ _), trivial, (fun _ hb => absurd (show _ ∈ ([] : List Addr) from hb) List.not_mem_nil), held, .of_eq gens⟩
  refine codeAny_mono ((goesF _ baseK mains2).goes callerA [] s H [.ref a] [.ref a] _ E0 rfl room e0 (bind s (.ref a)) (.cons rfl .nil) want) fun r s' got => ?_
  cases r with
  | error _ => exact False.elim got
  | ok flow =>
  cases flow with
  | next => exact False.elim got
  | brk => exact False.elim got
  | cont => exact False.elim got
  | ret u =>
    obtain ⟨v, H', sameOs, bare, un, held', rel, yes⟩ := got
    have yes' : v = .bl true := yes
    subst yes'
    obtain rfl : u = Value.bool true := rel
    refine ⟨rfl, OldK.of_keep fun b o e => ?_, sameOs, bare⟩
    rcases only b with free | ⟨ob, xs, fz⟩
    · exact un.keep b o e free (fun z => nomatch z) (fun z => nomatch z)
    · obtain ⟨e1, _⟩ := held b _ fz
      obtain ⟨e2, _⟩ := held' b _ (un.frzs b ob _ fz)
      rw [e2, ← e1, e]
theorem endS_call (inK : K.In s.heap) (mains : s.heap.Ns mainGlobals mg) (blts : s.heap.Ns builtinsNs mb) (boot : ∀ y : Str, y ≠ "__name__" → mb y = bootBuiltins y) (noLim : s.heap.NoLimit) (gens : s.gens = #[])
    (obj : s.heap.get? a = some { cls := .type "list", data := .seq vs.toArray }) (numbs : PyProof.Rows.IntsAre vs ns) (small : ns.length ≤ sizeLine) (room : Room k callerA) (sysK : K.lookup sysModules = none) (seer : s.heap.NoSeer)
    (goesF : ∀ base : Heap, K.In base → base.Ns mainGlobals mg → FnG P w K mg base k fa fd [x] sp) (bind : ∀ (s : Shared) (u : Value), BindsTo s fd ⟨[u], []⟩ [(x, u)])
    (want : ∀ H : Hp, Sys K H → SqL K H a (ns.map V.int) → sp [.ref a] H (fun v _ => v = .bl true) E0) :
    codeAny (model P w) callerA (.call (.ref fa) ⟨[.ref a], []⟩) (fun r s' => r = .ok (.ret (.bool true)) ∧ OldK s.heap s'.heap ∧ s'.os = s.os ∧ AllBare s'.gens) s := by
  have rel := vals_ints numbs
  obtain ⟨ob, hob⟩ : ∃ ob, s.heap.get? sysModules = some ob := by
    obtain ⟨mm, ⟨o, es, ep, e, _⟩, _⟩ := seer.mods
    exact ⟨o, e⟩
  let two : Hp := fun b => if b = a ∧ K.lookup a = none then some (.frz { cls := .type "list", data := .seq vs.toArray } (.lst (ns.map V.int))) else if b = sysModules then some (.frz ob (.ext fun h => h.get? sysModules = some ob)) else none
  have only : ∀ b, two b = none ∨ ∃ o u, two b = some (.frz o u) := fun b => by
    by_cases h1 : b = a ∧ K.lookup a = none
    · exact .inr ⟨_, _, if_pos h1⟩
    · by_cases h2 : b = sysModules
      · exact .inr ⟨_, _, (if_neg h1).trans (if_pos h2)⟩
      · exact .inl ((if_neg h1).trans (if_neg h2))
  have alone : ∀ b, two b ≠ none → b = a ∨ b = sysModules := fun b h => by
    by_cases h1 : b = a ∧ K.lookup a = none
    · exact .inl h1.1
    · by_cases h2 : b = sysModules
      · exact .inr h2
      · exact absurd ((if_neg h1).trans (if_neg h2)) h
  have away : ∀ b, two b ≠ none → K.lookup b = none := fun b h => by
    by_cases h1 : b = a ∧ K.lookup a = none
    · rw [h1.1]
      exact h1.2
    · by_cases h2 : b = sysModules
      · rw [h2]
        exact sysK
      · exact absurd ((if_neg h1).trans (if_neg h2)) h
  have held : HOk P w two s.heap := fun b u z => by
    by_cases h1 : b = a ∧ K.lookup a = none
    · have e : two b = _ := if_pos h1
      rw [e] at z
      obtain rfl := Option.some.inj z
      rw [h1.1]
      exact ⟨obj, by rw [List.length_map]; exact small, vs, _, rel, obj⟩
    · by_cases h2 : b = sysModules
      · have e : two b = _ := (if_neg h1).trans (if_pos h2)
        rw [e] at z
        obtain rfl := Option.some.inj z
        rw [h2]
        exact ⟨hob, hob, ⟨_, hob⟩, fun h1 h2 e k => k _ e⟩
      · have e : two b = _ := (if_neg h1).trans (if_neg h2)
        rw [e] at z
        cases z
  have sys : Sys K two := by
    by_cases h1 : sysModules = a ∧ K.lookup a = none
    · exact ⟨_, _, if_pos h1⟩
    · exact ⟨_, _, (if_neg h1).trans (if_pos rfl)⟩
  refine endS_from inK mains blts boot noLim gens obj room goesF bind two only held alone away (want two sys ?_)
  cases hk : K.lookup a with
  | some o =>
    have e := inK a o hk
    rw [obj] at e
    obtain rfl := Option.some.inj e
    exact Or.inr ⟨_, vs.toArray, _, hk, rfl, rfl, rfl, by rw [List.size_toArray, numbs.length]; exact small, by simpa using rel⟩
  | none => exact .inl (.inr ⟨_, if_pos ⟨rfl, hk⟩⟩)
end
theorem walk_S {l : PySem.W.OpenLaw} {n k : Nat} {q : Program} {loose : List Str} {XP : (Str → Option Value) → Heap → Prop} {YP : World → Heap → Prop} {d : DefRec} {K : Params → PySem.W.Frag} {sp : PySem.W.Frag → Sp} {x : Str}
    (hn : l.most = some n) (small : n ≤ sizeLine) (plain : d.params.defaults = []) (room : Room k callerA) (hq : importsNone q = true) (hY : ∀ (w : World) (h : Heap), YP w h → (K w.params).In h)
    (F : ∀ (w : World) (mg : Str → Option Value) (fa : Addr) (h : Heap), (K w.params).In h → h.Ns mainGlobals mg → mg d.name = some (.ref fa) →
      ∃ fd : FuncData, (K w.params).lookup sysModules = none ∧ (∀ (s : Shared) (u : Value), BindsTo s fd ⟨[u], []⟩ [(x, u)]) ∧ ∀ base : Heap, (K w.params).In base → base.Ns mainGlobals mg → FnG l.prog w (K w.params) mg base k fa fd [x] (sp (K w.params)))
    (want : ∀ (K : PySem.W.Frag) (H : Hp) (a : Addr) (ns : List Int), ns.length ≤ n → Sys K H → SqL K H a (ns.map V.int) → sp K [.ref a] H (fun v _ => v = .bl true) E0) :
    PySem.W.WalkO q loose XP YP l.row.toRowW d [] (fun f vs => PySem.call f vs) := by
  refine Att.attach_call hn plain fun w s0 s1 mg mb fa o pm cd doc a vs ns ground told ho hd hcd hmg obj numbs many gens => ?_
  have inK := hY w _ told
  obtain ⟨fd, sysK, bind, goesF⟩ := F w mg fa _ inK ground.T.g hmg
  exact endS_call inK ground.T.g ground.T.b ground.T.builtins ground.T.nolimit gens obj numbs (Nat.le_trans many small) room sysK (ground.T.seer hq) goesF bind fun H S held => want (K w.params) H a ns many S held
end LG
/-! ### enumerate of a tuple, from 0 or from a count given by its name -/
namespace LG
open PySem PySem.Spec PyProof.Rows L2
/-- the tuple at a as it stands at each turn, each item in a new pair, counted from c -/
def IteT (K : PySem.W.Frag) (a : Addr) (c : Nat) : It :=
  ⟨fun i H => ∃ (xs : List V) (x : V), SqT K H a xs ∧ xs[i]? = some x, fun i H v H' => ∃ T x, v = .ref T ∧ H T = none ∧ H' = upd H T (.tup [.int ((c + i : Nat) : Int), x]) ∧ ∀ xs, SqT K H a xs → xs[i]? = some x, fun i H => ∃ xs : List V, SqT K H a xs ∧ xs.length = i⟩
theorem tuple_apart {h : Heap} {it a b : Addr} {i : Nat} {items : Array Value} (x : h.IsTupleIter it b i) (y : h.IsTuple a items) : a ≠ it := by
  rintro rfl
  obtain ⟨o, e, c, _⟩ := x
  obtain ⟨o2, e2, c2, _⟩ := y
  rw [e] at e2
  cases e2
  rw [c] at c2
  simp at c2
theorem enum_apart {h : Heap} {it a e : Addr} {i : Int} {old : Value} {items : Array Value} (x : IsEnum h e it i old) (y : h.IsTuple a items) : e ≠ a := by
  rintro rfl
  obtain ⟨o2, e2, c2, _⟩ := y
  rw [x] at e2
  cases e2
  simp at c2
theorem turn_enumT {P : Program} {w : World} {K : PySem.W.Frag} {elts : List Expr} {kk : Nat} {tpos : Pos} (a e it : Addr) (c : Nat) :
    Turn P w K (.Tuple elts kk tpos) (IteT K a c) [e, it] e (fun i h => (∃ old, IsEnum h e it ((c + i : Nat) : Int) old) ∧ h.IsTupleIter it a i ∧ e ≠ it) where
  mem := by simp
  obj := fun i h st b hb => by
    obtain ⟨⟨old, he⟩, ⟨o, ho, hc, hd⟩, _⟩ := st
    rcases List.mem_cons.mp hb with z | z
    · rw [z]; exact ⟨_, he, fun v q => nomatch q⟩
    · rw [List.mem_singleton.mp z]; exact ⟨o, ho, fun v q => by rw [hd] at q; cases q⟩
  keep := fun i h h' st k => let ⟨⟨old, he⟩, hi, hne⟩ := st; ⟨⟨old, k e (by simp) _ he⟩, hi.at fun o q => k it (by simp) o q, hne⟩
  item := by
    intro X hP hw hK hc i pins s σ H E I hf st hg
    subst hP hw hK
    obtain ⟨⟨old, he⟩, hit, hne⟩ := st
    obtain ⟨xs, x, hq, hx⟩ := hg
    obtain ⟨its, rv, p, hz⟩ := I.tuple hq
    obtain ⟨u, hu, ru⟩ := rv.get hx
    have hel : e < s.heap.objs.size := Heap.lt_size he
    have hil : it < s.heap.objs.size := by obtain ⟨_, q, _⟩ := hit; exact Heap.lt_size q
    have na := tuple_apart hit p
    have ne' := enum_apart he p
    have hh : X.A.in1.handled = none := I.ok.hd hc
    have il : i < its.toArray.size := by
      have := (List.getElem?_eq_some_iff.mp hu).1
      simpa using this
    refine wpAny_pyNext_enum_itemC (Draws.tuple (prog := X.prog) (w := X.w) hh it a na its.toArray) he ⟨hit, p⟩ il hne (by simp [hne, ne']) fun y h' tk hy ho st' hT hsz hk => ?_
    obtain ⟨hit', _⟩ := st'
    have hy : its.toArray[i]? = some y := hy
    obtain rfl : y = u := by
      have q : its.toArray[i]? = some u := by simpa using hu
      rw [hy] at q
      exact Option.some.inj q
    refine ⟨_, rfl, wpAny_letOwnedTupleGo_enum (s := { s with heap := h', toks := tk + 1 }) ho fun h'' he' sb => ?_⟩
    have hT2 := (sb.2 _ (Nat.ne_of_gt hel)).trans hT
    have new : ObjOk X.prog X.w (upd H s.heap.objs.size (.tup [.int ((c + i : Nat) : Int), x])) h'' s.heap.objs.size (.tup [.int ((c + i : Nat) : Int), x]) :=
      ⟨by show 2 ≤ sizeLine; decide, _, .cons ⟨tk, rfl⟩ (.cons ru .nil), ⟨_, hT2, rfl, _, rfl⟩⟩
    have I1 : Inv X pins σ (upd H s.heap.objs.size (.tup [.int ((c + i : Nat) : Int), x])) { s with heap := h'', toks := tk + 1 } :=
      I.turnedNew (ch := [e, it]) (fun b ob hb q => (sb.2 b (fun z => hb (by simp [z]))).trans (hk b ob (fun z => hb (by simp [z])) (fun z => hb (by simp [z])) q)) hf (Nat.le_refl _) new
    refine ⟨.ref s.heap.objs.size, _, I1, rfl, ⟨_, x, rfl, I.hok.fresh (Nat.le_refl _), rfl, fun ys hy => by rw [I.tuple_inj hy hq]; exact hx⟩, ⟨⟨y, ?_⟩, hit'.at fun o q => (sb.2 it (Ne.symm hne)).trans q, hne⟩, fun b hb => ?_⟩
    · rw [show ((c + (i + 1) : Nat) : Int) = ((c + i : Nat) : Int) + 1 by omega]
      exact he'
    · have hb' : b < s.heap.objs.size := by
        rcases List.mem_cons.mp hb with z | z
        · rw [z]; exact hel
        · rw [List.mem_singleton.mp z]; exact hil
      rw [upd_ne (Nat.ne_of_lt hb')]
      exact (hf b hb).1
  done := by
    intro X hP hw hK hc i pins s σ H E I hf st hg
    subst hP hw hK
    obtain ⟨⟨old, he⟩, hit, hne⟩ := st
    obtain ⟨xs, hq, hx⟩ := hg
    obtain ⟨its, rv, p, hz⟩ := I.tuple hq
    obtain ⟨f0, f1, f2, f3, f4, f5⟩ := hf it (by simp)
    have hl := rv.length
    have hh : X.A.in1.handled = none := I.ok.hd hc
    have na := tuple_apart hit p
    have ei : i = its.toArray.size := by simp; omega
    refine wpAny_pyNext_enum_endD (Draws.tuple (prog := X.prog) (w := X.w) hh it a na its.toArray) he ⟨by rw [← ei]; exact hit, p⟩ fun h' eb => ⟨rfl, I.turned (t' := s.toks) (fun b o hb q => eb b o hb q) f0 f1 f3 f4 f5⟩
  self := fun A i s Q E st h => let ⟨⟨_, he⟩, _⟩ := st; wpAny_pyIter_enum he h
set_option maxHeartbeats 1000000 in
theorem meets_enumT {v : Value} {o : Obj} {H : Heap → Prop} (B : Begins v o H) :
    Meets (Builtin.«enumerate.__new__» ⟨[.type "enumerate", v], []⟩) (fun _ R s => H s.heap ∧
      R (.ok (.ret (.ref (s.heap.push o).objs.size))) { s with heap := (s.heap.push o).push { cls := .type "enumerate", data := .fields #[.none, .bool false, .ref s.heap.objs.size, rawInt 0, .none, .none] } }) :=
  .of_wp fun prog w A R s h => by
    obtain ⟨hp, g, d, tk, os⟩ := s
    obtain ⟨h1, h⟩ := h
    have hsub := sub_enumerate
    have q1 : ∀ {A' : Around} {E : Value → Shared → Prop} {Q : Value → Shared → Prop}, Q (.ref hp.objs.size) ⟨hp.push o, g, d, tk, os⟩ → wpAny (model prog w) A' (pyIter v) Q E ⟨hp, g, d, tk, os⟩ :=
      fun q => B.iter prog w _ _ ⟨hp, g, d, tk, os⟩ _ h1 q
    wp_walk using q1
    refine wpAny_stack_any fun st => wpAny_pure ?_
    split
    · rename_i c _ _ _ _ _
      cases (c == Value.type "enumerate") <;> (wp_walk using q1; exact ⟨_, rfl, h⟩)
    · wp_walk using q1
      exact ⟨_, rfl, h⟩
theorem enum_beginsT {M0 : Program} {w : World} {A : Around} {E : Value → Shared → Prop} {s : Shared} {v : Value} {o : Obj} {H : Heap → Prop} {Q : Value → Shared → Prop} (B : Begins v o H) (h1 : H s.heap)
    (h : ∀ h', IsEnum h' (s.heap.objs.size + 1) s.heap.objs.size 0 .none → h'.get? s.heap.objs.size = some o → h'.objs.size = s.heap.objs.size + 2 →
      (∀ b o, s.heap.get? b = some o → h'.get? b = some o) → Q (.ref (s.heap.objs.size + 1)) { s with heap := h' }) :
    wpAny (model M0 w) A (call (.type "enumerate") [v]) Q E s := by
  refine callType_new F.called_enumerate (by decide) (F.typeCall_enumerate_1 _) (F.newCall_enumerate_1 _) (fun obj => F.args_object_init_2 obj _) F.entry_enumerate_new (meets_enumT B) ⟨h1, ?_⟩
  have hz : (s.heap.push o).objs.size = s.heap.objs.size + 1 := Heap.size_push ..
  show _ ∧ _
  rw [hz]
  have he := Heap.get?_push_size (s.heap.push o) (o := { cls := .type "enumerate", data := .fields #[.none, .bool false, .ref s.heap.objs.size, rawInt 0, .none, .none] }) rfl
  rw [hz] at he
  exact ⟨⟨_, he, rfl⟩, h _ he (Heap.get?_push_of_some _ (Heap.get?_push_size _ B.free)) (by rw [Heap.size_push, hz]) fun b o x => Heap.get?_push_of_some _ (Heap.get?_push_of_some _ x)⟩
def iEnT (K : PySem.W.Frag) (ta : TA) : TI := fun σ H R => ta σ H fun vs H1 => ∃ a xs, vs = [.ref a] ∧ SqT K H1 a xs ∧ R (IteT K a 0) H1
def iEnTS (K : PySem.W.Frag) (ta tk : TA) : TI := fun σ H R => ta σ H fun vs H1 => tk σ H1 fun zs H2 => ∃ a xs c, vs = [.ref a] ∧ zs = [.int ((c : Nat) : Int)] ∧ c ≤ 1000 ∧ SqT K H2 a xs ∧ R (IteT K a c) H2
section
variable {X : Cx} {e : Expr} {ta tk : TA} {p pos tpos : Pos} {elts : List Expr} {kk : Nat} {kws : List Keyword}
theorem pi_enT (hg : Gl X "enumerate") (hm : X.mg "enumerate" = none) (ha : PA X [e] ta) (hs : starEach [e] X.env = [(false, eval e X.env)] := by rfl) :
    PI X (.Tuple elts kk tpos) (.Call (.Name "enumerate" p) [e] [] pos) (iEnT X.K ta) := by
  refine ⟨fun pins s σ H R I h => ?_⟩
  refine Call_ (ld_blt I hg hm boot_enumerate (PyProof.Rows.callWith_type1 (thn (ha.run pos pins s σ H _ I h) fun us s1 ⟨vs, H1, I1, r1, q1⟩ => ?_) hs rfl))
  obtain ⟨a, xs, rfl, hq, q⟩ := q1
  rw [Vals.ref1 r1]
  obtain ⟨its, rv, p', hz⟩ := I1.tuple hq
  refine enum_beginsT (begins_tuple a its.toArray) p' fun h' he hit hsz hk => wpAny_pyIter_enum he ?_
  have I2 : Inv X pins σ H1 { s1 with heap := h' } := I1.kept (t' := s1.toks) hk
  refine ⟨s1.heap.objs.size + 1, [s1.heap.objs.size + 1, s1.heap.objs.size], _, _, H1, rfl, I2, turn_enumT a (s1.heap.objs.size + 1) s1.heap.objs.size 0, ⟨⟨.none, he⟩, ⟨_, hit, rfl, rfl⟩, Nat.succ_ne_self _⟩, fun b hb => ?_, q⟩
  have hle : s1.heap.objs.size ≤ b := by
    rcases List.mem_cons.mp hb with z | z
    · rw [z]; exact Nat.le_add_right _ _
    · rw [List.mem_singleton.mp z]; exact Nat.le_refl _
  exact I1.fpOk hle (I1.hok.fresh hle)
theorem pi_enTS (hg : Gl X "enumerate") (hm : X.mg "enumerate" = none) (ha : PA X [e] ta) (hkw : PK X kws tk) (hall : (backToKw pos (keywordEach kws X.env)).all (·.1.isSome) = true := by rfl)
    (hks : (backToKw pos (keywordEach kws X.env)).filterMap (·.1) = [Str.ofString "start"] := by rfl) (he : starEach [e] X.env = (false, eval e X.env) :: starEach [] X.env := by rfl)
    (hpl : ((backTo pos (starEach [e] X.env)).any (·.1) || (backToKw pos (keywordEach kws X.env)).any (·.1.isNone)) = false := by rfl) :
    PI X (.Tuple elts kk tpos) (.Call (.Name "enumerate" p) [e] kws pos) (iEnTS X.K ta tk) := by
  refine ⟨fun pins s σ H R I h => ?_⟩
  refine wpAny_Call_Name_kw (ld_blt I hg hm boot_enumerate ?_)
  refine PySem.W.callWith_of (P := fun _ => True) hpl (fun _ _ => ⟨.machine, .inr (.inl rfl), .now⟩) (evalArgs_kw2 hall (thn (ha.run pos pins s σ H _ I h) fun us s1 ⟨vs, H1, I1, r, q⟩ => ?_) he)
  refine thn (hkw.run pos pins s1 σ H1 _ I1 q) fun ws s2 ⟨zs, H2, I2, rz, q2⟩ => ⟨trivial, ?_⟩
  rw [hks]
  obtain ⟨a, xs, c, rfl, rfl, few, hq, q⟩ := q2
  rw [Vals.ref1 r]
  cases rz with
  | cons r0 rr =>
  cases rr
  obtain ⟨t, rfl⟩ := r0
  obtain ⟨its, rv, p', hz⟩ := I2.tuple hq
  refine enum_begins_start (begins_tuple a its.toArray) p' (by omega) (by omega) fun h' he hit hsz hk => wpAny_pyIter_enum he ?_
  have I3 : Inv X pins σ H2 { s2 with heap := h' } := I2.kept (t' := s2.toks) hk
  refine ⟨s2.heap.objs.size + 1, [s2.heap.objs.size + 1, s2.heap.objs.size], _, _, H2, rfl, I3, turn_enumT a (s2.heap.objs.size + 1) s2.heap.objs.size c, ⟨⟨.none, he⟩, ⟨_, hit, rfl, rfl⟩, Nat.succ_ne_self _⟩, fun b hb => ?_, q⟩
  have hle : s2.heap.objs.size ≤ b := by
    rcases List.mem_cons.mp hb with z | z
    · rw [z]; exact Nat.le_add_right _ _
    · rw [List.mem_singleton.mp z]; exact Nat.le_refl _
  exact I2.fpOk hle (I2.hok.fresh hle)
end
end LG
/-! ### steps of a reading, one at a time -/
namespace LG
open PySem PySem.Spec PyProof.Rows L2
section
variable {σ : L2.St} {H : Hp} {Q : VK} {K : PySem.W.Frag} {n b c : L2.St → Hp → Prop} {r : VK}
theorem st_seq {t u : TS} (h : t ⟨u ⟨n, r, b, c⟩, r, b, c⟩ σ H) : tSeq t u ⟨n, r, b, c⟩ σ H := h
theorem st_next (h : n σ H) : tNext ⟨n, r, b, c⟩ σ H := h
theorem st_break (h : b σ H) : tBreak ⟨n, r, b, c⟩ σ H := h
theorem st_cont (h : c σ H) : tCont ⟨n, r, b, c⟩ σ H := h
theorem st_drop {te : TE} (h : te σ H fun _ H1 => n σ H1) : tDrop te ⟨n, r, b, c⟩ σ H := h
theorem st_ret {te : TE} (h : te σ H r) : tRet te ⟨n, r, b, c⟩ σ H := h
theorem st_retN (h : r .non H) : tRetN ⟨n, r, b, c⟩ σ H := h
theorem st_if {tc : TT} {t u : TS} (h : tc σ H fun k H1 => if k = true then t ⟨n, r, b, c⟩ σ H1 else u ⟨n, r, b, c⟩ σ H1) : tIfS tc t u ⟨n, r, b, c⟩ σ H := h
theorem st_asg {te : TE} {g : TG} (h : te σ H fun x H1 => g x σ H1 n) : tAsg te g ⟨n, r, b, c⟩ σ H := h
theorem st_name {i : Nat} {v : V} {q : L2.St → Hp → Prop} (h : q (σ.set i (some v)) H) : gName i v σ H q := h
theorem st_gnil {q : L2.St → Hp → Prop} (h : q σ H) : gNil [] σ H q := ⟨rfl, h⟩
theorem st_gcons {t : TG} {u : TGs} {v : V} {vs : List V} {q : L2.St → Hp → Prop} (h : t v σ H fun σ' H' => u vs σ' H' q) : gCons t u (v :: vs) σ H q := ⟨v, vs, rfl, h⟩
theorem st_gtup {m : Nat} {t : TGs} {a : Addr} {xs : List V} {q : L2.St → Hp → Prop} (hx : SqT K H a xs) (hl : xs.length = m) (h : t xs σ H q) : gTup K m t (.ref a) σ H q := ⟨a, xs, rfl, hx, hl, h⟩
theorem st_gsub {to ti : TE} {t : TSet} {v : V} {q : L2.St → Hp → Prop} (h : to σ H fun o H1 => ti σ H1 fun i H2 => t o i v H2 fun H3 => q σ H3) : gSub to ti t v σ H q := h
theorem st_aug {i : Nat} {te : TE} {ti : TIp} {x : V} (hx : σ[i]? = some (some x)) (h : te σ H fun y H1 => ti x y H1 fun z H2 => n (σ.set i (some z)) H2) : tAug i te ti ⟨n, r, b, c⟩ σ H := ⟨x, hx, h⟩
theorem st_var {i : Nat} {v : V} (hx : σ[i]? = some (some v)) (h : Q v H) : tVar i σ H Q := ⟨v, hx, h⟩
theorem st_c {v : V} (h : Q v H) : tC v σ H Q := h
theorem st_op {f : R2} {ta tb : TE} (h : ta σ H fun x H1 => tb σ H1 fun y H2 => f x y H2 Q) : tOp f ta tb σ H Q := h
theorem st_un {f : V → Hp → VK → Prop} {ta : TE} (h : ta σ H fun x H1 => f x H1 Q) : tUn f ta σ H Q := h
theorem st_test {t : TE} {q : Bool → Hp → Prop} (h : t σ H fun x H' => ∃ k, x = .bl k ∧ q k H') : tTest t σ H q := h
theorem st_B {t : TE} {q : Bool → Hp → Prop} (h : t σ H fun x H' => ∃ k, x = .bl k ∧ q k H') : tB t σ H q := h
theorem st_ex {k : Bool} {p : Bool → Prop} (h : p k) : ∃ k', V.bl k = .bl k' ∧ p k' := ⟨k, rfl, h⟩
theorem st_and {t u : TT} {q : Bool → Hp → Prop} (h : t σ H fun k H1 => if k = true then u σ H1 q else q false H1) : tAnd t u σ H q := h
theorem st_or {t u : TT} {q : Bool → Hp → Prop} (h : t σ H fun k H1 => if k = true then q true H1 else u σ H1 q) : tOr t u σ H q := h
theorem st_not {t : TT} {q : Bool → Hp → Prop} (h : t σ H fun k H1 => q (!k) H1) : tNot t σ H q := h
theorem st_andV {ta tb : TE} (h : ta σ H fun x H1 => ∃ k, x = .bl k ∧ if k = true then tb σ H1 Q else Q (.bl false) H1) : tAndV ta tb σ H Q := h
theorem st_orV {ta tb : TE} (h : ta σ H fun x H1 => ∃ k, x = .bl k ∧ if k = true then Q (.bl true) H1 else tb σ H1 Q) : tOrV ta tb σ H Q := h
theorem st_notV {ta : TE} (h : ta σ H fun x H1 => ∃ k, x = .bl k ∧ Q (.bl (!k)) H1) : tNotV ta σ H Q := h
theorem st_ife {t : TT} {ta tb : TE} (h : t σ H fun k H1 => if k = true then ta σ H1 Q else tb σ H1 Q) : L2.tIf t ta tb σ H Q := h
theorem st_isN {ta : TE} (h : ta σ H fun x H1 => Q (.bl (decide (x = .non))) H1) : tIsN ta σ H Q := h
theorem st_notN {ta : TE} (h : ta σ H fun x H1 => Q (.bl (!decide (x = .non))) H1) : tNotN ta σ H Q := h
theorem st_chain {f g : R2} {ta tb tc : TE} (h : ta σ H fun x H1 => tb σ H1 fun y H2 => f x y H2 fun z H3 => ∃ k, z = .bl k ∧ (if k = true then tc σ H3 fun w' H4 => g y w' H4 Q else Q (.bl false) H3)) : tChain f g ta tb tc σ H Q := h
theorem st_tup {t : TA} (h : t σ H fun xs H1 => xs.length ≤ sizeLine ∧ ∀ p, H1 p = none → Q (.ref p) (upd H1 p (.tup xs))) : tTup t σ H Q := h
theorem st_lst {t : TA} (h : t σ H fun xs H1 => xs.length ≤ sizeLine ∧ ∀ p, H1 p = none → Q (.ref p) (upd H1 p (.lst xs))) : tLst t σ H Q := h
theorem st_cons {ta : TE} {tr : TA} {q : List V → Hp → Prop} (h : ta σ H fun x H1 => tr σ H1 fun xs H2 => q (x :: xs) H2) : tCons ta tr σ H q := h
theorem st_nil {q : List V → Hp → Prop} (h : q [] H) : tNil σ H q := h
theorem st_CB {f : List V → Hp → VK → Prop} {t : TA} (h : t σ H fun vs H1 => f vs H1 Q) : tCB f t σ H Q := h
theorem st_call {sp : Sp} {dvs : List V} {E : XK} {t : TA} (h : t σ H fun vs H1 => sp (vs ++ dvs) H1 Q E) : tCall sp dvs E t σ H Q := h
theorem st_BM {T : String} {f : V → List V → Hp → VK → Prop} {to : TE} {t : TA} (h : to σ H fun x H1 => tyV K T x H1 ∧ t σ H1 fun xs H2 => f x xs H2 Q) : tBM K T f to t σ H Q := h
theorem st_BM0 {T : String} {f : V → List V → Hp → VK → Prop} {to : TE} (h : to σ H fun x H1 => tyV K T x H1 ∧ f x [] H1 Q) : tBM0 K T f to σ H Q := h
theorem st_sl {f : V → Option Int → Option Int → Hp → VK → Prop} {te : TE} {tl th : TO} (h : te σ H fun x H1 => tl σ H1 fun l H2 => th σ H2 fun u H3 => f x l u H3 Q) : tSl f te tl th σ H Q := h
theorem st_noPart {q : Option Int → Hp → Prop} (h : q none H) : tNoPart σ H q := h
theorem st_part {t : TE} {q : Option Int → Hp → Prop} (h : t σ H fun x H1 => ∃ i, x = .int i ∧ q (some i) H1) : tPart t σ H q := h
theorem st_exi {i : Int} {p : Int → Prop} (h : p i) : ∃ j, V.int i = .int j ∧ p j := ⟨i, rfl, h⟩
theorem st_I0 {g : Int → Int → V} {i j : Int} (h : Q (g i j) H) : rI0 g (.int i) (.int j) H Q := ⟨i, j, rfl, rfl, h⟩
theorem st_I {C : Int → Int → Prop} {g : Int → Int → V} {i j : Int} (hc : C i j) (h : Q (g i j) H) : rI C g (.int i) (.int j) H Q := ⟨i, j, rfl, rfl, hc, h⟩
theorem st_add {i j : Int} (h : Q (.int (i + j)) H) : L2.rAdd (.int i) (.int j) H Q := ⟨i, j, rfl, rfl, h⟩
theorem st_sub {i j : Int} (h : Q (.int (i - j)) H) : L2.rSub (.int i) (.int j) H Q := ⟨i, j, rfl, rfl, h⟩
theorem st_U {g : Int → V} {i : Int} (h : Q (g i) H) : rU g (.int i) H Q := ⟨i, rfl, h⟩
theorem st_eq {x y : V} (hs : scal x y = true) (h : Q (.bl (decide (x = y))) H) : rEq x y H Q := ⟨hs, h⟩
theorem st_ne {x y : V} (hs : scal x y = true) (h : Q (.bl (!decide (x = y))) H) : rNe x y H Q := ⟨hs, h⟩
theorem st_list {tl : TE} {R : It → Hp → Prop} (h : tl σ H fun x H1 => ∃ a, x = .ref a ∧ (∃ xs, SqL K H1 a xs) ∧ R (Itl K a) H1) : iList K tl σ H R := h
theorem st_itup {tl : TE} {R : It → Hp → Prop} (h : tl σ H fun x H1 => ∃ a, x = .ref a ∧ (∃ xs, SqT K H1 a xs) ∧ R (Itt K a) H1) : iTup K tl σ H R := h
theorem st_rng1 {ta : TA} {R : It → Hp → Prop} (h : ta σ H fun vs H1 => ∃ j : Int, vs = [.int j] ∧ -(2 ^ 62) ≤ j ∧ j < 2 ^ 62 ∧ R (Itr 0 j.toNat) H1) : iRng1 ta σ H R := h
theorem st_rng2 {ta : TA} {R : It → Hp → Prop} (h : ta σ H fun vs H1 => ∃ i j : Int, vs = [.int i, .int j] ∧ (-(2 ^ 62) ≤ i ∧ i < 2 ^ 62 ∧ -(2 ^ 62) ≤ j ∧ j < 2 ^ 62) ∧ R (Itr i (j - i).toNat) H1) : iRng2 ta σ H R := h
theorem st_lc {wi : TI} {g : TG} {tt : TT} {te : TE} {vs : List Nat} (h : wi σ H fun J H1 => ∀ D, H1 D = none → ∃ W : Nat → Nat → Hp → Prop, (∃ m, W 0 m (upd H1 D (.lst []))) ∧ ∀ i m H, W i m H →
    (J.stop i H ∧ Q (.ref D) H) ∨ (J.go i H ∧ ∃ Nx : Hp → Prop, (∀ H', Nx H' → ∃ m', m' < m ∧ W (i + 1) m' H') ∧ ∀ x H', J.yld i H x H' → g x (wipe σ vs) H' fun σ2 H2 => wipe σ2 vs = wipe σ vs ∧ tt σ2 H2 fun b H3 =>
      if b = true then te σ2 H3 fun y H4 => ∃ acc, H4 D = some (.lst acc) ∧ acc.length < sizeLine ∧ Nx (upd H4 D (.lst (acc ++ [y]))) else Nx H3)) : tLc wi g tt te vs σ H Q := h
theorem st_for {wi : TI} {g : TG} {tb : TS} (h : wi σ H fun J H1 => ∃ W : Nat → Nat → L2.St → Hp → Prop, (∃ m, W 0 m σ H1) ∧ ∀ i m σ H, W i m σ H →
    (J.stop i H ∧ n σ H) ∨ (J.go i H ∧ ∃ N : L2.St → Hp → Prop, (∀ σ' H', N σ' H' → ∃ m', m' < m ∧ W (i + 1) m' σ' H') ∧ ∀ x H', J.yld i H x H' → g x σ H' fun σ2 H2 => tb ⟨N, r, n, N⟩ σ2 H2)) : tFor wi g tb ⟨n, r, b, c⟩ σ H := h
theorem st_yes {q : Bool → Hp → Prop} (h : q true H) : tYes σ H q := h
theorem st_wipe {σ1 σ2 : L2.St} {vs : List Nat} {A : Prop} (e : wipe σ1 vs = wipe σ2 vs) (h : A) : wipe σ1 vs = wipe σ2 vs ∧ A := ⟨e, h⟩
theorem st_rj {j : Int} {R : Int → Prop} (h1 : -(2 ^ 62) ≤ j) (h2 : j < 2 ^ 62) (h : R j) : ∃ k : Int, [V.int j] = [.int k] ∧ -(2 ^ 62) ≤ k ∧ k < 2 ^ 62 ∧ R k := ⟨j, rfl, h1, h2, h⟩
theorem st_rb {j : Int} {A : Prop} (h1 : -(2 ^ 62) ≤ j) (h2 : j < 2 ^ 62) (h : A) : -(2 ^ 62) ≤ j ∧ j < 2 ^ 62 ∧ A := ⟨h1, h2, h⟩
theorem st_rij {i j : Int} {R : Int → Int → Prop} (h1 : -(2 ^ 62) ≤ i ∧ i < 2 ^ 62 ∧ -(2 ^ 62) ≤ j ∧ j < 2 ^ 62) (h : R i j) : ∃ k l : Int, [V.int i, V.int j] = [.int k, .int l] ∧ (-(2 ^ 62) ≤ k ∧ k < 2 ^ 62 ∧ -(2 ^ 62) ≤ l ∧ l < 2 ^ 62) ∧ R k l := ⟨i, j, rfl, h1, h⟩
theorem st_srcT {a : Addr} {xs : List V} {R : Addr → Prop} (hx : SqT K H a xs) (h : R a) : ∃ b, V.ref a = .ref b ∧ (∃ ys, SqT K H b ys) ∧ R b := ⟨a, rfl, ⟨xs, hx⟩, h⟩
theorem st_srcL {a : Addr} {xs : List V} {R : Addr → Prop} (hx : SqL K H a xs) (h : R a) : ∃ b, V.ref a = .ref b ∧ (∃ ys, SqL K H b ys) ∧ R b := ⟨a, rfl, ⟨xs, hx⟩, h⟩
theorem st_call0 {sp : Sp} {E : XK} {t : TA} (h : t σ H fun vs H1 => sp vs H1 Q E) : tCall sp [] E t σ H Q := by
  show t σ H fun vs H1 => sp (vs ++ []) H1 Q E
  simp only [List.append_nil]
  exact h
theorem st_int1 {i : Int} {P : Int → Prop} {R : Prop} (h : P i) : (∃ j, [V.int i] = [.int j] ∧ P j) ∨ R := .inl ⟨i, rfl, h⟩
theorem st_int1b {k : Bool} {P : Bool → Prop} {R : Prop} (h : P k) : R ∨ (∃ j, [V.bl k] = [.bl j] ∧ P j) := .inr ⟨k, rfl, h⟩
theorem st_ints {i : Int} {P : Int → Prop} (h : P i) : ∃ j, [V.int i] = [.int j] ∧ P j := ⟨i, rfl, h⟩
theorem st_ints2 {i j : Int} {P : Int → Int → Prop} (h : P i j) : ∃ k l, [V.int i, V.int j] = [.int k, .int l] ∧ P k l := ⟨i, j, rfl, h⟩
theorem st_lenL {a : Addr} {xs : List V} {P : List V → Prop} (hx : SqL K H a xs) (h : P xs) : ∃ p ys, [V.ref a] = [.ref p] ∧ (SqL K H p ys ∨ SqT K H p ys) ∧ P ys := ⟨a, xs, rfl, .inl hx, h⟩
theorem st_lenT {a : Addr} {xs : List V} {P : List V → Prop} (hx : SqT K H a xs) (h : P xs) : ∃ p ys, [V.ref a] = [.ref p] ∧ (SqL K H p ys ∨ SqT K H p ys) ∧ P ys := ⟨a, xs, rfl, .inr hx, h⟩
theorem st_tupL {a : Addr} {xs : List V} {P : List V → Prop} {R : List V → Addr → Prop} (hx : SqL K H a xs) (h : P xs) : ∃ p ys, [V.ref a] = [.ref p] ∧ ((SqL K H p ys ∧ P ys) ∨ (SqT K H p ys ∧ R ys p)) := ⟨a, xs, rfl, .inl ⟨hx, h⟩⟩
theorem st_tupT {a : Addr} {xs : List V} {P : List V → Prop} {R : List V → Addr → Prop} (hx : SqT K H a xs) (h : R xs a) : ∃ p ys, [V.ref a] = [.ref p] ∧ ((SqL K H p ys ∧ P ys) ∨ (SqT K H p ys ∧ R ys p)) := ⟨a, xs, rfl, .inr ⟨hx, h⟩⟩
/-- a test that is decided, or is not -/
theorem st_y {p A B : Prop} [Decidable p] (hp : p) (h : A) : if decide p = true then A else B := by
  rw [if_pos (decide_eq_true hp)]
  exact h
theorem st_n {p A B : Prop} [Decidable p] (hp : ¬ p) (h : B) : if decide p = true then A else B := by
  rw [decide_eq_false hp]
  exact iteF h
theorem st_ny {p A B : Prop} [Decidable p] (hp : ¬ p) (h : A) : if (!decide p) = true then A else B := by
  rw [decide_eq_false hp]
  exact iteT h
theorem st_nn {p A B : Prop} [Decidable p] (hp : p) (h : B) : if (!decide p) = true then A else B := iteNS hp h
theorem st_two {p A B : Prop} [Decidable p] (h1 : p → A) (h2 : ¬ p → B) : if decide p = true then A else B := ite2 (fun z => h1 (of_decide_eq_true z)) fun z => h2 fun q => z (decide_eq_true q)
theorem st_ntwo {p A B : Prop} [Decidable p] (h1 : ¬ p → A) (h2 : p → B) : if (!decide p) = true then A else B := by
  by_cases q : p
  · exact st_nn q (h2 q)
  · exact st_ny q (h1 q)
theorem st_bool {k : Bool} {A B : Prop} (h1 : k = true → A) (h2 : k = false → B) : if k = true then A else B := by
  cases k with
  | true => exact iteT (h1 rfl)
  | false => exact iteF (h2 rfl)
/-- items and lengths -/
theorem st_ixT {a : Addr} {xs : List V} {i : Int} {v : V} (hx : SqT K H a xs) (hi : atI xs i = some v) (h : Q v H) : rIxT K (.ref a) (.int i) H Q := ⟨a, xs, i, v, rfl, rfl, hx, hi, h⟩
theorem st_ixL {a : Addr} {xs : List V} {i : Int} {v : V} (hx : SqL K H a xs) (hi : atI xs i = some v) (h : Q v H) : rIxL K (.ref a) (.int i) H Q := ⟨a, xs, i, v, rfl, rfl, hx, hi, h⟩
theorem st_app {l : Addr} {xs : List V} {y : V} (hl : H l = some (.lst xs)) (room : xs.length < sizeLine) (h : Q .non (upd H l (.lst (xs ++ [y])))) : rAppend (.ref l) [y] H Q := ⟨l, xs, y, rfl, rfl, hl, room, h⟩
theorem st_tyL {l : Addr} {xs : List V} {A : Prop} (hl : H l = some (.lst xs)) (h : A) : tyV K "list" (.ref l) H ∧ A := ⟨.inl ⟨rfl, _, SqL.of hl⟩, h⟩
theorem st_setL {l : Addr} {xs : List V} {k : Int} {j : Nat} {v : V} {q : Hp → Prop} (hl : H l = some (.lst xs)) (hk : ixN xs.length k = some j) (h : q (upd H l (.lst (xs.set j v)))) : rSetL (.ref l) (.int k) v H q := ⟨l, xs, k, j, rfl, rfl, hl, hk, h⟩
theorem st_new {xs : List V} {A : Prop} (hz : xs.length ≤ sizeLine) (h : A) : xs.length ≤ sizeLine ∧ A := ⟨hz, h⟩
/-! loops, the body a variable -/
theorem fr_range {lo : Int} {m : Nat} {B : (L2.St → Hp → Prop) → V → L2.St → Hp → Prop} {Qn : L2.St → Hp → Prop} {σ0 : L2.St} {H0 : Hp} (Pv : Nat → L2.St → Hp → Prop) (h0 : Pv 0 σ0 H0)
    (hs : ∀ i σ H, i < m → Pv i σ H → B (Pv (i + 1)) (.int (lo + i)) σ H) (hd : ∀ σ H, Pv m σ H → Qn σ H) :
    ∃ W : Nat → Nat → L2.St → Hp → Prop, (∃ k, W 0 k σ0 H0) ∧ ∀ i k σ H, W i k σ H →
      ((Itr lo m).stop i H ∧ Qn σ H) ∨ ((Itr lo m).go i H ∧ ∃ N : L2.St → Hp → Prop, (∀ σ' H', N σ' H' → ∃ k', k' < k ∧ W (i + 1) k' σ' H') ∧ ∀ x H', (Itr lo m).yld i H x H' → B N x σ H') := by
  refine ⟨fun i k σ H => k = m - i ∧ i ≤ m ∧ Pv i σ H, ⟨m, rfl, Nat.zero_le _, h0⟩, ?_⟩
  rintro i k σ H ⟨rfl, hi, p⟩
  by_cases hlt : i < m
  · refine .inr ⟨hlt, Pv (i + 1), fun σ' H' p' => ⟨m - (i + 1), by omega, rfl, hlt, p'⟩, fun x H' y => ?_⟩
    obtain ⟨e, y⟩ := y
    subst e y
    exact hs i σ _ hlt p
  · have e : i = m := by omega
    subst e
    exact .inl ⟨Nat.le_refl _, hd σ H p⟩
theorem fr_tup {a : Addr} {xs : List V} {B : (L2.St → Hp → Prop) → V → L2.St → Hp → Prop} {Qn : L2.St → Hp → Prop} {σ0 : L2.St} {H0 : Hp} (Pv : Nat → L2.St → Hp → Prop) (h0 : Pv 0 σ0 H0) (hl : ∀ i σ H, i ≤ xs.length → Pv i σ H → SqT K H a xs)
    (hs : ∀ i x σ H, xs[i]? = some x → Pv i σ H → B (Pv (i + 1)) x σ H) (hd : ∀ σ H, Pv xs.length σ H → Qn σ H) :
    ∃ W : Nat → Nat → L2.St → Hp → Prop, (∃ k, W 0 k σ0 H0) ∧ ∀ i k σ H, W i k σ H →
      ((Itt K a).stop i H ∧ Qn σ H) ∨ ((Itt K a).go i H ∧ ∃ N : L2.St → Hp → Prop, (∀ σ' H', N σ' H' → ∃ k', k' < k ∧ W (i + 1) k' σ' H') ∧ ∀ x H', (Itt K a).yld i H x H' → B N x σ H') := by
  refine ⟨fun i k σ H => k = xs.length - i ∧ i ≤ xs.length ∧ Pv i σ H, ⟨xs.length, rfl, Nat.zero_le _, h0⟩, ?_⟩
  rintro i k σ H ⟨rfl, hi, p⟩
  have q := hl i σ H hi p
  by_cases hlt : i < xs.length
  · refine .inr ⟨⟨xs, xs[i], q, by simp [hlt]⟩, Pv (i + 1), fun σ' H' p' => ⟨xs.length - (i + 1), by omega, rfl, hlt, p'⟩, fun x H' y => ?_⟩
    obtain ⟨e, y⟩ := y
    subst e
    exact hs i x σ _ (y xs q) p
  · have e : i = xs.length := by omega
    subst e
    exact .inl ⟨⟨xs, q, Nat.le_refl _⟩, hd σ H p⟩
theorem fr_list {a : Addr} {xs : List V} {B : (L2.St → Hp → Prop) → V → L2.St → Hp → Prop} {Qn : L2.St → Hp → Prop} {σ0 : L2.St} {H0 : Hp} (Pv : Nat → L2.St → Hp → Prop) (h0 : Pv 0 σ0 H0) (hl : ∀ i σ H, i ≤ xs.length → Pv i σ H → SqL K H a xs)
    (hs : ∀ i x σ H, xs[i]? = some x → Pv i σ H → B (Pv (i + 1)) x σ H) (hd : ∀ σ H, Pv xs.length σ H → Qn σ H) :
    ∃ W : Nat → Nat → L2.St → Hp → Prop, (∃ k, W 0 k σ0 H0) ∧ ∀ i k σ H, W i k σ H →
      ((Itl K a).stop i H ∧ Qn σ H) ∨ ((Itl K a).go i H ∧ ∃ N : L2.St → Hp → Prop, (∀ σ' H', N σ' H' → ∃ k', k' < k ∧ W (i + 1) k' σ' H') ∧ ∀ x H', (Itl K a).yld i H x H' → B N x σ H') := by
  refine ⟨fun i k σ H => k = xs.length - i ∧ i ≤ xs.length ∧ Pv i σ H, ⟨xs.length, rfl, Nat.zero_le _, h0⟩, ?_⟩
  rintro i k σ H ⟨rfl, hi, p⟩
  have q := hl i σ H hi p
  by_cases hlt : i < xs.length
  · refine .inr ⟨⟨xs, xs[i], q, by simp [hlt]⟩, Pv (i + 1), fun σ' H' p' => ⟨xs.length - (i + 1), by omega, rfl, hlt, p'⟩, fun x H' y => ?_⟩
    obtain ⟨e, y⟩ := y
    subst e
    exact hs i x σ _ (y xs q) p
  · have e : i = xs.length := by omega
    subst e
    exact .inl ⟨⟨xs, q, Nat.le_refl _⟩, hd σ H p⟩
end
/-! new objects, the heap behind them unnamed -/
section
variable {X : Cx} {es : List Expr} {t : TA} {pos : Pos}
theorem pa_weak (h : PA X es t) : PA X es (fun σ H Q => ∃ R : List V → Hp → Prop, t σ H R ∧ ∀ xs H1, R xs H1 → Q xs H1) :=
  ⟨fun pos pins s σ H Q I ⟨R, hR, hi⟩ => thn (h.run pos pins s σ H R I hR) fun us s1 ⟨vs, H1, I1, r, q⟩ => ⟨vs, H1, I1, r, hi vs H1 q⟩⟩
theorem pe_less {e : Expr} {t u : TE} (h : PE X e t) (i : ∀ σ H Q, u σ H Q → t σ H Q) : PE X e u := ⟨fun pins s σ H Q I q => h.run pins s σ H Q I (i σ H Q q)⟩
def tTupN (t : TA) : TE := fun σ H Q => t σ H fun xs H1 => xs.length ≤ sizeLine ∧ ∀ p H', H1 p = none → Same H1 H' → H' p = some (.tup xs) → Q (.ref p) H'
def tLstN (t : TA) : TE := fun σ H Q => t σ H fun xs H1 => xs.length ≤ sizeLine ∧ ∀ p H', H1 p = none → Same H1 H' → H' p = some (.lst xs) → Q (.ref p) H'
theorem pe_tupN {x1} (h : PA X es t) : PE X (.Tuple es x1 pos) (tTupN t) :=
  pe_less (pe_tup (pa_weak h)) fun σ H Q q => ⟨_, q, fun xs H1 z => ⟨z.1, fun p hp => z.2 p _ hp (same_new hp _) upd_same⟩⟩
theorem pe_lstN (h : PA X es t) : PE X (.List es pos) (tLstN t) :=
  pe_less (pe_lst (pa_weak h)) fun σ H Q q => ⟨_, q, fun xs H1 z => ⟨z.1, fun p hp => z.2 p _ hp (same_new hp _) upd_same⟩⟩
def rTupN (K : PySem.W.Frag) : List V → Hp → VK → Prop := fun vs H Q => ∃ (a : Addr) (xs : List V), vs = [.ref a] ∧ SqL K H a xs ∧ ∀ p H', H p = none → Same H H' → H' p = some (.tup xs) → Q (.ref p) H'
theorem call_tupN : CallR X (.type "tuple") (rTupN X.K) := fun pins s σ H vs us Q J r want => by
  obtain ⟨a, xs, rfl, h1, q⟩ := want
  exact call_tuple_of pins s σ H _ us Q J r ⟨a, xs, rfl, .inl ⟨h1, fun l hl => q l _ hl (same_new hl _) upd_same⟩⟩
def rListN (K : PySem.W.Frag) : List V → Hp → VK → Prop := fun vs H Q => ∃ (a : Addr) (xs : List V), vs = [.ref a] ∧ (SqL K H a xs ∨ SqT K H a xs) ∧ ∀ p H', H p = none → Same H H' → H' p = some (.lst xs) → Q (.ref p) H'
theorem call_listN : CallR X (.type "list") (rListN X.K) := fun pins s σ H vs us Q J r want => by
  obtain ⟨a, xs, rfl, h1, q⟩ := want
  exact call_list_of pins s σ H _ us Q J r ⟨a, xs, rfl, h1, fun l hl => q l _ hl (same_new hl _) upd_same⟩
def rSlN (K : PySem.W.Frag) : V → Option Int → Option Int → Hp → VK → Prop := fun x lo hi H Q => ∃ a xs, x = .ref a ∧ SqL K H a xs ∧ ∀ p H', H p = none → Same H H' → H' p = some (.lst (cutV xs lo hi)) → Q (.ref p) H'
theorem sl_listN : SlR X (rSlN X.K) := by
  intro pins s σ H x v vl vu lo hi sl Q inv rx hs pl pu want
  obtain ⟨a, xs, rfl, hx, q⟩ := want
  exact sl_list pins s σ H _ v vl vu lo hi sl Q inv rx hs pl pu ⟨a, xs, rfl, hx, fun p hp => q p _ hp (same_new hp _) upd_same⟩
def rCatN : R2 := fun x y H Q => ∃ l b xs zs, x = .ref l ∧ y = .ref b ∧ H l = some (.lst xs) ∧ H b = some (.lst zs) ∧ xs.length + zs.length ≤ sizeLine ∧ ∀ p H', H p = none → Same H H' → H' p = some (.lst (xs ++ zs)) → Q (.ref p) H'
theorem op_catN : OpR X (binaryOp .Add) rCatN := by
  intro pins s σ H x y v u Q inv rx ry want
  obtain ⟨l, b, xs, zs, rfl, rfl, hl, hb, hz, q⟩ := want
  exact op_cat pins s σ H _ _ v u Q inv rx ry ⟨l, b, xs, zs, rfl, rfl, hl, hb, hz, fun p hp => q p _ hp (same_new hp _) upd_same⟩
end
section
variable {σ : L2.St} {H : Hp} {Q : VK} {K : PySem.W.Frag}
theorem st_tupN {t : TA} (h : t σ H fun xs H1 => xs.length ≤ sizeLine ∧ ∀ p H', H1 p = none → Same H1 H' → H' p = some (.tup xs) → Q (.ref p) H') : tTupN t σ H Q := h
theorem st_lstN {t : TA} (h : t σ H fun xs H1 => xs.length ≤ sizeLine ∧ ∀ p H', H1 p = none → Same H1 H' → H' p = some (.lst xs) → Q (.ref p) H') : tLstN t σ H Q := h
theorem st_room {xs : List V} {A : Prop} (hz : xs.length ≤ 100000) (h : A) : xs.length ≤ sizeLine ∧ A := ⟨Nat.le_trans hz (by decide), h⟩
theorem st_rTup {a : Addr} {xs : List V} (hx : SqL K H a xs) (h : ∀ p H', H p = none → Same H H' → H' p = some (.tup xs) → Q (.ref p) H') : rTupN K [.ref a] H Q := ⟨a, xs, rfl, hx, h⟩
theorem st_rList {a : Addr} {xs : List V} (hx : SqT K H a xs) (h : ∀ p H', H p = none → Same H H' → H' p = some (.lst xs) → Q (.ref p) H') : rListN K [.ref a] H Q := ⟨a, xs, rfl, .inr hx, h⟩
theorem st_rSl {a : Addr} {xs : List V} {lo hi : Option Int} (hx : SqL K H a xs) (h : ∀ p H', H p = none → Same H H' → H' p = some (.lst (cutV xs lo hi)) → Q (.ref p) H') : rSlN K (.ref a) lo hi H Q := ⟨a, xs, rfl, hx, h⟩
theorem st_rCat {a b : Addr} {xs zs : List V} (hx : H a = some (.lst xs)) (hy : H b = some (.lst zs)) (hz : xs.length + zs.length ≤ 100000) (h : ∀ p H', H p = none → Same H H' → H' p = some (.lst (xs ++ zs)) → Q (.ref p) H') : rCatN (.ref a) (.ref b) H Q := ⟨a, b, xs, zs, rfl, rfl, hx, hy, Nat.le_trans hz (by decide), h⟩
theorem st_rCut {a : Addr} {xs : List V} {lo hi : Option Int} (hx : SqT K H a xs) (h : ∀ p H', Same H H' → SqT K H' p (cutV xs lo hi) → Q (.ref p) H') : LG.rCut K (.ref a) lo hi H Q := ⟨a, xs, rfl, hx, h⟩
theorem st_rPlus {a b : Addr} {xs ys : List V} (hx : SqT K H a xs) (hy : SqT K H b ys) (hz : xs.length + ys.length ≤ 100000) (h : ∀ p H', Same H H' → SqT K H' p (xs ++ ys) → Q (.ref p) H') : LG.rPlus K (.ref a) (.ref b) H Q := ⟨a, b, xs, ys, rfl, rfl, hx, hy, Nat.le_trans hz (by decide), h⟩
end
/-! f(k = v, ..): a def that is called by names alone, in its parameters' order -/
section
def tCallK0 (sp : Sp) (E : XK) (tk : TA) : TE := fun σ H Q => tk σ H fun zs H2 => sp zs H2 Q E
structure HasK (P : Program) (w : World) (K : PySem.W.Frag) (mg : Str → Option Value) (base : Heap) (CX : CXT) (k : Nat) (x : Str) (ps : List Str) (sp : Sp) : Prop where
  ex : ∃ (f : Addr) (fd : FuncData), FnOk P w K mg base CX k f fd ps sp ∧ mg x = some (.ref f) ∧ PySem.W.keepIn K (.ref f) = true ∧ ∀ (s : Shared) (ws : List Value), ws.length = ps.length → BindsTo s fd ⟨[], ps.zip ws⟩ (ps.zip ws)
structure DefK (K : PySem.W.Frag) (mg : Str → Option Value) (x : Str) (st : Stmt) (ps : List Str) : Prop where
  ex : ∃ (f : Addr) (fd : FuncData), Fun K x x st f fd ∧ mg x = some (.ref f) ∧ ∀ (s : Shared) (ws : List Value), ws.length = ps.length → BindsTo s fd ⟨[], ps.zip ws⟩ (ps.zip ws)
theorem DefK.has {P : Program} {w : World} {K : PySem.W.Frag} {mg : Str → Option Value} {base : Heap} {CX : CXT} {k : Nat} {x : Str} {ps : List Str} {sp : Sp} {st : Stmt} (d : DefK K mg x st ps) (h : ∀ (f : Addr) (fd : FuncData), Fun K x x st f fd → FnOk P w K mg base CX k f fd ps sp) : HasK P w K mg base CX k x ps sp := by
  obtain ⟨f, fd, F, m, b⟩ := d.ex
  exact ⟨f, fd, h f fd F, m, F.kp, b⟩
variable {X : Cx} {CX : CXT} {k j : Nat} {ps : List Str} {sp : Sp} {x : Str} {p pos : Pos} {E : XK} {kws : List Keyword} {tk : TA}
theorem pcK0 (h : HasK X.prog X.w X.K X.mg X.base CX k x ps sp) (hr : Room j X.A) (hx : Passes CX X E) (hkw : PK X kws tk) (hg : Gl X x := by rfl) (hj : k ≤ j := by first | decide | omega)
    (hall : (backToKw pos (keywordEach kws X.env)).all (·.1.isSome) = true := by rfl) (hks : (backToKw pos (keywordEach kws X.env)).filterMap (·.1) = ps := by rfl) (hdb : (x == ("__debug__" : Str)) = false := by decide)
    (hpl : ((backTo pos (starEach [] X.env)).any (·.1) || (backToKw pos (keywordEach kws X.env)).any (·.1.isNone)) = false := by rfl) : PE X (.Call (.Name x p) [] kws pos) (tCallK0 sp E tk) := by
  obtain ⟨f, fd, F, hm, hk, hb⟩ := h.ex
  refine ⟨fun pins s σ H Q I h => ?_⟩
  refine wpAny_Call_Name_kw (ld_glob I hg hm ?_ hdb)
  refine PySem.W.callWith_KW0 (h₀ := X.base) I.ok.mod.kin hk hall ?_ hpl
  refine thn (hkw.run pos pins s σ H _ I h) fun ws s2 ⟨zs, H2, I2, rz, q2⟩ => ⟨I2.kIn, ?_⟩
  rw [hks]
  have hl : ws.length = ps.length := by rw [← rz.length]; exact F.len _ _ _ _ q2
  refine wpAny_call (codeAny_mono (F.run X.A X.stack s2 H2 ⟨[], ps.zip ws⟩ ws zs Q E (hr.mono hj) I2.env0 (hb s2 ws hl) rz q2) fun r s' hq => ?_)
  cases r with
  | error e => exact hx pins σ H2 s2 e s' I2 hq
  | ok fl =>
    cases fl with
    | ret u => exact I2.after hq
    | next => exact False.elim hq
    | brk => exact False.elim hq
    | cont => exact False.elim hq
theorem st_callK0 {σ : L2.St} {H : Hp} {Q : VK} {t : TA} (h : t σ H fun vs H1 => sp vs H1 Q E) : tCallK0 sp E t σ H Q := h
end
end LG
namespace LG
open PySem PySem.Spec PyProof.Rows L2
def rMulLN : R2 := fun x y H Q => ∃ l k xs, x = .ref l ∧ y = .int k ∧ H l = some (.lst xs) ∧ 0 ≤ k ∧ k ≤ 100000 ∧ xs.length * k.toNat ≤ 100000 ∧ ∀ p H', H p = none → Same H H' → H' p = some (.lst (List.replicate k.toNat xs).flatten) → Q (.ref p) H'
theorem op_mulLN {X : Cx} : OpR X (binaryOp .Mult) rMulLN := by
  intro pins s σ H x y v u Q I rx ry h
  obtain ⟨l, k, xs, rfl, rfl, hl, h1, h2, hz, q⟩ := h
  exact op_rep pins s σ H _ _ v u Q I rx ry ⟨l, k, xs, rfl, rfl, hl, by omega, by omega, Nat.le_trans hz (by decide), fun p hp => q p _ hp (same_new hp _) upd_same⟩
def rRepTN (K : PySem.W.Frag) : R2 := fun x y H Q => ∃ l k xs, x = .ref l ∧ y = .int k ∧ SqT K H l xs ∧ xs ≠ [] ∧ 2 ≤ k ∧ k ≤ 1000 ∧ xs.length ≤ 1000 ∧ ∀ p H', H p = none → Same H H' → H' p = some (.tup (List.replicate k.toNat xs).flatten) → Q (.ref p) H'
theorem op_repTN {X : Cx} : OpR X (binaryOp .Mult) (rRepTN X.K) := by
  intro pins s σ H x y v u Q I rx ry h
  obtain ⟨l, k, xs, rfl, rfl, hl, h0, h1, h2, hz, q⟩ := h
  exact op_repT pins s σ H _ _ v u Q I rx ry ⟨l, k, xs, rfl, rfl, hl, h0, h1, h2, hz, fun p hp => q p _ hp (same_new hp _) upd_same⟩
theorem st_strs {x y : Str} {P : Str → Str → Prop} (h : P x y) : ∃ a b, V.str x = .str a ∧ V.str y = .str b ∧ P a b := ⟨x, y, rfl, rfl, h⟩
section
variable {σ : L2.St} {H : Hp} {Q : VK} {K : PySem.W.Frag}
theorem st_rep {v : V} {d : PyData} (hd : Dp K H v d) (h1 : d.showable = true ∧ d.depth ≤ 60 ∧ d.shown.length ≤ sizeLine) (h : Q (.str d.shown) H) : LG.rRep K [v] H Q := ⟨v, d, rfl, hd, h1.1, h1.2.1, h1.2.2, h⟩
theorem st_en {ta : TA} {R : It → Hp → Prop} (h : ta σ H fun vs H1 => ∃ a xs, vs = [.ref a] ∧ SqT K H1 a xs ∧ R (IteT K a 0) H1) : iEnT K ta σ H R := h
theorem st_enS {ta tk : TA} {R : It → Hp → Prop} (h : ta σ H fun vs H1 => tk σ H1 fun zs H2 => ∃ a xs c, vs = [.ref a] ∧ zs = [.int ((c : Nat) : Int)] ∧ c ≤ 1000 ∧ SqT K H2 a xs ∧ R (IteT K a c) H2) : iEnTS K ta tk σ H R := h
theorem st_srcE {a : Addr} {xs : List V} {R : Addr → Prop} (hx : SqT K H a xs) (h : R a) : ∃ b ys, [V.ref a] = [.ref b] ∧ SqT K H b ys ∧ R b := ⟨a, xs, rfl, hx, h⟩
theorem st_srcE1 {a : Addr} {xs : List V} {R : Addr → Nat → Prop} (hx : SqT K H a xs) (h : R a 1) : ∃ b ys c, [V.ref a] = [.ref b] ∧ [V.int 1] = [.int ((c : Nat) : Int)] ∧ c ≤ 1000 ∧ SqT K H b ys ∧ R b c := ⟨a, xs, 1, rfl, rfl, by decide, hx, h⟩
theorem st_dget {td ty : TE} (h : td σ H fun x H1 => ty σ H1 fun y H2 => ∃ a v, x = .ref a ∧ DGet H2 a y (some v) ∧ Q v H2) : tDGet td ty σ H Q := h
theorem st_dc {wi : TI} {g : TG} {tt : TT} {tk tv : TE} {vs : List Nat} (h : wi σ H fun J H1 => ∀ D, H1 D = none → ∃ W : Nat → Nat → Hp → Prop, (∃ m, W 0 m (upd H1 D (.dK []))) ∧ ∀ i m H, W i m H →
    (J.stop i H ∧ Q (.ref D) H) ∨ (J.go i H ∧ ∃ Nx : Hp → Prop, (∀ H', Nx H' → ∃ m', m' < m ∧ W (i + 1) m' H') ∧ ∀ x H', J.yld i H x H' → g x (wipe σ vs) H' fun σ2 H2 => wipe σ2 vs = wipe σ vs ∧ tt σ2 H2 fun b H3 =>
      if b = true then tk σ2 H3 fun y H4 => tv σ2 H4 fun z H5 => ∃ kvs k, y = kV k ∧ H5 D = some (.dK kvs) ∧ kvs.length < sizeLine ∧ Nx (upd H5 D (.dK (putK kvs k z))) else Nx H3)) : tDc wi g tt tk tv vs σ H Q := h
theorem st_disp {trs : List (TE × TE)} (h : ∀ p, H p = none → tPairs trs σ (upd H p (.dK [])) fun ps H2 => H2 p = some (.dK []) ∧ ∃ kvs : List (Key × V), ps = kvs.map (fun kv => (kV kv.1, kv.2)) ∧ kvs.length ≤ 15 ∧ Q (.ref p) (upd H2 p (.dK (mergeK [] kvs)))) : tDisp trs σ H Q := h
theorem st_pn {q : List (V × V) → Hp → Prop} (h : q [] H) : tPairs [] σ H q := h
theorem st_pc {tk tv : TE} {r : List (TE × TE)} {q : List (V × V) → Hp → Prop} (h : tk σ H fun x H1 => tv σ H1 fun y H2 => tPairs r σ H2 fun ps H3 => q ((x, y) :: ps) H3) : tPairs ((tk, tv) :: r) σ H q := h
theorem fc_enum {a : Addr} {xs : List V} {c : Nat} {B : (Hp → Prop) → V → Hp → Prop} {Qn : Hp → Prop} {H0 : Hp} (Pv : Nat → Hp → Prop) (h0 : Pv 0 H0) (hl : ∀ i H, i ≤ xs.length → Pv i H → SqT K H a xs)
    (hs : ∀ i x H (T : Addr) (H' : Hp), xs[i]? = some x → Pv i H → H T = none → Same H H' → H' T = some (.tup [.int ((c + i : Nat) : Int), x]) → B (Pv (i + 1)) (.ref T) H') (hd : ∀ H, Pv xs.length H → Qn H) :
    ∃ W : Nat → Nat → Hp → Prop, (∃ k, W 0 k H0) ∧ ∀ i k H, W i k H →
      ((IteT K a c).stop i H ∧ Qn H) ∨ ((IteT K a c).go i H ∧ ∃ N : Hp → Prop, (∀ H', N H' → ∃ k', k' < k ∧ W (i + 1) k' H') ∧ ∀ x H', (IteT K a c).yld i H x H' → B N x H') := by
  refine ⟨fun i k H => k = xs.length - i ∧ i ≤ xs.length ∧ Pv i H, ⟨xs.length, rfl, Nat.zero_le _, h0⟩, ?_⟩
  rintro i k H ⟨rfl, hi, p⟩
  have q := hl i H hi p
  by_cases hlt : i < xs.length
  · refine .inr ⟨⟨xs, xs[i], q, by simp [hlt]⟩, Pv (i + 1), fun H' p' => ⟨xs.length - (i + 1), by omega, rfl, hlt, p'⟩, fun x H' y => ?_⟩
    obtain ⟨T, z, rfl, hT, rfl, y⟩ := y
    exact hs i z H T _ (y xs q) p hT (same_new hT _) upd_same
  · have e : i = xs.length := by omega
    subst e
    exact .inl ⟨⟨xs, q, rfl⟩, hd H p⟩
theorem fr_enum {a : Addr} {xs : List V} {c : Nat} {B : (L2.St → Hp → Prop) → V → L2.St → Hp → Prop} {Qn : L2.St → Hp → Prop} {σ0 : L2.St} {H0 : Hp} (Pv : Nat → L2.St → Hp → Prop) (h0 : Pv 0 σ0 H0) (hl : ∀ i σ H, i ≤ xs.length → Pv i σ H → SqT K H a xs)
    (hs : ∀ i x σ H (T : Addr) (H' : Hp), xs[i]? = some x → Pv i σ H → H T = none → Same H H' → H' T = some (.tup [.int ((c + i : Nat) : Int), x]) → B (Pv (i + 1)) (.ref T) σ H') (hd : ∀ σ H, Pv xs.length σ H → Qn σ H) :
    ∃ W : Nat → Nat → L2.St → Hp → Prop, (∃ k, W 0 k σ0 H0) ∧ ∀ i k σ H, W i k σ H →
      ((IteT K a c).stop i H ∧ Qn σ H) ∨ ((IteT K a c).go i H ∧ ∃ N : L2.St → Hp → Prop, (∀ σ' H', N σ' H' → ∃ k', k' < k ∧ W (i + 1) k' σ' H') ∧ ∀ x H', (IteT K a c).yld i H x H' → B N x σ H') := by
  refine ⟨fun i k σ H => k = xs.length - i ∧ i ≤ xs.length ∧ Pv i σ H, ⟨xs.length, rfl, Nat.zero_le _, h0⟩, ?_⟩
  rintro i k σ H ⟨rfl, hi, p⟩
  have q := hl i σ H hi p
  by_cases hlt : i < xs.length
  · refine .inr ⟨⟨xs, xs[i], q, by simp [hlt]⟩, Pv (i + 1), fun σ' H' p' => ⟨xs.length - (i + 1), by omega, rfl, hlt, p'⟩, fun x H' y => ?_⟩
    obtain ⟨T, z, rfl, hT, rfl, y⟩ := y
    exact hs i z σ H T _ (y xs q) p hT (same_new hT _) upd_same
  · have e : i = xs.length := by omega
    subst e
    exact .inl ⟨⟨xs, q, rfl⟩, hd σ H p⟩
end
end LG
/-! a def that is called without its last values -/
namespace LG
open PySem PySem.Spec PyProof.Rows L2
structure HasD (P : Program) (w : World) (K : PySem.W.Frag) (mg : Str → Option Value) (base : Heap) (CX : CXT) (k : Nat) (x : Str) (ps : List Str) (dvs : List V) (sp : Sp) : Prop where
  ex : ∃ (f : Addr) (fd : FuncData) (ds : List Value), FnOk P w K mg base CX k f fd ps sp ∧ mg x = some (.ref f) ∧ PySem.W.keepIn K (.ref f) = true ∧ Vals dvs ds ∧ Binds K fd ps ds
section
variable {X : Cx} {k j : Nat} {ps : List Str} {sp : Sp} {x : Str} {p pos : Pos} {e : Expr} {es : List Expr} {t : TA} {dvs : List V}
theorem pcD (h : HasD X.prog X.w X.K X.mg X.base CX0 k x ps dvs sp) (hr : Room j X.A) (ha : PA X (e :: es) t) (hg : Gl X x := by rfl) (hj : k ≤ j := by first | decide | omega) (hdb : (x == ("__debug__" : Str)) = false := by decide)
    (he : starEach (e :: es) X.env = (false, eval e X.env) :: starEach es X.env := by rfl) (hpl : (backTo pos (starEach es X.env)).any (·.1) = false := by rfl) : PE X (.Call (.Name x p) (e :: es) [] pos) (tCall sp dvs E0 t) := by
  obtain ⟨f, fd, ds, F, m, kp, hv, b⟩ := h.ex
  exact pe_call F (hr.mono hj) hg m kp b hv pass0 ha hdb he hpl
theorem pcDX (h : HasD X.prog X.w X.K X.mg X.base (L2.CX X.prog X.w) k x ps dvs sp) (hr : Room j X.A) (ha : PA X (e :: es) t) (hg : Gl X x := by rfl) (hj : k ≤ j := by first | decide | omega) (hdb : (x == ("__debug__" : Str)) = false := by decide)
    (he : starEach (e :: es) X.env = (false, eval e X.env) :: starEach es X.env := by rfl) (hpl : (backTo pos (starEach es X.env)).any (·.1) = false := by rfl) : PE X (.Call (.Name x p) (e :: es) [] pos) (tCall sp dvs E0 t) := by
  obtain ⟨f, fd, ds, F, m, kp, hv, b⟩ := h.ex
  exact pe_call F (hr.mono hj) hg m kp b hv passL ha hdb he hpl
end
end LG
namespace LG
open PySem PySem.Spec PyProof.Rows L2
/-! ### defs that have values for what is not handed in -/
section
variable {P : Program} {w : World} {K : PySem.W.Frag} {mg : Str → Option Value} {base : Heap} {x : Str} {st : Stmt} {ps : List Str} {k : Nat} {sp : Sp} {CX : CXT} {dvs : List V}
abbrev FunV (K : PySem.W.Frag) (x : Str) (st : Stmt) (dvs : List V) (f : Addr) (fd : FuncData) : Prop := FunD K x x (defArgs st) (defBody st) (defScope st) dvs [] f fd
theorem funV_ok {f : Addr} {fd : FuncData} {N : List Str} (F : FunV K x st dvs f fd) (S : FnScope N ps (defScope st)) (many : ∀ vs H Q E, sp vs H Q E → vs.length = ps.length)
    (body : ∀ (cdv : Value) (A : Around) (outer : List Env) (s : Shared) (H : Hp) (vs : List V) (Q : VK) (E : XK), Room k (A.deeper (envOfC x (defScope st) s.heap.objs.size f cdv)) → sp vs H Q E →
      ∃ t, PSs (cxOf CX0 P w K mg base N x (defScope st) f cdv A outer s H E).nox (defBody st) t ∧ t { nx := fun _ H' => Q .non H', rt := Q } (start N vs) H) : FnOk P w K mg base CX0 (k + 1) f fd ps sp :=
  F.ok S many fun cdv A outer s H vs Q E hr want => by
    obtain ⟨t, ht, q⟩ := body cdv A outer s H vs Q E hr want
    exact ⟨t, ht.nox, q⟩
structure DefV (K : PySem.W.Frag) (mg : Str → Option Value) (x : Str) (st : Stmt) (ps : List Str) (dvs : List V) : Prop where
  ex : ∃ (f : Addr) (fd : FuncData), FunV K x st dvs f fd ∧ mg x = some (.ref f) ∧ Binds K fd ps []
theorem DefV.has (d : DefV K mg x st ps dvs) (h : ∀ (f : Addr) (fd : FuncData), FunV K x st dvs f fd → FnOk P w K mg base CX k f fd ps sp) : Has P w K mg base CX k x ps sp := by
  obtain ⟨f, fd, F, g, b⟩ := d.ex
  exact ⟨f, fd, h f fd F, g, F.kp, b⟩
theorem defV_mk {h : Heap} {f D : Addr} {od an : Option Addr} {sl : Array (Option Value)} {oc kV dc pm cd ct : Value} (X : K.In h) (G : h.Ns mainGlobals mg)
    (a : PySem.W.nsIn K mainGlobals x = some (some (.ref f))) (l : K.lookup f = some ⟨oc, od, .func (PySem.W.fnOf x x (defArgs st) (defBody st) (defScope st) (.ref D) kV dc pm an cd ct), sl⟩) (c : PySem.W.codeIn K cd x = true) (kp : PySem.W.keepIn K (.ref f) = true) (v : DflV K (.ref D) dvs) (ne : dvs ≠ [])
    (b : ∀ (T : Addr) (kV doc pm : Value) (an : Option Addr) (cdv ct : Value) (us its : List Value), us.length = ps.length → its.length = dvs.length →
      ∃ kk, bindArgs (PySem.W.fnOf x x (defArgs st) (defBody st) (defScope st) (.ref T) kV doc pm an cdv ct) ⟨us, []⟩ = seqItems? (.ref T) >>= kk ∧ kk (some its.toArray) = pure (ps.zip (us ++ its.drop dvs.length))) : DefV K mg x st ps dvs := by
  have F : FunV K x st dvs f _ := ⟨⟨oc, od, .ref D, kV, dc, pm, an, cd, ct, sl, rfl, l, c, v, .inl rfl⟩, kp⟩
  obtain ⟨ds, hv, hb⟩ := FunD.binds1 F ps.length dvs.length ne (by omega) b
  rw [List.drop_length] at hv
  cases hv
  exact ⟨f, _, F, PySem.W.mg_of X G a, hb⟩
structure DefD (K : PySem.W.Frag) (mg : Str → Option Value) (x : Str) (st : Stmt) (ps : List Str) (dvs : List V) : Prop where
  ex : ∃ (f : Addr) (fd : FuncData), FunV K x st dvs f fd ∧ mg x = some (.ref f) ∧ ∃ ds, Vals dvs ds ∧ Binds K fd ps ds
theorem DefD.has (d : DefD K mg x st ps dvs) (h : ∀ (f : Addr) (fd : FuncData), FunV K x st dvs f fd → FnOk P w K mg base CX k f fd ps sp) : HasD P w K mg base CX k x ps dvs sp := by
  obtain ⟨f, fd, F, g, ds, hv, b⟩ := d.ex
  exact ⟨f, fd, ds, h f fd F, g, F.kp, hv, b⟩
theorem defD_mk {h : Heap} {f D : Addr} {od an : Option Addr} {sl : Array (Option Value)} {oc kV dc pm cd ct : Value} (n : Nat) (X : K.In h) (G : h.Ns mainGlobals mg)
    (a : PySem.W.nsIn K mainGlobals x = some (some (.ref f))) (l : K.lookup f = some ⟨oc, od, .func (PySem.W.fnOf x x (defArgs st) (defBody st) (defScope st) (.ref D) kV dc pm an cd ct), sl⟩) (c : PySem.W.codeIn K cd x = true) (kp : PySem.W.keepIn K (.ref f) = true) (v : DflV K (.ref D) dvs) (ne : dvs ≠ []) (hn : n + dvs.length = ps.length)
    (b : ∀ (T : Addr) (kV doc pm : Value) (an : Option Addr) (cdv ct : Value) (us its : List Value), us.length = n → its.length = dvs.length →
      ∃ kk, bindArgs (PySem.W.fnOf x x (defArgs st) (defBody st) (defScope st) (.ref T) kV doc pm an cdv ct) ⟨us, []⟩ = seqItems? (.ref T) >>= kk ∧ kk (some its.toArray) = pure (ps.zip (us ++ its.drop 0))) : DefD K mg x st ps dvs := by
  have F : FunV K x st dvs f _ := ⟨⟨oc, od, .ref D, kV, dc, pm, an, cd, ct, sl, rfl, l, c, v, .inl rfl⟩, kp⟩
  obtain ⟨ds, hv, hb⟩ := FunD.binds1 F n 0 ne (by rw [Nat.sub_zero]; exact hn) b
  exact ⟨f, _, F, PySem.W.mg_of X G a, ds, hv, hb⟩
end
end LG
/-! ### len(set(t)), t a tuple of ints -/
namespace LG
open PySem PySem.Spec PyProof.Rows L2
theorem perm_of_sub : ∀ (L ns : List Int), L.Nodup → (∀ x ∈ L, x ∈ ns) → ∃ r, ns.Perm (L ++ r)
  | [], ns, _, _ => ⟨ns, List.Perm.refl _⟩
  | x :: L, ns, nd, sub => by
    have nx : x ∉ L := (List.nodup_cons.mp nd).1
    have hx : x ∈ ns := sub x List.mem_cons_self
    obtain ⟨r, hr⟩ := perm_of_sub L (ns.erase x) (List.nodup_cons.mp nd).2 fun y hy => (List.mem_erase_of_ne (fun z => nx (by rw [← z]; exact hy))).mpr (sub y (List.mem_cons_of_mem _ hy))
    exact ⟨r, (List.perm_cons_erase hx).trans (List.Perm.cons x hr)⟩
theorem count_nodup {L ns : List Int} (nd : L.Nodup) (h : ∀ k, k ∈ ns ↔ k ∈ L) : L.length = ns.length ↔ ns.Nodup := by
  obtain ⟨r, hr⟩ := perm_of_sub L ns nd fun x hx => (h x).mpr hx
  constructor
  · intro e
    have q := hr.length_eq
    rw [List.length_append] at q
    have r0 : r = [] := List.eq_nil_of_length_eq_zero (by omega)
    subst r0
    rw [List.append_nil] at hr
    exact (List.Perm.nodup_iff hr).mpr nd
  · intro hn
    obtain ⟨r2, hr2⟩ := perm_of_sub ns L hn fun x hx => (h x).mp hx
    have q := hr.length_eq
    have q2 := hr2.length_eq
    rw [List.length_append] at q q2
    omega
def tLenSetT (K : PySem.W.Frag) (ta : TE) : TE := fun σ H Q => ta σ H fun x H1 => ∃ (l : Addr) (ns : List Int), x = .ref l ∧ SqT K H1 l (ns.map V.int) ∧ ns.length ≤ 4000 ∧ ∀ c : Nat, (c = ns.length ↔ ns.Nodup) → Q (.int c) H1
theorem pe_lenSetT {X : Cx} {a : Expr} {ta : TE} {p p2 q pos : Pos} (hg : Gl X "len") (hm : X.mg "len" = none) (hg2 : Gl X "set") (hm2 : X.mg "set" = none) (ha : PE X a ta) (hc : X.calm = true := by rfl)
    (na : starEach [a] X.env = (false, eval a X.env) :: starEach [] X.env := by rfl) : PE X (.Call (.Name "len" p) [.Call (.Name "set" p2) [a] [] q] [] pos) (tLenSetT X.K ta) := by
  refine ⟨fun pins s σ H Q I h => ?_⟩
  refine Call_ (ld_blt I hg hm boot_len (PyProof.Rows.callWith_builtin1 (PyProof.Rows.args_cons ?_ rfl) rfl rfl))
  refine Call_ (ld_blt I hg2 hm2 boot_set (PyProof.Rows.callWith_type1 (PyProof.Rows.args_cons (thn (ha.run pins s σ H _ I h) fun v s1 ⟨x, H1, I1, r1, q1⟩ => PyProof.Rows.args_nil ?_) na) na rfl))
  obtain ⟨l, ns, rfl, hq, few, q1⟩ := q1
  cases r1
  obtain ⟨its, r, pl, hz⟩ := I1.tuple hq
  refine call_set_tupI ns (I1.ok.hd hc) (show s1.heap.IsTuple l its.toArray from pl) (ints_of_vals r) (by unfold scanBound; omega) fun h' tk c R hcn keep => ?_
  obtain ⟨o, es, ep, t, ho, hex, hd, _, nd, mem, sb, hf, hn, _⟩ := R
  have I2 : Inv X pins σ H1 { s1 with heap := h', toks := tk } := I1.kept keep
  refine PyProof.Rows.args_nil (call_len_set ho hex hd hf (by unfold scanBound at sb; omega) ⟨.int c, H1, I2.tok _, ⟨_, by rw [hn]⟩, q1 c ?_⟩)
  have e : c = (es.toList.map keyOf).length := by rw [List.length_map, Array.length_toList, hn]
  rw [e]
  exact count_nodup nd fun k => by rw [← mem k]; simp
theorem st_lenSet {K : PySem.W.Frag} {σ : L2.St} {H : Hp} {Q : VK} {ta : TE} (h : ta σ H fun x H1 => ∃ (l : Addr) (ns : List Int), x = .ref l ∧ SqT K H1 l (ns.map V.int) ∧ ns.length ≤ 4000 ∧ ∀ c : Nat, (c = ns.length ↔ ns.Nodup) → Q (.int c) H1) : tLenSetT K ta σ H Q := h
end LG
namespace LG
open PySem PySem.Spec PyProof.Rows L2
def rLenS (K : PySem.W.Frag) : List V → Hp → VK → Prop := fun xs H Q => ∃ p ys, xs = [V.ref p] ∧ (SqL K H p ys ∨ SqT K H p ys) ∧ Q (.int ys.length) H
/-! ### tuples that are known to have no dict of their own -/
def Nd (H : Hp) (t : Addr) : Prop := ∃ ob xs, H t = some (.frz ob (.tup xs)) ∧ ob.dict = none
theorem Nd.stay {H H' : Hp} {t : Addr} (s : TupsStay H H') (h : Nd H t) : Nd H' t := by
  obtain ⟨ob, xs, e, d⟩ := h
  exact ⟨ob, xs, s _ _ (.inr ⟨_, _, rfl⟩) e, d⟩
/-- all references of these values are such -/
def NdAll (H : Hp) (xs : List V) : Prop := ∀ t, V.ref t ∈ xs → Nd H t
theorem NdAll.stay {H H' : Hp} {xs : List V} (s : TupsStay H H') (h : NdAll H xs) : NdAll H' xs := fun t ht => (h t ht).stay s
section
variable {X : Cx}
theorem call_tuple_ofN : CallR X (.type "tuple") (fun xs H Q => ∃ p ys, xs = [.ref p] ∧ SqL X.K H p ys ∧ ∀ l ob, H l = none → ob.dict = none → Q (.ref l) (upd H l (.frz ob (.tup ys)))) := by
  intro pins s σ H xs us Q I r h
  obtain ⟨p, ys, rfl, got, q⟩ := h
  obtain ⟨u, rfl, rel0⟩ := vals1 r
  cases rel0
  obtain ⟨items2, rel', place, len⟩ := I.list got
  have long := rel'.length
  refine call_tuple_list place.isList (fun h' keeps => ?_) (by simp only [List.size_toArray] <;> omega)
  have J1 : Inv X pins σ H { s with heap := h' } := I.kept (t' := s.toks) keeps
  have J2 : Inv X pins σ (upd H h'.objs.size (.frz { cls := .type "tuple", data := .seq items2.toArray } (.tup ys))) { s with heap := h'.push { cls := .type "tuple", data := .seq items2.toArray } } :=
    J1.laid (t' := s.toks) (fun b o e => Heap.get?_push_of_some _ e) (Nat.le_refl _) (show ObjOk X.prog X.w _ _ _ (.frz _ (.tup ys)) from ⟨Heap.get?_push_size _ rfl, len, items2, rel', IsTup.new _ _⟩)
  exact ⟨.ref h'.objs.size, _, J2, rfl, q _ _ (J1.hok.fresh (Nat.le_refl _)) rfl⟩
def tBMN (K : PySem.W.Frag) (r : V → List V → Hp → VK → Prop) (to : TE) (t : TA) : TE := fun σ H Q => to σ H fun x H1 => (∃ a, x = .ref a ∧ Nd H1 a) ∧ t σ H1 fun xs H2 => r x xs H2 Q
theorem pe_bmN {o e : Expr} {es : List Expr} {to : TE} {t : TA} {name : Str} {apos cpos : Pos} {id : String} {r : V → List V → Hp → VK → Prop} (slot : Slot "tuple" name id) (hty : typeOf (.builtin id) = pure (.type "method_descriptor")) (hm : MtR X id r) (ho : PE X o to) (ha : PA X (e :: es) t)
    (hbase : attributeBase o name X.env (eval o X.env) = eval o X.env := by rfl)
    (hfew : ((backTo cpos (starEach (e :: es) X.env)).all (fun x => !x.1) && (backToKw cpos (keywordEach [] X.env)).all (fun x => x.1.isSome)
      && decide ((e :: es).length + ([] : List Keyword).length + (if ([] : List Keyword).isEmpty then 0 else 1) < 30)) = true := by rfl)
    (hline : (apos.endLine == cpos.line) = true := by rfl) (hs : starEach (e :: es) X.env = (false, eval e X.env) :: starEach es X.env := by rfl) (hplain : (backTo cpos (starEach es X.env)).any (·.1) = false := by rfl) :
    PE X (.Call (.Attribute o name apos) (e :: es) [] cpos) (tBMN X.K r to t) := by
  refine ⟨fun pins s σ H Q I h => ?_⟩
  refine wpAny_Call_method_late hbase hfew hline rfl (thn (ho.run pins s σ H _ I h) fun v s1 ⟨x, H1, J1, rel2, ty, ask1⟩ => ?_)
  obtain ⟨a, rfl, ob, xs, hk, hd⟩ := ty
  have ok : ObjOk X.prog X.w H1 s1.heap a (.frz ob (.tup xs)) := J1.hok a _ hk
  obtain ⟨e1, _, items2, _, o2, e2, c2, _⟩ := ok
  rw [e1] at e2
  obtain rfl := Option.some.inj e2
  obtain rfl : v = .ref a := rel2
  refine ⟨"tuple", id, PySem.F.plainAttrs_tuple, slot, hty, ⟨ob, e1, c2⟩, fun b e => ?_, ?_⟩
  · cases e
    exact ⟨ob, e1, hd⟩
  have args1 := ha.run cpos pins s1 σ H1 _ J1 ask1
  rw [hs] at args1 ⊢
  refine Calls.callWith_builtin (by show (false || (backTo cpos (starEach es X.env)).any (·.1)) = false; rw [hplain] <;> rfl) (Calls.evalArgs_plain ?_)
  exact thn args1 fun us s2 ⟨vs, H2, J2, rel3, ask2⟩ => hm pins s2 σ H2 (.ref a) vs (.ref a) us Q J2 rfl rel3 ask2
def rTupF (K : PySem.W.Frag) : List V → Hp → VK → Prop := fun vs H Q => ∃ (a : Addr) (xs : List V), vs = [.ref a] ∧ SqL K H a xs ∧ ∀ p H', H p = none → Same H H' → SqT K H' p xs → Nd H' p → Q (.ref p) H'
theorem call_tupF : CallR X (.type "tuple") (rTupF X.K) := fun pins s σ H vs us Q J r want => by
  obtain ⟨a, xs, rfl, h1, q⟩ := want
  exact call_tuple_ofN pins s σ H _ us Q J r ⟨a, xs, rfl, h1, fun l ob hl hd => q l _ hl (same_new hl _) (.inl (.inr ⟨ob, upd_same⟩)) ⟨ob, xs, upd_same, hd⟩⟩
theorem st_rTupF {K : PySem.W.Frag} {H : Hp} {Q : VK} {a : Addr} {xs : List V} (hx : SqL K H a xs) (h : ∀ p H', H p = none → Same H H' → SqT K H' p xs → Nd H' p → Q (.ref p) H') : rTupF K [.ref a] H Q := ⟨a, xs, rfl, hx, h⟩
theorem st_BMN {K : PySem.W.Frag} {σ : L2.St} {H : Hp} {Q : VK} {r : V → List V → Hp → VK → Prop} {to : TE} {t : TA} (h : to σ H fun x H1 => (∃ a, x = .ref a ∧ Nd H1 a) ∧ t σ H1 fun xs H2 => r x xs H2 Q) : tBMN K r to t σ H Q := h
/-- a tuple that has no dict of its own -/
def SqN (K : PySem.W.Frag) (H : Hp) (a : Addr) (xs : List V) : Prop := SqT K H a xs ∧ Nd H a
theorem SqN.stay {K : PySem.W.Frag} {H H' : Hp} {a : Addr} {xs : List V} (t : TupsStay H H') (h : SqN K H a xs) : SqN K H' a xs := ⟨t.seq h.1, h.2.stay t⟩
end
end LG
/-! ### t.index(x), t a tuple of flat items -/
namespace LG
open PySem PySem.Spec PyProof.Rows L2
def rIndexT (K : PySem.W.Frag) : V → List V → Hp → VK → Prop := fun x xs H Q => ∃ (a : Addr) (ys : List V) (y : V) (j : Nat) (z : V), x = V.ref a ∧ xs = [y] ∧ SqT K H a ys ∧ flatV y = true ∧ ys.all flatV = true ∧ ys[j]? = some z ∧ eqV z y = true ∧
  (∀ (m : Nat) (z' : V), m < j → ys[m]? = some z' → eqV z' y = false) ∧ Q (.int (j : Nat)) H
theorem mt_indexT {X : Cx} : MtR X "tuple.index" (rIndexT X.K) := by
  intro pins s σ H x xs v us Q I rel0 rels h
  obtain ⟨a, ys, y, j, z, rfl, rfl, sq, flatY, flatYs, zAt, zEq, none, q⟩ := h
  cases rel0
  cases rels with
  | cons relY relT =>
    rename_i uvY uvT
    cases relT
    obtain ⟨items2, rel, ⟨⟨cls, dd, data, sl⟩, oAt, cl, n, dat⟩, long⟩ := I.tuple sq
    simp only at cl dat
    subst cl dat
    obtain ⟨uv, uvAt, uvRel⟩ := rel.get zAt
    obtain ⟨jLt, jEq⟩ := List.getElem?_eq_some_iff.mp uvAt
    have lens := rel.length
    have jIn : j < items2.toArray.size := by simpa using jLt
    refine call_meets PySem.F.slot_tuple_index ⟨_, oAt, rfl⟩ PySem.F.entry_tuple_index (PySem.F.args_tuple_index_2 _ _)
      (TI.tuple_indexAt a items2.toArray n dd sl uvY (eqU y) j jIn ?_ ?_) ⟨oAt, fun u' hu' => mem_eqAt relY flatY rel flatYs u' (by simpa using hu'), ?_⟩
    · have same : items2.toArray[j] = uv := by simpa using jEq
      rw [same, eqU_of uvRel (flat_at flatYs zAt)]
      exact zEq
    · intro m mIn mLt
      have mIn2 : m < items2.length := by simpa using mIn
      have mIn3 : m < ys.length := by omega
      have yAt : ys[m]? = some ys[m] := List.getElem?_eq_getElem mIn3
      obtain ⟨uv2, uv2At, uv2Rel⟩ := rel.get yAt
      obtain ⟨_, mEq⟩ := List.getElem?_eq_some_iff.mp uv2At
      have same : items2.toArray[m] = uv2 := by simpa using mEq
      rw [same, eqU_of uv2Rel (flat_at flatYs yAt)]
      exact none m _ mLt yAt
    · exact ⟨.int (j : Nat), H, I.tok _, ⟨_, rfl⟩, q⟩
theorem pe_ixTK {X : Cx} {K : PySem.W.Frag} (eK : X.K = K) {o e : Expr} {es : List Expr} {to : TE} {t : TA} {apos cpos : Pos} (ho : PE X o to) (ha : PA X (e :: es) t)
    (hbase : attributeBase o "index" X.env (eval o X.env) = eval o X.env := by rfl)
    (hfew : ((backTo cpos (starEach (e :: es) X.env)).all (fun x => !x.1) && (backToKw cpos (keywordEach [] X.env)).all (fun x => x.1.isSome)
      && decide ((e :: es).length + ([] : List Keyword).length + (if ([] : List Keyword).isEmpty then 0 else 1) < 30)) = true := by rfl)
    (hline : (apos.endLine == cpos.line) = true := by rfl) (hs : starEach (e :: es) X.env = (false, eval e X.env) :: starEach es X.env := by rfl) (hplain : (backTo cpos (starEach es X.env)).any (·.1) = false := by rfl) :
    PE X (.Call (.Attribute o "index" apos) (e :: es) [] cpos) (tBMN K (rIndexT K) to t) := by
  subst eK
  exact pe_bmN PySem.F.slot_tuple_index PySem.F.type_tuple_index mt_indexT ho ha hbase hfew hline hs hplain
end LG
namespace LG
open PySem PySem.Spec PyProof.Rows L2
set_option maxHeartbeats 4000000 in
theorem tuple_mul1 (l : Addr) (items : Array Value) (n : Nat) (dd : Option Addr) (sl : Array (Option Value)) (x : Int) (u : Tok) (c0 : (decide (x < -(2 ^ 63)) || decide (x ≥ 2 ^ 63)) = false) (c1 : (items.isEmpty || x == 1) = true) :
    Meets (Builtin.«tuple.__mul__» ⟨[.ref l, .int x u], []⟩) (fun _ R s => s.heap.get? l = some { cls := .type "tuple", dict := dd, data := .seq items n, slots := sl } ∧
      R (.ok (.ret (Value.ref l))) s) :=
  .of_wp fun prog w A R s h => by
    obtain ⟨hp, g, d, tk, os⟩ := s
    obtain ⟨hl, h⟩ := h
    have f1 := AutoSeq1.idx_int
    wp_walk using wpAny_loadPart' hl
    repeat (first
      | (refine wpAny_ite_false (decide_eq_false (by rw [c0]; exact Bool.false_ne_true)) ?_; wp_walk using wpAny_loadPart' hl)
      | (refine wpAny_ite_true (decide_eq_true (by rw [c1])) ?_; wp_walk using wpAny_loadPart' hl))
    exact ⟨_, rfl, h⟩
set_option maxHeartbeats 4000000 in
theorem tuple_mul0 (l : Addr) (items : Array Value) (n : Nat) (dd : Option Addr) (sl : Array (Option Value)) (x : Int) (u : Tok) (c0 : (decide (x < -(2 ^ 63)) || decide (x ≥ 2 ^ 63)) = false) (c1 : (items.isEmpty || x == 1) = false) (c2 : (decide (x ≤ 0) || items.isEmpty) = true) :
    Meets (Builtin.«tuple.__mul__» ⟨[.ref l, .int x u], []⟩) (fun _ R s => s.heap.get? l = some { cls := .type "tuple", dict := dd, data := .seq items n, slots := sl } ∧
      R (.ok (.ret (Value.ref s.heap.objs.size))) { s with heap := s.heap.push { cls := Value.type "tuple", data := Data.seq #[] }, toks := s.toks }) :=
  .of_wp fun prog w A R s h => by
    obtain ⟨hp, g, d, tk, os⟩ := s
    obtain ⟨hl, h⟩ := h
    have f1 := AutoSeq1.idx_int
    wp_walk using wpAny_loadPart' hl
    repeat (first
      | (refine wpAny_ite_false (decide_eq_false (by rw [c0]; exact Bool.false_ne_true)) ?_; wp_walk using wpAny_loadPart' hl)
      | (refine wpAny_ite_false (decide_eq_false (by rw [c1]; exact Bool.false_ne_true)) ?_; wp_walk using wpAny_loadPart' hl)
      | (refine wpAny_ite_true (decide_eq_true (by rw [c2])) ?_; wp_walk using wpAny_loadPart' hl))
    exact ⟨_, rfl, h⟩
def rRepA (K : PySem.W.Frag) : R2 := fun x y H Q => ∃ l k xs, x = .ref l ∧ y = .int k ∧ SqT K H l xs ∧ xs ≠ [] ∧ 0 ≤ k ∧ k ≤ 1000 ∧ xs.length ≤ 1000 ∧ ∀ p H', Same H H' → SqT K H' p (List.replicate k.toNat xs).flatten → Q (.ref p) H'
set_option maxHeartbeats 4000000 in
theorem op_repA {X : Cx} : OpR X (binaryOp .Mult) (rRepA X.K) := by
  intro pins s σ H x y v u Q I rx ry h
  obtain ⟨l, k, xs, rfl, rfl, hT, hne, h1, h2, hz, q⟩ := h
  by_cases k2 : 2 ≤ k
  · exact op_repT pins s σ H _ _ v u Q I rx ry ⟨l, k, xs, rfl, rfl, hT, hne, k2, h2, hz, fun p hp => q p _ (same_new hp _) (SqT.of upd_same)⟩
  cases rx
  obtain ⟨t, rfl⟩ := ry
  obtain ⟨its, r, ⟨⟨cls, dd, data, sl⟩, ho, hc, n, hd⟩, hs⟩ := I.tuple hT
  simp only at hc hd
  subst hc hd
  have hle : its.length = xs.length := r.length.symm
  have hn : its ≠ [] := fun e => hne (by
    rw [e] at hle
    exact List.eq_nil_of_length_eq_zero hle.symm)
  have hi : its.toArray.isEmpty = false := by
    cases its with
    | nil => exact absurd rfl hn
    | cons a b => rfl
  have c0 : (decide (k < -(2 ^ 63)) || decide (k ≥ 2 ^ 63)) = false := by
    rw [decide_eq_false (by omega), decide_eq_false (by omega)] <;> rfl
  refine wpAny_binaryOp_repeat_ref (T := "tuple") (U := "int") (by decide) ⟨_, ho, rfl⟩ (fun s' => typeIs_int s' k t) noFill_tuple_mul F.fills_int_mul F.slot_int_rmul repeat_tuple F.slot_int_index.lookup
    (call_meets F.slot_int_rmul (typeIs_int s k t) F.entry_int_rmul (F.args_int_rmul_2 _ _) (int_rmul_tuple k t l its.toArray n dd sl) ⟨ho, rfl, ⟨_, ho, rfl⟩, ?_⟩)
  by_cases k1 : k = 1
  · have c1 : (its.toArray.isEmpty || k == 1) = true := by rw [k1, hi]; rfl
    refine call_meets F.slot_tuple_mul ⟨_, ho, rfl⟩ F.entry_tuple_mul (F.args_tuple_mul_2 _ _) (tuple_mul1 l its.toArray n dd sl k t c0 c1) ⟨ho, ?_⟩
    refine ⟨.ref l, H, I, rfl, q l H (Same.refl _) ?_⟩
    rw [k1]
    have e : (List.replicate (1 : Int).toNat xs).flatten = xs := by
      show (List.replicate 1 xs).flatten = xs
      simp
    rw [e]
    exact hT
  · obtain rfl : k = 0 := by omega
    have c1 : (its.toArray.isEmpty || (0 : Int) == 1) = false := by rw [hi]; rfl
    have c2 : (decide ((0 : Int) ≤ 0) || its.toArray.isEmpty) = true := by rw [decide_eq_true (Int.le_refl 0)]; rfl
    refine call_meets F.slot_tuple_mul ⟨_, ho, rfl⟩ F.entry_tuple_mul (F.args_tuple_mul_2 _ _) (tuple_mul0 l its.toArray n dd sl 0 t c0 c1 c2) ⟨ho, ?_⟩
    have hp := I.hok.fresh (Nat.le_refl s.heap.objs.size)
    refine ⟨.ref s.heap.objs.size, _, I.laid (t' := s.toks) (o := .tup []) (fun b ob q => Heap.get?_push_of_some _ q) (Nat.le_refl _) ?_, rfl, q _ _ (same_new hp _) (SqT.of upd_same)⟩
    exact ⟨Nat.zero_le _, [], .nil, IsTup.new _ _⟩
theorem st_rRepA {K : PySem.W.Frag} {H : Hp} {Q : VK} {a : Addr} {k : Int} {xs : List V} (hx : SqT K H a xs) (hn : xs ≠ []) (h0 : 0 ≤ k) (h1 : k ≤ 1000) (hz : xs.length ≤ 1000) (h : ∀ p H', Same H H' → SqT K H' p (List.replicate k.toNat xs).flatten → Q (.ref p) H') : rRepA K (.ref a) (.int k) H Q := ⟨a, k, xs, rfl, rfl, hx, hn, h0, h1, hz, h⟩
end LG
namespace LG
open PySem PySem.Spec PyProof.Rows L2
def tCallKR (sp : Sp) (E : XK) (tk : TA) : TE := fun σ H Q => tk σ H fun zs H2 => sp zs.reverse H2 Q E
structure HasKR (P : Program) (w : World) (K : PySem.W.Frag) (mg : Str → Option Value) (base : Heap) (CX : CXT) (k : Nat) (x x1 x2 : Str) (sp : Sp) : Prop where
  ex : ∃ (f : Addr) (fd : FuncData), FnOk P w K mg base CX k f fd [x1, x2] sp ∧ mg x = some (.ref f) ∧ PySem.W.keepIn K (.ref f) = true ∧ ∀ (s : Shared) (w1 w2 : Value), BindsTo s fd ⟨[], [(x2, w2), (x1, w1)]⟩ [(x1, w1), (x2, w2)]
structure DefKR (K : PySem.W.Frag) (mg : Str → Option Value) (x : Str) (st : Stmt) (x1 x2 : Str) : Prop where
  ex : ∃ (f : Addr) (fd : FuncData), Fun K x x st f fd ∧ mg x = some (.ref f) ∧ ∀ (s : Shared) (w1 w2 : Value), BindsTo s fd ⟨[], [(x2, w2), (x1, w1)]⟩ [(x1, w1), (x2, w2)]
theorem DefKR.has {P : Program} {w : World} {K : PySem.W.Frag} {mg : Str → Option Value} {base : Heap} {CX : CXT} {k : Nat} {x x1 x2 : Str} {sp : Sp} {st : Stmt} (d : DefKR K mg x st x1 x2) (h : ∀ (f : Addr) (fd : FuncData), Fun K x x st f fd → FnOk P w K mg base CX k f fd [x1, x2] sp) : HasKR P w K mg base CX k x x1 x2 sp := by
  obtain ⟨f, fd, F, m, b⟩ := d.ex
  exact ⟨f, fd, h f fd F, m, F.kp, b⟩
section
variable {X : Cx} {CX : CXT} {k j : Nat} {x1 x2 : Str} {sp : Sp} {x : Str} {p pos : Pos} {E : XK} {kws : List Keyword} {tk : TA}
theorem pcKR (h : HasKR X.prog X.w X.K X.mg X.base CX k x x1 x2 sp) (hr : Room j X.A) (hx : Passes CX X E) (hkw : PK X kws tk) (hg : Gl X x := by rfl) (hj : k ≤ j := by first | decide | omega)
    (hall : (backToKw pos (keywordEach kws X.env)).all (·.1.isSome) = true := by rfl) (hks : (backToKw pos (keywordEach kws X.env)).filterMap (·.1) = [x2, x1] := by rfl) (hdb : (x == ("__debug__" : Str)) = false := by decide)
    (hpl : ((backTo pos (starEach [] X.env)).any (·.1) || (backToKw pos (keywordEach kws X.env)).any (·.1.isNone)) = false := by rfl) : PE X (.Call (.Name x p) [] kws pos) (tCallKR sp E tk) := by
  obtain ⟨f, fd, F, hm, hk, hb⟩ := h.ex
  refine ⟨fun pins s σ H Q I h => ?_⟩
  refine wpAny_Call_Name_kw (ld_glob I hg hm ?_ hdb)
  refine PySem.W.callWith_KW0 (h₀ := X.base) I.ok.mod.kin hk hall ?_ hpl
  refine thn (hkw.run pos pins s σ H _ I h) fun ws s2 ⟨zs, H2, I2, rz, q2⟩ => ⟨I2.kIn, ?_⟩
  rw [hks]
  have hl : zs.reverse.length = 2 := F.len _ _ _ _ q2
  obtain ⟨z2, z1, rfl⟩ : ∃ z2 z1, zs = [z2, z1] := by
    match zs, hl with
    | [], z => simp at z
    | [_], z => simp at z
    | [a, b], _ => exact ⟨a, b, rfl⟩
    | _ :: _ :: _ :: _, z => simp at z
  cases rz with | cons a1 rz =>
  cases rz with | cons a2 rz =>
  cases rz
  refine wpAny_call (codeAny_mono (F.run X.A X.stack s2 H2 ⟨[], [(x2, _), (x1, _)]⟩ [_, _] [z1, z2] Q E (hr.mono hj) I2.env0 (hb s2 _ _) (.cons a2 (.cons a1 .nil)) q2) fun r s' hq => ?_)
  cases r with
  | error e => exact hx pins σ H2 s2 e s' I2 hq
  | ok fl =>
    cases fl with
    | ret u => exact I2.after hq
    | next => exact False.elim hq
    | brk => exact False.elim hq
    | cont => exact False.elim hq
theorem st_callKR {sp : Sp} {E : XK} {σ : L2.St} {H : Hp} {Q : VK} {t : TA} (h : t σ H fun vs H1 => sp vs.reverse H1 Q E) : tCallKR sp E t σ H Q := h
end
end LG
/-! ### where an exception is handled: tuples walked, defs called, isinstance -/
namespace LG
open PySem PySem.Spec PyProof.Rows L2 L2H HotX
section
variable {prog : Program} {w : World} {A : Around} {E : Value → Shared → Prop} {s : Shared}
theorem tuple_end_hot {it t x1 : Addr} {i : Nat} {items} {Q : Option Value → Shared → Prop} (warm : HotAt A x1 s.heap)
    (iterAt : s.heap.IsTupleIter it t i) (tupAt : s.heap.IsTuple t items) (out : items[i]? = none)
    (hQ : ∀ h', Heap.ExtBut it s.heap h' → Q none { s with heap := h' }) : wpAny (model prog w) A (pyNext (.ref it)) Q E s := by
  obtain ⟨o, oAt, cl, dat⟩ := id iterAt
  obtain ⟨ot, otAt, _, nl, otDat⟩ := tupAt
  obtain ⟨hand, eo, ev, eAt, eDat, eCtx⟩ := warm
  have apart : it ≠ x1 := fun e => by
    rw [e, eAt] at oAt
    obtain rfl := Option.some.inj oAt
    rw [eDat] at dat
    have e2 : ev = _ := Data.fields.inj dat
    rw [e2] at eCtx
    simp at eCtx
  unfold pyNext
  refine wpAny_bind (wpAny_attempt (wpAny_callSpecial?_slot (name := Str.ofString "__next__") iterAt.typeIs F.slot_tuple_iterator_next
    (wpAny_call_entry F.slot_tuple_iterator_next iterAt.typeIs F.entry_tuple_iterator_next ?_ (F.args_tuple_iterator_next_1 _))))
  show wpAny _ _ (field (.ref it) 0 >>= _) _ _ s
  refine wpAny_bind (wpAny_field oAt dat (x := .ref t) rfl ?_)
  show wpAny _ _ (if (Value.ref t == Value.none) = true then _ else _) _ _ s
  rw [if_neg (show ¬ ((Value.ref t == Value.none) = true) from Bool.false_ne_true)]
  show wpAny _ _ (field (.ref it) 1 >>= _) _ _ s
  refine wpAny_bind (wpAny_field oAt dat (x := .int i 0) rfl ?_)
  show wpAny _ _ (seqItems? (.ref t) >>= _) _ _ s
  refine wpAny_bind (wpAny_seqItems otAt otDat ?_)
  simp only [Int.toNat_natCast, out]
  refine wpAny_bind (wpAny_rule (wpAny_bind (wpAny_setField oAt dat (by simp) ?_)))
  show wpAny _ _ (newExc (.type "StopIteration") [] >>= _) _ _ _
  refine wpAny_bind ?_
  simp only [newExc, newTuple]
  refine wpAny_bind (wpAny_newObj_type ?_ (by size_fits))
  refine wpAny_bind (m := firstArgMember _ _) (wpAny_of_eq (a := Value.none) (by first | rfl | (simp only [firstArgMember]; rfl)) ?_)
  refine wpAny_newObj_type ?_ (by size_fits)
  have eAt2 := (Heap.get?_update_other s.heap (Obj.mapFields (·.setIfInBounds 0 Value.none)) apart).trans eAt
  refine raiseNew_hot ⟨hand, eo, ev, Heap.get?_push_of_some _ (Heap.get?_push_of_some _ eAt2), eDat, eCtx⟩ (Nat.ne_of_lt (Heap.lt_size (Heap.get?_push_of_some _ eAt2))) (Heap.get?_push_size _ rfl) rfl (by first | (simp; done) | (simp; omega) | (simp only [Array.size_append]; simp; omega)) ?_
  refine wpAny_bind (wpAny_isInstance (T := "StopIteration") (b := true) ⟨_, Heap.get?_update_self _ (Heap.get?_push_size _ rfl) rfl, rfl⟩ isSubtype_stop ?_)
  refine wpAny_pure (hQ _ fun b o far e => ?_)
  have kept := (Heap.get?_update_other s.heap (Obj.mapFields (·.setIfInBounds 0 Value.none)) (Ne.symm far)).trans e
  rw [Heap.get?_update_other _ _ (Nat.ne_of_gt (Heap.lt_size (Heap.get?_push_of_some _ kept)))]
  exact Heap.get?_push_of_some _ (Heap.get?_push_of_some _ kept)
end
theorem turn_tupleH {P : Program} {w : World} {K : PySem.W.Frag} {tg : Expr} (a it : Addr) : TurnH P w K tg (Itt K a) [it] it (fun i h => h.IsTupleIter it a i) where
  mem := (turn_tuple (P := P) (w := w) (K := K) (tg := tg) a it).mem
  obj := (turn_tuple (P := P) (w := w) (K := K) (tg := tg) a it).obj
  keep := (turn_tuple (P := P) (w := w) (K := K) (tg := tg) a it).keep
  item := by
    intro X pEq wEq kEq cl i pins s σ H E I lie turnAt more
    subst pEq wEq kEq
    obtain ⟨xs, x, sq, out⟩ := more
    obtain ⟨items2, rel, p, len⟩ := I.tuple sq
    obtain ⟨uv, uvAt, uvRel⟩ := rel.get out
    obtain ⟨z0, z1, z2, z3, z4, z5⟩ := lie it (by simp)
    refine wpAny_pyNext_tuple_item turnAt (show s.heap.IsTuple a items2.toArray from p) (x := uv) (by simpa using uvAt) fun h' st' same => ?_
    have J1 : Inv X pins σ H { s with heap := h' } := I.turned (t' := s.toks) (fun b o far e => (same.2 b far).trans e) z0 z1 z3 z4 z5
    obtain ⟨o, e, c, d⟩ := id st'
    exact ⟨uv, rfl, go_of (s := { s with heap := h' }) e c d (by decide) ⟨x, H, J1, uvRel, ⟨rfl, fun ys hy => by rw [I.tuple_inj hy sq]; exact out⟩, st', fun b far => (lie b far).1⟩⟩
  done := by
    intro X pEq wEq kEq cl i pins s σ H E I lie turnAt more
    subst pEq wEq kEq
    obtain ⟨xs, sq, out⟩ := more
    obtain ⟨items2, rel, p, len⟩ := I.tuple sq
    obtain ⟨z0, z1, z2, z3, z4, z5⟩ := lie it (by simp)
    have long := rel.length
    obtain ⟨x1, warm⟩ := cl.at I
    exact tuple_end_hot warm turnAt (show s.heap.IsTuple a items2.toArray from p) (by simp; omega) fun h' ext => ⟨rfl, I.turned (t' := s.toks) (fun b o far e => ext b o far e) z0 z1 z3 z4 z5⟩
  self := (turn_tuple (P := P) (w := w) (K := K) (tg := tg) a it).self
theorem pi_tupH {X : Cx} {tg l : Expr} {tl : TE} (long : PE X l tl) : PIH X tg l (iTup X.K tl) := by
  refine ⟨fun pins s σ H R I h => ?_⟩
  refine thn (long.run pins s σ H _ I h) fun v s1 ⟨x, H1, J1, rel1, ask1⟩ => ?_
  obtain ⟨a, e, ⟨xs, sq⟩, q⟩ := ask1
  subst e
  cases rel1
  obtain ⟨items2, rel, p, len⟩ := J1.tuple sq
  refine wpAny_pyIter_tuple (show s1.heap.IsTuple a items2.toArray from p) ?_
  refine ⟨s1.heap.objs.size, [s1.heap.objs.size], _, _, H1, rfl, J1.kept (t' := s1.toks) fun b o e => Heap.get?_push_of_some _ e, turn_tupleH a _, ⟨_, Heap.get?_push_size _ rfl, rfl, rfl⟩, fun b far => ?_, q⟩
  have e : b = s1.heap.objs.size := by simpa using far
  subst e
  exact J1.fpOk (Nat.le_refl _) (J1.hok.fresh (Nat.le_refl _))
/-- what a def promises where the exception p is handled -/
structure FnE (P : Program) (w : World) (K : PySem.W.Frag) (mg : Str → Option Value) (base : Heap) (k : Nat) (f : Addr) (fd : FuncData) (ps : List Str) (sp : Addr × Obj → Sp) : Prop where
  len : ∀ p vs H Q E, sp p vs H Q E → vs.length = ps.length
  run : ∀ (A : Around) (outer : List Env) (s : Shared) (H : Hp) (us : List Value) (vs : List V) (Q : VK) (E : XK) (p : Addr × Obj), RoomH k A → Hot1 A p → PinOk outer H s p → Env0 P w K mg base A outer s H → BindsTo s fd ⟨us, []⟩ (ps.zip us) → Vals vs us → sp p vs H Q E →
    codeAny (model P w) A (.call (.ref f) ⟨us, []⟩) (CR CX0 outer P w H s Q E) s
theorem FnE.by {P : Program} {w : World} {K : PySem.W.Frag} {mg : Str → Option Value} {base : Heap} {k : Nat} {x qual : Str} {turnAt : Stmt} {f : Addr} {fd : FuncData} {N ps : List Str} {sp : Addr × Obj → Sp} (F : Fun K x qual turnAt f fd) (S : FnScope N ps (defScope turnAt)) (len : ∀ p vs H Q E, sp p vs H Q E → vs.length = ps.length)
    (hbody : ∀ (cdv : Value) (A : Around) (outer : List Env) (s : Shared) (H : Hp) (vs : List V) (Q : VK) (E : XK) (p : Addr × Obj), Hot1 A p → RoomH k (A.deeper (envOfC qual (defScope turnAt) s.heap.objs.size f cdv)) → sp p vs H Q E →
      ∃ t, PSs (cxH CX0 P w K mg base N qual (defScope turnAt) f cdv A outer s H E p).nox (defBody turnAt) t ∧ t { nx := fun _ H' => Q .non H', rt := Q } (L2.start N vs) H) :
    FnE P w K mg base (k + 1) f fd ps sp := by
  obtain ⟨_, _, _, _, _, _, cdv, _, _, rfl, look, code⟩ := F.ex
  refine ⟨len, fun A outer s H us vs Q E p room warm pinned env0 far r asks => ?_⟩
  have long := len _ _ _ _ _ asks
  have inK : K.In s.heap := env0.mod.kin.keeps fun b o e => (env0.bs b o e).1
  have noLim : s.heap.NoLimit := env0.mod.nolimit.keeps fun b o e => (env0.bs b o e).1
  have kinds : ∀ y ∈ ps.zip us, (defScope turnAt).names.lookup y.1 = some .local ∨ ((defScope turnAt).names.lookup y.1 = some .cell ∧ ((cellsFrom (s.heap.objs.size + 1) (defScope turnAt).names []).lookup y.1).isSome = true) := fun ⟨n, v⟩ hy => by
    rcases S.par n (List.of_mem_zip hy).1 with q | q
    · exact .inl q
    · exact .inr ⟨q, PySem.W.cellsFrom_some _ _ _ (.inl q)⟩
  refine codeAny_call_function room.depth (inK _ _ look) rfl S.co S.gen rfl (PySem.W.codeRec_of inK code) (far _ _ _ _ ?_)
  refine wpAny_newFunctionEnv_cells S.kind kinds fun env he s1 x => ?_
  subst he
  refine ⟨noLim.keeps x.toInCall.keep, codeAny_func ?_⟩
  obtain ⟨t, tupAt, sq⟩ := hbody cdv A outer s H vs Q E p warm (room.deeper _) asks
  have I : Inv (cxH CX0 P w K mg base N qual (defScope turnAt) f cdv A outer s H E p) [] (L2.start N vs) H s1 := inv_startH S pinned env0 long r x
  refine wpAny_mono (tupAt.nox.run [] s1 (L2.start N vs) H _ I sq) (fun fl s' got => ?_) fun _ _ bad => bad
  have fin : ∀ {σ' : L2.St} {H' : Hp} {v : V} {uv : Value}, Inv (cxH CX0 P w K mg base N qual (defScope turnAt) f cdv A outer s H E p) [] σ' H' s' → RelV v uv → Q v H' → CE outer P w H s Q uv s' :=
    fun {σ' H' v uv} J rel q => ⟨v, H', J.os, J.bare, J.base, J.hok, rel, q⟩
  cases fl with
  | ret uv =>
    obtain ⟨v, σ', H', J, rel, q⟩ := got
    exact fin J rel q
  | next =>
    obtain ⟨σ', H', J, q⟩ := got
    exact fin (v := V.non) (uv := Value.none) J rfl q
  | brk =>
    obtain ⟨_, _, _, q⟩ := got
    exact False.elim q
  | cont =>
    obtain ⟨_, _, _, q⟩ := got
    exact False.elim q
end LG
namespace LG
open PySem PySem.Spec PyProof.Rows L2 L2H HotX
section
variable {P : Program} {w : World} {K : PySem.W.Frag} {mg : Str → Option Value} {base : Heap}
theorem hot1_deeper {A : Around} {p : Addr × Obj} {env : Env} (h : Hot1 A p) : Hot1 (A.deeper env) p := h
theorem hotC_cx {CX : CXT} {N : List Str} {qual : Str} {scope : Scope} {f : Addr} {cd : Value} {A : Around} {outer : List Env} {s : Shared} {H : Hp} {E : XK} {p : Addr × Obj} (h : Hot1 A p) : HotC (cxH CX P w K mg base N qual scope f cd A outer s H E p).nox := ⟨p, hot1_deeper h, List.mem_cons_self⟩
structure HasE (P : Program) (w : World) (K : PySem.W.Frag) (mg : Str → Option Value) (base : Heap) (k : Nat) (x : Str) (ps : List Str) (sp : Addr × Obj → Sp) : Prop where
  ex : ∃ (f : Addr) (fd : FuncData), FnE P w K mg base k f fd ps sp ∧ mg x = some (.ref f) ∧ PySem.W.keepIn K (.ref f) = true ∧ Binds K fd ps []
theorem Def.hasE {k : Nat} {x : Str} {ps : List Str} {sp : Addr × Obj → Sp} {st : Stmt} (d : Def K mg x st ps) (h : ∀ (f : Addr) (fd : FuncData), Fun K x x st f fd → FnE P w K mg base k f fd ps sp) : HasE P w K mg base k x ps sp := by
  obtain ⟨f, fd, F, m, b⟩ := d.ex
  exact ⟨f, fd, h f fd F, m, F.kp, b⟩
end
section
variable {X : Cx} {k j : Nat} {ps : List Str} {sp : Addr × Obj → Sp} {x : Str} {q pos : Pos} {e : Expr} {es : List Expr} {t : TA} {p : Addr × Obj}
theorem run_fnE {f : Addr} {fd : FuncData} {pins : List (Addr × Obj)} {σ : L2.St} {H : Hp} {s : Shared} {Q : VK} {us : List Value} {vs : List V} (F : FnE X.prog X.w X.K X.mg X.base k f fd ps sp) (room : RoomH k X.A) (hot : Hot1 X.A p) (hp : p ∈ X.pn) (hb : Binds X.K fd ps [])
    (I : Inv X pins σ H s) (r : Vals vs us) (h : sp p vs H Q E0) : wpAny (model X.prog X.w) X.A (call (.ref f) us) (EP X pins σ Q) X.xe s := by
  have long : us.length = ps.length := by rw [← r.length]; exact F.len _ _ _ _ _ h
  have b := hb s us I.kIn (by rw [List.append_nil]; exact long)
  rw [List.append_nil] at b
  have pin1 := I.pin p (List.mem_append_left _ hp)
  have pinned : PinOk X.stack H s p := ⟨pin1.1, pin1.2.1, fun hm => (List.mem_cons.mp (I.stkSub p.1 hm)).elim pin1.2.2.1 pin1.2.2.2.1, pin1.2.2.2.2⟩
  refine wpAny_call (codeAny_mono (F.run X.A X.stack s H us vs Q E0 p room hot pinned I.env0 b r h) fun r s' got => ?_)
  cases r with
  | error e => exact False.elim got
  | ok fl =>
    cases fl with
    | ret u => exact I.after got
    | next => exact False.elim got
    | brk => exact False.elim got
    | cont => exact False.elim got
/-- items2 call, where p is handled -/
theorem pcH (h : HasE X.prog X.w X.K X.mg X.base k x ps sp) (room : RoomH j X.A) (hot : Hot1 X.A p) (hp : p ∈ X.pn) (ha : PA X (e :: es) t) (hg : Gl X x := by rfl) (hj : k ≤ j := by first | decide | omega) (dbg : (x == ("__debug__" : Str)) = false := by decide)
    (each : starEach (e :: es) X.env = (false, eval e X.env) :: starEach es X.env := by rfl) (plain1 : (backTo pos (starEach es X.env)).any (·.1) = false := by rfl) : PE X (.Call (.Name x q) (e :: es) [] pos) (tCall (sp p) [] E0 t) := by
  obtain ⟨f, fd, F, m, keeps, b⟩ := h.ex
  refine ⟨fun pins s σ H Q I h => ?_⟩
  refine wpAny_Call_Name_kw (ld_glob I hg m ?_ dbg)
  refine PySem.W.callWith_K (h₀ := X.base) I.ok.mod.kin keeps (thn (ha.run pos pins s σ H _ I h) fun us s1 ⟨vs, H1, J1, r, q⟩ => ⟨J1.kIn, ?_⟩) each plain1
  refine run_fnE F (room.mono hj) hot hp b J1 r ?_
  have q' : sp p (vs ++ []) H1 Q E0 := q
  rw [List.append_nil] at q'
  exact q'
/-- isinstance(e, c), e the exception that is handled -/
theorem call_isP {a D : Addr} {oe : Obj} (C : ExcC X.K D) (hp : (a, oe) ∈ X.pn) (len : Zc (.ref D) none oe) (flds : ∃ vs, oe.data = .fields vs) : CallR X (.builtin "isinstance") (rIsE X.K D a) := by
  intro pins s σ H xs us Q I r h
  obtain ⟨c, cv, b, rfl, only, e, q⟩ := h
  cases r with
  | cons rel0 rest =>
    cases rest with
    | cons rel1 rest =>
      cases rest
      cases rel0
      have same := only _ rel1
      subst same
      obtain ⟨at1, _⟩ := I.pin (a, oe) (List.mem_append_left _ hp)
      obtain ⟨vs, dat⟩ := flds
      have J : PySem.W.InstAt s.heap a oe D none := by
        obtain ⟨oc, od, oda, osl⟩ := oe
        obtain ⟨eq1, eq2⟩ := len
        dsimp only at eq1 eq2 dat
        subst eq1 eq2 dat
        exact ⟨at1, rfl, rfl, trivial⟩
      exact PySem.W.kia_one (PySem.W.handS_kitx_exc C.hg C.hk C.hs C.hd C.ha C.hn C.ht C.hm) I.kIn J e (fun z => nomatch z) fun tk => ⟨.bl b, H, I.kept (t' := tk) fun _ _ z => z, rfl, q⟩
end
section
variable {X : Cx}
/-- sorted of rows that have no dict of their own: neither have the rows then -/
def rSortN (K : PySem.W.Frag) : List V → Hp → VK → Prop := fun vs H Q => ∃ (a : Addr) (xs : List V) (rs : List (List Int)), vs = [V.ref a] ∧ SqL K H a xs ∧ DtAll K H xs (rs.map tupI) ∧ NdAll H xs ∧ rs.length ≤ 1000 ∧ (∀ r ∈ rs, r ≠ []) ∧
  ∀ (ys : List V) (p : Addr), H p = none → DtAll K H ys ((rs.mergeSort leR).map tupI) → NdAll H ys → Q (.ref p) (upd H p (.lst ys))
theorem each_ofN {K : PySem.W.Frag} {H : Hp} : ∀ {rs : List (List Int)} {xs : List V} {us : List Value}, DtAll K H xs (rs.map tupI) → NdAll H xs → Vals xs us → PySem.W.EachIs (fun u r => ∃ t, u = Value.ref t ∧ SqT K H t (r.map V.int) ∧ Nd H t) us rs
  | [], _, _, h, _, r => by
    cases h
    cases r
    exact .nil
  | b :: bs, _, _, h, nd, r => by
    cases h with
    | cons eq1 eq2 =>
      cases r with
      | cons rel2 rel3 =>
        refine .cons ?_ (each_ofN eq2 (fun t ht => nd t (List.mem_cons_of_mem _ ht)) rel3)
        cases eq1 with
        | @tup a ys ds hs ha =>
          cases rel2
          refine ⟨a, rfl, ?_, nd a List.mem_cons_self⟩
          have e : ys = b.map V.int := by
            clear hs eq2 rel3
            induction b generalizing ys with
            | nil => cases ha; rfl
            | cons x b ih =>
              cases ha with
              | cons h h' =>
                cases h
                rw [List.map_cons, ← ih h']
          rw [← e]
          exact hs
theorem each_backN {K : PySem.W.Frag} {H : Hp} : ∀ {rs : List (List Int)} {us : List Value}, PySem.W.EachIs (fun u r => ∃ t, u = Value.ref t ∧ SqT K H t (r.map V.int) ∧ Nd H t) us rs → ∃ ys, Vals ys us ∧ DtAll K H ys (rs.map tupI) ∧ NdAll H ys
  | [], _, .nil => ⟨[], .nil, .nil, fun t ht => absurd ht List.not_mem_nil⟩
  | b :: bs, _, .cons ⟨t, e, h, n⟩ r => by
    obtain ⟨ys, v, d, nd⟩ := each_backN r
    subst e
    refine ⟨.ref t :: ys, .cons rfl v, .cons (.tup h (DtAll.ints b)) d, fun t' ht => ?_⟩
    rcases List.mem_cons.mp ht with q | q
    · cases q
      exact n
    · exact nd t' q
theorem cr_sortN (hu : X.A.units + 64 < cLine) : CallR X (.builtin "sorted") (rSortN X.K) := by
  intro pins s σ H vs us Q I r h
  obtain ⟨a, xs, rs, rfl, hs, hd, hnd, len, ne, q⟩ := h
  obtain ⟨items2, rv, long, hz2⟩ := I.list hs
  rw [Vals.ref1 r]
  have ea := each_ofN hd hnd rv
  have er : PySem.W.EachIs (fun v b => ∃ as, Reads s.heap v (tupI b) as) items2 rs := ea.mono fun u b ⟨t, e, ht, _⟩ => by
    subst e
    exact Dp.reads I _ _ _ (dp_row ht) rfl
  have al : PySem.W.AllAlike (rs.map tupI) := fun d hd d' hd' => by
    obtain ⟨x, _, rfl⟩ := List.mem_map.mp hd
    obtain ⟨y, _, rfl⟩ := List.mem_map.mp hd'
    exact row_alike x y
  have so : PySem.W.Sortable (rs.map tupI) := .inl fun d hd => by
    obtain ⟨x, hx, rfl⟩ := List.mem_map.mp hd
    cases x with
    | nil => exact absurd rfl (ne _ hx)
    | cons i x => exact ⟨_, _, rfl⟩
  refine PySem.W.sorted_data long.isList ea er al so (Nat.le_trans len (by decide)) (fun b _ => by rw [row_depth]; omega) fun out long hout => ?_
  have eo : PySem.W.dataLe false tupI = leR := by
    rw [PySem.W.dataLe_eq]
    funext x y
    simp only [cond_false, row_lt]
    rfl
  rw [eo] at hout
  obtain ⟨ys, vy, dy, ny⟩ := each_backN hout
  obtain ⟨ep, he'⟩ := PyProof.Rows.sortedAll_at s.heap items2 out.toArray
  have len : ys.length ≤ sizeLine := by
    rw [vy.length, long]
    exact Nat.le_trans len (by decide)
  exact ⟨.ref _, upd H (s.heap.objs.size + 1) (.lst ys), I.laid (t' := s.toks) (fun _ _ => PyProof.Rows.sortedAll_old) (Nat.le_succ _) ⟨len, out, ep, vy, he'⟩, rfl, q _ _ (I.hok.fresh (Nat.le_succ _)) dy ny⟩
end
end LG
namespace LG
open PySem PySem.Spec PyProof.Rows L2 L2H HotX
theorem takes0N {X : Cx} : L2N.Takes X (fun _ _ _ _ => False) := fun _ _ x => by
  obtain ⟨_, _, _, _, _, _, _, _, _, _, _, _, _, _, _, _, z⟩ := x
  exact z.elim
section
variable {P : Program} {w : World} {K : PySem.W.Frag} {mg : Str → Option Value} {base : Heap}
theorem _root_.L2.Fun.okXN {x qual : Str} {st : Stmt} {f : Addr} {fd : FuncData} {N ps : List Str} {k : Nat} {sp : Sp} (F : Fun K x qual st f fd) (S : FnScope N ps (defScope st)) (len : ∀ vs H Q E, sp vs H Q E → vs.length = ps.length)
    (hbody : ∀ (cdv : Value) (A : Around) (outer : List Env) (s : Shared) (H : Hp) (vs : List V) (Q : VK) (E : XK), Room k (A.deeper (envOfC qual (defScope st) s.heap.objs.size f cdv)) → sp vs H Q E →
      ∃ t, PSs (cxOf (L2N.CX P w) P w K mg base N qual (defScope st) f cdv A outer s H E) (defBody st) t ∧ t { nx := fun _ H' => Q .non H', rt := Q } (start N vs) H) : FnOk P w K mg base (L2N.CX P w) (k + 1) f fd ps sp := by
  obtain ⟨o0, o1, kV, doc, pm, an, cdv, ct, o2, rfl, look, code⟩ := F.ex
  exact fn_of look code S len fun A outer s H vs Q E hr hsp => hbody cdv A outer s H vs Q E hr hsp
theorem roomH_mark {k : Nat} {A : Around} {v : Option Value} (r : Room k A) : RoomH k (A.mark v) := ⟨r.dp, r.un⟩
theorem hot_suite {A : Around} {a : Addr} {oe : Obj} {cls : Value} {d : Option Addr} (hz : L2N.Zn cls d oe) (hf : ∃ vs, oe.data = .fields vs) : Hot1 (A.mark (some (.ref a))) (a, oe) := by
  obtain ⟨vs, e⟩ := hf
  exact ⟨rfl, vs, e, hz.2.2 vs e⟩
end
section
variable {X : Cx} {k j : Nat} {ps : List Str} {sp : Addr × Obj → Sp} {sp' sp0 : Sp} {x : Str} {q pos : Pos} {e : Expr} {es : List Expr} {t : TA} {p : Addr × Obj} {W : WX}
/-- .., what is asked told by sp' -/
theorem pcHi (h : HasE X.prog X.w X.K X.mg X.base k x ps sp) (hr : RoomH j X.A) (hot : Hot1 X.A p) (hp : p ∈ X.pn) (imp : ∀ vs H Q, sp' vs H Q E0 → sp p vs H Q E0) (ha : PA X (e :: es) t) (hg : Gl X x := by rfl) (hj : k ≤ j := by first | decide | omega) (dbg : (x == ("__debug__" : Str)) = false := by decide)
    (each : starEach (e :: es) X.env = (false, eval e X.env) :: starEach es X.env := by rfl) (plain1 : (backTo pos (starEach es X.env)).any (·.1) = false := by rfl) : PE X (.Call (.Name x q) (e :: es) [] pos) (tCall sp' [] E0 t) := by
  obtain ⟨f, fd, F, m, kp, b⟩ := h.ex
  refine ⟨fun pins s σ H Q I h => ?_⟩
  refine wpAny_Call_Name_kw (ld_glob I hg m ?_ dbg)
  refine PySem.W.callWith_K (h₀ := X.base) I.ok.mod.kin kp (thn (ha.run pos pins s σ H _ I h) fun us s1 ⟨vs, H1, I1, r, q⟩ => ⟨I1.kIn, ?_⟩) each plain1
  refine run_fnE F (hr.mono hj) hot hp b I1 r (imp _ _ _ ?_)
  have q' : sp' (vs ++ []) H1 Q E0 := q
  rw [List.append_nil] at q'
  exact q'
theorem pcSN (h : Has X.prog X.w X.K X.mg X.base (L2N.CX X.prog X.w) k x ps sp0) (hr : Room j X.A) (tk : L2N.Takes X W) (ha : PA X (e :: es) t) (hg : Gl X x := by rfl) (hj : k ≤ j := by first | decide | omega) (dbg : (x == ("__debug__" : Str)) = false := by decide)
    (each : starEach (e :: es) X.env = (false, eval e X.env) :: starEach es X.env := by rfl) (plain1 : (backTo pos (starEach es X.env)).any (·.1) = false := by rfl) : PE X (.Call (.Name x q) (e :: es) [] pos) (tCallS sp0 (WE W) t) := by
  obtain ⟨f, fd, F, m, kp, b⟩ := h.ex
  exact pe_callS F (hr.mono hj) hg m kp b (fun σ => L2N.passAt tk σ) ha dbg each plain1
end
end LG
namespace LG
open PySem PySem.Spec PyProof.Rows L2 L2H HotX
def rIsEA (K : PySem.W.Frag) (C a : Addr) (cls : Value) (d : Option Addr) : List V → Hp → VK → Prop := fun xs H Q => cls = .ref C ∧ d = none ∧ rIsE K C a xs H Q
theorem call_isPA {X : Cx} {a C : Addr} {oe : Obj} {cls : Value} {d : Option Addr} (hC : ExcC X.K C) (hp : (a, oe) ∈ X.pn) (hz : L2N.Zn cls d oe) (hf : ∃ vs, oe.data = .fields vs) : CallR X (.builtin "isinstance") (rIsEA X.K C a cls d) := fun pins s σ H xs us Q I r h => by
  obtain ⟨e1, e2, h⟩ := h
  subst e1 e2
  exact call_isP hC hp hz.zc hf pins s σ H xs us Q I r h
section
variable {X : Cx} {k j : Nat} {ps : List Str} {sp : Sp} {x : Str} {p pos : Pos} {e : Expr} {es : List Expr} {t : TA}
/-- its call: what it raises leaves this def too, the exception with its context -/
theorem pcEN {E : XK} (h : Has X.prog X.w X.K X.mg X.base (L2N.CX X.prog X.w) k x ps sp) (hr : Room j X.A) (tk : L2N.Takes X (fun cls d _ H => E cls d H)) (ha : PA X (e :: es) t) (hg : Gl X x := by rfl) (hj : k ≤ j := by first | decide | omega) (hdb : (x == ("__debug__" : Str)) = false := by decide)
    (he : starEach (e :: es) X.env = (false, eval e X.env) :: starEach es X.env := by rfl) (hpl : (backTo pos (starEach es X.env)).any (·.1) = false := by rfl) : PE X (.Call (.Name x p) (e :: es) [] pos) (tCall sp [] E t) := by
  obtain ⟨f, fd, F, m, kp, b⟩ := h.ex
  exact pe_call F (hr.mono hj) hg m kp b .nil (L2N.passes_call tk fun _ _ _ _ z => z) ha hdb he hpl
end
end LG
/-! ### sorted of a tuple of ints -/
namespace LG
open PySem PySem.Spec PyProof.Rows L2
def rSortTI (K : PySem.W.Frag) : List V → Hp → VK → Prop := fun vs H Q => ∃ (a : Addr) (ns : List Int), vs = [V.ref a] ∧ SqT K H a (ns.map V.int) ∧ ∀ (ns' : List Int) (p : Addr), ns'.Perm ns → ns'.Pairwise (· ≤ ·) → H p = none → Q (.ref p) (upd H p (.lst (ns'.map V.int)))
theorem cr_sortTI {X : Cx} : CallR X (.builtin "sorted") (rSortTI X.K) := by
  intro pins s σ H vs us Q I r want
  obtain ⟨a, ns, rfl, sq, q⟩ := want
  obtain ⟨items2, rel, ⟨ob, obAt, cl, epo, dat⟩, small⟩ := I.tuple sq
  rw [Vals.ref1 r]
  have numb := rel.ints
  have few : items2.length ≤ sizeLine := by rw [← rel.length]; exact small
  refine Calls.call_function_entry PyProof.Rows.kind_sorted PyProof.Rows.plain_sorted PyProof.Rows.entry_sorted (PyProof.Rows.args_sorted1 _) ?_
  unfold Builtin.«sorted»
  refine wpAny_bind (m := checkCount "sorted" 1 1 _) (wpAny_pure ?_)
  refine wpAny_bind (wpAny_collect_seq a (T := "tuple") (.inr rfl) obAt cl dat (fun h1 keep => ?_) (by rw [List.size_toArray]; exact few))
  refine wpAny_bind (wpAny_newList ?_ (by simpa using few))
  have madeAt : (h1.push (seqObj "list" items2.toArray 0)).get? h1.objs.size = some (seqObj "list" items2.toArray 0) := Heap.get?_push_size _ rfl
  have J1 : Inv X pins σ H { s with heap := h1 } := I.kept (t' := s.toks) keep
  refine wpAny_bind (wpAny_holding (wpAny_call_entry PyProof.Rows.slot_list_sort ⟨_, madeAt, rfl⟩ PyProof.Rows.entry_list_sort
    (SrtO.list_sort_ord (s := { s with heap := h1.push (seqObj "list" items2.toArray 0) }) SrtO.swo_int madeAt few (fun more => SrtO.ints_sortable numb more) fun out o1 o2 => ⟨_, rfl, ?_⟩) (PyProof.Rows.args_list_sort _)))
  obtain ⟨k1, k2, k3⟩ := SrtO.ints_out numb o1 o2
  obtain ⟨ep, outAt⟩ := PyProof.Rows.sortedHeap_at (vs := items2) (out := out.toArray) madeAt
  have long : ((out.map SrtO.iv).map V.int).length ≤ sizeLine := by
    rw [List.length_map, k2.length_eq]
    rw [List.length_map] at small
    exact small
  refine wpAny_pure ⟨_, rfl, ?_⟩
  refine ⟨.ref h1.objs.size, upd H h1.objs.size (.lst ((out.map SrtO.iv).map V.int)), J1.laid (t' := s.toks) (fun b u e => ?_) (Nat.le_refl _) ⟨long, out, ep, vals_of_ints k1, outAt⟩, rfl, q _ _ k2 k3 (J1.hok.fresh (Nat.le_refl _))⟩
  have bLt := Heap.lt_size e
  rw [PyProof.Rows.sortedHeap_old (Nat.ne_of_lt bLt) (by rw [Heap.size_push]; exact Nat.lt_succ_of_lt bLt)]
  exact Heap.get?_push_of_some _ e
end LG
local macro_rules | `(tactic| close_w) => `(tactic| first | (exact Or.inl ⟨by omega, by omega⟩) | (exact Or.inr ⟨by omega, by omega⟩) | (exact And.intro (by omega) (by omega)) | (exact And.intro (by omega) (And.intro (by omega) (by omega))) | ((show (0 : Int) < _); omega) | ((show (0 : Int) ≤ _); omega) | omega)
local macro_rules | `(tactic| w_left) => `(tactic| (first
  | (with_reducible first
    | refine LG.st_seq ?_ | refine LG.st_asg ?_ | refine LG.st_c ?_ | refine LG.st_op ?_ | refine LG.st_cons ?_ | refine LG.st_nil ?_ | refine LG.st_name ?_ | refine LG.st_call0 ?_ | refine LG.st_callK0 ?_ | refine LG.st_callKR ?_ | refine LG.st_CB ?_
    | refine LG.st_I0 ?_ | refine LG.st_ex ?_ | refine LG.st_exi ?_ | refine LG.st_test ?_ | refine LG.st_if ?_ | refine LG.st_tup ?_ | refine LG.st_tupN ?_ | refine LG.st_lstN ?_ | refine LG.st_lst ?_ | refine LG.st_drop ?_ | refine LG.st_ret ?_ | refine LG.st_retN ?_ | refine LG.st_next ?_
    | refine LG.st_BM ?_ | refine LG.st_BMN ?_ | refine LG.st_BM0 ?_ | refine LG.st_sl ?_ | refine LG.st_noPart ?_ | refine LG.st_part ?_ | refine LG.st_list ?_ | refine LG.st_itup ?_ | refine LG.st_rng1 ?_ | refine LG.st_rng2 ?_
    | refine LG.st_add ?_ | refine LG.st_sub ?_ | refine LG.st_U ?_ | refine LG.st_and ?_ | refine LG.st_or ?_ | refine LG.st_not ?_ | refine LG.st_andV ?_ | refine LG.st_orV ?_ | refine LG.st_notV ?_ | refine LG.st_ife ?_ | refine LG.st_isN ?_ | refine LG.st_notN ?_ | refine LG.st_chain ?_ | refine LG.st_B ?_
    | refine LG.st_un ?_ | refine LG.st_lc ?_ | refine LG.st_for ?_ | refine LG.st_yes ?_ | refine LG.st_gnil ?_ | refine LG.st_gcons ?_ | refine LG.st_gsub ?_ | refine LG.st_break ?_ | refine LG.st_cont ?_ | refine L2.iteT ?_ | refine L2.iteF ?_)
  | ((with_reducible refine' LG.st_var ?hx ?_); (case hx => rfl)) | ((with_reducible refine' LG.st_aug ?hx ?_); (case hx => rfl)) | ((with_reducible refine LG.st_eq ?hx ?_); (case hx => rfl)) | ((with_reducible refine LG.st_ne ?hx ?_); (case hx => rfl)) | ((with_reducible refine LG.st_wipe ?hx ?_); (case hx => rfl))
  | ((with_reducible refine LG.st_I ?hx ?_); (case hx => close_w))
  | ((with_reducible refine LG.st_rj ?hx ?hy ?_); (case hx => omega); (case hy => omega)) | ((with_reducible refine LG.st_rb ?hx ?hy ?_); (case hx => omega); (case hy => omega)) | ((with_reducible refine LG.st_rij ?hx ?_); (case hx => omega))
  | (with_reducible first | refine LG.st_strs ?_ | refine LG.st_en ?_ | refine LG.st_enS ?_ | refine LG.st_dget ?_ | refine LG.st_dc ?_ | refine LG.st_lenSet ?_ | refine LG.st_disp ?_ | refine LG.st_pn ?_ | refine LG.st_pc ?_ | refine LG.st_call ?_)
  | (with_reducible first | refine LG.st_int1 ?_ | refine LG.st_ints ?_ | refine LG.st_ints2 ?_ | refine LG.st_int1b ?_)
  | ((with_reducible refine' LG.st_ixT ?hx ?hy ?_); (case hx => first | (with_reducible assumption) | exact L2.SqT.of (by with_reducible assumption)); (case hy => rfl))
  | ((with_reducible refine' LG.st_ixL ?hx ?hy ?_); (case hx => first | (with_reducible assumption) | exact L2.SqL.of (by with_reducible assumption)); (case hy => rfl))
  | ((with_reducible refine' LG.st_lenT ?hx ?_); (case hx => first | (with_reducible assumption) | exact L2.SqT.of (by with_reducible assumption)))
  | ((with_reducible refine' LG.st_lenL ?hx ?_); (case hx => first | (with_reducible assumption) | exact L2.SqL.of (by with_reducible assumption)))
  | ((with_reducible refine' LG.st_srcT ?hx ?_); (case hx => first | (with_reducible assumption) | exact L2.SqT.of (by with_reducible assumption)))
  | ((with_reducible refine' LG.st_srcE ?hx ?_); (case hx => first | (with_reducible assumption) | exact L2.SqT.of (by with_reducible assumption)))
  | ((with_reducible refine' LG.st_srcE1 ?hx ?_); (case hx => first | (with_reducible assumption) | exact L2.SqT.of (by with_reducible assumption)))
  | ((with_reducible refine' LG.st_srcL ?hx ?_); (case hx => first | (with_reducible assumption) | exact L2.SqL.of (by with_reducible assumption)))
  | ((with_reducible refine LG.st_room ?hx ?_); (case hx => first | (simp only [List.length_cons, List.length_nil]; omega) | simp))
  | ((with_reducible refine' LG.st_rTup ?hx ?_); (case hx => first | (with_reducible assumption) | exact L2.SqL.of (by with_reducible assumption)))
  | ((with_reducible refine' LG.st_rTupF ?hx ?_); (case hx => first | (with_reducible assumption) | exact L2.SqL.of (by with_reducible assumption)))
  | ((with_reducible refine' LG.st_rList ?hx ?_); (case hx => first | (with_reducible assumption) | exact L2.SqT.of (by with_reducible assumption)))
  | ((with_reducible refine' LG.st_rSl ?hx ?_); (case hx => first | (with_reducible assumption) | exact L2.SqL.of (by with_reducible assumption)))
  | ((with_reducible refine' LG.st_rCut ?hx ?_); (case hx => first | (with_reducible assumption) | exact L2.SqT.of (by with_reducible assumption)))
  | ((with_reducible refine' LG.st_tyL ?hx ?_); (case hx => with_reducible assumption))
))
local macro_rules | `(tactic| w_fin) => `(tactic| repeat w_left)
namespace Lw
open PySem PySem.Spec PyProof.Rows L2 LG
def top (i : Nat) : Stmt := PySem.Challenge.pw_looksfar_k12_check_network.main.body.getD i (.Pass ⟨0, 0, 0, 0⟩)
abbrev sis_number : Stmt := top 5
abbrev sproduct_of : Stmt := top 6
abbrev scheck_task : Stmt := top 13
abbrev sis_task : Stmt := top 14
abbrev sare_labels : Stmt := top 15
abbrev s_are_inputs : Stmt := top 16
abbrev s_are_rows : Stmt := top 17
abbrev sis_row : Stmt := top 18
abbrev scheck_network : Stmt := top 21
abbrev sis_network : Stmt := top 22
abbrev sis_order : Stmt := top 23
abbrev s_are_numbers : Stmt := top 24
abbrev s_law_draws : Stmt := top 26
abbrev s_law_take : Stmt := top 27
abbrev s_law_integer : Stmt := top 28
abbrev s_law_order : Stmt := top 29
abbrev s_law_network : Stmt := top 30
abbrev s_law_inputs_right : Stmt := top 31
abbrev s_law_right : Stmt := top 32
abbrev s_law_row_changed : Stmt := top 33
abbrev s_law_changed : Stmt := top 34
abbrev s_law_asked : Stmt := top 35
abbrev s_law_bad_task : Stmt := top 36
abbrev s_law_all : Stmt := top 37
abbrev slaw : Stmt := top 38
/-- the built-ins that the text uses -/
structure Blt (mg : Str → Option Value) : Prop where
  abs : mg "abs" = none
  int : mg "int" = none
  len : mg "len" = none
  range : mg "range" = none
  tuple : mg "tuple" = none
  isinstance : mg "isinstance" = none
  bool : mg "bool" = none
  list : mg "list" = none
  all : mg "all" = none
  zip : mg "zip" = none
  str : mg "str" = none
  set : mg "set" = none
  sorted : mg "sorted" = none
  min : mg "min" = none
  repr : mg "repr" = none
  ValueError : mg "ValueError" = none
/-- the module's constants -/
structure Cst (mg : Str → Option Value) : Prop where
  LEAST_COLOURS : ∃ t, mg "LEAST_COLOURS" = some (.int 2 t)
  MOST_COLOURS : ∃ t, mg "MOST_COLOURS" = some (.int 4 t)
  MOST_INPUTS : ∃ t, mg "MOST_INPUTS" = some (.int 4 t)
  MOST_LABELS : ∃ t, mg "MOST_LABELS" = some (.int 60 t)
  MOST_ROWS : ∃ t, mg "MOST_ROWS" = some (.int 4000 t)
  MOST_NODES : ∃ t, mg "MOST_NODES" = some (.int 400 t)
theorem _root_.L2.Room.units2 {k : Nat} {A : Around} (r : L2.Room k A) : A.units + 65 < cLine := by have := r.un; omega
/-! ### what a task is -/
def isNum (d : PyData) (lo hi : Int) : Bool := match d with
  | .int i => decide (lo ≤ i) && decide (i ≤ hi)
  | _ => false
def isInt2 : PyData → Bool
  | .int _ => true
  | .bool _ => true
  | _ => false
def isBool : PyData → Bool
  | .bool _ => true
  | _ => false
def isTup : PyData → Bool
  | .tuple _ => true
  | _ => false
theorem kit_int (d : PyData) : kitB (tyD d) "int" = some (isInt2 d) := by cases d <;> (simp only [tyD, isInt2]; decide +kernel)
theorem kit_bool (d : PyData) : kitB (tyD d) "bool" = some (isBool d) := by cases d <;> (simp only [tyD, isBool]; decide +kernel)
theorem kit_tup (d : PyData) : kitB (tyD d) "tuple" = some (isTup d) := by cases d <;> (simp only [tyD, isTup]; decide +kernel)
theorem isTup_of {d : PyData} (h : isTup d = true) : ∃ ds, d = .tuple ds := by
  cases d <;> first | exact ⟨_, rfl⟩ | cases h
/-- the number of an int -/
def numD : PyData → Int
  | .int i => i
  | _ => 0
/-- the ints of a tuple -/
def intsD : PyData → List Int
  | .tuple ds => ds.map numD
  | _ => []
theorem num_of {d : PyData} {lo hi : Int} (h : isNum d lo hi = true) : d = .int (numD d) ∧ lo ≤ numD d ∧ numD d ≤ hi := by
  cases d with
  | int i =>
    have h' : (decide (lo ≤ i) && decide (i ≤ hi)) = true := h
    rw [Bool.and_eq_true, decide_eq_true_eq, decide_eq_true_eq] at h'
    exact ⟨rfl, h'⟩
  | _ => cases h
section
variable {P : Program} {w : World} {K : PySem.W.Frag} {mg : Str → Option Value} {base : Heap}
theorem ints_vs {M : Addr → Prop} {H : Hp} : ∀ {ls : List Int} {xs : List V}, DnAll M K H xs (ls.map PyData.int) → xs = ls.map V.int
  | [], _, h => by
    cases h
    rfl
  | l :: ls, _, h => by
    cases h with
    | cons h1 h2 =>
      cases h1
      rw [List.map_cons, ← ints_vs h2]
theorem st_isi {M : Addr → Prop} {H : Hp} {x : V} {d : PyData} {T : String} {b : Bool} {Q : VK} (hd : Dn M K H x d) (hk : kitB (tyD d) T = some b) (h : Q (.bl b) H) : rIsi K [x, .ty T] H Q := ⟨x, _, _, _, b, rfl, ClsV.ty _, hd.ty, kit_ty hk, h⟩
theorem itz_walk {a b : Addr} {xs ys : List V} {B : (Hp → Prop) → V → Hp → Prop} {H0 : Hp} {Qd : Hp → Prop} (hl : xs.length = ys.length) (Pv : Nat → Hp → Prop) (h0 : Pv 0 H0) (hq : ∀ i H, Pv i H → SqT K H a xs ∧ SqT K H b ys)
    (hs : ∀ (i : Nat) (x y : V) (T : Addr) (H : Hp), xs[i]? = some x → ys[i]? = some y → Pv i H → H T = none → B (Pv (i + 1)) (.ref T) (upd H T (.tup [x, y]))) (hd : ∀ H, Pv xs.length H → Qd H) :
    ∃ W : Nat → Nat → Hp → Prop, (∃ m, W 0 m H0) ∧ ∀ i m H, W i m H →
      ((RZ.ItzT K a b).stop i H ∧ Qd H) ∨ ((RZ.ItzT K a b).go i H ∧ ∃ Nx : Hp → Prop, (∀ H', Nx H' → ∃ m', m' < m ∧ W (i + 1) m' H') ∧ ∀ x H', (RZ.ItzT K a b).yld i H x H' → B Nx x H') := by
  refine ⟨fun i m H => m = xs.length - i ∧ i ≤ xs.length ∧ Pv i H, ⟨xs.length, rfl, Nat.zero_le _, h0⟩, ?_⟩
  rintro i m H ⟨rfl, hi, p⟩
  obtain ⟨qx, qy⟩ := hq i H p
  by_cases hlt : i < xs.length
  · have hx : xs[i]? = some xs[i] := List.getElem?_eq_getElem hlt
    have hlt2 : i < ys.length := by omega
    have hy : ys[i]? = some ys[i] := List.getElem?_eq_getElem hlt2
    refine .inr ⟨⟨xs, ys, _, _, qx, qy, hx, hy⟩, Pv (i + 1), fun H' p' => ⟨xs.length - (i + 1), by omega, rfl, hlt, p'⟩, fun v H' y => ?_⟩
    obtain ⟨T, x', y', rfl, hT, rfl, f1, f2⟩ := y
    exact hs i x' y' T H (f1 xs qx) (f2 ys qy) p hT
  · have e : i = xs.length := by omega
    subst e
    exact .inl ⟨⟨xs, ys, qx, qy, Or.inl (Nat.le_refl _)⟩, hd H p⟩
theorem itt_walk {a : Addr} {xs : List V} {B : (Hp → Prop) → V → Hp → Prop} {H0 : Hp} {Qd : Hp → Prop} (Pv : Nat → Hp → Prop) (h0 : Pv 0 H0) (hl : ∀ i H, i ≤ xs.length → Pv i H → SqT K H a xs)
    (hs : ∀ i x H, xs[i]? = some x → Pv i H → B (Pv (i + 1)) x H) (hd : ∀ H, Pv xs.length H → Qd H) :
    ∃ W : Nat → Nat → Hp → Prop, (∃ m, W 0 m H0) ∧ ∀ i m H, W i m H →
      ((Itt K a).stop i H ∧ Qd H) ∨ ((Itt K a).go i H ∧ ∃ Nx : Hp → Prop, (∀ H', Nx H' → ∃ m', m' < m ∧ W (i + 1) m' H') ∧ ∀ x H', (Itt K a).yld i H x H' → B Nx x H') := by
  refine ⟨fun i m H => m = xs.length - i ∧ i ≤ xs.length ∧ Pv i H, ⟨xs.length, by simp, Nat.zero_le _, h0⟩, ?_⟩
  rintro i m H ⟨rfl, hi, p⟩
  have q := hl i H hi p
  by_cases hlt : i < xs.length
  · refine .inr ⟨⟨xs, xs[i], q, by simp [hlt]⟩, Pv (i + 1), fun H' p' => ⟨xs.length - (i + 1), by omega, rfl, hlt, p'⟩, fun x H' y => ?_⟩
    obtain ⟨e, y⟩ := y
    subst e
    exact hs i x _ (y xs q) p
  · have e : i = xs.length := by omega
    subst e
    exact .inl ⟨⟨xs, q, Nat.le_refl _⟩, hd H p⟩
theorem itr_walk {lo : Int} {n : Nat} {B : (Hp → Prop) → V → Hp → Prop} {H0 : Hp} {Qd : Hp → Prop} (Pv : Nat → Hp → Prop) (h0 : Pv 0 H0)
    (hs : ∀ i H, i < n → Pv i H → B (Pv (i + 1)) (.int (lo + i)) H) (hd : ∀ H, Pv n H → Qd H) :
    ∃ W : Nat → Nat → Hp → Prop, (∃ m, W 0 m H0) ∧ ∀ i m H, W i m H →
      ((Itr lo n).stop i H ∧ Qd H) ∨ ((Itr lo n).go i H ∧ ∃ Nx : Hp → Prop, (∀ H', Nx H' → ∃ m', m' < m ∧ W (i + 1) m' H') ∧ ∀ x H', (Itr lo n).yld i H x H' → B Nx x H') := by
  refine ⟨fun i m H => m = n - i ∧ i ≤ n ∧ Pv i H, ⟨n, by simp, Nat.zero_le _, h0⟩, ?_⟩
  rintro i m H ⟨rfl, hi, p⟩
  by_cases hlt : i < n
  · refine .inr ⟨hlt, Pv (i + 1), fun H' p' => ⟨n - (i + 1), by omega, rfl, hlt, p'⟩, fun x H' y => ?_⟩
    obtain ⟨e, y⟩ := y
    subst e y
    exact hs i _ hlt p
  · have e : i = n := by omega
    subst e
    exact .inl ⟨Nat.le_refl _, hd H p⟩
theorem itl_walk {a : Addr} {xs : List V} {B : (Hp → Prop) → V → Hp → Prop} {H0 : Hp} {Qd : Hp → Prop} (Pv : Nat → Hp → Prop) (h0 : Pv 0 H0) (hl : ∀ i H, i ≤ xs.length → Pv i H → SqL K H a xs)
    (hs : ∀ i x H, xs[i]? = some x → Pv i H → B (Pv (i + 1)) x H) (hd : ∀ H, Pv xs.length H → Qd H) :
    ∃ W : Nat → Nat → Hp → Prop, (∃ m, W 0 m H0) ∧ ∀ i m H, W i m H →
      ((Itl K a).stop i H ∧ Qd H) ∨ ((Itl K a).go i H ∧ ∃ Nx : Hp → Prop, (∀ H', Nx H' → ∃ m', m' < m ∧ W (i + 1) m' H') ∧ ∀ x H', (Itl K a).yld i H x H' → B Nx x H') := by
  refine ⟨fun i m H => m = xs.length - i ∧ i ≤ xs.length ∧ Pv i H, ⟨xs.length, by simp, Nat.zero_le _, h0⟩, ?_⟩
  rintro i m H ⟨rfl, hi, p⟩
  have q := hl i H hi p
  by_cases hlt : i < xs.length
  · refine .inr ⟨⟨xs, xs[i], q, by simp [hlt]⟩, Pv (i + 1), fun H' p' => ⟨xs.length - (i + 1), by omega, rfl, hlt, p'⟩, fun x H' y => ?_⟩
    obtain ⟨e, y⟩ := y
    subst e
    exact hs i x _ (y xs q) p
  · have e : i = xs.length := by omega
    subst e
    exact .inl ⟨⟨xs, q, Nat.le_refl _⟩, hd H p⟩
theorem word_eqv (d : PyData) (x : Str) : PyData.eqv d (.str x) = match d with
    | .str y => decide (y = x)
    | _ => false := by
  cases d with
  | str y =>
    simp only [PyData.eqv]
    by_cases h : y = x
    · rw [decide_eq_true h, h]
      exact beq_self_eq_true x
    · rw [decide_eq_false h]
      exact beq_eq_false_iff_ne.mpr h
  | _ => simp [PyData.eqv]
end
def isStrB : PyData → Bool
  | .str _ => true
  | _ => false
theorem kit_str (d : PyData) : kitB (tyD d) "str" = some (isStrB d) := by cases d <;> (simp only [tyD, isStrB]; decide +kernel)
/-- what the law holds against what was told: tuples of numbers, None and the word -/
inductive Pl : PyData → Prop
  | non : Pl .none
  | int (i : Int) : Pl (.int i)
  | word : Pl (.str "task")
  | tup {ds : List PyData} : (∀ d ∈ ds, Pl d) → ds.length ≤ 1000 → Pl (.tuple ds)
theorem deep_mem : ∀ {ds : List PyData} {d : PyData}, d ∈ ds → d.depth ≤ PyData.depthAll ds
  | x :: ds, d, h => by
    simp only [PyData.depthAll]
    rcases List.mem_cons.mp h with rfl | h
    · omega
    · have := deep_mem h
      omega
section
variable {P : Program} {w : World} {K : PySem.W.Frag} {mg : Str → Option Value} {base : Heap}
theorem lt_small {n : Nat} (h : n ≤ 100000) : n < sizeLine := Nat.lt_of_le_of_lt h (by decide)
theorem le_sz {n : Nat} (h : n ≤ 100000) : n ≤ sizeLine := Nat.le_of_lt (lt_small h)
theorem hand_out {H0 : Hp} {h d p : Addr} {ds : List Int} {n : Nat} (x : Hand H0 h d ds n) (hp : H0 p = none) : p ≠ h ∧ p ≠ d := ⟨(ne_of_none x.1 hp).symm, (ne_of_none x.2 hp).symm⟩
/-! ### rows that are tuples of their own -/
def RT (H : Hp) (v : V) (r : List Int) : Prop := ∃ t, v = .ref t ∧ H t = some (.tup (r.map V.int))
theorem RT.stay {H H' : Hp} {v : V} {r : List Int} (s : TupsStay H H') (h : RT H v r) : RT H' v r := by
  obtain ⟨t, rfl, e⟩ := h
  exact ⟨t, rfl, s _ _ (.inl ⟨_, rfl⟩) e⟩
theorem RT.dt {H : Hp} {v : V} {r : List Int} (h : RT H v r) : Dt K H v (tupI r) := by
  obtain ⟨t, rfl, e⟩ := h
  exact .tup (SqT.of e) (DtAll.ints r)
inductive RTs (H : Hp) : List V → List (List Int) → Prop
  | nil : RTs H [] []
  | cons {v : V} {vs : List V} {r : List Int} {rs : List (List Int)} : RT H v r → RTs H vs rs → RTs H (v :: vs) (r :: rs)
theorem RTs.stay {H H' : Hp} (s : TupsStay H H') : ∀ {vs : List V} {rs : List (List Int)}, RTs H vs rs → RTs H' vs rs
  | _, _, .nil => .nil
  | _, _, .cons h a => .cons (h.stay s) (a.stay s)
theorem RTs.len {H : Hp} : ∀ {vs : List V} {rs : List (List Int)}, RTs H vs rs → vs.length = rs.length
  | _, _, .nil => rfl
  | _, _, .cons _ a => by rw [List.length_cons, List.length_cons, a.len]
theorem RTs.app {H : Hp} : ∀ {vs ws : List V} {rs qs : List (List Int)}, RTs H vs rs → RTs H ws qs → RTs H (vs ++ ws) (rs ++ qs)
  | _, _, _, _, .nil, b => b
  | _, _, _, _, .cons h a, b => .cons h (a.app b)
theorem RTs.dt {H : Hp} : ∀ {vs : List V} {rs : List (List Int)}, RTs H vs rs → DtAll K H vs (rs.map tupI)
  | _, _, .nil => .nil
  | _, _, .cons h a => .cons h.dt a.dt
theorem RTs.of {H : Hp} : ∀ {vs : List V} {rs : List (List Int)} {i : Nat} {v : V}, RTs H vs rs → vs[i]? = some v → ∃ r, rs[i]? = some r ∧ RT H v r
  | _, _, _, _, .nil, e => by simp at e
  | _, _, 0, _, .cons h _, e => by simp at e; subst e; exact ⟨_, rfl, h⟩
  | _, _, i + 1, _, .cons _ a, e => by simpa using a.of (i := i) (by simpa using e)
theorem RTs.at {H : Hp} : ∀ {vs : List V} {rs : List (List Int)} {i : Nat} {r : List Int}, RTs H vs rs → rs[i]? = some r → ∃ v, vs[i]? = some v ∧ RT H v r
  | _, _, _, _, .nil, e => by simp at e
  | _, _, 0, _, .cons h _, e => by simp at e; subst e; exact ⟨_, rfl, h⟩
  | _, _, i + 1, _, .cons _ a, e => by simpa using a.at (i := i) (by simpa using e)
/-- sets of labels: addresses of lists, of tuples -/
inductive SLs (S : Addr → List V → Prop) : List V → List (List Int) → Prop
  | nil : SLs S [] []
  | cons {a : Addr} {vs : List V} {r : List Int} {rs : List (List Int)} : S a (r.map V.int) → SLs S vs rs → SLs S (.ref a :: vs) (r :: rs)
theorem SLs.imp {S S' : Addr → List V → Prop} (s : ∀ a xs, S a xs → S' a xs) : ∀ {vs : List V} {rs : List (List Int)}, SLs S vs rs → SLs S' vs rs
  | _, _, .nil => .nil
  | _, _, .cons h a => .cons (s _ _ h) (a.imp s)
theorem SLs.len {S : Addr → List V → Prop} : ∀ {vs : List V} {rs : List (List Int)}, SLs S vs rs → vs.length = rs.length
  | _, _, .nil => rfl
  | _, _, .cons _ a => by rw [List.length_cons, List.length_cons, a.len]
theorem SLs.app {S : Addr → List V → Prop} : ∀ {vs ws : List V} {rs qs : List (List Int)}, SLs S vs rs → SLs S ws qs → SLs S (vs ++ ws) (rs ++ qs)
  | _, _, _, _, .nil, b => b
  | _, _, _, _, .cons h a, b => .cons h (a.app b)
theorem SLs.of {S : Addr → List V → Prop} : ∀ {vs : List V} {rs : List (List Int)} {i : Nat} {v : V}, SLs S vs rs → vs[i]? = some v → ∃ a r, v = .ref a ∧ rs[i]? = some r ∧ S a (r.map V.int)
  | _, _, _, _, .nil, e => by simp at e
  | _, _, 0, _, .cons h _, e => by simp at e; subst e; exact ⟨_, _, rfl, rfl, h⟩
  | _, _, i + 1, _, .cons _ a, e => by simpa using a.of (i := i) (by simpa using e)
theorem SLs.at {S : Addr → List V → Prop} : ∀ {vs : List V} {rs : List (List Int)} {i : Nat} {r : List Int}, SLs S vs rs → rs[i]? = some r → ∃ a, vs[i]? = some (.ref a) ∧ S a (r.map V.int)
  | _, _, _, _, .nil, e => by simp at e
  | _, _, 0, _, .cons h _, e => by simp at e; subst e; exact ⟨_, rfl, h⟩
  | _, _, i + 1, _, .cons _ a, e => by simpa using a.at (i := i) (by simpa using e)
theorem SLs.take {S : Addr → List V → Prop} : ∀ {vs : List V} {rs : List (List Int)} (n : Nat), SLs S vs rs → SLs S (vs.take n) (rs.take n)
  | _, _, 0, _ => .nil
  | _, _, _ + 1, .nil => .nil
  | _, _, n + 1, .cons h a => .cons h (a.take n)
theorem SLs.drop {S : Addr → List V → Prop} : ∀ {vs : List V} {rs : List (List Int)} (n : Nat), SLs S vs rs → SLs S (vs.drop n) (rs.drop n)
  | _, _, 0, a => a
  | _, _, _ + 1, .nil => .nil
  | _, _, n + 1, .cons _ a => a.drop n
theorem SLs.set {S : Addr → List V → Prop} {b : Addr} {q : List Int} (h : S b (q.map V.int)) : ∀ {vs : List V} {rs : List (List Int)} (n : Nat), SLs S vs rs → SLs S (vs.set n (.ref b)) (rs.set n q)
  | _, _, _, .nil => .nil
  | _, _, 0, .cons _ a => .cons h a
  | _, _, n + 1, .cons h' a => .cons h' (a.set h n)
/-! ### a + b of such rows -/
def rPlusT : R2 := fun x y H Q => ∃ a b xs ys, x = .ref a ∧ y = .ref b ∧ H a = some (.tup xs) ∧ H b = some (.tup ys) ∧ xs.length + ys.length ≤ sizeLine ∧ ∀ p H', Same H H' → H' p = some (.tup (xs ++ ys)) → Q (.ref p) H'
theorem op_plusT {X : Cx} : OpR X (binaryOp .Add) rPlusT := by
  intro pins s σ H x y v u Q inv rx ry want
  obtain ⟨a, b, xs, ys, rfl, rfl, ha, hb, hz, q⟩ := want
  refine op_catA pins s σ H _ _ v u Q inv rx ry ⟨a, b, xs, ys, rfl, rfl, SqT.of ha, SqT.of hb, hz, fun e => q b H (Same.refl H) ?_, fun _ e => q a H (Same.refl H) ?_, fun _ _ p hp => q p _ (same_new hp _) upd_same⟩
  · rw [e]
    exact hb
  · rw [e, List.append_nil]
    exact ha
/-- a list of rows that grows -/
structure AccT (H0 : Hp) (q : Addr) (rs : List (List Int)) (H : Hp) : Prop where
  free : H0 q = none
  same : Same H0 H
  ex : ∃ acc, H q = some (.lst acc) ∧ RTs H acc rs
theorem AccT.start {H0 : Hp} {q : Addr} (h : H0 q = none) : AccT H0 q [] (upd H0 q (.lst [])) := ⟨h, same_new h _, [], upd_same, .nil⟩
theorem AccT.step {H0 H H' : Hp} {q : Addr} {rs : List (List Int)} (a : AccT H0 q rs H) (s : Same H H') : AccT H0 q rs H' := by
  obtain ⟨acc, e, d⟩ := a.ex
  exact ⟨a.free, a.same.trans s, acc, s _ _ e, d.stay s.tups⟩
theorem AccT.push {H0 H : Hp} {q : Addr} {rs : List (List Int)} {v : V} {r : List Int} (a : AccT H0 q rs H) (hv : RT H v r) : ∃ acc, H q = some (.lst acc) ∧ acc.length = rs.length ∧ AccT H0 q (rs ++ [r]) (upd H q (.lst (acc ++ [v]))) := by
  obtain ⟨acc, e, d0⟩ := a.ex
  have t := tups_lst (ys := acc ++ [v]) e
  exact ⟨acc, e, d0.len, a.free, same_own a.same a.free _, _, upd_same, (d0.stay t).app (.cons (hv.stay t) .nil)⟩
theorem eqv_all_i : ∀ a b : List Int, PyData.eqvAll (a.map PyData.int) (b.map PyData.int) = decide (a = b)
  | [], [] => by simp [PyData.eqvAll]
  | [], _ :: _ => by simp [PyData.eqvAll]
  | _ :: _, [] => by simp [PyData.eqvAll]
  | x :: a, y :: b => by
    rw [List.map_cons, List.map_cons, PyData.eqvAll, eqv_all_i a b]
    simp only [PyData.eqv]
    by_cases h : x = y
    · subst h
      simp
    · simp [h]
theorem eqv_i (a b : List Int) : PyData.eqv (tupI a) (tupI b) = decide (a = b) := by
  unfold tupI
  simp only [PyData.eqv]
  exact eqv_all_i a b
theorem any_i (rs : List (List Int)) (r : List Int) : ((rs.map tupI).any fun z => PyData.eqv z (tupI r)) = decide (r ∈ rs) := by
  rw [List.any_map]
  have e : ((fun z => PyData.eqv z (tupI r)) ∘ tupI) = fun a => decide (a = r) := by
    funext a
    exact eqv_i a r
  rw [e]
  induction rs with
  | nil => simp
  | cons a rs ih =>
    rw [List.any_cons, ih]
    by_cases h : a = r
    · simp [h]
    · have h' : ¬ r = a := fun z => h z.symm
      simp [h, h']
theorem lay_i : ∀ a : List Int, PyData.canLayAll0 (a.map PyData.int) = true
  | [] => by simp [PyData.canLayAll0]
  | x :: a => by
    rw [List.map_cons, PyData.canLayAll0, lay_i a]
    simp [PyData.canLay0]
theorem lay_t : ∀ rs : List (List Int), PyData.canLayAll0 (rs.map tupI) = true
  | [] => by simp [PyData.canLayAll0]
  | x :: a => by
    rw [List.map_cons, PyData.canLayAll0, lay_t a]
    unfold tupI
    simp only [PyData.canLay0]
    rw [lay_i]
    rfl
theorem dep_t : ∀ rs : List (List Int), PyData.depthAll (rs.map tupI) ≤ 1
  | [] => by simp [PyData.depthAll]
  | x :: a => by
    have := dep_t a
    rw [List.map_cons, PyData.depthAll, row_depth]
    omega
theorem shaped_i (r : List Int) : SeqAt.shaped (tupI r) = true := by
  unfold SeqAt.shaped
  rw [row_depth]
  unfold tupI
  simp only [PyData.canLay0]
  rw [lay_i]
  rfl
theorem shaped_l (rs : List (List Int)) : SeqAt.shaped (.list (rs.map tupI)) = true := by
  have e : (PyData.list (rs.map tupI)).depth ≤ 64 := by
    simp only [PyData.depth]
    have := dep_t rs
    omega
  unfold SeqAt.shaped
  rw [decide_eq_true e, Bool.and_true]
  simp only [PyData.canLay0]
  exact lay_t rs
theorem intsD_t (ns : List Int) : intsD (tupI ns) = ns := by
  show (ns.map PyData.int).map numD = ns
  rw [List.map_map]
  exact List.map_id'' (fun x => rfl) ns
theorem inV_int (z : Int) : ∀ ns : List Int, inV (.int z) (ns.map V.int) = decide (z ∈ ns)
  | [] => rfl
  | y :: ns => by
    have ih := inV_int z ns
    unfold inV at ih ⊢
    rw [List.map_cons, List.any_cons, ih]
    show (decide (y = z) || _) = _
    by_cases e : y = z
    · subst e
      simp
    · have e' : ¬ z = y := fun q => e q.symm
      simp [e, e']
theorem flat_ints (ns : List Int) : (ns.map V.int).all flatV = true := by simp [flatV]
/-- tuple(l) of a list; list(t) of a tuple -/
def rTupOfL (K : PySem.W.Frag) : List V → Hp → VK → Prop := fun vs H Q => ∃ (a : Addr) (xs : List V), vs = [.ref a] ∧ SqL K H a xs ∧ ∀ p, H p = none → Q (.ref p) (upd H p (.tup xs))
theorem call_tupL {X : Cx} : CallR X (.type "tuple") (rTupOfL X.K) := fun pins s σ H vs us Q J r want => by
  obtain ⟨a, xs, rfl, h1, q⟩ := want
  exact call_tuple_of pins s σ H _ us Q J r ⟨a, xs, rfl, .inl ⟨h1, q⟩⟩
def rListOfT (K : PySem.W.Frag) : List V → Hp → VK → Prop := fun vs H Q => ∃ (a : Addr) (xs : List V), vs = [.ref a] ∧ SqT K H a xs ∧ ∀ p, H p = none → Q (.ref p) (upd H p (.lst xs))
theorem call_listT {X : Cx} : CallR X (.type "list") (rListOfT X.K) := fun pins s σ H vs us Q J r want => by
  obtain ⟨a, xs, rfl, h1, q⟩ := want
  exact call_list_of pins s σ H _ us Q J r ⟨a, xs, rfl, .inr h1, q⟩
/-- x not in t -/
def rNotInTD (K : PySem.W.Frag) : R2 := fun x y H Q => ∃ d ds, Dp K H x d ∧ Dp K H y (.tuple ds) ∧ SeqAt.shaped d = true ∧ SeqAt.shaped (.list ds) = true ∧ Q (.bl (!ds.any fun z => PyData.eqv z d)) H
theorem op_notInTD {X : Cx} (hu : X.A.units + 65 < cLine) : OpR X (compareOp .NotIn) (rNotInTD X.K) := by
  intro pins s σ H x y v u Q J rx ry want
  obtain ⟨d, ds, hd, he, sd, se, q⟩ := want
  obtain ⟨as, r1⟩ := Dp.reads J d x v hd rx
  obtain ⟨bs, r2⟩ := Dp.reads J (.tuple ds) y u he ry
  exact SeqAt.notIn_tuple_reads r2 r1 (SeqAt.canLay_of_shaped se) (SeqAt.canLay_of_shaped sd) (room_in_shaped sd hu) ⟨.bl _, H, J, rfl, q⟩
theorem RT.dp {H : Hp} {v : V} {r : List Int} (h : RT H v r) : Dp K H v (tupI r) := by
  obtain ⟨t, rfl, e⟩ := h
  exact dp_row (SqT.of e)
theorem any_rows (rs : List (List Int)) (r : List Int) : ((rs.map tupI).any fun z => PyData.eqv z (tupI r)) = decide (r ∈ rs) := any_i rs r
theorem go_own {M : Addr → Prop} {H0 H : Hp} {q : Addr} (g : Go M H0 H) (f : H0 q = none) {xs : List V} (e : H q = some (.lst xs)) (ys : List V) : Go M H0 (upd H q (.lst ys)) :=
  ⟨fun b o n h => by
    have ne : b ≠ q := fun z => by
      rw [z, f] at h
      cases h
    rw [upd_ne ne]
    exact g.out b o n h, g.tups.trans (tups_lst e)⟩
/-- a list of data that grows -/
structure AccD (K : PySem.W.Frag) (H0 : Hp) (q : Addr) (rs : List PyData) (H : Hp) : Prop where
  free : H0 q = none
  same : Same H0 H
  ex : ∃ acc, H q = some (.lst acc) ∧ DtAll K H acc rs
theorem AccD.start {H0 : Hp} {q : Addr} (h : H0 q = none) : AccD K H0 q [] (upd H0 q (.lst [])) := ⟨h, same_new h _, [], upd_same, .nil⟩
theorem AccD.step {H0 H H' : Hp} {q : Addr} {rs : List PyData} (a : AccD K H0 q rs H) (s : Same H H') : AccD K H0 q rs H' := by
  obtain ⟨acc, e, d⟩ := a.ex
  exact ⟨a.free, a.same.trans s, acc, s _ _ e, d.stay s.tups⟩
theorem AccD.push {H0 H : Hp} {q : Addr} {rs : List PyData} {v : V} {r : PyData} (a : AccD K H0 q rs H) (hv : Dt K H v r) : ∃ acc, H q = some (.lst acc) ∧ acc.length = rs.length ∧ AccD K H0 q (rs ++ [r]) (upd H q (.lst (acc ++ [v]))) := by
  obtain ⟨acc, e, d0⟩ := a.ex
  have t := tups_lst (ys := acc ++ [v]) e
  exact ⟨acc, e, d0.len, a.free, same_own a.same a.free _, _, upd_same, (d0.stay t).app (.cons (hv.stay t) .nil)⟩
/-- a list of ints that grows -/
structure AccI (H0 : Hp) (q : Addr) (ns : List Int) (H : Hp) : Prop where
  free : H0 q = none
  same : Same H0 H
  ex : H q = some (.lst (ns.map V.int))
theorem AccI.start {H0 : Hp} {q : Addr} (h : H0 q = none) : AccI H0 q [] (upd H0 q (.lst [])) := ⟨h, same_new h _, upd_same⟩
theorem AccI.step {H0 H H' : Hp} {q : Addr} {ns : List Int} (a : AccI H0 q ns H) (s : Same H H') : AccI H0 q ns H' := ⟨a.free, a.same.trans s, s _ _ a.ex⟩
theorem AccI.push {H0 H : Hp} {q : Addr} {ns : List Int} (a : AccI H0 q ns H) (z : Int) : AccI H0 q (ns ++ [z]) (upd H q (.lst (ns.map V.int ++ [V.int z]))) :=
  ⟨a.free, same_own a.same a.free _, by rw [upd_same, List.map_append]; rfl⟩
theorem AccI.fin {H0 H : Hp} {q : Addr} {ns : List Int} {z : Int} {N : Hp → Prop} (a : AccI H0 q ns H) (few : ns.length ≤ 100000) (h : ∀ H', AccI H0 q (ns ++ [z]) H' → N H') : ∃ acc, H q = some (.lst acc) ∧ acc.length < sizeLine ∧ N (upd H q (.lst (acc ++ [V.int z]))) :=
  ⟨_, a.ex, lt_small (by rw [List.length_map]; exact few), h _ (a.push z)⟩
theorem AccT.fin {H0 H : Hp} {q : Addr} {rs : List (List Int)} {v : V} {r : List Int} {N : Hp → Prop} (a : AccT H0 q rs H) (hv : RT H v r) (few : rs.length ≤ 100000) (h : ∀ H', AccT H0 q (rs ++ [r]) H' → N H') : ∃ acc, H q = some (.lst acc) ∧ acc.length < sizeLine ∧ N (upd H q (.lst (acc ++ [v]))) := by
  obtain ⟨ac, e, l, a4⟩ := a.push hv
  exact ⟨ac, e, lt_small (by omega), h _ a4⟩
theorem AccD.fin {H0 H : Hp} {q : Addr} {rs : List PyData} {v : V} {r : PyData} {N : Hp → Prop} (a : AccD K H0 q rs H) (hv : Dt K H v r) (few : rs.length ≤ 100000) (h : ∀ H', AccD K H0 q (rs ++ [r]) H' → N H') : ∃ acc, H q = some (.lst acc) ∧ acc.length < sizeLine ∧ N (upd H q (.lst (acc ++ [v]))) := by
  obtain ⟨ac, e, l, a4⟩ := a.push hv
  exact ⟨ac, e, lt_small (by omega), h _ a4⟩
end
/-! ### the draws that the law makes of the script -/
section
variable {P : Program} {w : World} {K : PySem.W.Frag} {mg : Str → Option Value} {base : Heap}
/-- a new list of as many small numbers as are asked -/
def spDraws (K : PySem.W.Frag) : Sp := fun vs H Q _ => ∃ (a : Addr) (ns : List Int) (m : Nat), vs = [.ref a, .int m] ∧ SqL K H a (ns.map V.int) ∧ ns.length ≤ 63 ∧ m ≤ 2000 ∧
  ∀ (p : Addr) (H' : Hp) (ds : List Int), H p = none → Same H H' → H' p = some (.lst (ds.map V.int)) → ds.length = m → (∀ d ∈ ds, 0 ≤ d ∧ d < 2 ^ 31) → Q (.ref p) H'
theorem ok_draws {f : Addr} {fd : FuncData} (B : Blt mg) (F : Fun K "_law_draws" "_law_draws" s_law_draws f fd) : FnOk P w K mg base CX0 1 f fd ["script", "many"] (spDraws K) := by
  have sc : FnScope ["script", "many", "rests", "draws", "k", "cell", "mixed", "at"] ["script", "many"] (defScope s_law_draws) := ⟨rfl, rfl, rfl, by decide +kernel, rfl, by decide +kernel, by decide +kernel⟩
  refine F.ok sc (fun vs H Q E h => ?_) (fun cdv A outer s H vs Q E hr h => ?_)
  · obtain ⟨a, ns, m, rfl, _⟩ := h
    rfl
  obtain ⟨a, ns, m, rfl, hS, h63, hm, k⟩ := h
  refine ⟨_, (pss_cons (ps_setLc (i := 2) (own := [("cell", 5)]) (g := gName 5) (tt := tYes) rfl sc.nd rfl rfl (sw_true rfl rfl rfl (by decide +kernel)) (pi_list (pv 0)) (blkOk_by (N := ["script", "many", "rests", "draws", "k", "cell", "mixed", "at"]) (sc := defScope s_law_draws) (by decide +kernel)) (fun _ _ _ _ _ => pg_name (i := 5) sc.nd rfl (Or.inl rfl)) (fun _ _ _ _ _ => pts_nil) (fun _ _ _ _ _ => (pe_callB call_abs (by rfl) B.abs (by decide +kernel) (pa_cons (pe_callTy call_int1 (by rfl) B.int (by decide +kernel) (pa_cons (pv 5) pa_nil)) pa_nil))))
    (pss_cons (ps_set (i := 3) sc.nd rfl (Or.inl rfl) (pe_lst pa_nil))
    (pss_cons (ps_for PassesOwn.never rfl (pi_range1 (by rfl) B.range (pa_cons (pv 1) pa_nil)) (pg_name (i := 4) sc.nd rfl (Or.inl rfl))
      (pss_cons (ps_set (i := 5) sc.nd rfl (Or.inl rfl) (pv 4))
      (pss_cons (ps_if (pt_cmpR op_gt (pe_callB call_len_seq (by rfl) B.len (by decide +kernel) (pa_cons (pv 0) pa_nil)) pe_int (nomark _))
        (pss_cons (ps_set (i := 7) sc.nd rfl (Or.inl rfl) (pe_op op_mod (pv 4) (pe_callB call_len_seq (by rfl) B.len (by decide +kernel) (pa_cons (pv 0) pa_nil))))
        (pss_cons (ps_set (i := 5) sc.nd rfl (Or.inl rfl) (pe_callTy call_int1 (by rfl) B.int (by decide +kernel) (pa_cons (pe_ix ix_list (pv 0) (pv 7) (fun _ _ => rfl)) pa_nil)))
        (pss_one (ps_if (PW.pt (pw_and (pt_cmpR op_ge (pv 5) (pe_op op_pow pe_int pe_int) (nomark _)) (pw_and1 (pt_cmpR op_gt (pe_ix ix_list (pv 2) (pv 7) (fun _ _ => rfl)) pe_int (nomark _)))))
          (pss_cons (ps_expr (pe_bm PySem.F.plainAttrs_list PySem.F.slot_list_append PySem.F.type_list_append mt_append (pv 3) (pa_cons (pe_op op_mod (pe_callTy call_int1 (by rfl) B.int (by decide +kernel) (pa_cons (pe_ix ix_list (pv 2) (pv 7) (fun _ _ => rfl)) pa_nil)) pe_int) pa_nil)))
          (pss_cons (ps_asg (pe_op op_fdiv (pe_callTy call_int1 (by rfl) B.int (by decide +kernel) (pa_cons (pe_ix ix_list (pv 2) (pv 7) (fun _ _ => rfl)) pa_nil)) pe_int) (pg_sub (pv 2) (pv 7) set_list))
          (pss_one ps_continue)))
          pss_nil))))
        pss_nil)
      (pss_cons (ps_set (i := 6) sc.nd rfl (Or.inl rfl) (pe_op op_mod (pe_callTy call_int1 (by rfl) B.int (by decide +kernel) (pa_cons (pe_op op_add (pe_op op_add (pe_op op_mul (pv 5) pe_int) (pe_op op_mul (pv 4) pe_int)) pe_int) pa_nil)) pe_int))
      (pss_cons (ps_set (i := 6) sc.nd rfl (Or.inl rfl) (pe_op op_mod (pe_callTy call_int1 (by rfl) B.int (by decide +kernel) (pa_cons (pe_op op_add (pe_op op_fdiv (pe_op op_mul (pv 6) (pv 6)) pe_int) (pv 6)) pa_nil)) pe_int))
      (pss_one (ps_expr (pe_bm PySem.F.plainAttrs_list PySem.F.slot_list_append PySem.F.type_list_append mt_append (pv 3) (pa_cons (pe_op op_mod (pe_callTy call_int1 (by rfl) B.int (by decide +kernel) (pa_cons (pe_op op_add (pe_op op_fdiv (pe_op op_mul (pv 6) (pv 6)) pe_int) (pe_op op_mul (pv 4) pe_int)) pa_nil)) pe_int) pa_nil)))))))))
    (pss_one (ps_ret (pv 3)))))), ?_⟩
  -- rests
  refine ⟨_, rfl, a, rfl, ⟨_, hS⟩, fun r hr0 => ?_⟩
  refine lc_list (K := K) (a := a) (xs := ns.map V.int) (fun i H' => ∃ acc : List Int, acc.length = i ∧ H' r = some (.lst (acc.map V.int)) ∧ Same H H')
    ⟨[], rfl, upd_same, same_new hr0 _⟩ (fun i H' _ ⟨_, _, _, s⟩ => s.seq hS) ?_ ?_
  · rintro i y H' hi ⟨acc, hl, hD, s⟩
    obtain ⟨z, hz, rfl⟩ := item_of hi
    have hi63 : i < ns.length := (List.getElem?_eq_some_iff.mp hz).1
    refine ⟨rfl, ?_⟩

    refine ⟨_, rfl, .inl ⟨_, rfl, _, rfl, _, hD, small1000 (by rw [List.length_map]; omega), acc ++ [if z < 0 then -z else z], by simp [hl], ?_, same_own s hr0 _⟩⟩
    rw [upd_same, List.map_append]
    rfl
  rintro H1 ⟨rs, hrs, hr1, s1⟩
  rw [List.length_map] at hrs
  -- draws
  refine ⟨Nat.zero_le _, fun p hp1 => ?_⟩
  have hp0 : H p = none := s1.free hp1
  have npr : r ≠ p := ne_of_none hr1 hp1
  -- the loop
  refine ⟨_, rfl, (m : Int), rfl, by omega, by omega, for_range (lo := 0) (n := (m : Int).toNat) (fun i σ H' => ∃ (ds rs : List Int) (kv cv mv av : Option V), σ = [some (.ref a), some (.int m), some (.ref r), some (.ref p), kv, cv, mv, av] ∧
      H' r = some (.lst (rs.map V.int)) ∧ H' p = some (.lst (ds.map V.int)) ∧ rs.length = ns.length ∧ ds.length = i ∧ (∀ d ∈ ds, 0 ≤ d ∧ d < 2 ^ 31) ∧ Same H H')
    ⟨[], rs, none, none, none, none, rfl, by rw [upd_ne npr]; exact hr1, upd_same, hrs, rfl, by simp, same_own s1 hp0 _⟩ ?_ ?_⟩
  · rintro i σ H' hi ⟨ds, rs, kv, cv, mv, av, rfl, hr', hp', hrl, hdl, hb, s⟩
    have hi2 : ds.length < 2000 := by omega
    have grown : ∀ (d : Int), 0 ≤ d → d < 2 ^ 31 → ∀ z ∈ ds ++ [d], 0 ≤ z ∧ z < 2 ^ 31 := fun d h0 h1 z hz => by
      rcases List.mem_append.mp hz with q | q
      · exact hb z q
      · rw [List.mem_singleton.mp q]
        exact ⟨h0, h1⟩
    have put : ∀ (d : Int), (upd H' p (.lst (ds.map V.int ++ [V.int d]))) p = some (.lst ((ds ++ [d]).map V.int)) := fun d => by
      rw [upd_same, List.map_append]
      rfl
    have room : (ds.map V.int).length < sizeLine := by rw [List.length_map]; exact Nat.lt_trans hi2 (by decide)
    have m48 : -(2 ^ 64) < (48271 : Int) ∧ (48271 : Int) < 2 ^ 64 := by decide
    have m69 : -(2 ^ 64) < (69621 : Int) ∧ (69621 : Int) < 2 ^ 64 := by decide
    have m79 : -(2 ^ 64) < (7919 : Int) ∧ (7919 : Int) < 2 ^ 64 := by decide
    have b1 : ∀ x : Int, -(2 ^ 64) < x % 2147483647 ∧ x % 2147483647 < 2 ^ 64 := fun x => by omega
    have b2 : ∀ x : Int, -(2 ^ 64) < x % 2147483629 ∧ x % 2147483629 < 2 ^ 64 := fun x => by omega
    refine ⟨_, rfl, ?_⟩
    refine ⟨_, rfl, a, _, rfl, .inl (s.seq hS), _, _, rfl, rfl, _, rfl, ?_⟩
    refine ite2 (fun c => ?_) (fun c => ?_)
    · have c' := dec_t c
      rw [List.length_map] at c'
      have m0 : 0 ≤ (0 + (i : Int)) % (ns.length : Int) := Int.emod_nonneg _ (by omega)
      have m1 : (0 + (i : Int)) % (ns.length : Int) < (ns.length : Int) := Int.emod_lt_of_pos _ c'
      obtain ⟨z, _, _, hz⟩ := at_int m0 m1
      obtain ⟨y, hy0, _, hy⟩ := at_int (ns := rs) m0 (by rw [hrl]; exact m1)
      refine ⟨_, rfl, _, rfl, a, _, rfl, .inl (s.seq hS), _, _, rfl, rfl, (by rw [List.length_map]; exact c'), ?_⟩
      rw [List.length_map]
      refine ⟨_, rfl, _, rfl, a, _, _, _, rfl, rfl, s.seq hS, hz, .inl ⟨_, rfl, ?_⟩⟩
      refine ⟨_, rfl, _, _, rfl, rfl, ⟨by decide, by decide, by decide⟩, _, _, rfl, rfl, _, rfl, ?_⟩
      refine ite2 (fun _ => ?_) (fun _ => ?_)
      · refine ⟨_, rfl, _, rfl, r, _, _, _, rfl, rfl, SqL.of hr', hy, _, _, rfl, rfl, _, rfl, ?_⟩
        refine ite2 (fun _ => ?_) (fun _ => ?_)
        · refine ⟨_, rfl, .inl ⟨rfl, _, SqL.of hp'⟩, _, rfl, _, rfl, r, _, _, _, rfl, rfl, SqL.of hr', hy, .inl ⟨_, rfl, _, _, rfl, rfl, (by show (0 : Int) < 1000003; decide), p, _, _, rfl, rfl, hp', room, ?_⟩⟩
          have hr2 : (upd H' p (.lst (ds.map V.int ++ [V.int (y % 1000003)]))) r = some (.lst (rs.map V.int)) := by rw [upd_ne npr]; exact hr'
          refine ⟨_, rfl, _, rfl, r, _, _, _, rfl, rfl, SqL.of hr2, hy, .inl ⟨_, rfl, _, _, rfl, rfl, ⟨by decide, by decide⟩, _, rfl, _, rfl, r, _, _, ((0 + (i : Int)) % (ns.length : Int)).toNat, rfl, rfl, hr2, ix_of m0 (by rw [List.length_map, hrl]; exact m1), ?_⟩⟩
          refine ⟨ds ++ [y % 1000003], rs.set ((0 + (i : Int)) % (ns.length : Int)).toNat (y / 1000003), _, _, _, _, rfl, ?_, ?_, by rw [List.length_set]; exact hrl, by rw [List.length_append, List.length_singleton]; omega, grown _ (Int.emod_nonneg _ (by decide)) (Int.lt_trans (Int.emod_lt_of_pos _ (by decide)) (by decide)), same_own (same_own s hp0 _) hr0 _⟩
          · rw [upd_same, List.map_set]
          · rw [upd_ne npr.symm]
            exact put _
        · refine ⟨_, rfl, _, _, rfl, rfl, .inr m48, _, rfl, _, _, rfl, rfl, .inr m69, _, _, rfl, rfl, _, _, rfl, rfl, .inl ⟨_, rfl, _, _, rfl, rfl, (by show (0 : Int) < 2147483647; decide), ?_⟩⟩
          refine ⟨_, rfl, _, rfl, _, _, rfl, rfl, .inl (b1 _), _, _, rfl, rfl, ⟨by decide, by decide⟩, _, rfl, _, _, rfl, rfl, .inl ⟨_, rfl, _, _, rfl, rfl, (by show (0 : Int) < 2147483629; decide), ?_⟩⟩
          refine ⟨_, rfl, .inl ⟨rfl, _, SqL.of hp'⟩, _, rfl, _, rfl, _, _, rfl, rfl, .inl (b2 _), _, _, rfl, rfl, ⟨by decide, by decide⟩, _, rfl, _, _, rfl, rfl, .inr m79, _, _, rfl, rfl, .inl ⟨_, rfl, _, _, rfl, rfl, (by show (0 : Int) < 2147483629; decide), p, _, _, rfl, rfl, hp', room, ?_⟩⟩
          exact ⟨ds ++ [_], rs, _, _, _, _, rfl, by rw [upd_ne npr]; exact hr', put _, hrl, by rw [List.length_append, List.length_singleton]; omega, grown _ (Int.emod_nonneg _ (by decide)) (Int.lt_trans (Int.emod_lt_of_pos _ (by decide)) (by decide)), same_own s hp0 _⟩
      · refine ⟨_, rfl, _, _, rfl, rfl, .inr m48, _, rfl, _, _, rfl, rfl, .inr m69, _, _, rfl, rfl, _, _, rfl, rfl, .inl ⟨_, rfl, _, _, rfl, rfl, (by show (0 : Int) < 2147483647; decide), ?_⟩⟩
        refine ⟨_, rfl, _, rfl, _, _, rfl, rfl, .inl (b1 _), _, _, rfl, rfl, ⟨by decide, by decide⟩, _, rfl, _, _, rfl, rfl, .inl ⟨_, rfl, _, _, rfl, rfl, (by show (0 : Int) < 2147483629; decide), ?_⟩⟩
        refine ⟨_, rfl, .inl ⟨rfl, _, SqL.of hp'⟩, _, rfl, _, rfl, _, _, rfl, rfl, .inl (b2 _), _, _, rfl, rfl, ⟨by decide, by decide⟩, _, rfl, _, _, rfl, rfl, .inr m79, _, _, rfl, rfl, .inl ⟨_, rfl, _, _, rfl, rfl, (by show (0 : Int) < 2147483629; decide), p, _, _, rfl, rfl, hp', room, ?_⟩⟩
        exact ⟨ds ++ [_], rs, _, _, _, _, rfl, by rw [upd_ne npr]; exact hr', put _, hrl, by rw [List.length_append, List.length_singleton]; omega, grown _ (Int.emod_nonneg _ (by decide)) (Int.lt_trans (Int.emod_lt_of_pos _ (by decide)) (by decide)), same_own s hp0 _⟩
    · refine ⟨_, rfl, _, _, rfl, rfl, .inr m48, _, rfl, _, _, rfl, rfl, .inr m69, _, _, rfl, rfl, _, _, rfl, rfl, .inl ⟨_, rfl, _, _, rfl, rfl, (by show (0 : Int) < 2147483647; decide), ?_⟩⟩
      refine ⟨_, rfl, _, rfl, _, _, rfl, rfl, .inl (b1 _), _, _, rfl, rfl, ⟨by decide, by decide⟩, _, rfl, _, _, rfl, rfl, .inl ⟨_, rfl, _, _, rfl, rfl, (by show (0 : Int) < 2147483629; decide), ?_⟩⟩
      refine ⟨_, rfl, .inl ⟨rfl, _, SqL.of hp'⟩, _, rfl, _, rfl, _, _, rfl, rfl, .inl (b2 _), _, _, rfl, rfl, ⟨by decide, by decide⟩, _, rfl, _, _, rfl, rfl, .inr m79, _, _, rfl, rfl, .inl ⟨_, rfl, _, _, rfl, rfl, (by show (0 : Int) < 2147483629; decide), p, _, _, rfl, rfl, hp', room, ?_⟩⟩
      exact ⟨ds ++ [_], rs, _, _, _, _, rfl, by rw [upd_ne npr]; exact hr', put _, hrl, by rw [List.length_append, List.length_singleton]; omega, grown _ (Int.emod_nonneg _ (by decide)) (Int.lt_trans (Int.emod_lt_of_pos _ (by decide)) (by decide)), same_own s hp0 _⟩
  · rintro σ H' ⟨ds, rs, kv, cv, mv, av, rfl, hr', hp', hrl, hdl, hb, s⟩
    exact ⟨_, rfl, k p H' ds hp0 s hp' (by omega) hb⟩
/-- the next draw, below many; the place goes on by one -/
def spTake (K : PySem.W.Frag) : Sp := fun vs H Q _ => ∃ (h d : Addr) (ds : List Int) (i : Nat) (m : Int), vs = [.ref h, .int m] ∧ H h = some (.lst [.ref d, .int i]) ∧ H d = some (.lst (ds.map V.int)) ∧ 0 < m ∧ m < 1000000 ∧
  ∀ r : Int, 0 ≤ r → r < m → Q (.int r) (upd H h (.lst [.ref d, .int ((i + 1 : Nat) : Int)]))
theorem ok_take {f : Addr} {fd : FuncData} (B : Blt mg) (F : Fun K "_law_take" "_law_take" s_law_take f fd) : FnOk P w K mg base CX0 1 f fd ["hand", "many"] (spTake K) := by
  have sc : FnScope ["hand", "many", "at", "draws"] ["hand", "many"] (defScope s_law_take) := ⟨rfl, rfl, rfl, by decide +kernel, rfl, by decide +kernel, by decide +kernel⟩
  refine F.ok sc (fun vs H Q E h => ?_) (fun cdv A outer s H vs Q E hr h => ?_)
  · obtain ⟨h, d, ds, i, m, rfl, _⟩ := h
    rfl
  obtain ⟨h, d, ds, i, m, rfl, hh, hd, m0, m1, k⟩ := h
  refine ⟨_, (pss_cons (ps_set (i := 2) sc.nd rfl (Or.inl rfl) (pe_ix ix_list (pv 0) pe_int (fun _ _ => rfl)))
    (pss_cons (ps_asg (pe_op op_add (pv 2) pe_int) (pg_sub (pv 0) pe_int set_list))
    (pss_cons (ps_set (i := 3) sc.nd rfl (Or.inl rfl) (pe_ix ix_list (pv 0) pe_int (fun _ _ => rfl)))
    (pss_cons (ps_if (pt_cmpR op_ge (pv 2) (pe_callB call_len_seq (by rfl) B.len (by decide +kernel) (pa_cons (pv 3) pa_nil)) (nomark _))
      (pss_one (ps_ret pe_int))
      pss_nil)
    (pss_one (ps_ret (pe_op op_mod (pe_op op_fdiv (pe_callTy call_int1 (by rfl) B.int (by decide +kernel) (pa_cons (pe_ix ix_list (pv 3) (pv 2) (fun _ _ => rfl)) pa_nil)) pe_int) (pv 1)))))))), ?_⟩
  have ndh : d ≠ h := by
    rintro rfl
    rw [hh] at hd
    cases ds with
    | nil => cases hd
    | cons z ds => cases hd
  refine ⟨_, rfl, h, _, _, _, rfl, rfl, SqL.of hh, at_of (j := 1) rfl rfl, ?_⟩
  refine ⟨_, rfl, _, _, rfl, rfl, _, rfl, h, _, _, 1, rfl, rfl, hh, by rfl, ?_⟩
  refine ⟨_, rfl, h, _, _, _, rfl, rfl, SqL.of upd_same, at_of (j := 0) rfl rfl, ?_⟩
  have hd2 : (upd H h (.lst ([V.ref d, V.int (i : Int)].set 1 (.int ((i : Int) + 1))))) d = some (.lst (ds.map V.int)) := by rw [upd_ne ndh]; exact hd
  refine ⟨_, rfl, _, rfl, d, _, rfl, .inl (SqL.of hd2), _, _, rfl, rfl, _, rfl, ?_⟩
  have q : ∀ r : Int, 0 ≤ r → r < m → Q (.int r) (upd H h (.lst ([V.ref d, V.int (i : Int)].set 1 (.int ((i : Int) + 1))))) := k
  refine ite2 (fun _ => q 0 (by decide) m0) (fun c => ?_)
  have c' := dec_f c
  rw [List.length_map] at c'
  obtain ⟨z, _, _, hz⟩ := at_int (ns := ds) (i := (i : Int)) (by omega) (by omega)
  exact ⟨_, rfl, _, rfl, d, _, _, _, rfl, rfl, SqL.of hd2, hz, .inl ⟨_, rfl, _, _, rfl, rfl, ⟨by decide, by decide⟩, _, rfl, _, _, rfl, rfl, m0, q _ (Int.emod_nonneg _ (by omega)) (Int.emod_lt_of_pos _ m0)⟩⟩
end
section
variable {P : Program} {w : World} {K : PySem.W.Frag} {mg : Str → Option Value} {base : Heap}
def spNumber (K : PySem.W.Frag) : Sp := fun vs H Q _ => ∃ (M : Addr → Prop) (x : V) (d : PyData) (lo hi : Int), vs = [x, .int lo, .int hi] ∧ Dn M K H x d ∧ Q (.bl (isNum d lo hi)) H
theorem ok_number {f : Addr} {fd : FuncData} (B : Blt mg) (F : Fun K "is_number" "is_number" sis_number f fd) : FnOk P w K mg base CX0 1 f fd ["value", "low", "high"] (spNumber K) := by
  have sc : FnScope ["value", "low", "high"] ["value", "low", "high"] (defScope sis_number) := ⟨rfl, rfl, rfl, by decide +kernel, rfl, by decide +kernel, by decide +kernel⟩
  refine F.ok sc (fun vs H Q E h => ?_) (fun cdv A outer s H vs Q E hr h => ?_)
  · obtain ⟨_, _, _, _, _, rfl, _⟩ := h
    rfl
  obtain ⟨M, x, d, lo, hi, rfl, hd, k⟩ := h
  refine ⟨_, (pss_cons (ps_if (PW.pt (pw_or (pt_not (pt_val (pe_callB call_isi (by rfl) B.isinstance (by decide +kernel) (pa_cons (pv 0) (pa_cons (pe_bltn (v := V.ty "int") (u := Value.type "int") (by rfl) B.int (by decide +kernel) rfl) pa_nil))))) (pw_or1 (pt_val (pe_callB call_isi (by rfl) B.isinstance (by decide +kernel) (pa_cons (pv 0) (pa_cons (pe_bltn (v := V.ty "bool") (u := Value.type "bool") (by rfl) B.bool (by decide +kernel) rfl) pa_nil)))))))
      (pss_one (ps_ret pe_bl))
      pss_nil)
    (pss_one (ps_ret (pe_chain op_le op_le (pv 1) (pv 0) (pv 2))))), ?_⟩
  refine ⟨_, rfl, x, _, _, _, isInt2 d, rfl, ClsV.ty _, hd.ty, kit_ty (kit_int d), _, rfl, ?_⟩
  have no : isNum d lo hi = false → Q (.bl false) H := fun e => by rw [e] at k; exact k
  cases hi2 : isInt2 d with
  | false =>
    refine iteT ?_
    refine iteT ?_
    exact no (by cases d <;> first | rfl | cases hi2)
  | true =>
    refine iteF ?_
    refine ⟨_, rfl, x, _, _, _, isBool d, rfl, ClsV.ty _, hd.ty, kit_ty (kit_bool d), _, rfl, ?_⟩
    cases hb : isBool d with
    | true =>
      refine iteT ?_
      exact no (by cases d <;> first | rfl | cases hb)
    | false =>
      refine iteF ?_
      cases d with
      | int i =>
        cases hd
        refine ⟨_, rfl, _, rfl, _, _, rfl, rfl, _, rfl, ?_⟩
        have e : isNum (.int i) lo hi = (decide (lo ≤ i) && decide (i ≤ hi)) := rfl
        rw [e] at k
        cases h1 : decide (lo ≤ i) with
        | true =>
          rw [h1] at k
          refine iteT ?_
          exact ⟨_, rfl, _, _, rfl, rfl, k⟩
        | false =>
          rw [h1] at k
          exact iteF k
      | _ => first | (simp [isInt2] at hi2; done) | (simp [isBool] at hb; done)
end
/-! ### finite networks -/
def rgn (n : Nat) : List Int := (List.range n).map fun (i : Nat) => (i : Int)
theorem mem_rgn {n : Nat} {z : Int} : z ∈ rgn n ↔ 0 ≤ z ∧ z < n := by
  unfold rgn
  rw [List.mem_map]
  constructor
  · rintro ⟨k, hk, rfl⟩
    have := List.mem_range.mp hk
    omega
  · rintro ⟨h0, h1⟩
    exact ⟨z.toNat, List.mem_range.mpr (by omega), by omega⟩
theorem rgn_len (n : Nat) : (rgn n).length = n := by simp [rgn]
theorem rgn_nodup (n : Nat) : (rgn n).Nodup := by
  unfold rgn
  refine List.Pairwise.map _ (fun a b (h : a ≠ b) => ?_) (List.nodup_range (n := n))
  omega
theorem rgn_take {n i : Nat} (h : i < n) : (rgn n).take (i + 1) = (rgn n).take i ++ [(i : Int)] :=
  take_more (by unfold rgn; rw [List.getElem?_map, List.getElem?_range h]; rfl)
/-- a column of links: each of the numbers below n once -/
def Col (n : Nat) (c : List Int) : Prop := c.Perm (rgn n)
theorem Col.len {n : Nat} {c : List Int} (h : Col n c) : c.length = n := by rw [List.Perm.length_eq h, rgn_len]
theorem Col.mem {n : Nat} {c : List Int} (h : Col n c) {z : Int} : z ∈ c ↔ 0 ≤ z ∧ z < n := by rw [List.Perm.mem_iff h, mem_rgn]
theorem Col.nodup {n : Nat} {c : List Int} (h : Col n c) : c.Nodup := (List.Perm.nodup_iff h).mpr (rgn_nodup n)
theorem Col.start (n : Nat) : Col n (rgn n) := List.Perm.refl _
theorem Col.at {n : Nat} {c : List Int} (h : Col n c) {i : Int} (h0 : 0 ≤ i) (h1 : i < n) : ∃ z, c[i.toNat]? = some z ∧ 0 ≤ z ∧ z < n := by
  have l : i.toNat < c.length := by rw [h.len]; omega
  exact ⟨c[i.toNat], List.getElem?_eq_getElem l, h.mem.mp (List.getElem_mem l)⟩
theorem Col.swap {n : Nat} {c : List Int} (h : Col n c) {i j : Nat} {x y : Int} (hx : c[i]? = some x) (hy : c[j]? = some y) : Col n ((c.set i y).set j x) := by
  obtain ⟨i1, ex⟩ := List.getElem?_eq_some_iff.mp hx
  obtain ⟨j1, ey⟩ := List.getElem?_eq_some_iff.mp hy
  subst ex ey
  exact (List.set_set_perm i1 j1).trans h
/-- where a number stands in a column -/
def spotN (c : List Int) (b : Int) : Int := ((c.idxOf b : Nat) : Int)
theorem Col.spot {n : Nat} {c : List Int} (h : Col n c) {b : Int} (h0 : 0 ≤ b) (h1 : b < n) : 0 ≤ spotN c b ∧ spotN c b < n ∧ c[(spotN c b).toNat]? = some b := by
  have l : c.idxOf b < c.length := List.idxOf_lt_length_iff.mpr (h.mem.mpr ⟨h0, h1⟩)
  unfold spotN
  refine ⟨by omega, by rw [h.len] at l; omega, ?_⟩
  rw [show ((c.idxOf b : Nat) : Int).toNat = c.idxOf b by omega, List.getElem?_eq_getElem l, List.getElem_idxOf l]
theorem Col.spot_of {n : Nat} {c : List Int} (h : Col n c) {i : Nat} {b : Int} (e : c[i]? = some b) : spotN c b = i := by
  obtain ⟨i1, ex⟩ := List.getElem?_eq_some_iff.mp e
  subst ex
  unfold spotN
  rw [List.Nodup.idxOf_getElem h.nodup i i1]
theorem Col.inj {n : Nat} {c : List Int} (h : Col n c) {i j : Nat} {b : Int} (e : c[i]? = some b) (f : c[j]? = some b) : i = j := by
  have := h.spot_of e
  have := h.spot_of f
  omega
/-- the column the other way -/
def back (n : Nat) (c : List Int) : List Int := (rgn n).map (spotN c)
theorem back_len (n : Nat) (c : List Int) : (back n c).length = n := by rw [back, List.length_map, rgn_len]
theorem back_at {n : Nat} {c : List Int} {b : Int} (h0 : 0 ≤ b) (h1 : b < n) : (back n c)[b.toNat]? = some (spotN c b) := by
  unfold back rgn
  rw [List.getElem?_map, List.getElem?_map, List.getElem?_range (by omega)]
  simp only [Option.map_some]
  rw [show ((b.toNat : Nat) : Int) = b by omega]
/-- of so many the places have been written -/
def Ends (n : Nat) (c es : List Int) (i : Nat) : Prop := es.length = n ∧ ∀ (k : Nat) (z : Int), k < i → c[k]? = some z → es[z.toNat]? = some (k : Int)
theorem Ends.start {n : Nat} {c es : List Int} (h : es.length = n) : Ends n c es 0 := ⟨h, fun k z hk => absurd hk (Nat.not_lt_zero k)⟩
theorem Ends.step {n : Nat} {c es : List Int} {i : Nat} {z : Int} (hc : Col n c) (h : Ends n c es i) (e : c[i]? = some z) : Ends n c (es.set z.toNat (i : Int)) (i + 1) := by
  refine ⟨by rw [List.length_set]; exact h.1, fun k y hk ey => ?_⟩
  have rz := hc.mem.mp (List.mem_of_getElem? e)
  have ry := hc.mem.mp (List.mem_of_getElem? ey)
  by_cases q : k = i
  · subst q
    rw [e] at ey
    cases ey
    rw [List.getElem?_set_self (by rw [h.1]; omega)]
  · rw [List.getElem?_set_ne]
    · exact h.2 k y (by omega) ey
    · intro w
      have : z = y := by omega
      subst this
      exact q (hc.inj ey e)
theorem Ends.full {n : Nat} {c es : List Int} (hc : Col n c) (h : Ends n c es n) : es = back n c := by
  refine List.ext_getElem? fun b => ?_
  by_cases hb : b < n
  · obtain ⟨s0, s1, s2⟩ := hc.spot (b := (b : Int)) (by omega) (by omega)
    have e1 := h.2 (spotN c b).toNat b (by omega) s2
    have e2 := back_at (n := n) (c := c) (b := (b : Int)) (by omega) (by omega)
    rw [show ((b : Int)).toNat = b by omega] at e1 e2
    rw [e1, e2]
    congr 1
  · rw [List.getElem?_eq_none (by rw [h.1]; omega), List.getElem?_eq_none (by rw [back_len]; omega)]
/-- what a walker sees: f a state's input, nx the state behind an edge, b the edge it came by -/
def gview {α : Type} (f : α → Int) (nx : Int → α → α) (D : Nat) : Nat → α → Int → PyData
  | 0, s, _ => .tuple [.int (f s)]
  | T + 1, s, b => .tuple [.int (f s), .tuple ((List.range D).map fun (j : Nat) => if 1 + (j : Int) = b then .none else gview f nx D T (nx (1 + (j : Int)) s) (1 + (j : Int)))]
def gparts {α : Type} (f : α → Int) (nx : Int → α → α) (D T : Nat) (s : α) (b : Int) : List PyData := (List.range D).map fun (j : Nat) => if 1 + (j : Int) = b then .none else gview f nx D T (nx (1 + (j : Int)) s) (1 + (j : Int))
section
variable {α : Type} {f : α → Int} {nx : Int → α → α} {D T : Nat} {s : α} {b : Int}
theorem gview_succ : gview f nx D (T + 1) s b = .tuple [.int (f s), .tuple (gparts f nx D T s b)] := rfl
theorem gparts_len : (gparts f nx D T s b).length = D := by simp [gparts]
theorem gparts_at {j : Nat} (hj : j < D) : (gparts f nx D T s b)[j]? = some (if 1 + (j : Int) = b then .none else gview f nx D T (nx (1 + (j : Int)) s) (1 + (j : Int))) := by
  unfold gparts
  rw [List.getElem?_map, List.getElem?_range hj]
  rfl
theorem gparts_take {i : Nat} (hi : i < D) : (gparts f nx D T s b).take (i + 1) = (gparts f nx D T s b).take i ++ [if 1 + (i : Int) = b then .none else gview f nx D T (nx (1 + (i : Int)) s) (1 + (i : Int))] := take_more (gparts_at hi)
end
def gbulk (D : Nat) : Nat → Nat
  | 0 => 2
  | T + 1 => D * (gbulk D T + 1) + 4
theorem gview_sized {α : Type} {f : α → Int} {nx : Int → α → α} {D : Nat} (hf : ∀ s, 0 ≤ f s ∧ f s < 1000) : ∀ (T : Nat) (s : α) (b : Int), Sized (gbulk D T) (2 * T + 1) (gview f nx D T s b)
  | 0, s, _ => by
    have h := sized_tup (m := 0) (h := 0) (ds := [.int (f s)]) fun d hd => by
      rw [List.mem_singleton.mp hd]
      exact sized_int (by have := hf s; omega)
    exact h.more (by simp [gbulk]) (by omega)
  | T + 1, s, b => by
    have hp : Sized (D * (gbulk D T + 1)) (2 * T + 2) (.tuple (gparts f nx D T s b)) := by
      have h := sized_tup (m := gbulk D T) (h := 2 * T + 1) (ds := gparts f nx D T s b) fun d hd => by
        obtain ⟨j, _, rfl⟩ := List.mem_map.mp hd
        show Sized _ _ (if 1 + (j : Int) = b then .none else gview f nx D T (nx (1 + (j : Int)) s) (1 + (j : Int)))
        split
        · exact sized_non.more (Nat.zero_le _) (Nat.zero_le _)
        · exact gview_sized hf T _ _
      rw [gparts_len] at h
      exact h
    have hi : Sized (D * (gbulk D T + 1)) (2 * T + 2) (.int (f s)) := (sized_int (i := f s) (by have := hf s; omega)).more (Nat.zero_le _) (Nat.zero_le _)
    obtain ⟨i1, i2, i3, i4⟩ := hi
    obtain ⟨p1, p2, p3, p4⟩ := hp
    refine ⟨?_, ?_, ?_, ?_⟩
    · simp only [gview_succ, PyData.leavesShort, PyData.leavesShortAll] at p1 i1 ⊢
      simp only [p1, i1, Bool.and_self]
    · simp only [gview_succ, PyData.showable, PyData.showableAll] at p2 i2 ⊢
      simp only [p2, i2, Bool.and_self]
    · simp only [gview_succ, PyData.depth, PyData.depthAll] at p3 i3 ⊢
      omega
    · have z : PyData.bulk (.int (f s)) = 0 := by simp only [PyData.bulk]
      simp only [gview_succ, PyData.bulk, PyData.bulkAll, gbulk] at p4 ⊢
      omega
theorem gbulk_le {D : Nat} (hD : D ≤ 4) : ∀ {T : Nat}, T ≤ 4 → gbulk D T ≤ 390000 := by
  have h : ∀ T m, gbulk D T ≤ m → gbulk D (T + 1) ≤ 4 * (m + 1) + 4 := fun T m h => by
    have := Nat.mul_le_mul hD (Nat.add_le_add_right h 1)
    show D * (gbulk D T + 1) + 4 ≤ _
    omega
  have h0 : gbulk D 0 ≤ 2 := Nat.le_refl _
  have h1 := h _ _ h0
  have h2 := h _ _ h1
  have h3 := h _ _ h2
  have h4 := h _ _ h3
  intro T hT
  match T, hT with
  | 0, _ => exact Nat.le_trans h0 (by decide)
  | 1, _ => exact Nat.le_trans h1 (by decide)
  | 2, _ => exact Nat.le_trans h2 (by decide)
  | 3, _ => exact Nat.le_trans h3 (by decide)
  | 4, _ => exact Nat.le_trans h4 (by decide)
/-- a state: white or not, the node's number -/
abbrev NSt := Bool × Int
def atN (xs : List Int) (i : Int) : Int := xs[i.toNat]?.getD 0
def colsOf (n : Nat) (cols : List (List Int)) (sd : Bool) : List (List Int) := if sd then cols else cols.map (back n)
def nfun (ws bs : List Int) (s : NSt) : Int := atN (if s.1 then ws else bs) s.2
def nnx (n : Nat) (cols : List (List Int)) (c : Int) (s : NSt) : NSt := (!s.1, atN (((colsOf n cols s.1)[(c - 1).toNat]?).getD []) s.2)
def sideS (sd : Bool) : Str := if sd then "white" else "black"
def netD (n : Nat) (cols : List (List Int)) (ws bs : List Int) : PyData := .tuple [.str "network", .int n, .tuple (cols.map tupI), tupI ws, tupI bs]
structure Net (n : Nat) (cols : List (List Int)) (ws bs : List Int) : Prop where
  pos : 1 ≤ n
  few : n ≤ 1000
  col : ∀ c ∈ cols, Col n c
  D4 : cols.length ≤ 4
  wl : ws.length = n
  bl : bs.length = n
  wr : ∀ z ∈ ws, 0 ≤ z ∧ z < 1000
  br : ∀ z ∈ bs, 0 ≤ z ∧ z < 1000
theorem colsOf_len {n : Nat} {cols : List (List Int)} {sd : Bool} : (colsOf n cols sd).length = cols.length := by
  cases sd <;> simp [colsOf]
theorem getD_range {xs : List Int} {n : Nat} {i : Int} {m : Int} (m0 : 0 < m) (h : ∀ z ∈ xs, 0 ≤ z ∧ z < m) : 0 ≤ atN xs i ∧ atN xs i < m := by
  unfold atN
  cases e : xs[i.toNat]? with
  | none => exact ⟨Int.le_refl _, m0⟩
  | some z => exact h z (List.mem_of_getElem? e)
theorem Net.fun_range {n : Nat} {cols : List (List Int)} {ws bs : List Int} (N : Net n cols ws bs) (s : NSt) : 0 ≤ nfun ws bs s ∧ nfun ws bs s < 1000 := by
  unfold nfun
  cases s.1
  · exact getD_range (n := n) (by decide) N.br
  · exact getD_range (n := n) (by decide) N.wr
/-- the node behind an edge -/
theorem Net.nx {n : Nat} {cols : List (List Int)} {ws bs : List Int} (N : Net n cols ws bs) {sd : Bool} {i : Int} {j : Nat} (i0 : 0 ≤ i) (i1 : i < n) (hj : j < cols.length) :
    ∃ c z, (colsOf n cols sd)[j]? = some c ∧ c[i.toNat]? = some z ∧ 0 ≤ z ∧ z < n ∧ nnx n cols (1 + (j : Int)) (sd, i) = (!sd, z) := by
  have hc : cols[j]? = some cols[j] := List.getElem?_eq_getElem hj
  have C := N.col _ (List.getElem_mem hj)
  have e : ((1 + (j : Int)) - 1).toNat = j := by omega
  cases sd with
  | true =>
    obtain ⟨z, hz, z0, z1⟩ := C.at i0 i1
    refine ⟨_, z, hc, hz, z0, z1, ?_⟩
    unfold nnx colsOf atN
    rw [e]
    simp [hc, hz]
  | false =>
    obtain ⟨z0, z1, _⟩ := C.spot i0 i1
    have hb : (cols.map (back n))[j]? = some (back n cols[j]) := by rw [List.getElem?_map, hc]; rfl
    refine ⟨_, _, hb, back_at i0 i1, z0, z1, ?_⟩
    unfold nnx colsOf atN
    rw [e]
    simp [hb, hc, back_at (c := cols[j]) i0 i1]
section
variable {P : Program} {w : World} {K : PySem.W.Frag} {mg : Str → Option Value} {base : Heap}
/-- how a network lies -/
def NetV (K : PySem.W.Frag) (H : Hp) (a : Addr) (n : Nat) (cols : List (List Int)) (ws bs : List Int) : Prop := ∃ (la wa ba : Addr) (cs : List V), SqT K H a [.str "network", .int n, .ref la, .ref wa, .ref ba] ∧ SqT K H la cs ∧ SLs (SqT K H) cs cols ∧ SqT K H wa (ws.map V.int) ∧ SqT K H ba (bs.map V.int) ∧ SLs (SqN K H) cs cols
theorem NetV.stay {H H' : Hp} {a : Addr} {n : Nat} {cols : List (List Int)} {ws bs : List Int} (t : TupsStay H H') (h : NetV K H a n cols ws bs) : NetV K H' a n cols ws bs := by
  obtain ⟨la, wa, ba, cs, h1, h2, h3, h4, h5, h6⟩ := h
  exact ⟨la, wa, ba, cs, t.seq h1, t.seq h2, h3.imp fun _ _ z => t.seq z, t.seq h4, t.seq h5, h6.imp fun _ _ z => z.stay t⟩
theorem sls_dt {H : Hp} : ∀ {vs : List V} {cols : List (List Int)}, SLs (SqT K H) vs cols → DtAll K H vs (cols.map tupI)
  | _, _, .nil => .nil
  | _, _, .cons h a => .cons (.tup h (DtAll.ints _)) (sls_dt a)
theorem NetV.dt {H : Hp} {a : Addr} {n : Nat} {cols : List (List Int)} {ws bs : List Int} (h : NetV K H a n cols ws bs) : Dt K H (.ref a) (netD n cols ws bs) := by
  obtain ⟨la, wa, ba, cs, h1, h2, h3, h4, h5, h6⟩ := h
  exact .tup h1 (.cons (.str _) (.cons (.int _) (.cons (.tup h2 (sls_dt h3)) (.cons (.tup h4 (DtAll.ints _)) (.cons (.tup h5 (DtAll.ints _)) .nil)))))
theorem sized_ints {r : List Int} {m : Nat} (h : r.length ≤ m) (b : ∀ z ∈ r, 0 ≤ z ∧ z < 1000) : Sized m 1 (tupI r) := by
  have q := sized_tup (m := 0) (h := 0) (ds := r.map PyData.int) fun d hd => by
    obtain ⟨z, hz, rfl⟩ := List.mem_map.mp hd
    have := b z hz
    exact sized_int (by omega)
  rw [List.length_map] at q
  exact q.more (by omega) (by omega)
theorem sized_net {n : Nat} {cols : List (List Int)} {ws bs : List Int} (N : Net n cols ws bs) : Sized 30000 3 (netD n cols ws bs) := by
  have a := sized_ints (r := ws) (m := 1000) (by rw [N.wl]; exact N.few) N.wr
  have b := sized_ints (r := bs) (m := 1000) (by rw [N.bl]; exact N.few) N.br
  have c : Sized 4004 2 (.tuple (cols.map tupI)) := by
    have q := sized_tup (m := 1000) (h := 1) (ds := cols.map tupI) fun d hd => by
      obtain ⟨r, hr, rfl⟩ := List.mem_map.mp hd
      have C := N.col r hr
      exact sized_ints (by rw [C.len]; exact N.few) fun z hz => by
        have := C.mem.mp hz
        have := N.few
        omega
    rw [List.length_map] at q
    refine q.more ?_ (by omega)
    have := Nat.mul_le_mul_right 1001 N.D4
    omega
  have q := sized_tup (m := 4004) (h := 2) (ds := [.str "network", .int n, .tuple (cols.map tupI), tupI ws, tupI bs]) fun d hd => by
    simp only [List.mem_cons, List.not_mem_nil, or_false] at hd
    rcases hd with rfl | rfl | rfl | rfl | rfl
    · exact ⟨by decide +kernel, by decide +kernel, by simp only [PyData.depth]; omega, by decide +kernel⟩
    · exact (sized_int (by have := N.few; omega)).more (by omega) (by omega)
    · exact c
    · exact a.more (by omega) (by omega)
    · exact b.more (by omega) (by omega)
  exact q.more (by simp) (by omega)
/-- the next draw, the heap behind it unnamed -/
def spTakeN (K : PySem.W.Frag) : Sp := fun vs H Q _ => ∃ (h d : Addr) (ds : List Int) (i : Nat) (m : Int), vs = [.ref h, .int m] ∧ Hand H h d ds i ∧ 0 < m ∧ m < 1000000 ∧
  ∀ (r : Int) (H' : Hp), 0 ≤ r → r < m → Hand H' h d ds (i + 1) → Go (· = h) H H' → Q (.int r) H'
theorem takeN {P : Program} {w : World} {K : PySem.W.Frag} {mg : Str → Option Value} {base : Heap} (g : Has P w K mg base CX0 1 "_law_take" ["hand", "many"] (spTake K)) : Has P w K mg base CX0 1 "_law_take" ["hand", "many"] (spTakeN K) :=
  g.imp fun vs H Q E ⟨h, d, ds, i, m, e, hh, m0, m1, k⟩ => ⟨h, d, ds, i, m, e, hh.1, hh.2, m0, m1, fun r r0 r1 => k r _ r0 r1 hh.next hh.go⟩
end
theorem _root_.LG.Hand.ints {H : Hp} {h d a : Addr} {ds ns : List Int} {n : Nat} (x : Hand H h d ds n) (e : H a = some (.lst (ns.map V.int))) : ¬ a = h := by
  rintro rfl
  have q := x.1.symm.trans e
  cases ns with
  | nil => cases q
  | cons z ns => cases q
section
variable {P : Program} {w : World} {K : PySem.W.Frag} {mg : Str → Option Value} {base : Heap}
/-- lists that grow while other things change -/
structure GI (M : Addr → Prop) (H0 : Hp) (q : Addr) (ns : List Int) (H : Hp) : Prop where
  free : H0 q = none
  go : Go M H0 H
  ex : H q = some (.lst (ns.map V.int))
theorem GI.start {M : Addr → Prop} {H0 : Hp} {q : Addr} (h : H0 q = none) : GI M H0 q [] (upd H0 q (.lst [])) := ⟨h, Go.new h _, upd_same⟩
theorem GI.step {M : Addr → Prop} {H0 H H' : Hp} {q : Addr} {ns : List Int} (a : GI M H0 q ns H) (nq : ¬ M q) (g : Go M H H') : GI M H0 q ns H' := ⟨a.free, a.go.trans g, g.out _ _ nq a.ex⟩
theorem GI.push {M : Addr → Prop} {H0 H : Hp} {q : Addr} {ns : List Int} (a : GI M H0 q ns H) (z : Int) (few : ns.length ≤ 100000) : H q = some (.lst (ns.map V.int)) ∧ (ns.map V.int).length < sizeLine ∧ GI M H0 q (ns ++ [z]) (upd H q (.lst (ns.map V.int ++ [V.int z]))) :=
  ⟨a.ex, lt_small (by rw [List.length_map]; exact few), a.free, go_own a.go a.free a.ex _, by rw [upd_same, List.map_append]; rfl⟩
structure GS (K : PySem.W.Frag) (M : Addr → Prop) (H0 : Hp) (q : Addr) (cs : List (List Int)) (H : Hp) : Prop where
  free : H0 q = none
  go : Go M H0 H
  ex : ∃ acc, H q = some (.lst acc) ∧ SLs (SqT K H) acc cs
theorem GS.start {M : Addr → Prop} {H0 : Hp} {q : Addr} (h : H0 q = none) : GS K M H0 q [] (upd H0 q (.lst [])) := ⟨h, Go.new h _, [], upd_same, .nil⟩
theorem GS.step {M : Addr → Prop} {H0 H H' : Hp} {q : Addr} {cs : List (List Int)} (a : GS K M H0 q cs H) (nq : ¬ M q) (g : Go M H H') : GS K M H0 q cs H' := by
  obtain ⟨acc, e, s⟩ := a.ex
  exact ⟨a.free, a.go.trans g, acc, g.out _ _ nq e, s.imp fun _ _ z => g.seqT z⟩
theorem GS.push {M : Addr → Prop} {H0 H : Hp} {q p : Addr} {cs : List (List Int)} {c : List Int} (a : GS K M H0 q cs H) (hp : SqT K H p (c.map V.int)) (few : cs.length ≤ 100000) :
    ∃ acc, H q = some (.lst acc) ∧ acc.length < sizeLine ∧ GS K M H0 q (cs ++ [c]) (upd H q (.lst (acc ++ [V.ref p]))) := by
  obtain ⟨acc, e, s⟩ := a.ex
  have t := tups_lst (ys := acc ++ [V.ref p]) e
  exact ⟨acc, e, lt_small (by rw [s.len]; exact few), a.free, go_own a.go a.free e _, _, upd_same, (s.imp fun _ _ z => t.seq z).app (.cons (t.seq hp) .nil)⟩
/-- tuples without a dict of their own -/
structure GN (K : PySem.W.Frag) (M : Addr → Prop) (H0 : Hp) (q : Addr) (cs : List (List Int)) (H : Hp) : Prop where
  free : H0 q = none
  go : Go M H0 H
  ex : ∃ acc, H q = some (.lst acc) ∧ SLs (SqN K H) acc cs
theorem GN.start {M : Addr → Prop} {H0 : Hp} {q : Addr} (h : H0 q = none) : GN K M H0 q [] (upd H0 q (.lst [])) := ⟨h, Go.new h _, [], upd_same, .nil⟩
theorem GN.step {M : Addr → Prop} {H0 H H' : Hp} {q : Addr} {cs : List (List Int)} (a : GN K M H0 q cs H) (nq : ¬ M q) (g : Go M H H') : GN K M H0 q cs H' := by
  obtain ⟨acc, e, s⟩ := a.ex
  exact ⟨a.free, a.go.trans g, acc, g.out _ _ nq e, s.imp fun _ _ z => z.stay g.tups⟩
theorem GN.push {M : Addr → Prop} {H0 H : Hp} {q p : Addr} {cs : List (List Int)} {c : List Int} (a : GN K M H0 q cs H) (hp : SqN K H p (c.map V.int)) (few : cs.length ≤ 100000) :
    ∃ acc, H q = some (.lst acc) ∧ acc.length < sizeLine ∧ GN K M H0 q (cs ++ [c]) (upd H q (.lst (acc ++ [V.ref p]))) := by
  obtain ⟨acc, e, s⟩ := a.ex
  have t := tups_lst (ys := acc ++ [V.ref p]) e
  exact ⟨acc, e, lt_small (by rw [s.len]; exact few), a.free, go_own a.go a.free e _, _, upd_same, (s.imp fun _ _ z => z.stay t).app (.cons (hp.stay t) .nil)⟩
end
/-! ### what a network is, for any data -/
def areNums (many most : Int) : PyData → Bool
  | .tuple ds => decide (((ds.length : Nat) : Int) = many) && ds.all (isNum · 0 most)
  | _ => false
def isOrd (many : Int) (d : PyData) : Bool := areNums many (many - 1) d && decide (intsD d).Nodup
def isNetWord (w : PyData) : Bool := match w with
  | .str x => decide (x = "network")
  | _ => false
def isRest (p q n : Int) (dw db : PyData) : PyData → Bool
  | .tuple cs => isNum (.int (cs.length : Nat)) 2 4 && (cs.all (isOrd n) && (areNums n (p - 1) dw && areNums n (q - 1) db))
  | _ => false
def isNetD (p q : Int) : PyData → Bool
  | .tuple [w, dn, dl, dw, db] => isNetWord w && (isNum dn 1 400 && isRest p q (numD dn) dw db dl)
  | _ => false
theorem nums_ints {many most : Int} {d : PyData} (h : areNums many most d = true) : d = tupI (intsD d) ∧ (((intsD d).length : Nat) : Int) = many ∧ ∀ z ∈ intsD d, 0 ≤ z ∧ z ≤ most := by
  cases d with
  | tuple ds =>
    have h' : (decide (((ds.length : Nat) : Int) = many) && ds.all (isNum · 0 most)) = true := h
    rw [Bool.and_eq_true, decide_eq_true_eq, List.all_eq_true] at h'
    obtain ⟨e, a⟩ := h'
    have go : ∀ ds : List PyData, (∀ d ∈ ds, isNum d 0 most = true) → ds = (ds.map numD).map PyData.int := by
      intro ds
      induction ds with
      | nil => intro _; rfl
      | cons d ds ih =>
        intro a
        rw [List.map_cons, List.map_cons, ← ih fun x hx => a x (List.mem_cons_of_mem _ hx), ← (num_of (a d List.mem_cons_self)).1]
    refine ⟨?_, ?_, ?_⟩
    · show PyData.tuple ds = .tuple ((ds.map numD).map PyData.int)
      rw [← go ds a]
    · show (((ds.map numD).length : Nat) : Int) = many
      rw [List.length_map, e]
    · intro z hz
      obtain ⟨d, hd, rfl⟩ := List.mem_map.mp (show z ∈ ds.map numD from hz)
      exact (num_of (a d hd)).2
  | _ => cases h
section
variable {P : Program} {w : World} {K : PySem.W.Frag} {mg : Str → Option Value} {base : Heap}
/-- the first part may be held against a text -/
def WordOk (d : PyData) : Prop := ∀ w r, d = .tuple (w :: r) → r.length = 4 → SeqAt.shaped w = true
theorem shaped_dp {M : Addr → Prop} {H : Hp} {v : V} {d : PyData} (h : Dn M K H v d) (s : SeqAt.shaped d = true) : Dp K H v d := Dn.dp d (PyData.hasDict_of_canLay d (SeqAt.canLay_of_shaped s)) h
theorem is_netword (d : PyData) : PyData.eqv d (.str "network") = isNetWord d := by
  rw [word_eqv]
  rfl
def spNums (K : PySem.W.Frag) : Sp := fun vs H Q _ => ∃ (M : Addr → Prop) (x : V) (d : PyData) (many most : Int), vs = [x, .int many, .int most] ∧ Dn M K H x d ∧ many ≤ 1000 ∧ ∀ H', Same H H' → Q (.bl (areNums many most d)) H'
theorem ok_nums {f : Addr} {fd : FuncData} (B : Blt mg) (gis_number : Has P w K mg base CX0 1 "is_number" ["value", "low", "high"] (spNumber K)) (F : Fun K "_are_numbers" "_are_numbers" s_are_numbers f fd) : FnOk P w K mg base CX0 2 f fd ["value", "many", "most"] (spNums K) := by
  have sc : FnScope ["value", "many", "most", "number"] ["value", "many", "most"] (defScope s_are_numbers) := ⟨rfl, rfl, rfl, by decide +kernel, rfl, by decide +kernel, by decide +kernel⟩
  refine F.ok sc (fun vs H Q E h => ?_) (fun cdv A outer s H vs Q E hr h => ?_)
  · obtain ⟨_, _, _, _, _, rfl, _⟩ := h
    rfl
  obtain ⟨M, x, d, many, most, rfl, hd, hm, k⟩ := h
  refine ⟨_, (pss_cons (ps_if (PW.pt (pw_or (pt_not (pt_val (pe_callB call_isi (by rfl) B.isinstance (by decide +kernel) (pa_cons (pv 0) (pa_cons (pe_bltn (v := V.ty "tuple") (u := Value.type "tuple") (by rfl) B.tuple (by decide +kernel) rfl) pa_nil))))) (pw_or1 (pt_cmpR op_nei (pe_callB call_len_seq (by rfl) B.len (by decide +kernel) (pa_cons (pv 0) pa_nil)) (pv 1) (nomark _)))))
      (pss_one (ps_ret pe_bl))
      pss_nil)
    (pss_one (ps_ret (pe_callB (cr_all rfl) (by rfl) B.all (by decide +kernel) (pa_cons (pe_lc (own := [("number", 3)]) (g := gName 3) (tt := tYes) rfl sc.nd (pi_tup (pv 0)) (blkOk_by (N := ["value", "many", "most", "number"]) (sc := defScope s_are_numbers) (by decide +kernel)) (fun _ _ _ _ _ => pg_name (i := 3) sc.nd rfl (Or.inl rfl)) (fun _ _ _ _ _ => pts_nil) (fun _ _ _ _ _ => (pc gis_number hr (pa_cons (pv 3) (pa_cons pe_int (pa_cons (pv 2) pa_nil)))))) pa_nil))))), ?_⟩
  try dsimp only [cxOf]
  have no : areNums many most d = false → Q (.bl false) H := fun e => by have := k H (Same.refl _); rw [e] at this; exact this
  w_fin
  refine st_isi hd (kit_tup d) ?_
  w_fin
  cases ht : isTup d with
  | false =>
    refine iteT ?_
    w_fin
    exact no (by cases d <;> first | rfl | cases ht)
  | true =>
    refine iteF ?_
    obtain ⟨ds, rfl⟩ := isTup_of ht
    obtain ⟨a, xs, rfl, ha, hx⟩ := dn_tup hd
    have e : areNums many most (.tuple ds) = (decide (((ds.length : Nat) : Int) = many) && ds.all (isNum · 0 most)) := rfl
    w_fin
    rw [hx.len]
    refine st_ntwo (fun c => ?_) (fun c => ?_)
    · w_fin
      exact no (by rw [e, decide_eq_false c]; rfl)
    · w_fin
      intro p hp
      refine itt_walk (xs := xs) (fun i H' => Same H H' ∧ H' p = some (.lst (((ds.take i).map fun d => isNum d 0 most).map V.bl))) ⟨same_new hp _, upd_same⟩ (fun i H' _ z => z.1.seqT ha) ?_ ?_
      · rintro i y H1 hi ⟨s1, e1⟩
        obtain ⟨dy, hdy, hyd⟩ := hx.of hi
        w_fin
        refine ⟨M, y, dy, 0, most, rfl, hyd.stay s1.go, ?_⟩
        refine ⟨_, e1, lt_small (by rw [List.length_map, List.length_map, List.length_take]; omega), same_own s1 hp _, ?_⟩
        rw [upd_same, take_more hdy, List.map_append, List.map_append]
        rfl
      · rintro H1 ⟨s1, e1⟩
        rw [hx.len, List.take_length] at e1
        w_fin
        refine ⟨p, _, rfl, SqL.of e1, ?_⟩
        have q := k H1 s1
        rw [e, decide_eq_true c, Bool.true_and] at q
        rw [List.all_map]
        exact q
def spOrd (K : PySem.W.Frag) : Sp := fun vs H Q _ => ∃ (M : Addr → Prop) (x : V) (d : PyData) (many : Int), vs = [x, .int many] ∧ Dn M K H x d ∧ many ≤ 1000 ∧ ∀ H', Same H H' → Q (.bl (isOrd many d)) H'
theorem ok_ord {f : Addr} {fd : FuncData} (B : Blt mg) (g_are_numbers : Has P w K mg base CX0 2 "_are_numbers" ["value", "many", "most"] (spNums K)) (F : Fun K "is_order" "is_order" sis_order f fd) : FnOk P w K mg base CX0 3 f fd ["value", "many"] (spOrd K) := by
  have sc : FnScope ["value", "many"] ["value", "many"] (defScope sis_order) := ⟨rfl, rfl, rfl, by decide +kernel, rfl, by decide +kernel, by decide +kernel⟩
  refine F.ok sc (fun vs H Q E h => ?_) (fun cdv A outer s H vs Q E hr h => ?_)
  · obtain ⟨_, _, _, _, rfl, _⟩ := h
    rfl
  obtain ⟨M, x, d, many, rfl, hd, hm, k⟩ := h
  refine ⟨_, (pss_one (ps_ret (pe_and (pc g_are_numbers hr (pa_cons (pv 0) (pa_cons (pv 1) (pa_cons (pe_op op_sub (pv 1) pe_int) pa_nil)))) (pe_one (pe_cmpR op_eqi (pe_lenSetT (by rfl) B.len (by rfl) B.set (pv 0)) (pv 1) (nomark _)))))), ?_⟩
  try dsimp only [cxOf]
  w_fin
  refine ⟨M, x, d, many, many - 1, rfl, hd, hm, fun H1 s1 => ?_⟩
  w_fin
  cases c : areNums many (many - 1) d with
  | false =>
    refine iteF ?_
    have := k H1 s1
    unfold isOrd at this
    rw [c] at this
    exact this
  | true =>
    refine iteT ?_
    obtain ⟨e, l, r⟩ := nums_ints c
    rw [e] at hd
    obtain ⟨a, xs, rfl, ha, hx⟩ := dn_tup hd
    obtain rfl := ints_vs hx
    w_fin
    refine ⟨a, intsD d, rfl, s1.seqT ha, by omega, fun n hn => ?_⟩
    w_fin
    have := k H1 s1
    unfold isOrd at this
    rw [c, Bool.true_and] at this
    have q : decide ((n : Int) = many) = decide (intsD d).Nodup := decide_eq_decide.mpr ⟨fun z => hn.mp (by omega), fun z => by have := hn.mpr z; omega⟩
    rw [q]
    exact this
def spIsNet (K : PySem.W.Frag) : Sp := fun vs H Q _ => ∃ (M : Addr → Prop) (x : V) (d : PyData) (p q : Int), vs = [x, .int p, .int q] ∧ Dn M K H x d ∧ WordOk d ∧ ∀ H', Same H H' → Q (.bl (isNetD p q d)) H'
set_option maxHeartbeats 1000000 in
theorem ok_isnet {f : Addr} {fd : FuncData} (B : Blt mg) (T : Cst mg) (gis_number : Has P w K mg base CX0 1 "is_number" ["value", "low", "high"] (spNumber K)) (gis_order : Has P w K mg base CX0 3 "is_order" ["value", "many"] (spOrd K)) (g_are_numbers : Has P w K mg base CX0 2 "_are_numbers" ["value", "many", "most"] (spNums K))
    (F : Fun K "is_network" "is_network" sis_network f fd) : FnOk P w K mg base CX0 4 f fd ["value", "p", "q"] (spIsNet K) := by
  have sc : FnScope ["value", "p", "q", "_", "n", "links", "white", "black", "column"] ["value", "p", "q"] (defScope sis_network) := ⟨rfl, rfl, rfl, by decide +kernel, rfl, by decide +kernel, by decide +kernel⟩
  refine F.ok sc (fun vs H Q E h => ?_) (fun cdv A outer s H vs Q E hr h => ?_)
  · obtain ⟨_, _, _, _, _, rfl, _⟩ := h
    rfl
  obtain ⟨M, x, d, p, q, rfl, hd, hw, k⟩ := h
  obtain ⟨tk1, hMOST_NODES⟩ := T.MOST_NODES
  obtain ⟨tk2, hLEAST_COLOURS⟩ := T.LEAST_COLOURS
  obtain ⟨tk3, hMOST_COLOURS⟩ := T.MOST_COLOURS
  refine ⟨_, (pss_cons (ps_if (PW.pt (pw_or (pt_not (pt_val (pe_callB call_isi (by rfl) B.isinstance (by decide +kernel) (pa_cons (pv 0) (pa_cons (pe_bltn (v := V.ty "tuple") (u := Value.type "tuple") (by rfl) B.tuple (by decide +kernel) rfl) pa_nil))))) (pw_or (pt_cmpR op_nei (pe_callB call_len_seq (by rfl) B.len (by decide +kernel) (pa_cons (pv 0) pa_nil)) pe_int (nomark _)) (pw_or1 (pt_cmpR (op_neD hr.units) (pe_ix ix_tup (pv 0) pe_int (fun _ _ => rfl)) pe_str (nomark _))))))
      (pss_one (ps_ret pe_bl))
      pss_nil)
    (pss_cons (ps_asg (pv 0) (pg_tup rfl (pgs_cons (pg_name (i := 3) sc.nd rfl (Or.inl rfl)) (pgs_cons (pg_name (i := 4) sc.nd rfl (Or.inr rfl)) (pgs_cons (pg_name (i := 5) sc.nd rfl (Or.inl rfl)) (pgs_cons (pg_name (i := 6) sc.nd rfl (Or.inl rfl)) (pgs_cons (pg_name (i := 7) sc.nd rfl (Or.inl rfl)) pgs_nil)))))))
    (pss_cons (ps_if (PW.pt (pw_or (pt_not (pt_val (pc gis_number hr (pa_cons (pv 4) (pa_cons pe_int (pa_cons (pe_glob (v := V.int _) rfl hMOST_NODES ⟨_, rfl⟩) pa_nil)))))) (pw_or1 (pt_not (pt_val (pe_callB call_isi (by rfl) B.isinstance (by decide +kernel) (pa_cons (pv 5) (pa_cons (pe_bltn (v := V.ty "tuple") (u := Value.type "tuple") (by rfl) B.tuple (by decide +kernel) rfl) pa_nil))))))))
      (pss_one (ps_ret pe_bl))
      pss_nil)
    (pss_cons (ps_if (pt_not (pt_val (pc gis_number hr (pa_cons (pe_callB call_len_seq (by rfl) B.len (by decide +kernel) (pa_cons (pv 5) pa_nil)) (pa_cons (pe_glob (v := V.int _) rfl hLEAST_COLOURS ⟨_, rfl⟩) (pa_cons (pe_glob (v := V.int _) rfl hMOST_COLOURS ⟨_, rfl⟩) pa_nil))))))
      (pss_one (ps_ret pe_bl))
      pss_nil)
    (pss_cons (ps_if (pt_not (pt_val (pe_callB (cr_all rfl) (by rfl) B.all (by decide +kernel) (pa_cons (pe_lc (own := [("column", 8)]) (g := gName 8) (tt := tYes) rfl sc.nd (pi_tup (pv 5)) (blkOk_by (N := ["value", "p", "q", "_", "n", "links", "white", "black", "column"]) (sc := defScope sis_network) (by decide +kernel)) (fun _ _ _ _ _ => pg_name (i := 8) sc.nd rfl (Or.inl rfl)) (fun _ _ _ _ _ => pts_nil) (fun _ _ _ _ _ => (pc gis_order hr (pa_cons (pv 8) (pa_cons (pv 4) pa_nil))))) pa_nil))))
      (pss_one (ps_ret pe_bl))
      pss_nil)
    (pss_one (ps_ret (pe_and (pc g_are_numbers hr (pa_cons (pv 6) (pa_cons (pv 4) (pa_cons (pe_op op_sub (pv 1) pe_int) pa_nil)))) (pe_one (pc g_are_numbers hr (pa_cons (pv 7) (pa_cons (pv 4) (pa_cons (pe_op op_sub (pv 2) pe_int) pa_nil))))))))))))), ?_⟩
  try dsimp only [cxOf]
  have no : isNetD p q d = false → Q (.bl false) H := fun e => by have := k H (Same.refl _); rw [e] at this; exact this
  w_fin
  refine st_isi hd (kit_tup d) ?_
  w_fin
  cases ht : isTup d with
  | false =>
    refine iteT ?_
    w_fin
    exact no (by cases d <;> first | rfl | cases ht)
  | true =>
    refine iteF ?_
    obtain ⟨ds, rfl⟩ := isTup_of ht
    obtain ⟨a, xs, rfl, ha, hx⟩ := dn_tup hd
    w_fin
    rw [hx.len]
    refine st_ntwo (fun c => ?_) (fun c => ?_)
    · w_fin
      refine no ?_
      match ds, c with
      | [], _ => rfl
      | [_], _ => rfl
      | [_, _], _ => rfl
      | [_, _, _], _ => rfl
      | [_, _, _, _], _ => rfl
      | [_, _, _, _, _], c => exact absurd rfl c
      | _ :: _ :: _ :: _ :: _ :: _ :: _, _ => rfl
    obtain ⟨d0, d1, d2, d3, d4, rfl⟩ : ∃ d0 d1 d2 d3 d4, ds = [d0, d1, d2, d3, d4] := by
      match ds, c with
      | [], c => exact absurd c (by decide)
      | [_], c => exact absurd c (by simp)
      | [_, _], c => exact absurd c (by simp)
      | [_, _, _], c => exact absurd c (by simp)
      | [_, _, _, _], c => exact absurd c (by simp)
      | [d0, d1, d2, d3, d4], _ => exact ⟨_, _, _, _, _, rfl⟩
      | _ :: _ :: _ :: _ :: _ :: _ :: r, c => exact absurd c (by simp only [List.length_cons]; omega)
    cases hx with | @cons v0 _ _ _ h0 hx =>
    cases hx with | @cons v1 _ _ _ h1 hx =>
    cases hx with | @cons v2 _ _ _ h2 hx =>
    cases hx with | @cons v3 _ _ _ h3 hx =>
    cases hx with | @cons v4 _ _ _ h4 hx =>
    cases hx
    have sh := hw d0 _ rfl rfl
    have eN : isNetD p q (.tuple [d0, d1, d2, d3, d4]) = (isNetWord d0 && (isNum d1 1 400 && isRest p q (numD d1) d3 d4 d2)) := rfl
    rw [eN] at k no
    w_fin
    refine ⟨_, _, shaped_dp h0 sh, .str "network", sh, by decide +kernel, ?_⟩
    rw [is_netword]
    w_fin
    cases hwd : isNetWord d0 with
    | false =>
      refine iteT ?_
      w_fin
      exact no (by rw [hwd]; rfl)
    | true =>
    refine iteF ?_
    rw [hwd, Bool.true_and] at k no
    w_fin
    refine st_gtup ha rfl ?_
    w_fin
    refine ⟨M, v1, d1, 1, 400, rfl, h1, ?_⟩
    w_fin
    cases hn : isNum d1 1 400 with
    | false =>
      refine iteT ?_
      w_fin
      exact no (by rw [hn]; rfl)
    | true =>
    refine iteF ?_
    rw [hn, Bool.true_and] at k no
    obtain ⟨e1, n1, n4⟩ := num_of hn
    rw [e1] at h1
    obtain rfl := dn_int h1
    w_fin
    refine st_isi h2 (kit_tup d2) ?_
    w_fin
    cases ht2 : isTup d2 with
    | false =>
      refine iteT ?_
      w_fin
      refine no ?_
      cases d2 <;> first | rfl | cases ht2
    | true =>
    refine iteF ?_
    obtain ⟨cs, rfl⟩ := isTup_of ht2
    obtain ⟨la, cvs, rfl, hla, hcs⟩ := dn_tup h2
    w_fin
    refine ⟨M, _, .int ((cvs.length : Nat) : Int), 2, 4, rfl, .int _, ?_⟩
    rw [hcs.len]
    w_fin
    have eR : isRest p q (numD d1) d3 d4 (.tuple cs) = (isNum (.int (cs.length : Nat)) 2 4 && (cs.all (isOrd (numD d1)) && (areNums (numD d1) (p - 1) d3 && areNums (numD d1) (q - 1) d4))) := rfl
    rw [eR] at k no
    cases hc : isNum (.int (cs.length : Nat)) 2 4 with
    | false =>
      refine iteT ?_
      w_fin
      exact no (by rw [hc]; rfl)
    | true =>
    refine iteF ?_
    rw [hc, Bool.true_and] at k no
    have few : cs.length ≤ 4 := by
      have := (num_of hc).2.2
      have : ((cs.length : Nat) : Int) ≤ 4 := this
      omega
    w_fin
    intro l hl
    refine itt_walk (xs := cvs) (fun i H' => Same H H' ∧ H' l = some (.lst (((cs.take i).map (isOrd (numD d1))).map V.bl))) ⟨same_new hl _, upd_same⟩ (fun i H' _ z => z.1.seqT hla) ?_ ?_
    · rintro i y H1 hi ⟨s1, e1⟩
      obtain ⟨dy, hdy, hyd⟩ := hcs.of hi
      w_fin
      refine ⟨M, y, dy, numD d1, rfl, hyd.stay s1.go, by omega, fun H2 s2 => ?_⟩
      refine ⟨_, s2 _ _ e1, lt_small (by rw [List.length_map, List.length_map, List.length_take]; omega), same_own (s1.trans s2) hl _, ?_⟩
      rw [upd_same, take_more hdy, List.map_append, List.map_append]
      rfl
    rintro H1 ⟨s1, e1⟩
    rw [hcs.len, List.take_length] at e1
    w_fin
    refine ⟨l, _, rfl, SqL.of e1, ?_⟩
    rw [List.all_map]
    w_fin
    have ecs : (cs.all ((fun b => b) ∘ isOrd (numD d1))) = cs.all (isOrd (numD d1)) := rfl
    rw [show (cs.all (id ∘ isOrd (numD d1))) = cs.all (isOrd (numD d1)) from rfl]
    cases ha2 : cs.all (isOrd (numD d1)) with
    | false =>
      refine iteT ?_
      w_fin
      have := k H1 s1
      rw [ha2] at this
      exact this
    | true =>
    refine iteF ?_
    rw [ha2, Bool.true_and] at k
    w_fin
    refine ⟨M, v3, d3, _, p - 1, rfl, h3.stay s1.go, by omega, fun H2 s2 => ?_⟩
    w_fin
    cases h3' : areNums (numD d1) (p - 1) d3 with
    | false =>
      refine iteF ?_
      have := k H2 (s1.trans s2)
      rw [h3'] at this
      exact this
    | true =>
    refine iteT ?_
    rw [h3', Bool.true_and] at k
    w_fin
    exact ⟨M, v4, d4, _, q - 1, rfl, (h4.stay s1.go).stay s2.go, by omega, fun H3 s3 => k H3 ((s1.trans s2).trans s3)⟩
end
def isRow (ls : List Int) : PyData → Bool
  | .tuple ds => decide (ds.length = ls.length) && (ds.zip ls).all fun p => isNum p.1 0 (p.2 - 1)
  | _ => false
def areRows (ls : List Int) : PyData → Bool
  | .tuple rs => (List.range rs.length).all fun at_ => isRow ls (rs.getD at_ .none) && (decide (at_ = 0) || decide (intsD (rs.getD (at_ - 1) .none) < intsD (rs.getD at_ .none)))
  | _ => false
def areInputs (ls : List Int) : PyData → Bool
  | .tuple sides => isNum (.int (sides.length : Nat)) 1 4 && sides.all (areRows ls)
  | _ => false
def prodD (ms : List PyData) : Int := ms.foldl (fun p m => p * numD m) 1
def areLabels (dD dL : PyData) : Bool := isNum dD 2 4 && match dL with
  | .tuple ms => decide (((ms.length : Nat) : Int) = numD dD) && (ms.all (isNum · 1 60) && decide (prodD ms ≤ 4000))
  | _ => false
def isWord (w : PyData) : Bool := match w with
  | .str x => decide (x = "task")
  | _ => false
def isTask : PyData → Bool
  | .tuple [w, dD, dL, dW, dB] => isWord w && (areLabels dD dL && (areInputs (intsD dL) dW && areInputs (intsD dL) dB))
  | _ => false
/-- of a right row the ints -/
theorem row_ints {ls : List Int} {d : PyData} (h : isRow ls d = true) : d = tupI (intsD d) ∧ (intsD d).length = ls.length := by
  cases d with
  | tuple ds =>
    have h' : (decide (ds.length = ls.length) && (ds.zip ls).all fun p => isNum p.1 0 (p.2 - 1)) = true := h
    rw [Bool.and_eq_true, decide_eq_true_eq] at h'
    obtain ⟨e, a⟩ := h'
    have go : ∀ (ds : List PyData) (ls : List Int), ds.length = ls.length → ((ds.zip ls).all fun p => isNum p.1 0 (p.2 - 1)) = true → ds = (ds.map numD).map PyData.int := by
      intro ds
      induction ds with
      | nil => intro _ _ _; rfl
      | cons d ds ih =>
        intro ls e a
        cases ls with
        | nil => cases e
        | cons l ls =>
          rw [List.zip_cons_cons, List.all_cons, Bool.and_eq_true] at a
          rw [List.map_cons, List.map_cons, ← ih ls (by simpa using e) a.2, ← (num_of a.1).1]
    refine ⟨?_, ?_⟩
    · show PyData.tuple ds = .tuple ((ds.map numD).map PyData.int)
      rw [← go ds ls e a]
    · show (ds.map numD).length = _
      rw [List.length_map, e]
  | _ => cases h
theorem labels_ints {ms : List PyData} (h : ms.all (isNum · 1 60) = true) : ms = (ms.map numD).map PyData.int := by
  induction ms with
  | nil => rfl
  | cons m ms ih =>
    rw [List.all_cons, Bool.and_eq_true] at h
    rw [List.map_cons, List.map_cons, ← ih h.2, ← (num_of h.1).1]
theorem prod_more (ms : List PyData) (m : PyData) : prodD (ms ++ [m]) = prodD ms * numD m := by
  unfold prodD
  rw [List.foldl_append]
  rfl
theorem prod_le : ∀ (ms : List PyData), ms.all (isNum · 1 60) = true → 1 ≤ prodD ms ∧ prodD ms ≤ 60 ^ ms.length := by
  intro ms
  have go : ∀ (ms : List PyData) (p : Int) (n : Nat), 1 ≤ p → p ≤ 60 ^ n → ms.all (isNum · 1 60) = true → 1 ≤ ms.foldl (fun p m => p * numD m) p ∧ ms.foldl (fun p m => p * numD m) p ≤ 60 ^ (n + ms.length) := by
    intro ms
    induction ms with
    | nil => exact fun p n h1 h2 _ => ⟨h1, h2⟩
    | cons m ms ih =>
      intro p n h1 h2 a
      rw [List.all_cons, Bool.and_eq_true] at a
      obtain ⟨_, l1, l2⟩ := num_of a.1
      have q1 : 1 ≤ p * numD m := by
        have := Int.mul_le_mul (show (1 : Int) ≤ p from h1) l1 (by decide) (by omega)
        omega
      have q2 : p * numD m ≤ 60 ^ (n + 1) := by
        rw [Int.pow_succ]
        exact Int.mul_le_mul h2 l2 (by omega) (by exact Int.le_of_lt (Int.pow_pos (by decide)))
      have r := ih (p * numD m) (n + 1) q1 q2 a.2
      rw [List.foldl_cons, List.length_cons, show n + (ms.length + 1) = n + 1 + ms.length by omega]
      exact r
  intro a
  have r := go ms 1 0 (by decide) (by decide) a
  rw [Nat.zero_add] at r
  exact r
section
variable {P : Program} {w : World} {K : PySem.W.Frag} {mg : Str → Option Value} {base : Heap}
def spRow (K : PySem.W.Frag) : Sp := fun vs H Q _ => ∃ (M : Addr → Prop) (x : V) (d : PyData) (la : Addr) (ls : List Int), vs = [x, .ref la] ∧ Dn M K H x d ∧ SqT K H la (ls.map V.int) ∧ ls.length ≤ 1000 ∧ ∀ H', Same H H' → Q (.bl (isRow ls d)) H'
theorem ok_row {f : Addr} {fd : FuncData} (B : Blt mg) (gis_number : Has P w K mg base CX0 1 "is_number" ["value", "low", "high"] (spNumber K)) (F : Fun K "is_row" "is_row" sis_row f fd) : FnOk P w K mg base CX0 2 f fd ["row", "labels"] (spRow K) := by
  have sc : FnScope ["row", "labels", "label", "many"] ["row", "labels"] (defScope sis_row) := ⟨rfl, rfl, rfl, by decide +kernel, rfl, by decide +kernel, by decide +kernel⟩
  refine F.ok sc (fun vs H Q E h => ?_) (fun cdv A outer s H vs Q E hr h => ?_)
  · obtain ⟨_, _, _, _, _, rfl, _⟩ := h
    rfl
  obtain ⟨M, x, d, la, ls, rfl, hd, hla, hz, k⟩ := h
  refine ⟨_, (pss_cons (ps_if (PW.pt (pw_or (pt_not (pt_val (pe_callB call_isi (by rfl) B.isinstance (by decide +kernel) (pa_cons (pv 0) (pa_cons (pe_bltn (v := V.ty "tuple") (u := Value.type "tuple") (by rfl) B.tuple (by decide +kernel) rfl) pa_nil))))) (pw_or1 (pt_cmpR op_nei (pe_callB call_len_seq (by rfl) B.len (by decide +kernel) (pa_cons (pv 0) pa_nil)) (pe_callB call_len_seq (by rfl) B.len (by decide +kernel) (pa_cons (pv 1) pa_nil)) (nomark _)))))
      (pss_one (ps_ret pe_bl))
      pss_nil)
    (pss_one (ps_ret (pe_callB (cr_all rfl) (by rfl) B.all (by decide +kernel) (pa_cons (pe_lc (own := [("label", 2), ("many", 3)]) (g := gTup K 2 (gCons (gName 2) (gCons (gName 3) gNil))) (tt := tYes) rfl sc.nd (RZ.pi_zipA (by rfl) B.zip (pa_cons (pv 0) (pa_cons (pv 1) pa_nil))) (blkOk_by (N := ["row", "labels", "label", "many"]) (sc := defScope sis_row) (by decide +kernel)) (fun _ _ _ _ _ => (pg_tup rfl (pgs_cons (pg_name (i := 2) sc.nd rfl (Or.inl rfl)) (pgs_cons (pg_name (i := 3) sc.nd rfl (Or.inl rfl)) pgs_nil)))) (fun _ _ _ _ _ => pts_nil) (fun _ _ _ _ _ => (pc gis_number hr (pa_cons (pv 2) (pa_cons pe_int (pa_cons (pe_op op_sub (pv 3) pe_int) pa_nil)))))) pa_nil))))), ?_⟩
  have no : isRow ls d = false → Q (.bl false) H := fun e => by have := k H (Same.refl _); rw [e] at this; exact this
  refine ⟨_, rfl, x, _, _, _, isTup d, rfl, ClsV.ty _, hd.ty, kit_ty (kit_tup d), _, rfl, ?_⟩
  cases ht : isTup d with
  | false =>
    refine iteT ?_
    refine iteT ?_
    exact no (by cases d <;> first | rfl | cases ht)
  | true =>
    refine iteF ?_
    obtain ⟨ds, rfl⟩ := isTup_of ht
    obtain ⟨a, xs, rfl, ha, hx⟩ := dn_tup hd
    have e : isRow ls (.tuple ds) = (decide (ds.length = ls.length) && (ds.zip ls).all fun p => isNum p.1 0 (p.2 - 1)) := rfl
    refine ⟨_, rfl, a, _, rfl, .inr ha, _, rfl, la, _, rfl, .inr hla, _, _, rfl, rfl, _, rfl, ?_⟩
    by_cases hl : ds.length = ls.length
    · have e2 : ((xs.length : Nat) : Int) = (((ls.map V.int).length : Nat) : Int) := by rw [hx.len, List.length_map, hl]
      rw [decide_eq_true e2]
      refine iteF ?_
      have e3 : xs.length = (ls.map V.int).length := by rw [hx.len, List.length_map, hl]
      refine ⟨_, rfl, _, rfl, a, la, xs, _, rfl, .inr ⟨ha, hla, fun p hp => ?_⟩⟩
      refine itz_walk (K := K) e3 (fun i H' => Same H H' ∧ H' p = some (.lst ((((ds.zip ls).take i).map fun p => isNum p.1 0 (p.2 - 1)).map V.bl))) ⟨same_new hp _, upd_same⟩ (fun i H' z => ⟨z.1.seqT ha, z.1.seqT hla⟩) ?_ ?_
      · rintro i y z T H' hy hz2 ⟨sm, hH⟩ hT
        obtain ⟨dy, hdy, hyd⟩ := hx.of hy
        obtain ⟨m, hm, rfl⟩ := item_of hz2
        have st := same_new hT (.tup [y, .int m])
        refine ⟨T, _, rfl, SqT.of upd_same, rfl, _, _, rfl, _, _, rfl, rfl, rfl, ?_⟩
        refine ⟨_, rfl, _, rfl, _, _, rfl, rfl, M, y, dy, 0, m - 1, rfl, hyd.stay (Same.go (sm.trans st)), ?_⟩
        refine ⟨_, st _ _ hH, ?_, ?_, ?_⟩
        · rw [List.length_map, List.length_map, List.length_take, List.length_zip]
          exact Nat.lt_of_le_of_lt (show _ ≤ 1000 by omega) (by decide)
        · exact same_own (sm.trans st) hp _
        · have hzip : (ds.zip ls)[i]? = some (dy, m) := by rw [List.getElem?_zip_eq_some]; exact ⟨hdy, hm⟩
          rw [upd_same, take_more hzip, List.map_append, List.map_append]
          rfl
      · rintro H' ⟨sm, hH⟩
        rw [List.take_of_length_le (by rw [List.length_zip, hx.len]; omega)] at hH
        refine ⟨p, _, rfl, SqL.of hH, ?_⟩
        have q := k H' sm
        rw [e, decide_eq_true hl, Bool.true_and] at q
        rw [List.all_map]
        exact q
    · have e2 : ¬ ((xs.length : Nat) : Int) = (((ls.map V.int).length : Nat) : Int) := by rw [hx.len, List.length_map]; omega
      rw [decide_eq_false e2]
      refine iteT ?_
      refine no ?_
      rw [e, decide_eq_false hl]
      rfl
end

section
variable {P : Program} {w : World} {K : PySem.W.Frag} {mg : Str → Option Value} {base : Heap}
theorem bulk_all : ∀ {ds : List PyData}, ds.length ≤ PyData.bulkAll ds ∧ ∀ e ∈ ds, e.bulk ≤ PyData.bulkAll ds
  | [] => ⟨Nat.zero_le _, fun e h => absurd h List.not_mem_nil⟩
  | d :: ds => by
    obtain ⟨h1, h2⟩ := bulk_all (ds := ds)
    simp only [PyData.bulkAll, List.length_cons]
    refine ⟨by omega, fun e h => ?_⟩
    rcases List.mem_cons.mp h with rfl | h
    · omega
    · have := h2 e h
      omega
theorem bulk_len {ds : List PyData} {n : Nat} (h : (PyData.tuple ds).bulk ≤ n) : ds.length ≤ n := by
  simp only [PyData.bulk] at h
  exact Nat.le_trans bulk_all.1 h
theorem bulk_mem {ds : List PyData} {n : Nat} (h : (PyData.tuple ds).bulk ≤ n) {e : PyData} (m : e ∈ ds) : e.bulk ≤ n := by
  simp only [PyData.bulk] at h
  exact Nat.le_trans (bulk_all.2 e m) h
def spRows (K : PySem.W.Frag) : Sp := fun vs H Q _ => ∃ (M : Addr → Prop) (x : V) (d : PyData) (la : Addr) (ls : List Int), vs = [x, .ref la] ∧ Dn M K H x d ∧ d.bulk ≤ 1000000 ∧ SqT K H la (ls.map V.int) ∧ ls.length ≤ 1000 ∧ ∀ H', Same H H' → Q (.bl (areRows ls d)) H'
/-- what is asked of one place -/
def rowAt (ls : List Int) (rs : List PyData) (i : Nat) : Bool := isRow ls (rs.getD i .none) && (decide (i = 0) || decide (intsD (rs.getD (i - 1) .none) < intsD (rs.getD i .none)))
theorem rows_all (ls : List Int) (rs : List PyData) : areRows ls (.tuple rs) = (List.range rs.length).all (rowAt ls rs) := rfl
theorem rows_bad {ls : List Int} {rs : List PyData} {i : Nat} (hi : i < rs.length) (h : rowAt ls rs i = false) : areRows ls (.tuple rs) = false := by
  rw [rows_all, List.all_eq_false]
  exact ⟨i, List.mem_range.mpr hi, by rw [h]; decide⟩
theorem getD_of {rs : List PyData} {i : Nat} {d : PyData} (h : rs[i]? = some d) : rs.getD i .none = d := by
  simp [List.getD, h]
theorem row_val {M : Addr → Prop} {H : Hp} {v : V} {d : PyData} {ls : List Int} (h : Dn M K H v d) (r : isRow ls d = true) : ∃ a, v = .ref a ∧ SqT K H a ((intsD d).map V.int) := by
  obtain ⟨e, _⟩ := row_ints r
  rw [e] at h
  obtain ⟨a, xs, rfl, h1, h2⟩ := dn_tup h
  exact ⟨a, rfl, by rw [← ints_vs h2]; exact h1⟩
theorem ok_rows {f : Addr} {fd : FuncData} (B : Blt mg) (gis_row : Has P w K mg base CX0 2 "is_row" ["row", "labels"] (spRow K)) (F : Fun K "_are_rows" "_are_rows" s_are_rows f fd) : FnOk P w K mg base CX0 3 f fd ["rows", "labels"] (spRows K) := by
  have sc : FnScope ["rows", "labels", "at"] ["rows", "labels"] (defScope s_are_rows) := ⟨rfl, rfl, rfl, by decide +kernel, rfl, by decide +kernel, by decide +kernel⟩
  refine F.ok sc (fun vs H Q E h => ?_) (fun cdv A outer s H vs Q E hr h => ?_)
  · obtain ⟨_, _, _, _, _, rfl, _⟩ := h
    rfl
  obtain ⟨M, x, d, la, ls, rfl, hd, hb0, hla, hz, k⟩ := h
  refine ⟨_, (pss_cons (ps_if (pt_not (pt_val (pe_callB call_isi (by rfl) B.isinstance (by decide +kernel) (pa_cons (pv 0) (pa_cons (pe_bltn (v := V.ty "tuple") (u := Value.type "tuple") (by rfl) B.tuple (by decide +kernel) rfl) pa_nil)))))
      (pss_one (ps_ret pe_bl))
      pss_nil)
    (pss_cons (ps_for PassesOwn.never rfl (pi_range1 (by rfl) B.range (pa_cons (pe_callB call_len_seq (by rfl) B.len (by decide +kernel) (pa_cons (pv 0) pa_nil)) pa_nil)) (pg_name (i := 2) sc.nd rfl (Or.inl rfl))
      (pss_cons (ps_if (pt_not (pt_val (pc gis_row hr (pa_cons (pe_ix ix_tup (pv 0) (pv 2) (fun _ _ => rfl)) (pa_cons (pv 1) pa_nil)))))
        (pss_one (ps_ret pe_bl))
        pss_nil)
      (pss_one (ps_if (PW.pt (pw_and (pt_cmpR op_gt (pv 2) pe_int (nomark _)) (pw_and1 (pt_cmpR (op_geR hr.units) (pe_ix ix_tup (pv 0) (pe_op op_sub (pv 2) pe_int) (fun _ _ => rfl)) (pe_ix ix_tup (pv 0) (pv 2) (fun _ _ => rfl)) (nomark _)))))
        (pss_one (ps_ret pe_bl))
        pss_nil))))
    (pss_one (ps_ret pe_bl)))), ?_⟩
  refine ⟨_, rfl, x, _, _, _, isTup d, rfl, ClsV.ty _, hd.ty, kit_ty (kit_tup d), _, rfl, ?_⟩
  cases ht : isTup d with
  | false =>
    refine iteT ?_
    have e : areRows ls d = false := by cases d <;> first | rfl | cases ht
    rw [e] at k
    exact k H (Same.refl _)
  | true =>
    refine iteF ?_
    obtain ⟨ds, rfl⟩ := isTup_of ht
    obtain ⟨a, xs, rfl, ha, hx⟩ := dn_tup hd
    have no : ∀ {i : Nat}, i < ds.length → rowAt ls ds i = false → ∀ H', Same H H' → Q (.bl false) H' := fun hi hb H' sm => by
      have q := k H' sm
      rw [rows_bad hi hb] at q
      exact q
    refine ⟨_, rfl, a, _, rfl, .inr ha, ((xs.length : Nat) : Int), rfl, by omega, ?_, for_range (lo := 0) (n := ((xs.length : Nat) : Int).toNat) (fun i σ H' => Same H H' ∧ ∃ av : Option V, σ = [some (.ref a), some (.ref la), av] ∧ ∀ j, j < i → rowAt ls ds j = true)
      ⟨Same.refl _, none, rfl, fun j hj => absurd hj (Nat.not_lt_zero j)⟩ ?_ ?_⟩
    · have l1 := bulk_len hb0
      have l2 := hx.len
      omega
    · rintro i σ H' hi ⟨sm, av, rfl, hok⟩
      have il : i < ds.length := by rw [← hx.len]; omega
      obtain ⟨y, hy, hyd⟩ := (hx.stay (Same.go sm)).at (show ds[i]? = some ds[i] by simp [il])
      have gd : ds.getD i .none = ds[i] := getD_of (by simp [il])
      refine ⟨_, rfl, _, rfl, a, _, _, y, rfl, rfl, sm.seqT ha, at_of (j := i) (by omega) hy, _, rfl, M, y, ds[i], la, ls, rfl, hyd, sm.seqT hla, hz, fun H2 s2 => ⟨_, rfl, ?_⟩⟩
      have sm2 := sm.trans s2
      cases hir : isRow ls ds[i] with
      | false =>
        refine iteT ?_
        exact no il (by unfold rowAt; rw [gd, hir]; rfl) H2 sm2
      | true =>
        refine iteF ?_
        refine ⟨_, rfl, _, _, rfl, rfl, _, rfl, ?_⟩
        refine ite2 (fun c => ?_) (fun c => ?_)
        · have i0 := dec_t c
          have il2 : i - 1 < ds.length := by omega
          have prev := hok (i - 1) (by omega)
          have pr : isRow ls ds[i - 1] = true := by
            unfold rowAt at prev
            rw [Bool.and_eq_true, getD_of (show ds[i - 1]? = some ds[i - 1] by simp [il2])] at prev
            exact prev.1
          obtain ⟨y1, hy1, hyd1⟩ := (hx.stay (Same.go sm2)).at (show ds[i - 1]? = some ds[i - 1] by simp [il2])
          obtain ⟨b1, rfl, hb1⟩ := row_val hyd1 pr
          obtain ⟨b2, rfl, hb2⟩ := row_val (hyd.stay (Same.go s2)) hir
          refine ⟨_, rfl, _, rfl, _, _, rfl, rfl, a, _, _, _, rfl, rfl, sm2.seqT ha, at_of (j := i - 1) (by omega) hy1, _, rfl, _, rfl, a, _, _, _, rfl, rfl, sm2.seqT ha, at_of (j := i) (by omega) hy, b1, b2, _, _, rfl, rfl, hb1, hb2, _, rfl, ?_⟩
          have re : rowAt ls ds i = decide (intsD ds[i - 1] < intsD ds[i]) := by
            unfold rowAt
            rw [gd, hir, getD_of (show ds[i - 1]? = some ds[i - 1] by simp [il2]), decide_eq_false (show ¬ i = 0 by omega)]
            rfl
          cases hlt : decide (intsD ds[i - 1] < intsD ds[i]) with
          | true =>
            refine iteF ?_
            refine ⟨sm2, _, rfl, fun j hj => ?_⟩
            by_cases ej : j = i
            · rw [ej, re, hlt]
            · exact hok j (by omega)
          | false =>
            refine iteT ?_
            exact no il (by rw [re, hlt]) H2 sm2
        · have i0 := dec_f c
          obtain rfl : i = 0 := by omega
          refine ⟨sm2, _, rfl, fun j hj => ?_⟩
          obtain rfl : j = 0 := by omega
          unfold rowAt
          rw [gd, hir]
          rfl
    · rintro σ H' ⟨sm, av, rfl, hok⟩
      have q := k H' sm
      have e : areRows ls (.tuple ds) = true := by
        rw [rows_all, List.all_eq_true]
        exact fun j hj => hok j (by have := List.mem_range.mp hj; have := hx.len; omega)
      rw [e] at q
      exact q
theorem num_len {n : Nat} {lo hi : Int} : isNum (.int (n : Nat)) lo hi = (decide (lo ≤ (n : Int)) && decide ((n : Int) ≤ hi)) := rfl
def spInputs (K : PySem.W.Frag) : Sp := fun vs H Q _ => ∃ (M : Addr → Prop) (x : V) (d : PyData) (la : Addr) (ls : List Int), vs = [x, .ref la] ∧ Dn M K H x d ∧ d.bulk ≤ 1000000 ∧ SqT K H la (ls.map V.int) ∧ ls.length ≤ 1000 ∧ ∀ H', Same H H' → Q (.bl (areInputs ls d)) H'
theorem ok_inputs {f : Addr} {fd : FuncData} (B : Blt mg) (C : Cst mg) (gis_number : Has P w K mg base CX0 1 "is_number" ["value", "low", "high"] (spNumber K)) (g_are_rows : Has P w K mg base CX0 3 "_are_rows" ["rows", "labels"] (spRows K))
    (F : Fun K "_are_inputs" "_are_inputs" s_are_inputs f fd) : FnOk P w K mg base CX0 4 f fd ["allowed", "labels"] (spInputs K) := by
  have sc : FnScope ["allowed", "labels", "rows"] ["allowed", "labels"] (defScope s_are_inputs) := ⟨rfl, rfl, rfl, by decide +kernel, rfl, by decide +kernel, by decide +kernel⟩
  obtain ⟨t1, hMOST_INPUTS⟩ := C.MOST_INPUTS
  refine F.ok sc (fun vs H Q E h => ?_) (fun cdv A outer s H vs Q E hr h => ?_)
  · obtain ⟨_, _, _, _, _, rfl, _⟩ := h
    rfl
  obtain ⟨M, x, d, la, ls, rfl, hd, hb0, hla, hz, k⟩ := h
  refine ⟨_, (pss_cons (ps_if (PW.pt (pw_or (pt_not (pt_val (pe_callB call_isi (by rfl) B.isinstance (by decide +kernel) (pa_cons (pv 0) (pa_cons (pe_bltn (v := V.ty "tuple") (u := Value.type "tuple") (by rfl) B.tuple (by decide +kernel) rfl) pa_nil))))) (pw_or1 (pt_not (pt_val (pc gis_number hr (pa_cons (pe_callB call_len_seq (by rfl) B.len (by decide +kernel) (pa_cons (pv 0) pa_nil)) (pa_cons pe_int (pa_cons (pe_glob (v := V.int _) rfl hMOST_INPUTS ⟨_, rfl⟩) pa_nil)))))))))
      (pss_one (ps_ret pe_bl))
      pss_nil)
    (pss_one (ps_ret (pe_callB (cr_all rfl) (by rfl) B.all (by decide +kernel) (pa_cons (pe_lc (own := [("rows", 2)]) (g := gName 2) (tt := tYes) rfl sc.nd (pi_tup (pv 0)) (blkOk_by (N := ["allowed", "labels", "rows"]) (sc := defScope s_are_inputs) (by decide +kernel)) (fun _ _ _ _ _ => pg_name (i := 2) sc.nd rfl (Or.inl rfl)) (fun _ _ _ _ _ => pts_nil) (fun _ _ _ _ _ => (pc g_are_rows hr (pa_cons (pv 2) (pa_cons (pv 1) pa_nil))))) pa_nil))))), ?_⟩
  refine ⟨_, rfl, x, _, _, _, isTup d, rfl, ClsV.ty _, hd.ty, kit_ty (kit_tup d), _, rfl, ?_⟩
  cases ht : isTup d with
  | false =>
    refine iteT ?_
    refine iteT ?_
    have e : areInputs ls d = false := by cases d <;> first | rfl | cases ht
    rw [e] at k
    exact k H (Same.refl _)
  | true =>
    refine iteF ?_
    obtain ⟨ds, rfl⟩ := isTup_of ht
    obtain ⟨a, xs, rfl, ha, hx⟩ := dn_tup hd
    have e : areInputs ls (.tuple ds) = (isNum (.int (ds.length : Nat)) 1 4 && ds.all (areRows ls)) := rfl
    refine ⟨_, rfl, a, _, rfl, .inr ha, M, _, .int ((xs.length : Nat) : Int), 1, 4, rfl, .int _, _, rfl, ?_⟩
    rw [hx.len]
    rw [e] at k
    cases hn : isNum (.int (ds.length : Nat)) 1 4 with
    | false =>
      refine iteT ?_
      rw [hn] at k
      exact k H (Same.refl _)
    | true =>
      refine iteF ?_
      rw [hn, Bool.true_and] at k
      refine ⟨_, rfl, a, rfl, ⟨_, ha⟩, fun p hp => ?_⟩
      refine itt_walk (K := K) (a := a) (xs := xs) (fun i H' => Same H H' ∧ H' p = some (.lst (((ds.take i).map (areRows ls)).map V.bl))) ⟨same_new hp _, upd_same⟩ (fun i H' _ z => z.1.seqT ha) ?_ ?_
      · rintro i y H' hy ⟨sm, hH⟩
        obtain ⟨dy, hdy, hyd⟩ := hx.of hy
        have few := bulk_mem hb0 (List.mem_of_getElem? hdy)
        have il := bulk_len hb0
        refine ⟨rfl, ?_⟩
        refine ⟨_, rfl, _, rfl, M, y, dy, la, ls, rfl, hyd.stay (Same.go sm), few, sm.seqT hla, hz, fun H2 s2 => ?_⟩
        refine ⟨_, s2 _ _ hH, ?_, same_own (sm.trans s2) hp _, ?_⟩
        · rw [List.length_map, List.length_map, List.length_take]
          exact Nat.lt_of_le_of_lt (show _ ≤ 1000000 by omega) (by decide)
        · rw [upd_same, take_more hdy, List.map_append, List.map_append]
          rfl
      · rintro H' ⟨sm, hH⟩
        rw [List.take_of_length_le (by rw [hx.len]; exact Nat.le_refl _)] at hH
        refine ⟨p, _, rfl, SqL.of hH, ?_⟩
        rw [List.all_map]
        exact k H' sm
theorem pow60 : ∀ n, n < 5 → (60 : Int) ^ n ≤ 60 ^ 4 := by decide
theorem labels_tup {D : Int} {ms : List PyData} (h : isNum (.int D) 2 4 = true) : areLabels (.int D) (.tuple ms) = (decide (((ms.length : Nat) : Int) = D) && (ms.all (isNum · 1 60) && decide (prodD ms ≤ 4000))) := by
  unfold areLabels
  rw [h, Bool.true_and]
  rfl
theorem labels_no {d dL : PyData} (h : isTup dL = false) : areLabels d dL = false := by
  unfold areLabels
  cases dL <;> first | exact Bool.and_false _ | cases h
def spProduct (K : PySem.W.Frag) : Sp := fun vs H Q _ => ∃ (a : Addr) (ms : List PyData), vs = [.ref a] ∧ SqT K H a ((ms.map numD).map V.int) ∧ ms.all (isNum · 1 60) = true ∧ ms.length ≤ 4 ∧ Q (.int (prodD ms)) H
theorem ok_product {f : Addr} {fd : FuncData} (F : Fun K "product_of" "product_of" sproduct_of f fd) : FnOk P w K mg base CX0 1 f fd ["numbers"] (spProduct K) := by
  have sc : FnScope ["numbers", "product", "number"] ["numbers"] (defScope sproduct_of) := ⟨rfl, rfl, rfl, by decide +kernel, rfl, by decide +kernel, by decide +kernel⟩
  refine F.ok sc (fun vs H Q E h => ?_) (fun cdv A outer s H vs Q E hr h => ?_)
  · obtain ⟨_, _, rfl, _⟩ := h
    rfl
  obtain ⟨a, ms, rfl, ha, hall, h4, k⟩ := h
  refine ⟨_, (pss_cons (ps_set (i := 1) sc.nd rfl (Or.inl rfl) pe_int)
    (pss_cons (ps_for PassesOwn.never rfl (pi_tup (pv 0)) (pg_name (i := 2) sc.nd rfl (Or.inl rfl))
      (pss_one (ps_set (i := 1) sc.nd rfl (Or.inl rfl) (pe_op op_mul (pv 1) (pv 2)))))
    (pss_one (ps_ret (pv 1))))), ?_⟩
  refine ⟨_, rfl, a, rfl, ⟨_, ha⟩, for_tup (K := K) (a := a) (xs := (ms.map numD).map V.int) (fun i σ H' => H' = H ∧ ∃ mv : Option V, σ = [some (.ref a), some (.int (prodD (ms.take i))), mv])
    ⟨rfl, none, rfl⟩ (fun i σ H' _ z => by rw [z.1]; exact ha) ?_ ?_⟩
  · rintro i v σ H' hv ⟨rfl, mv, rfl⟩
    obtain ⟨n, hn, rfl⟩ := item_of hv
    obtain ⟨dm, hdm, rfl⟩ : ∃ dm, ms[i]? = some dm ∧ numD dm = n := by
      rw [List.getElem?_map] at hn
      cases e : ms[i]? with
      | none => rw [e] at hn; cases hn
      | some z => rw [e] at hn; exact ⟨z, rfl, Option.some.inj hn⟩
    have hdm60 := List.all_eq_true.mp hall dm (List.mem_of_getElem? hdm)
    obtain ⟨em, m1, m60⟩ := num_of hdm60
    have hall2 : (ms.take i).all (isNum · 1 60) = true := List.all_eq_true.mpr fun x hx => List.all_eq_true.mp hall x (List.mem_of_mem_take hx)
    obtain ⟨p1, p2⟩ := prod_le _ hall2
    have p3 : prodD (ms.take i) ≤ 60 ^ 4 := Int.le_trans p2 (by
      have h4 : (ms.take i).length ≤ 4 := by rw [List.length_take]; omega
      exact pow60 _ (by omega))
    refine ⟨_, rfl, _, rfl, _, _, rfl, rfl, .inr (by omega), ?_⟩
    refine ⟨rfl, some (.int (numD dm)), ?_⟩
    rw [take_more hdm, prod_more]
    rfl
  · rintro σ H' ⟨rfl, mv, rfl⟩
    rw [List.take_of_length_le (by rw [List.length_map, List.length_map]; exact Nat.le_refl _)]
    exact ⟨_, rfl, k⟩
def spLabels (K : PySem.W.Frag) : Sp := fun vs H Q _ => ∃ (M : Addr → Prop) (x y : V) (dD dL : PyData), vs = [x, y] ∧ Dn M K H x dD ∧ Dn M K H y dL ∧ ∀ H', Same H H' → Q (.bl (areLabels dD dL)) H'
theorem ok_labels {f : Addr} {fd : FuncData} (B : Blt mg) (C : Cst mg) (gis_number : Has P w K mg base CX0 1 "is_number" ["value", "low", "high"] (spNumber K)) (gproduct_of : Has P w K mg base CX0 1 "product_of" ["numbers"] (spProduct K))
    (F : Fun K "are_labels" "are_labels" sare_labels f fd) : FnOk P w K mg base CX0 2 f fd ["D", "labels"] (spLabels K) := by
  have sc : FnScope ["D", "labels", "many"] ["D", "labels"] (defScope sare_labels) := ⟨rfl, rfl, rfl, by decide +kernel, rfl, by decide +kernel, by decide +kernel⟩
  obtain ⟨t1, hLEAST_COLOURS⟩ := C.LEAST_COLOURS
  obtain ⟨t2, hMOST_COLOURS⟩ := C.MOST_COLOURS
  obtain ⟨t3, hMOST_LABELS⟩ := C.MOST_LABELS
  obtain ⟨t4, hMOST_ROWS⟩ := C.MOST_ROWS
  refine F.ok sc (fun vs H Q E h => ?_) (fun cdv A outer s H vs Q E hr h => ?_)
  · obtain ⟨_, _, _, _, _, rfl, _⟩ := h
    rfl
  obtain ⟨M, x, y, dD, dL, rfl, hD, hL, k⟩ := h
  refine ⟨_, (pss_cons (ps_if (pt_not (pt_val (pc gis_number hr (pa_cons (pv 0) (pa_cons (pe_glob (v := V.int _) rfl hLEAST_COLOURS ⟨_, rfl⟩) (pa_cons (pe_glob (v := V.int _) rfl hMOST_COLOURS ⟨_, rfl⟩) pa_nil))))))
      (pss_one (ps_ret pe_bl))
      pss_nil)
    (pss_cons (ps_if (PW.pt (pw_or (pt_not (pt_val (pe_callB call_isi (by rfl) B.isinstance (by decide +kernel) (pa_cons (pv 1) (pa_cons (pe_bltn (v := V.ty "tuple") (u := Value.type "tuple") (by rfl) B.tuple (by decide +kernel) rfl) pa_nil))))) (pw_or1 (pt_cmpR op_nei (pe_callB call_len_seq (by rfl) B.len (by decide +kernel) (pa_cons (pv 1) pa_nil)) (pv 0) (nomark _)))))
      (pss_one (ps_ret pe_bl))
      pss_nil)
    (pss_cons (ps_if (pt_not (pt_val (pe_callB (cr_all rfl) (by rfl) B.all (by decide +kernel) (pa_cons (pe_lc (own := [("many", 2)]) (g := gName 2) (tt := tYes) rfl sc.nd (pi_tup (pv 1)) (blkOk_by (N := ["D", "labels", "many"]) (sc := defScope sare_labels) (by decide +kernel)) (fun _ _ _ _ _ => pg_name (i := 2) sc.nd rfl (Or.inl rfl)) (fun _ _ _ _ _ => pts_nil) (fun _ _ _ _ _ => (pc gis_number hr (pa_cons (pv 2) (pa_cons pe_int (pa_cons (pe_glob (v := V.int _) rfl hMOST_LABELS ⟨_, rfl⟩) pa_nil)))))) pa_nil))))
      (pss_one (ps_ret pe_bl))
      pss_nil)
    (pss_one (ps_ret (pe_cmpR op_le (pc gproduct_of hr (pa_cons (pv 1) pa_nil)) (pe_glob (v := V.int _) rfl hMOST_ROWS ⟨_, rfl⟩) (nomark _))))))), ?_⟩
  refine ⟨_, rfl, M, x, dD, 2, 4, rfl, hD, _, rfl, ?_⟩
  have no : areLabels dD dL = false → ∀ H', Same H H' → Q (.bl false) H' := fun e H' sm => by have := k H' sm; rw [e] at this; exact this
  cases hn : isNum dD 2 4 with
  | false =>
    refine iteT ?_
    refine no ?_ H (Same.refl _)
    unfold areLabels
    rw [hn]
    rfl
  | true =>
    refine iteF ?_
    obtain ⟨eD, l2, l4⟩ := num_of hn
    generalize numD dD = D at eD l2 l4
    subst eD
    obtain rfl := dn_int hD
    refine ⟨_, rfl, y, _, _, _, isTup dL, rfl, ClsV.ty _, hL.ty, kit_ty (kit_tup dL), _, rfl, ?_⟩
    cases ht : isTup dL with
    | false =>
      refine iteT ?_
      refine iteT ?_
      exact no (labels_no ht) H (Same.refl _)
    | true =>
      refine iteF ?_
      obtain ⟨ms, rfl⟩ := isTup_of ht
      have e1 : areLabels (.int D) (.tuple ms) = (decide (((ms.length : Nat) : Int) = D) && (ms.all (isNum · 1 60) && decide (prodD ms ≤ 4000))) := labels_tup hn
      rw [e1] at k no
      obtain ⟨a, xs, rfl, ha, hx⟩ := dn_tup hL
      refine ⟨_, rfl, a, _, rfl, .inr ha, _, rfl, _, _, rfl, rfl, _, rfl, ?_⟩
      rw [hx.len]
      cases hl : decide (((ms.length : Nat) : Int) = D) with
      | false =>
        refine iteT ?_
        exact no (by rw [hl]; rfl) H (Same.refl _)
      | true =>
        refine iteF ?_
        have hl' := dec_t hl
        rw [hl, Bool.true_and] at k no
        refine ⟨_, rfl, a, rfl, ⟨_, ha⟩, fun p hp => ?_⟩
        refine itt_walk (K := K) (a := a) (xs := xs) (fun i H' => Same H H' ∧ H' p = some (.lst (((ms.take i).map (isNum · 1 60)).map V.bl))) ⟨same_new hp _, upd_same⟩ (fun i H' _ z => z.1.seqT ha) ?_ ?_
        · rintro i v H' hv ⟨sm, hH⟩
          obtain ⟨dm, hdm, hvd⟩ := hx.of hv
          refine ⟨rfl, ?_⟩
          refine ⟨_, rfl, M, v, dm, 1, 60, rfl, hvd.stay (Same.go sm), ?_⟩
          refine ⟨_, hH, ?_, same_own sm hp _, ?_⟩
          · rw [List.length_map, List.length_map, List.length_take]
            exact Nat.lt_of_le_of_lt (show _ ≤ 1000 by omega) (by decide)
          · rw [upd_same, take_more hdm, List.map_append, List.map_append]
            rfl
        · rintro H' ⟨sm, hH⟩
          rw [List.take_of_length_le (by rw [hx.len]; exact Nat.le_refl _)] at hH
          refine ⟨p, _, rfl, SqL.of hH, ?_⟩
          rw [List.all_map]
          have e2 : ms.all (id ∘ (isNum · 1 60)) = ms.all (isNum · 1 60) := rfl
          refine ⟨_, rfl, ?_⟩
          rw [e2]
          cases hall : ms.all (isNum · 1 60) with
          | false =>
            refine iteT ?_
            exact no (by rw [hall]; rfl) H' sm
          | true =>
            refine iteF ?_
            rw [hall, Bool.true_and] at k
            have hms := labels_ints hall
            have ha2 : SqT K H' a ((ms.map numD).map V.int) := by
              have q := hx
              rw [hms] at q
              rw [← ints_vs q]
              exact sm.seqT ha
            exact ⟨_, rfl, a, ms, rfl, ha2, hall, by omega, _, _, rfl, rfl, k H' sm⟩
end

section
variable {P : Program} {w : World} {K : PySem.W.Frag} {mg : Str → Option Value} {base : Heap}
def spTaskB (K : PySem.W.Frag) : Sp := fun vs H Q _ => ∃ (M : Addr → Prop) (x : V) (d : PyData), vs = [x] ∧ Dn M K H x d ∧ d.bulk ≤ 1000000 ∧ WordOk d ∧ ∀ H', Same H H' → Q (.bl (isTask d)) H'
theorem is_word (d : PyData) : PyData.eqv d (.str "task") = isWord d := by
  rw [word_eqv]
  rfl
theorem labels_of {dD dL : PyData} (h : areLabels dD dL = true) : ∃ D, dD = .int D ∧ 2 ≤ D ∧ D ≤ 4 ∧ dL = tupI (intsD dL) ∧ (((intsD dL).length : Nat) : Int) = D := by
  unfold areLabels at h
  rw [Bool.and_eq_true] at h
  obtain ⟨h1, h2⟩ := h
  obtain ⟨e, l, u⟩ := num_of h1
  cases dL with
  | tuple ms =>
    have h2' : (decide (((ms.length : Nat) : Int) = numD dD) && (ms.all (isNum · 1 60) && decide (prodD ms ≤ 4000))) = true := h2
    rw [Bool.and_eq_true, Bool.and_eq_true, decide_eq_true_eq] at h2'
    refine ⟨numD dD, e, l, u, ?_, ?_⟩
    · show PyData.tuple ms = .tuple ((ms.map numD).map PyData.int)
      rw [← labels_ints h2'.2.1]
    · show (((ms.map numD).length : Nat) : Int) = _
      rw [List.length_map]
      exact h2'.1
  | _ => cases h2
theorem ok_taskb {f : Addr} {fd : FuncData} (B : Blt mg) (gare_labels : Has P w K mg base CX0 2 "are_labels" ["D", "labels"] (spLabels K)) (g_are_inputs : Has P w K mg base CX0 4 "_are_inputs" ["allowed", "labels"] (spInputs K))
    (F : Fun K "is_task" "is_task" sis_task f fd) : FnOk P w K mg base CX0 5 f fd ["task"] (spTaskB K) := by
  have sc : FnScope ["task", "_", "D", "labels", "white", "black"] ["task"] (defScope sis_task) := ⟨rfl, rfl, rfl, by decide +kernel, rfl, by decide +kernel, by decide +kernel⟩
  refine F.ok sc (fun vs H Q E h => ?_) (fun cdv A outer s H vs Q E hr h => ?_)
  · obtain ⟨_, _, _, rfl, _⟩ := h
    rfl
  obtain ⟨M, x, d, rfl, hd, hb, hw, k⟩ := h
  refine ⟨_, (pss_cons (ps_if (PW.pt (pw_or (pt_not (pt_val (pe_callB call_isi (by rfl) B.isinstance (by decide +kernel) (pa_cons (pv 0) (pa_cons (pe_bltn (v := V.ty "tuple") (u := Value.type "tuple") (by rfl) B.tuple (by decide +kernel) rfl) pa_nil))))) (pw_or (pt_cmpR op_nei (pe_callB call_len_seq (by rfl) B.len (by decide +kernel) (pa_cons (pv 0) pa_nil)) pe_int (nomark _)) (pw_or1 (pt_cmpR (op_neD hr.units) (pe_ix ix_tup (pv 0) pe_int (fun _ _ => rfl)) pe_str (nomark _))))))
      (pss_one (ps_ret pe_bl))
      pss_nil)
    (pss_cons (ps_asg (pv 0) (pg_tup rfl (pgs_cons (pg_name (i := 1) sc.nd rfl (Or.inl rfl)) (pgs_cons (pg_name (i := 2) sc.nd rfl (Or.inl rfl)) (pgs_cons (pg_name (i := 3) sc.nd rfl (Or.inl rfl)) (pgs_cons (pg_name (i := 4) sc.nd rfl (Or.inl rfl)) (pgs_cons (pg_name (i := 5) sc.nd rfl (Or.inl rfl)) pgs_nil)))))))
    (pss_cons (ps_if (pt_not (pt_val (pc gare_labels hr (pa_cons (pv 2) (pa_cons (pv 3) pa_nil)))))
      (pss_one (ps_ret pe_bl))
      pss_nil)
    (pss_one (ps_ret (pe_and (pc g_are_inputs hr (pa_cons (pv 4) (pa_cons (pv 3) pa_nil))) (pe_one (pc g_are_inputs hr (pa_cons (pv 5) (pa_cons (pv 3) pa_nil)))))))))), ?_⟩
  have no : isTask d = false → Q (.bl false) H := fun e => by have := k H (Same.refl _); rw [e] at this; exact this
  refine ⟨_, rfl, x, _, _, _, isTup d, rfl, ClsV.ty _, hd.ty, kit_ty (kit_tup d), _, rfl, ?_⟩
  cases ht : isTup d with
  | false =>
    refine iteT ?_
    refine iteT ?_
    exact no (by cases d <;> first | rfl | cases ht)
  | true =>
    refine iteF ?_
    obtain ⟨ds, rfl⟩ := isTup_of ht
    obtain ⟨a, xs, rfl, ha, hx⟩ := dn_tup hd
    refine ⟨_, rfl, a, _, rfl, .inr ha, _, _, rfl, rfl, _, rfl, ?_⟩
    by_cases hl : ds.length = 5
    · obtain ⟨d0, d1, d2, d3, d4, rfl⟩ : ∃ d0 d1 d2 d3 d4, ds = [d0, d1, d2, d3, d4] := by
        match ds, hl with
        | [d0, d1, d2, d3, d4], _ => exact ⟨_, _, _, _, _, rfl⟩
      have e5 : ((xs.length : Nat) : Int) = 5 := by rw [hx.len]; rfl
      rw [decide_eq_true e5]
      refine iteF ?_
      cases hx with
      | @cons v0 _ _ _ h0 hx =>
      cases hx with
      | @cons v1 _ _ _ h1 hx =>
      cases hx with
      | @cons v2 _ _ _ h2 hx =>
      cases hx with
      | @cons v3 _ _ _ h3 hx =>
      cases hx with
      | @cons v4 _ _ _ h4 hx =>
      cases hx
      have sh := hw d0 _ rfl rfl
      have eT : isTask (.tuple [d0, d1, d2, d3, d4]) = (isWord d0 && (areLabels d1 d2 && (areInputs (intsD d2) d3 && areInputs (intsD d2) d4))) := rfl
      rw [eT] at k no
      refine ⟨_, rfl, a, _, _, _, rfl, rfl, ha, at_of (j := 0) rfl rfl, _, _, shaped_dp h0 sh, .str "task", sh, by decide +kernel, _, rfl, ?_⟩
      rw [is_word]
      cases hwd : isWord d0 with
      | false =>
        refine iteT ?_
        exact no (by rw [hwd]; rfl)
      | true =>
        refine iteF ?_
        rw [hwd, Bool.true_and] at k no
        refine ⟨_, rfl, a, _, rfl, ha, rfl, _, _, rfl, _, _, rfl, _, _, rfl, _, _, rfl, _, _, rfl, rfl, ?_⟩
        refine ⟨_, rfl, _, rfl, M, v1, v2, d1, d2, rfl, h1, h2, fun H0 s0 => ⟨_, rfl, ?_⟩⟩
        cases hlb : areLabels d1 d2 with
        | false =>
          refine iteT ?_
          have q := k H0 s0
          rw [hlb] at q
          exact q
        | true =>
          refine iteF ?_
          rw [hlb, Bool.true_and] at k no
          obtain ⟨D, rfl, D2, D4, e2, e2l⟩ := labels_of hlb
          have h2' := h2
          rw [e2] at h2'
          obtain ⟨la, lxs, rfl, hla, hlx⟩ := dn_tup h2'
          rw [ints_vs hlx] at hla
          have few : (intsD d2).length ≤ 1000 := by omega
          refine ⟨_, rfl, _, rfl, M, v3, d3, la, _, rfl, h3.stay (Same.go s0), bulk_mem hb (by simp), s0.seqT hla, few, fun H1 s01 => ?_⟩
          have s1 := s0.trans s01
          refine ⟨_, rfl, ?_⟩
          cases hw3 : areInputs (intsD d2) d3 with
          | false =>
            refine iteF ?_
            have q := k H1 s1
            rw [hw3] at q
            exact q
          | true =>
            refine iteT ?_
            refine ⟨_, rfl, _, rfl, M, v4, d4, la, _, rfl, h4.stay (Same.go s1), bulk_mem hb (by simp), s1.seqT hla, few, fun H2 s2 => ?_⟩
            have q := k H2 (s1.trans s2)
            rw [hw3] at q
            exact q
    · have e5 : ¬ ((xs.length : Nat) : Int) = 5 := by rw [hx.len]; omega
      rw [decide_eq_false e5]
      refine iteT ?_
      refine iteT ?_
      refine no ?_
      match ds, hl with
      | [], _ => rfl
      | [_], _ => rfl
      | [_, _], _ => rfl
      | [_, _, _], _ => rfl
      | [_, _, _, _], _ => rfl
      | [_, _, _, _, _], hl => exact absurd rfl hl
      | _ :: _ :: _ :: _ :: _ :: _ :: _, _ => rfl
def spCheckT (K : PySem.W.Frag) (C : Addr) : Sp := fun vs H Q E => ∃ (M : Addr → Prop) (x : V) (d : PyData), vs = [x] ∧ Dn M K H x d ∧ d.bulk ≤ 1000000 ∧ WordOk d ∧ (isTask d = true → ∀ H', Same H H' → Q .non H') ∧ (isTask d = false → ∀ H', Same H H' → E (.ref C) none H')
theorem ok_checkt {C : Addr} {f : Addr} {fd : FuncData} (eBadTask : Err K mg "BadTask" C) (gis_task : Has P w K mg base CX0 5 "is_task" ["task"] (spTaskB K)) (F : Fun K "check_task" "check_task" scheck_task f fd) : FnOk P w K mg base (L2N.CX P w) 6 f fd ["task"] (spCheckT K C) := by
  have sc : FnScope ["task"] ["task"] (defScope scheck_task) := ⟨rfl, rfl, rfl, by decide +kernel, rfl, by decide +kernel, by decide +kernel⟩
  refine F.okXN sc (fun vs H Q E h => ?_) (fun cdv A outer s H vs Q E hr h => ?_)
  · obtain ⟨_, _, _, rfl, _⟩ := h
    rfl
  obtain ⟨M, x, d, rfl, hd, hb, hw, kt, kf⟩ := h
  refine ⟨_, (pss_one (ps_if (pt_not (pt_val (pc gis_task hr (pa_cons (pv 0) pa_nil))))
      (pss_one (L2N.ps_raise rfl (L2N.takes_of rfl rfl rfl rfl) (L2N.pmk_own PySem.F.excBase_ValueError eBadTask.xi eBadTask.g eBadTask.k (raises_own eBadTask.b eBadTask.t) rfl)))
      pss_nil)), ?_⟩
  refine ⟨_, rfl, M, x, d, rfl, hd, hb, hw, fun H' sm => ⟨_, rfl, ?_⟩⟩
  cases hn : isTask d with
  | true =>
    refine iteF ?_
    exact kt hn H' sm
  | false =>
    refine iteT ?_
    exact kf hn H' sm
/-- the parts of a task -/
theorem task_parts {d : PyData} (h : isTask d = true) : ∃ D ls dW dB, d = .tuple [.str "task", .int D, tupI ls, dW, dB] ∧ 2 ≤ D ∧ D ≤ 4 ∧ ((ls.length : Nat) : Int) = D ∧ areLabels (.int D) (tupI ls) = true ∧ areInputs ls dW = true ∧ areInputs ls dB = true := by
  cases d with
  | tuple ds =>
    match ds, h with
    | [w, dD, dL, dW, dB], h =>
      have h' : (isWord w && (areLabels dD dL && (areInputs (intsD dL) dW && areInputs (intsD dL) dB))) = true := h
      rw [Bool.and_eq_true, Bool.and_eq_true, Bool.and_eq_true] at h'
      obtain ⟨h1, h2, h3, h4⟩ := h'
      obtain ⟨D, rfl, D2, D4, e, el⟩ := labels_of h2
      have ew : w = .str "task" := by
        cases w with
        | str x =>
          have : decide (x = "task") = true := h1
          rw [dec_t this]
        | _ => cases h1
      rw [e] at h2
      exact ⟨D, intsD dL, dW, dB, by rw [ew, ← e], D2, D4, el, h2, h3, h4⟩
  | _ => cases h
end

/-! ### check_network -/
def colours : PyData → Nat
  | .tuple [_, _, .tuple cs, _, _] => cs.length
  | _ => 0
def netFor (D p q : Int) (d : PyData) : Bool := isNetD p q d && decide (((colours d : Nat) : Int) = D)
theorem net_cols {p q : Int} {d : PyData} (h : isNetD p q d = true) : ∃ w dn cs dw db, d = .tuple [w, dn, .tuple cs, dw, db] := by
  cases d with
  | tuple ds =>
    match ds, h with
    | [w, dn, dl, dw, db], h =>
      have h' : (isNetWord w && (isNum dn 1 400 && isRest p q (numD dn) dw db dl)) = true := h
      rw [Bool.and_eq_true, Bool.and_eq_true] at h'
      cases dl with
      | tuple cs => exact ⟨_, _, _, _, _, rfl⟩
      | _ => cases h'.2.2
  | _ => cases h
section
variable {P : Program} {w : World} {K : PySem.W.Frag} {mg : Str → Option Value} {base : Heap}
def spCheckN (K : PySem.W.Frag) (CN CT : Addr) : Sp := fun vs H Q E => ∃ (M M2 : Addr → Prop) (x t : V) (d e : PyData), vs = [x, t] ∧ Dn M K H x d ∧ Dn M2 K H t e ∧ e.bulk ≤ 1000000 ∧ WordOk d ∧ WordOk e ∧ ((isTask e = false ∧ ∀ H', Same H H' → E (.ref CT) none H') ∨
  (isTask e = true ∧ ∃ (a wa ba : Addr) (D : Int) (v0 la : V) (xs ys : List V), t = .ref a ∧ SqT K H a [v0, .int D, la, .ref wa, .ref ba] ∧ SqT K H wa xs ∧ SqT K H ba ys ∧ (netFor D xs.length ys.length d = true → ∀ H', Same H H' → Q .non H') ∧ (netFor D xs.length ys.length d = false → ∀ H', Same H H' → E (.ref CN) none H')))
theorem ok_checkn {CN CT : Addr} {f : Addr} {fd : FuncData} (B : Blt mg) (eBadNetwork : Err K mg "BadNetwork" CN) (gcheck_task : Has P w K mg base (L2N.CX P w) 6 "check_task" ["task"] (spCheckT K CT)) (gis_network : Has P w K mg base CX0 4 "is_network" ["value", "p", "q"] (spIsNet K)) (F : Fun K "check_network" "check_network" scheck_network f fd) : FnOk P w K mg base (L2N.CX P w) 7 f fd ["network", "task"] (spCheckN K CN CT) := by
  have sc : FnScope ["network", "task"] ["network", "task"] (defScope scheck_network) := ⟨rfl, rfl, rfl, by decide +kernel, rfl, by decide +kernel, by decide +kernel⟩
  refine F.okXN sc (fun vs H Q E h => ?_) (fun cdv A outer s H vs Q E hr h => ?_)
  · obtain ⟨_, _, _, _, _, _, rfl, _⟩ := h
    rfl
  obtain ⟨M, M2, x, t, d, e, rfl, hd, he, hb, wd, we, h⟩ := h
  refine ⟨_, (pss_cons (ps_expr (pcEN gcheck_task hr (L2N.takes_of rfl rfl rfl rfl) (pa_cons (pv 1) pa_nil)))
    (pss_one (ps_if (PW.pt (pw_or (pt_not (pt_val (pc gis_network hr (pa_cons (pv 0) (pa_cons (pe_callB call_len_seq (by rfl) B.len (by decide +kernel) (pa_cons (pe_ix ix_tup (pv 1) pe_int (fun _ _ => rfl)) pa_nil)) (pa_cons (pe_callB call_len_seq (by rfl) B.len (by decide +kernel) (pa_cons (pe_ix ix_tup (pv 1) pe_int (fun _ _ => rfl)) pa_nil)) pa_nil)))))) (pw_or1 (pt_cmpR op_nei (pe_callB call_len_seq (by rfl) B.len (by decide +kernel) (pa_cons (pe_ix ix_tup (pv 0) pe_int (fun _ _ => rfl)) pa_nil)) (pe_ix ix_tup (pv 1) pe_int (fun _ _ => rfl)) (nomark _)))))
      (pss_one (L2N.ps_raise rfl (L2N.takes_of rfl rfl rfl rfl) (L2N.pmk_own PySem.F.excBase_ValueError eBadNetwork.xi eBadNetwork.g eBadNetwork.k (raises_own eBadNetwork.b eBadNetwork.t) rfl)))
      pss_nil))), ?_⟩
  try dsimp only [cxOf]
  w_fin
  rcases h with ⟨ht, hE⟩ | ⟨ht, a, wa, ba, D, v0, la, xs, ys, rfl, ha, hwa, hba, kt, kf⟩
  · exact ⟨M2, t, e, rfl, he, hb, we, (fun z => nomatch ht.symm.trans z), fun _ H1 s1 => hE H1 s1⟩
  refine ⟨M2, .ref a, e, rfl, he, hb, we, fun _ H1 s1 => ?_, (fun z => nomatch ht.symm.trans z)⟩
  have ha1 := s1.seqT ha
  have hwa1 := s1.seqT hwa
  have hba1 := s1.seqT hba
  w_fin
  refine ⟨M, x, d, _, _, rfl, hd.stay s1.go, wd, fun H2 s2 => ?_⟩
  w_fin
  cases c : isNetD xs.length ys.length d with
  | false =>
    refine iteT ?_
    w_fin
    exact kf (by unfold netFor; rw [c]; rfl) H2 (s1.trans s2)
  | true =>
    refine iteF ?_
    obtain ⟨w0, dn, cs, dw, db, rfl⟩ := net_cols c
    obtain ⟨xa, vs, rfl, hx, hxs⟩ := dn_tup (hd.stay s1.go)
    cases hxs with | @cons v0 _ _ _ h0 hx1 =>
    cases hx1 with | @cons v1 _ _ _ h1 hx1 =>
    cases hx1 with | @cons v2 _ _ _ h2 hx1 =>
    cases hx1 with | @cons v3 _ _ _ h3 hx1 =>
    cases hx1 with | @cons v4 _ _ _ h4 hx1 =>
    cases hx1
    obtain ⟨l, cvs, rfl, hl, hcs⟩ := dn_tup h2
    have hx2 := s2.seqT hx
    have hl2 := s2.seqT hl
    have ha2 := s2.seqT ha1
    w_fin
    rw [hcs.len]
    refine st_ntwo (fun q => ?_) (fun q => ?_)
    · w_fin
      refine kf ?_ H2 (s1.trans s2)
      unfold netFor
      rw [c, Bool.true_and, decide_eq_false]
      exact q
    · refine kt ?_ H2 (s1.trans s2)
      unfold netFor
      rw [c, Bool.true_and, decide_eq_true]
      exact q
end
section
variable {P : Program} {w : World} {K : PySem.W.Frag} {mg : Str → Option Value} {base : Heap}
def isIntD : PyData → Bool
  | .int _ => true
  | _ => false
def spInteger (K : PySem.W.Frag) : Sp := fun vs H Q _ => ∃ (M : Addr → Prop) (x : V) (d : PyData), vs = [x] ∧ Dn M K H x d ∧ Q (.bl (isIntD d)) H
theorem ok_integer {f : Addr} {fd : FuncData} (B : Blt mg) (F : Fun K "_law_integer" "_law_integer" s_law_integer f fd) : FnOk P w K mg base CX0 1 f fd ["value"] (spInteger K) := by
  have sc : FnScope ["value"] ["value"] (defScope s_law_integer) := ⟨rfl, rfl, rfl, by decide +kernel, rfl, by decide +kernel, by decide +kernel⟩
  refine F.ok sc (fun vs H Q E h => ?_) (fun cdv A outer s H vs Q E hr h => ?_)
  · obtain ⟨_, _, _, rfl, _⟩ := h
    rfl
  obtain ⟨M, x, d, rfl, hd, k⟩ := h
  refine ⟨_, (pss_one (ps_ret (pe_and (pe_callB call_isi (by rfl) B.isinstance (by decide +kernel) (pa_cons (pv 0) (pa_cons (pe_bltn (v := V.ty "int") (u := Value.type "int") (by rfl) B.int (by decide +kernel) rfl) pa_nil))) (pe_one (pe_not (pe_callB call_isi (by rfl) B.isinstance (by decide +kernel) (pa_cons (pv 0) (pa_cons (pe_bltn (v := V.ty "bool") (u := Value.type "bool") (by rfl) B.bool (by decide +kernel) rfl) pa_nil)))))))), ?_⟩
  refine ⟨_, rfl, x, _, _, _, isInt2 d, rfl, ClsV.ty _, hd.ty, kit_ty (kit_int d), ?_⟩
  refine ⟨_, rfl, ?_⟩
  cases hi2 : isInt2 d with
  | false =>
    refine iteF ?_
    have e : isIntD d = false := by cases d <;> first | rfl | cases hi2
    rw [e] at k
    exact k
  | true =>
    refine iteT ?_
    refine ⟨_, rfl, x, _, _, _, isBool d, rfl, ClsV.ty _, hd.ty, kit_ty (kit_bool d), _, rfl, ?_⟩
    have e : isIntD d = !isBool d := by cases d <;> first | rfl | (simp [isInt2] at hi2; done)
    rw [e] at k
    exact k
theorem all_no {α : Type} {p : α → Bool} {l : List α} {i : Nat} {x : α} (h : l[i]? = some x) (e : p x = false) : l.all p = false := by
  rw [List.all_eq_false]
  exact ⟨x, List.mem_of_getElem? h, by rw [e]; exact Bool.false_ne_true⟩
theorem all_yes {α : Type} {p : α → Bool} {l : List α} {i : Nat} {x : α} (h : l[i]? = some x) (a : (l.take i).all p = true) (e : p x = true) : (l.take (i + 1)).all p = true := by
  rw [take_more h, List.all_append, a, Bool.true_and]
  simp [e]
def spIR (K : PySem.W.Frag) : Sp := fun vs H Q _ => ∃ (M : Addr → Prop) (x : V) (d : PyData) (many bound : Int), vs = [x, .int many, .int bound] ∧ Dn M K H x d ∧ Q (.bl (areNums many (bound - 1) d)) H
theorem ok_ir {f : Addr} {fd : FuncData} (B : Blt mg) (g_law_integer : Has P w K mg base CX0 1 "_law_integer" ["value"] (spInteger K)) (F : Fun K "_law_inputs_right" "_law_inputs_right" s_law_inputs_right f fd) : FnOk P w K mg base CX0 2 f fd ["values", "many", "bound"] (spIR K) := by
  have sc : FnScope ["values", "many", "bound", "value"] ["values", "many", "bound"] (defScope s_law_inputs_right) := ⟨rfl, rfl, rfl, by decide +kernel, rfl, by decide +kernel, by decide +kernel⟩
  refine F.ok sc (fun vs H Q E h => ?_) (fun cdv A outer s H vs Q E hr h => ?_)
  · obtain ⟨_, _, _, _, _, rfl, _⟩ := h
    rfl
  obtain ⟨M, x, d, many, bound, rfl, hd, k⟩ := h
  refine ⟨_, (pss_cons (ps_if (PW.pt (pw_or (pt_not (pt_val (pe_callB call_isi (by rfl) B.isinstance (by decide +kernel) (pa_cons (pv 0) (pa_cons (pe_bltn (v := V.ty "tuple") (u := Value.type "tuple") (by rfl) B.tuple (by decide +kernel) rfl) pa_nil))))) (pw_or1 (pt_cmpR op_nei (pe_callB call_len_seq (by rfl) B.len (by decide +kernel) (pa_cons (pv 0) pa_nil)) (pv 1) (nomark _)))))
      (pss_one (ps_ret pe_bl))
      pss_nil)
    (pss_cons (ps_for PassesOwn.never rfl (pi_tup (pv 0)) (pg_name (i := 3) sc.nd rfl (Or.inl rfl))
      (pss_one (ps_if (PW.pt (pw_or (pt_not (pt_val (pc g_law_integer hr (pa_cons (pv 3) pa_nil)))) (pw_or (pt_cmpR op_lt (pv 3) pe_int (nomark _)) (pw_or1 (pt_cmpR op_ge (pv 3) (pv 2) (nomark _))))))
        (pss_one (ps_ret pe_bl))
        pss_nil)))
    (pss_one (ps_ret pe_bl)))), ?_⟩
  try dsimp only [cxOf]
  have no : areNums many (bound - 1) d = false → Q (.bl false) H := fun e => by rw [e] at k; exact k
  w_fin
  refine st_isi hd (kit_tup d) ?_
  w_fin
  cases ht : isTup d with
  | false =>
    refine iteT ?_
    w_fin
    exact no (by cases d <;> first | rfl | cases ht)
  | true =>
  refine iteF ?_
  obtain ⟨ds, rfl⟩ := isTup_of ht
  obtain ⟨a, xs, rfl, ha, hx⟩ := dn_tup hd
  have e : areNums many (bound - 1) (.tuple ds) = (decide (((ds.length : Nat) : Int) = many) && ds.all (isNum · 0 (bound - 1))) := rfl
  rw [e] at no k
  w_fin
  rw [hx.len]
  refine st_ntwo (fun c => ?_) (fun c => ?_)
  · w_fin
    exact no (by rw [decide_eq_false c]; rfl)
  rw [decide_eq_true c, Bool.true_and] at no k
  w_fin
  refine fr_tup (xs := xs) (fun i σ H' => ∃ (vv : Option V), σ = [some (.ref a), some (.int many), some (.int bound), vv] ∧ H' = H ∧ (ds.take i).all (isNum · 0 (bound - 1)) = true) ⟨none, rfl, rfl, rfl⟩ (fun i σ H' _ z => by
      obtain ⟨_, _, rfl, _⟩ := z
      exact ha) ?_ ?_
  · rintro i y σ H1 hi ⟨vv, rfl, rfl, al⟩
    obtain ⟨dy, hdy, hyd⟩ := hx.of hi
    w_fin
    refine ⟨M, y, dy, rfl, hyd, ?_⟩
    w_fin
    cases hn : isIntD dy with
    | false =>
      refine iteT ?_
      w_fin
      exact no (all_no hdy (by cases dy <;> first | rfl | cases hn))
    | true =>
    refine iteF ?_
    obtain ⟨z, rfl⟩ : ∃ z, dy = .int z := by
      cases dy with
      | int z => exact ⟨z, rfl⟩
      | _ => cases hn
    obtain rfl := dn_int hyd
    have ez : isNum (.int z) 0 (bound - 1) = (decide ((0 : Int) ≤ z) && decide (z ≤ bound - 1)) := rfl
    w_fin
    refine st_two (fun c1 => ?_) (fun c1 => ?_)
    · w_fin
      exact no (all_no hdy (by rw [ez, decide_eq_false (by omega), Bool.false_and]))
    w_fin
    refine st_two (fun c2 => ?_) (fun c2 => ?_)
    · w_fin
      exact no (all_no hdy (by rw [ez, decide_eq_false (p := z ≤ bound - 1) (by omega), Bool.and_false]))
    w_fin
    exact ⟨_, rfl, rfl, all_yes hdy al (by rw [ez, decide_eq_true (by omega), decide_eq_true (by omega)]; rfl)⟩
  · rintro σ H1 ⟨vv, rfl, rfl, al⟩
    rw [hx.len, List.take_length] at al
    rw [al] at k
    w_fin
    exact k
end
theorem perm_sub : ∀ {l m : List Int}, l.Nodup → (∀ z ∈ l, z ∈ m) → m.length ≤ l.length → l.Perm m
  | [], m, _, _, h => by
    have : m = [] := List.length_eq_zero_iff.mp (Nat.le_zero.mp h)
    rw [this]
  | a :: l, m, nd, s, h => by
    have am := s a List.mem_cons_self
    have nd2 := List.nodup_cons.mp nd
    refine List.Perm.trans (List.Perm.cons a (perm_sub (m := m.erase a) nd2.2 (fun z hz => ?_) ?_)) (List.perm_cons_erase am).symm
    · exact (List.mem_erase_of_ne (fun e => nd2.1 (by rw [← e]; exact hz))).mpr (s z (List.mem_cons_of_mem _ hz))
    · rw [List.length_erase_of_mem am]
      rw [List.length_cons] at h
      omega
theorem rgn_sorted (n : Nat) : (rgn n).Pairwise (· ≤ ·) := List.Pairwise.map _ (fun a b h => by omega) (List.pairwise_le_range (n := n))
theorem ord_sorted {n : Nat} {l l' : List Int} (hl : l.length = n) (hb : ∀ z ∈ l, 0 ≤ z ∧ z < n) (p : l'.Perm l) (s : l'.Pairwise (· ≤ ·)) : l' = rgn n ↔ l.Nodup := by
  constructor
  · rintro rfl
    exact (List.Perm.nodup_iff p).mp (rgn_nodup n)
  · intro nd
    have q : l.Perm (rgn n) := perm_sub nd (fun z hz => mem_rgn.mpr (hb z hz)) (by rw [rgn_len, hl]; exact Nat.le_refl _)
    exact List.Perm.eq_of_pairwise (le := (· ≤ ·)) (fun a b _ _ h1 h2 => Int.le_antisymm h1 h2) s (rgn_sorted n) (p.trans q)
theorem lstI_dp {K : PySem.W.Frag} {H : Hp} {a : Addr} {ns : List Int} (h : H a = some (.lst (ns.map V.int))) : Dp K H (.ref a) (.list (ns.map PyData.int)) := .lst (SqL.of h) (DtAll.ints ns).dp
theorem shaped_li (r : List Int) : SeqAt.shaped (.list (r.map PyData.int)) = true := by
  have h := shaped_i r
  unfold SeqAt.shaped at h ⊢
  unfold tupI at h
  simp only [PyData.depth, PyData.canLay0] at h ⊢
  exact h
theorem eqv_li (a b : List Int) : PyData.eqv (.list (a.map PyData.int)) (.list (b.map PyData.int)) = decide (a = b) := by
  simp only [PyData.eqv]
  exact eqv_all_i a b
section
variable {P : Program} {w : World} {K : PySem.W.Frag} {mg : Str → Option Value} {base : Heap}
def spRightN (K : PySem.W.Frag) : Sp := fun vs H Q _ => ∃ (M : Addr → Prop) (x : V) (d : PyData) (a wa ba : Addr) (D : Int) (v0 la : V) (xs ys : List V), vs = [x, .ref a] ∧ Dn M K H x d ∧ SqT K H a [v0, .int D, la, .ref wa, .ref ba] ∧ SqT K H wa xs ∧ SqT K H ba ys ∧ 2 ≤ D ∧ D ≤ 4 ∧
  ∀ H', Same H H' → Q (.bl (netFor D xs.length ys.length d)) H'
set_option maxHeartbeats 1000000 in
theorem ok_right {f : Addr} {fd : FuncData} (B : Blt mg) (g_law_integer : Has P w K mg base CX0 1 "_law_integer" ["value"] (spInteger K)) (g_law_inputs_right : Has P w K mg base CX0 2 "_law_inputs_right" ["values", "many", "bound"] (spIR K)) (F : Fun K "_law_right" "_law_right" s_law_right f fd) : FnOk P w K mg base CX0 3 f fd ["value", "task"] (spRightN K) := by
  have sc : FnScope ["value", "task", "link", "k"] ["value", "task"] (defScope s_law_right) := ⟨rfl, rfl, rfl, by decide +kernel, rfl, by decide +kernel, by decide +kernel⟩
  refine F.ok sc (fun vs H Q E h => ?_) (fun cdv A outer s H vs Q E hr h => ?_)
  · obtain ⟨_, _, _, _, _, _, _, _, _, _, _, rfl, _⟩ := h
    rfl
  obtain ⟨M, x, d, a, wa, ba, D, v0, la, xs, ys, rfl, hd, hT, hwa, hba, D2, D4, k⟩ := h
  refine ⟨_, (pss_cons (ps_if (PW.pt (pw_or (pt_not (pt_val (pe_callB call_isi (by rfl) B.isinstance (by decide +kernel) (pa_cons (pv 0) (pa_cons (pe_bltn (v := V.ty "tuple") (u := Value.type "tuple") (by rfl) B.tuple (by decide +kernel) rfl) pa_nil))))) (pw_or (pt_cmpR op_nei (pe_callB call_len_seq (by rfl) B.len (by decide +kernel) (pa_cons (pv 0) pa_nil)) pe_int (nomark _)) (pw_or (pt_not (pt_val (pe_callB call_isi (by rfl) B.isinstance (by decide +kernel) (pa_cons (pe_ix ix_tup (pv 0) pe_int (fun _ _ => rfl)) (pa_cons (pe_bltn (v := V.ty "str") (u := Value.type "str") (by rfl) B.str (by decide +kernel) rfl) pa_nil))))) (pw_or1 (pt_cmpR op_nes (pe_ix ix_tup (pv 0) pe_int (fun _ _ => rfl)) pe_str (nomark _)))))))
      (pss_one (ps_ret pe_bl))
      pss_nil)
    (pss_cons (ps_if (PW.pt (pw_or (pt_not (pt_val (pc g_law_integer hr (pa_cons (pe_ix ix_tup (pv 0) pe_int (fun _ _ => rfl)) pa_nil)))) (pw_or (pt_cmpR op_lt (pe_ix ix_tup (pv 0) pe_int (fun _ _ => rfl)) pe_int (nomark _)) (pw_or1 (pt_cmpR op_gt (pe_ix ix_tup (pv 0) pe_int (fun _ _ => rfl)) pe_int (nomark _))))))
      (pss_one (ps_ret pe_bl))
      pss_nil)
    (pss_cons (ps_if (PW.pt (pw_or (pt_not (pt_val (pe_callB call_isi (by rfl) B.isinstance (by decide +kernel) (pa_cons (pe_ix ix_tup (pv 0) pe_int (fun _ _ => rfl)) (pa_cons (pe_bltn (v := V.ty "tuple") (u := Value.type "tuple") (by rfl) B.tuple (by decide +kernel) rfl) pa_nil))))) (pw_or1 (pt_cmpR op_nei (pe_callB call_len_seq (by rfl) B.len (by decide +kernel) (pa_cons (pe_ix ix_tup (pv 0) pe_int (fun _ _ => rfl)) pa_nil)) (pe_ix ix_tup (pv 1) pe_int (fun _ _ => rfl)) (nomark _)))))
      (pss_one (ps_ret pe_bl))
      pss_nil)
    (pss_cons (ps_for PassesOwn.never rfl (pi_tup (pe_ix ix_tup (pv 0) pe_int (fun _ _ => rfl))) (pg_name (i := 2) sc.nd rfl (Or.inl rfl))
      (pss_one (ps_if (PW.pt (pw_or (pt_not (pt_val (pc g_law_inputs_right hr (pa_cons (pv 2) (pa_cons (pe_ix ix_tup (pv 0) pe_int (fun _ _ => rfl)) (pa_cons (pe_ix ix_tup (pv 0) pe_int (fun _ _ => rfl)) pa_nil)))))) (pw_or1 (pt_cmpR (op_neD hr.units) (pe_callB (show CallR _ _ (rSortTI K) from cr_sortTI) (by rfl) B.sorted (by decide +kernel) (pa_cons (pv 2) pa_nil)) (pe_lc (own := [("k", 3)]) (g := gName 3) (tt := tYes) rfl sc.nd (pi_range1 (by rfl) B.range (pa_cons (pe_ix ix_tup (pv 0) pe_int (fun _ _ => rfl)) pa_nil)) (blkOk_by (N := ["value", "task", "link", "k"]) (sc := defScope s_law_right) (by decide +kernel)) (fun _ _ _ _ _ => pg_name (i := 3) sc.nd rfl (Or.inl rfl)) (fun _ _ _ _ _ => pts_nil) (fun _ _ _ _ _ => (pv 3))) (nomark _)))))
        (pss_one (ps_ret pe_bl))
        pss_nil)))
    (pss_cons (ps_if (pt_not (pt_val (pc g_law_inputs_right hr (pa_cons (pe_ix ix_tup (pv 0) pe_int (fun _ _ => rfl)) (pa_cons (pe_ix ix_tup (pv 0) pe_int (fun _ _ => rfl)) (pa_cons (pe_callB call_len_seq (by rfl) B.len (by decide +kernel) (pa_cons (pe_ix ix_tup (pv 1) pe_int (fun _ _ => rfl)) pa_nil)) pa_nil))))))
      (pss_one (ps_ret pe_bl))
      pss_nil)
    (pss_one (ps_ret (pc g_law_inputs_right hr (pa_cons (pe_ix ix_tup (pv 0) pe_int (fun _ _ => rfl)) (pa_cons (pe_ix ix_tup (pv 0) pe_int (fun _ _ => rfl)) (pa_cons (pe_callB call_len_seq (by rfl) B.len (by decide +kernel) (pa_cons (pe_ix ix_tup (pv 1) pe_int (fun _ _ => rfl)) pa_nil)) pa_nil))))))))))), ?_⟩
  try dsimp only [cxOf]
  have no : netFor D xs.length ys.length d = false → ∀ H', Same H H' → Q (.bl false) H' := fun e H' s' => by have := k H' s'; rw [e] at this; exact this
  have ni : isNetD xs.length ys.length d = false → ∀ H', Same H H' → Q (.bl false) H' := fun e => no (by unfold netFor; rw [e]; rfl)
  w_fin
  refine st_isi hd (kit_tup d) ?_
  w_fin
  cases ht : isTup d with
  | false =>
    refine iteT ?_
    w_fin
    exact ni (by cases d <;> first | rfl | cases ht) H (Same.refl _)
  | true =>
  refine iteF ?_
  obtain ⟨ds, rfl⟩ := isTup_of ht
  obtain ⟨va, vxs, rfl, ha, hx⟩ := dn_tup hd
  w_fin
  rw [hx.len]
  refine st_ntwo (fun c => ?_) (fun c => ?_)
  · w_fin
    refine ni ?_ H (Same.refl _)
    match ds, c with
    | [], _ => rfl
    | [_], _ => rfl
    | [_, _], _ => rfl
    | [_, _, _], _ => rfl
    | [_, _, _, _], _ => rfl
    | [_, _, _, _, _], c => exact absurd rfl c
    | _ :: _ :: _ :: _ :: _ :: _ :: _, _ => rfl
  obtain ⟨d0, d1, d2, d3, d4, rfl⟩ : ∃ d0 d1 d2 d3 d4, ds = [d0, d1, d2, d3, d4] := by
    match ds, c with
    | [], c => exact absurd c (by decide)
    | [_], c => exact absurd c (by simp)
    | [_, _], c => exact absurd c (by simp)
    | [_, _, _], c => exact absurd c (by simp)
    | [_, _, _, _], c => exact absurd c (by simp)
    | [d0, d1, d2, d3, d4], _ => exact ⟨_, _, _, _, _, rfl⟩
    | _ :: _ :: _ :: _ :: _ :: _ :: r, c => exact absurd c (by simp only [List.length_cons]; omega)
  cases hx with | @cons w0 _ _ _ h0 hx =>
  cases hx with | @cons w1 _ _ _ h1 hx =>
  cases hx with | @cons w2 _ _ _ h2 hx =>
  cases hx with | @cons w3 _ _ _ h3 hx =>
  cases hx with | @cons w4 _ _ _ h4 hx =>
  cases hx
  have eN : isNetD xs.length ys.length (.tuple [d0, d1, d2, d3, d4]) = (isNetWord d0 && (isNum d1 1 400 && isRest xs.length ys.length (numD d1) d3 d4 d2)) := rfl
  rw [eN] at ni
  w_fin
  refine st_isi h0 (kit_str d0) ?_
  w_fin
  cases hs : isStrB d0 with
  | false =>
    refine iteT ?_
    w_fin
    exact ni (by rw [show isNetWord d0 = false by cases d0 <;> first | rfl | cases hs]; rfl) H (Same.refl _)
  | true =>
  refine iteF ?_
  obtain ⟨wd, rfl⟩ : ∃ wd, d0 = .str wd := by
    cases d0 with
    | str wd => exact ⟨wd, rfl⟩
    | _ => cases hs
  have eW : isNetWord (.str wd) = decide (wd = "network") := rfl
  obtain rfl := dn_str h0
  w_fin
  refine st_ntwo (fun cw => ?_) (fun cw => ?_)
  · w_fin
    exact ni (by rw [eW, decide_eq_false cw]; rfl) H (Same.refl _)
  rw [eW, decide_eq_true cw, Bool.true_and] at ni
  w_fin
  refine ⟨M, w1, d1, rfl, h1, ?_⟩
  w_fin
  cases hn : isIntD d1 with
  | false =>
    refine iteT ?_
    w_fin
    exact ni (by rw [show isNum d1 1 400 = false by cases d1 <;> first | rfl | cases hn]; rfl) H (Same.refl _)
  | true =>
  refine iteF ?_
  obtain ⟨n0, rfl⟩ : ∃ z, d1 = .int z := by
    cases d1 with
    | int z => exact ⟨z, rfl⟩
    | _ => cases hn
  obtain rfl := dn_int h1
  have e1 : isNum (.int n0) 1 400 = (decide ((1 : Int) ≤ n0) && decide (n0 ≤ 400)) := rfl
  w_fin
  refine st_two (fun c1 => ?_) (fun c1 => ?_)
  · w_fin
    exact ni (by rw [e1, decide_eq_false (by omega)]; rfl) H (Same.refl _)
  w_fin
  refine st_two (fun c2 => ?_) (fun c2 => ?_)
  · w_fin
    exact ni (by rw [e1, decide_eq_false (p := n0 ≤ 400) (by omega), Bool.and_false]; rfl) H (Same.refl _)
  rw [e1, decide_eq_true (by omega), decide_eq_true (by omega), Bool.and_true, Bool.true_and] at ni
  obtain ⟨n, rfl⟩ : ∃ n : Nat, n0 = n := ⟨n0.toNat, by omega⟩
  w_fin
  refine st_isi h2 (kit_tup d2) ?_
  w_fin
  cases ht2 : isTup d2 with
  | false =>
    refine iteT ?_
    w_fin
    refine ni ?_ H (Same.refl _)
    cases d2 <;> first | rfl | cases ht2
  | true =>
  refine iteF ?_
  obtain ⟨cs, rfl⟩ := isTup_of ht2
  obtain ⟨la2, cvs, rfl, hla, hcs⟩ := dn_tup h2
  w_fin
  rw [hcs.len]
  refine st_ntwo (fun cl => ?_) (fun cl => ?_)
  · w_fin
    refine no ?_ H (Same.refl _)
    unfold netFor
    rw [show colours (.tuple [.str wd, .int n, .tuple cs, d3, d4]) = cs.length from rfl, decide_eq_false cl, Bool.and_false]
  have eR : isRest xs.length ys.length (numD (.int n)) d3 d4 (.tuple cs) = (cs.all (isOrd n) && (areNums n (xs.length - 1) d3 && areNums n (ys.length - 1) d4)) := by
    show (isNum (.int (cs.length : Nat)) 2 4 && _) = _
    rw [show isNum (.int (cs.length : Nat)) 2 4 = true by
      show (decide ((2 : Int) ≤ (cs.length : Nat)) && decide (((cs.length : Nat) : Int) ≤ 4)) = true
      rw [decide_eq_true (by omega), decide_eq_true (by omega)]; rfl, Bool.true_and]
    rfl
  rw [eR] at ni
  have eF : netFor D xs.length ys.length (.tuple [.str wd, .int n, .tuple cs, d3, d4]) = (cs.all (isOrd n) && (areNums n (xs.length - 1) d3 && areNums n (ys.length - 1) d4)) := by
    unfold netFor
    rw [eN, eW, decide_eq_true cw, e1, decide_eq_true (by omega), decide_eq_true (by omega), eR, show colours (.tuple [.str wd, .int n, .tuple cs, d3, d4]) = cs.length from rfl, decide_eq_true cl]
    simp
  rw [eF] at k
  rw [eF] at no
  w_fin
  refine fr_tup (xs := cvs) (fun i σ H' => ∃ (lv : Option V), σ = [some (.ref va), some (.ref a), lv, none] ∧ Same H H' ∧ (cs.take i).all (isOrd n) = true) ⟨none, rfl, Same.refl _, rfl⟩ (fun i σ H' _ z => by
      obtain ⟨_, _, s', _⟩ := z
      exact s'.seqT hla) ?_ ?_
  · rintro i y σ H1 hi ⟨lv, rfl, s1, al⟩
    obtain ⟨dy, hdy, hyd⟩ := hcs.of hi
    have ha1 := s1.seqT ha
    have bad : isOrd n dy = false → ∀ H', Same H H' → Q (.bl false) H' := fun e => no (by rw [all_no hdy e]; rfl)
    w_fin
    refine ⟨M, y, dy, n, n, rfl, hyd.stay s1.go, ?_⟩
    w_fin
    cases hy : areNums n (n - 1) dy with
    | false =>
      refine iteT ?_
      w_fin
      exact bad (by unfold isOrd; rw [hy]; rfl) H1 s1
    | true =>
    refine iteF ?_
    obtain ⟨e, l, r⟩ := nums_ints hy
    have hyd1 := hyd.stay s1.go
    rw [e] at hyd1
    obtain ⟨ya, yvs, rfl, hya, hyx⟩ := dn_tup hyd1
    obtain rfl := ints_vs hyx
    w_fin
    refine ⟨ya, intsD dy, rfl, hya, fun ns' p perm srt hp => ?_⟩
    have s2 := same_new hp (.lst (ns'.map V.int))
    have e2 : (upd H1 p (.lst (ns'.map V.int))) p = some (.lst (ns'.map V.int)) := upd_same
    generalize upd H1 p (.lst (ns'.map V.int)) = H2 at s2 e2 ⊢
    have ha2 := s2.seqT ha1
    w_fin
    intro ol hol
    refine itr_walk (lo := 0) (n := ((n : Nat) : Int).toNat) (fun i H' => AccI H2 ol ((rgn n).take i) H') (AccI.start hol) ?_ ?_
    · rintro i H3 hi acc
      w_fin
      refine acc.fin (by rw [List.length_take, rgn_len]; omega) fun H' a2 => ?_
      rw [Int.zero_add] at a2
      rw [rgn_take (by omega)]
      exact a2
    · rintro H3 acc
      rw [List.take_of_length_le (by rw [rgn_len]; omega)] at acc
      refine ⟨_, _, lstI_dp (acc.same _ _ e2), lstI_dp acc.ex, shaped_li _, shaped_li _, ?_⟩
      rw [eqv_li]
      w_fin
      have q := ord_sorted (n := n) (l := intsD dy) (l' := ns') (by omega) (fun z hz => by have := r z hz; omega) perm srt
      refine st_ntwo (fun c => ?_) (fun c => ?_)
      · w_fin
        exact bad (by unfold isOrd; rw [hy, decide_eq_false (fun z => c (q.mpr z))]; rfl) H3 ((s1.trans s2).trans acc.same)
      · w_fin
        exact ⟨_, rfl, (s1.trans s2).trans acc.same, all_yes hdy al (by unfold isOrd; rw [hy, decide_eq_true (q.mp c)]; rfl)⟩
  · rintro σ H1 ⟨lv, rfl, s1, al⟩
    rw [hcs.len, List.take_length] at al
    rw [al, Bool.true_and] at k no
    have ha1 := s1.seqT ha
    have hT1 := s1.seqT hT
    have hwa1 := s1.seqT hwa
    have hba1 := s1.seqT hba
    w_fin
    refine ⟨M, w3, d3, n, xs.length, rfl, h3.stay s1.go, ?_⟩
    w_fin
    cases c3 : areNums n (xs.length - 1) d3 with
    | false =>
      refine iteT ?_
      w_fin
      exact no (by rw [c3]; rfl) H1 s1
    | true =>
    refine iteF ?_
    rw [c3, Bool.true_and] at k
    w_fin
    exact ⟨M, w4, d4, n, ys.length, rfl, h4.stay s1.go, k H1 s1⟩
end
section
variable {P : Program} {w : World} {K : PySem.W.Frag} {mg : Str → Option Value} {base : Heap}
theorem row_snoc {ls : List Int} {m : Int} {ns : List Int} {z : Int} (h : ns.length = ls.length) : isRow (ls ++ [m]) (tupI (ns ++ [z])) = (isRow ls (tupI ns) && isNum (.int z) 0 (m - 1)) := by
  show (decide (((ns ++ [z]).map PyData.int).length = (ls ++ [m]).length) && _) = ((decide ((ns.map PyData.int).length = ls.length) && _) && _)
  rw [decide_eq_true (by simp [h]), decide_eq_true (by simp [h]), Bool.true_and, Bool.true_and, List.map_append, List.zip_append (by simp [h]), List.all_append]
  simp
theorem row_nil : isRow [] (tupI []) = true := by decide
theorem row_len {ls ns : List Int} (h : isRow ls (tupI ns) = true) : ns.length = ls.length := by
  have e := (row_ints h).2
  have : intsD (tupI ns) = ns := by
    show (ns.map PyData.int).map numD = ns
    rw [List.map_map]
    exact List.map_id'' (fun x => rfl) ns
  rw [← this]
  exact e
def Good (ls : List Int) (rows : List (List Int)) : Prop := rows.length ≤ 5 ∧ (∀ r ∈ rows, isRow ls (tupI r) = true) ∧ rows.Pairwise (· < ·)
theorem le_tr (a b c : List Int) (h1 : leR a b = true) (h2 : leR b c = true) : leR a c = true := by
  unfold leR at *
  simp only [Bool.not_eq_true', decide_eq_false_iff_not] at *
  exact List.le_trans (show a ≤ b from h1) (show b ≤ c from h2)
theorem le_to (a b : List Int) : (leR a b || leR b a) = true := by
  unfold leR
  simp only [Bool.or_eq_true, Bool.not_eq_true', decide_eq_false_iff_not]
  exact List.le_total a b
theorem good_sort {ls : List Int} {rows : List (List Int)} (n5 : rows.length ≤ 5) (nd : rows.Nodup) (ok : ∀ r ∈ rows, isRow ls (tupI r) = true) : Good ls (rows.mergeSort leR) := by
  have pm : (rows.mergeSort leR).Perm rows := List.mergeSort_perm rows leR
  refine ⟨by rw [pm.length_eq]; exact n5, fun r hr => ok r (pm.mem_iff.mp hr), ?_⟩
  have p1 : (rows.mergeSort leR).Pairwise (fun a b => leR a b = true) := List.pairwise_mergeSort le_tr le_to rows
  have p2 : (rows.mergeSort leR).Nodup := pm.nodup_iff.mpr nd
  refine (List.Pairwise.and p1 p2).imp fun {a b} h => ?_
  obtain ⟨h1, h2⟩ := h
  unfold leR at h1
  simp only [Bool.not_eq_true', decide_eq_false_iff_not] at h1
  by_cases q : a < b
  · exact q
  · exact absurd (List.le_antisymm (show a ≤ b from h1) (show b ≤ a from q)) h2
theorem good_rows {ls : List Int} {rows : List (List Int)} (g : Good ls rows) : areRows ls (.tuple (rows.map tupI)) = true := by
  obtain ⟨_, ok, pw⟩ := g
  rw [rows_all, List.all_eq_true]
  intro i hi
  have il : i < rows.length := by simpa using List.mem_range.mp hi
  have gi : (rows.map tupI).getD i .none = tupI rows[i] := getD_of (by simp [il])
  unfold rowAt
  rw [gi, ok _ (List.getElem_mem il), Bool.true_and]
  by_cases h0 : i = 0
  · rw [decide_eq_true h0]
    rfl
  · have il2 : i - 1 < rows.length := by omega
    have g1 : (rows.map tupI).getD (i - 1) .none = tupI rows[i - 1] := getD_of (by simp [il2])
    rw [g1, intsD_t, intsD_t, decide_eq_true (List.pairwise_iff_getElem.mp pw (i - 1) i il2 il (by omega)), Bool.or_true]
def LabOk (D : Int) (ls : List Int) : Prop := ((ls.length : Nat) : Int) = D ∧ (∀ m ∈ ls, 1 ≤ m ∧ m ≤ 60) ∧ prodD (ls.map PyData.int) ≤ 4000
def sideD (W : List (List (List Int))) : PyData := .tuple (W.map fun rows => .tuple (rows.map tupI))
def taskD (D : Int) (ls : List Int) (W B : List (List (List Int))) : PyData := .tuple [.str "task", .int D, tupI ls, sideD W, sideD B]
def GoodS (ls : List Int) (W : List (List (List Int))) : Prop := 1 ≤ W.length ∧ W.length ≤ 4 ∧ ∀ rows ∈ W, Good ls rows
theorem lab_ok {D : Int} {ls : List Int} (D2 : 2 ≤ D) (D4 : D ≤ 4) (l : LabOk D ls) : areLabels (.int D) (tupI ls) = true := by
  obtain ⟨l1, l2, l3⟩ := l
  have hn : isNum (.int D) 2 4 = true := by
    show (decide (2 ≤ D) && decide (D ≤ 4)) = true
    rw [decide_eq_true D2, decide_eq_true D4]
    rfl
  have e := labels_tup (ms := ls.map PyData.int) hn
  show areLabels (.int D) (.tuple (ls.map PyData.int)) = true
  rw [e, decide_eq_true (by rw [List.length_map]; exact l1), decide_eq_true l3, Bool.true_and, Bool.and_true, List.all_eq_true]
  intro x hx
  obtain ⟨m, hm, rfl⟩ := List.mem_map.mp hx
  obtain ⟨a, b⟩ := l2 m hm
  show (decide (1 ≤ m) && decide (m ≤ 60)) = true
  rw [decide_eq_true a, decide_eq_true b]
  rfl
theorem side_ok {ls : List Int} {W : List (List (List Int))} (g : GoodS ls W) : areInputs ls (sideD W) = true := by
  obtain ⟨w1, w4, ok⟩ := g
  show (isNum (.int ((W.map fun rows => PyData.tuple (rows.map tupI)).length : Nat)) 1 4 && (W.map fun rows => PyData.tuple (rows.map tupI)).all (areRows ls)) = true
  rw [List.length_map]
  have hn : isNum (.int (W.length : Nat)) 1 4 = true := by
    show (decide ((1 : Int) ≤ (W.length : Nat)) && decide (((W.length : Nat) : Int) ≤ 4)) = true
    rw [decide_eq_true (by omega), decide_eq_true (by omega)]
    rfl
  rw [hn, Bool.true_and, List.all_eq_true]
  intro x hx
  obtain ⟨rows, hr, rfl⟩ := List.mem_map.mp hx
  exact good_rows (ok rows hr)
theorem task_ok {D : Int} {ls : List Int} {W B : List (List (List Int))} (D2 : 2 ≤ D) (D4 : D ≤ 4) (l : LabOk D ls) (gW : GoodS ls W) (gB : GoodS ls B) : isTask (taskD D ls W B) = true := by
  show (isWord (.str "task") && (areLabels (.int D) (tupI ls) && (areInputs (intsD (tupI ls)) (sideD W) && areInputs (intsD (tupI ls)) (sideD B)))) = true
  rw [intsD_t, lab_ok D2 D4 l, side_ok gW, side_ok gB]
  rfl
theorem task_word (D : Int) (ls : List Int) (W B : List (List (List Int))) : WordOk (taskD D ls W B) := fun w r e _ => by
  cases e
  decide +kernel
theorem row_small {ls r : List Int} (lok : ∀ m ∈ ls, 1 ≤ m ∧ m ≤ 60) (h : isRow ls (tupI r) = true) : ∀ x ∈ r, 0 ≤ x ∧ x ≤ 59 := by
  have h' : (decide ((r.map PyData.int).length = ls.length) && ((r.map PyData.int).zip ls).all fun p => isNum p.1 0 (p.2 - 1)) = true := h
  rw [Bool.and_eq_true, decide_eq_true_eq, List.length_map] at h'
  obtain ⟨e, a⟩ := h'
  clear h
  induction r generalizing ls with
  | nil => exact fun x hx => absurd hx List.not_mem_nil
  | cons y r ih =>
    cases ls with
    | nil => cases e
    | cons l ls =>
      rw [List.map_cons, List.zip_cons_cons, List.all_cons, Bool.and_eq_true] at a
      intro x hx
      rcases List.mem_cons.mp hx with rfl | hx
      · obtain ⟨_, a1, a2⟩ := num_of a.1
        have := lok l List.mem_cons_self
        have e1 : numD (.int x) = x := rfl
        rw [e1] at a1 a2
        show 0 ≤ x ∧ x ≤ 59
        have a2' : x ≤ l - 1 := a2
        omega
      · exact ih (fun m hm => lok m (List.mem_cons_of_mem _ hm)) (by simpa using e) a.2 x hx
theorem task_parts_sized {D : Int} {ls : List Int} {W B : List (List (List Int))} (d0 : -10 ≤ D) (d1 : D ≤ 10) (lok : ∀ m ∈ ls, 1 ≤ m ∧ m ≤ 60) (l4 : ls.length ≤ 4) (gW : GoodS ls W) (gB : GoodS ls B) : Sized 104 3 (.str "task") ∧ Sized 104 3 (.int D) ∧ Sized 104 3 (tupI ls) ∧ Sized 104 3 (sideD W) ∧ Sized 104 3 (sideD B) := by
  have sI : ∀ i : Int, -100 ≤ i → i ≤ 100 → Sized 0 0 (.int i) := fun i q1 q2 => sized_int (Nat.lt_of_lt_of_le (show i.natAbs < 200 by omega) (by decide))
  have rowS : ∀ r : List Int, r.length ≤ 4 → (∀ x ∈ r, -100 ≤ x ∧ x ≤ 100) → Sized 4 1 (tupI r) := fun r l a => by
    refine (sized_tup (m := 0) (h := 0) fun z hz => ?_).more (by rw [List.length_map]; omega) (Nat.le_refl _)
    obtain ⟨i, hi, rfl⟩ := List.mem_map.mp hz
    exact sI i (a i hi).1 (a i hi).2
  have sideS : ∀ S : List (List (List Int)), GoodS ls S → Sized 104 3 (sideD S) := fun S g => by
    refine (sized_tup (m := 25) (h := 2) fun z hz => ?_).more (by rw [List.length_map]; have := g.2.1; omega) (Nat.le_refl _)
    obtain ⟨rows, hr, rfl⟩ := List.mem_map.mp hz
    obtain ⟨n5, ok, _⟩ := g.2.2 rows hr
    refine (sized_tup (m := 4) (h := 1) fun z hz => ?_).more (by rw [List.length_map]; omega) (Nat.le_refl _)
    obtain ⟨r, hr, rfl⟩ := List.mem_map.mp hz
    refine rowS r (by rw [row_len (ok r hr)]; exact l4) fun x hx => ?_
    have := row_small lok (ok r hr) x hx
    omega
  exact ⟨(sized_str "task" (by decide) 4 (by decide)).more (by decide) (by decide), (sI D (by omega) (by omega)).more (by decide) (by decide), (rowS ls l4 fun x hx => by have := lok x hx; omega).more (by decide) (by decide), sideS W gW, sideS B gB⟩
theorem task_sized {D : Int} {ls : List Int} {W B : List (List (List Int))} (d0 : -10 ≤ D) (d1 : D ≤ 10) (lok : ∀ m ∈ ls, 1 ≤ m ∧ m ≤ 60) (l4 : ls.length ≤ 4) (gW : GoodS ls W) (gB : GoodS ls B) : Sized 525 4 (taskD D ls W B) := by
  obtain ⟨a, b, c, e, f⟩ := task_parts_sized d0 d1 lok l4 gW gB
  refine sized_tup (m := 104) (h := 3) fun z hz => ?_
  simp only [List.mem_cons, List.not_mem_nil, or_false] at hz
  rcases hz with rfl | rfl | rfl | rfl | rfl <;> assumption
theorem task_dt {H : Hp} {p la wa ba : Addr} {wxs bxs : List V} {D : Int} {ls : List Int} {W B : List (List (List Int))} (hp : SqT K H p [.str "task", .int D, .ref la, .ref wa, .ref ba]) (hla : SqT K H la (ls.map V.int)) (hwa : SqT K H wa wxs) (hwx : DtAll K H wxs (W.map fun rows => PyData.tuple (rows.map tupI))) (hba : SqT K H ba bxs) (hbx : DtAll K H bxs (B.map fun rows => PyData.tuple (rows.map tupI))) : Dt K H (.ref p) (taskD D ls W B) :=
  .tup hp (.cons (.str _) (.cons (.int _) (.cons (.tup hla (DtAll.ints ls)) (.cons (.tup hwa hwx) (.cons (.tup hba hbx) .nil)))))
theorem sized_one {m h : Nat} {a : PyData} (s : Sized m h a) : Sized (m + 1) (h + 1) (.tuple [a]) := by
  exact (sized_tup (m := m) (h := h) (ds := [a]) fun d hd => by rw [List.mem_singleton.mp hd]; exact s).more (by simp) (Nat.le_refl _)
theorem sized_oneL {m h : Nat} {a : PyData} (s : Sized m h a) : Sized (m + 1) (h + 1) (.list [a]) := by
  exact (sized_lst (m := m) (h := h) (ds := [a]) fun d hd => by rw [List.mem_singleton.mp hd]; exact s).more (by simp) (Nat.le_refl _)
theorem sized_tup0 : Sized 0 1 (.tuple []) := (sized_tup (m := 0) (h := 0) (ds := []) (by simp)).more (by simp) (by omega)
theorem sized_lst0 : Sized 0 1 (.list []) := (sized_lst (m := 0) (h := 0) (ds := []) (by simp)).more (by simp) (by omega)
theorem small_int (i : Int) (a : -1000 ≤ i) (b : i ≤ 1000) : Sized 0 0 (.int i) := sized_int (Nat.lt_of_lt_of_le (show i.natAbs < 2000 by omega) (by decide))
end
section
variable {P : Program} {w : World} {K : PySem.W.Frag} {mg : Str → Option Value} {base : Heap}
def spOrder (K : PySem.W.Frag) : Sp := fun vs H Q _ => ∃ (h d : Addr) (ds : List Int) (i n : Nat), vs = [.ref h, .int n] ∧ Hand H h d ds i ∧ 1 ≤ n ∧ n ≤ 1000 ∧
  ∀ (p : Addr) (H' : Hp) (i' : Nat) (c : List Int), Hand H' h d ds i' → Go (· = h) H H' → SqN K H' p (c.map V.int) → Col n c → Q (.ref p) H'
set_option maxHeartbeats 1000000 in
theorem ok_order {f : Addr} {fd : FuncData} (B : Blt mg) (g_law_take : Has P w K mg base CX0 1 "_law_take" ["hand", "many"] (spTakeN K)) (F : Fun K "_law_order" "_law_order" s_law_order f fd) : FnOk P w K mg base CX0 2 f fd ["hand", "many"] (spOrder K) := by
  have sc : FnScope ["hand", "many", "order", "k", "at", "kept"] ["hand", "many"] (defScope s_law_order) := ⟨rfl, rfl, rfl, by decide +kernel, rfl, by decide +kernel, by decide +kernel⟩
  refine F.ok sc (fun vs H Q E h => ?_) (fun cdv A outer s H vs Q E hr h => ?_)
  · obtain ⟨_, _, _, _, _, rfl, _⟩ := h
    rfl
  obtain ⟨h, d, ds, i0, n, rfl, hh, n1, n2, k⟩ := h
  refine ⟨_, (pss_cons (ps_setLc (i := 2) (own := [("k", 3)]) (g := gName 3) (tt := tYes) rfl sc.nd rfl rfl (sw_true rfl rfl rfl (by decide +kernel)) (pi_range1 (by rfl) B.range (pa_cons (pv 1) pa_nil)) (blkOk_by (N := ["hand", "many", "order", "k", "at", "kept"]) (sc := defScope s_law_order) (by decide +kernel)) (fun _ _ _ _ _ => pg_name (i := 3) sc.nd rfl (Or.inl rfl)) (fun _ _ _ _ _ => pts_nil) (fun _ _ _ _ _ => (pv 3)))
    (pss_cons (ps_for PassesOwn.never rfl (pi_range1 (by rfl) B.range (pa_cons (pe_callB (call_min2 rfl) (by rfl) B.min (by decide +kernel) (pa_cons (pv 1) (pa_cons pe_int pa_nil))) pa_nil)) (pg_name (i := 3) sc.nd rfl (Or.inl rfl))
      (pss_cons (ps_set (i := 4) sc.nd rfl (Or.inl rfl) (pc g_law_take hr (pa_cons (pv 0) (pa_cons (pv 1) pa_nil))))
      (pss_cons (ps_set (i := 5) sc.nd rfl (Or.inl rfl) (pe_ix ix_list (pv 2) (pv 3) (fun _ _ => rfl)))
      (pss_cons (ps_asg (pe_ix ix_list (pv 2) (pv 4) (fun _ _ => rfl)) (pg_sub (pv 2) (pv 3) set_list))
      (pss_one (ps_asg (pv 5) (pg_sub (pv 2) (pv 4) set_list)))))))
    (pss_one (ps_ret (pe_callTy (show CallR _ _ (rTupF K) from call_tupF) (by rfl) B.tuple (by decide +kernel) (pa_cons (pv 2) pa_nil)))))), ?_⟩
  try dsimp only [cxOf]
  w_fin
  intro ol hol
  obtain ⟨nh, nd⟩ := hand_out hh hol
  refine itr_walk (lo := 0) (n := ((n : Nat) : Int).toNat) (fun i H' => GI (· = h) H ol ((rgn n).take i) H' ∧ Hand H' h d ds i0) ⟨GI.start hol, hh.new hol _⟩ ?_ ?_
  · rintro i H1 hi ⟨acc, hh1⟩
    w_fin
    obtain ⟨e, f, a⟩ := acc.push (0 + (i : Int)) (by rw [List.length_take, rgn_len]; omega)
    refine ⟨_, e, f, ?_, hh1.off nh nd _⟩
    rw [Int.zero_add] at a ⊢
    rw [rgn_take (by omega)]
    exact a
  · rintro H1 ⟨acc, hh1⟩
    rw [List.take_of_length_le (by rw [rgn_len]; omega)] at acc
    have gol := acc.go
    have eol := acc.ex
    w_fin
    have em : (if (12 : Int) < (n : Int) then (12 : Int) else (n : Int)).toNat = min 12 n := by split <;> omega
    rw [em]
    refine fr_range (fun i σ H' => ∃ (m : Nat) (c : List Int) (kv av pv : Option V), σ = [some (.ref h), some (.int n), some (.ref ol), kv, av, pv] ∧ Hand H' h d ds m ∧ Go (· = h) H H' ∧ H' ol = some (.lst (c.map V.int)) ∧ Col n c) ⟨i0, rgn n, none, none, none, rfl, hh1, gol, eol, Col.start n⟩ ?_ ?_
    · rintro i σ H2 hi ⟨m, c, kv, av, pv, rfl, hh2, g2, e2, C⟩
      have hi : i < n := by omega
      w_fin
      refine ⟨h, d, ds, m, n, rfl, hh2, by omega, by omega, fun a H3 a0 a1 hh3 g3 => ?_⟩
      have e3 := g3.out _ _ nh e2
      obtain ⟨x, hx, _, _⟩ := C.at (i := (i : Int)) (by omega) (by omega)
      obtain ⟨y, hy, _, _⟩ := C.at a0 a1
      rw [show ((i : Int)).toNat = i by omega] at hx
      w_fin
      refine st_ixL (SqL.of e3) (at_of (j := i) (v := .int x) (by omega) (by rw [List.getElem?_map, hx]; rfl)) ?_
      w_fin
      refine st_ixL (SqL.of e3) (at_of (j := a.toNat) (v := .int y) (by omega) (by rw [List.getElem?_map, hy]; rfl)) ?_
      w_fin
      refine st_setL e3 (ix_of (by omega) (by rw [List.length_map, C.len]; omega)) ?_
      have hh4 := hh3.off nh nd (.lst ((c.map V.int).set (0 + (i : Int)).toNat (.int y)))
      have g4 := go_own (g2.trans g3) hol e3 ((c.map V.int).set (0 + (i : Int)).toNat (.int y))
      have e4 : (upd H3 ol (.lst ((c.map V.int).set (0 + (i : Int)).toNat (.int y)))) ol = some (.lst ((c.set i y).map V.int)) := by
        rw [upd_same, show (0 + (i : Int)).toNat = i by omega, List.map_set]
      generalize upd H3 ol (.lst ((c.map V.int).set (0 + (i : Int)).toNat (.int y))) = H4 at hh4 g4 e4 ⊢
      w_fin
      refine st_setL e4 (ix_of a0 (by rw [List.length_map, List.length_set, C.len]; omega)) ?_
      refine ⟨m + 1, (c.set i y).set a.toNat x, _, _, _, rfl, hh4.off nh nd _, go_own g4 hol e4 _, ?_, C.swap hx hy⟩
      rw [upd_same, List.map_set (l := c.set i y)]
    · rintro σ H2 ⟨m, c, kv, av, pv, rfl, hh2, g2, e2, C⟩
      w_fin
      intro t H3 _ s3 ht htn
      exact k t H3 m c (hh2.same s3) (g2.trans s3.go) ⟨ht, htn⟩ C
/-- a network all of whose rows have no own dict -/
def NetX (K : PySem.W.Frag) (H : Hp) (a : Addr) (n : Nat) (cols : List (List Int)) (ws bs : List Int) : Prop := ∃ (la wa ba : Addr) (cs : List V), SqT K H a [.str "network", .int n, .ref la, .ref wa, .ref ba] ∧ SqT K H la cs ∧ SLs (SqN K H) cs cols ∧ SqN K H wa (ws.map V.int) ∧ SqN K H ba (bs.map V.int)
theorem NetX.stay {H H' : Hp} {a : Addr} {n : Nat} {cols : List (List Int)} {ws bs : List Int} (t : TupsStay H H') (h : NetX K H a n cols ws bs) : NetX K H' a n cols ws bs := by
  obtain ⟨la, wa, ba, cs, h1, h2, h3, h4, h5⟩ := h
  exact ⟨la, wa, ba, cs, t.seq h1, t.seq h2, h3.imp fun _ _ z => z.stay t, h4.stay t, h5.stay t⟩
theorem NetX.dt {H : Hp} {a : Addr} {n : Nat} {cols : List (List Int)} {ws bs : List Int} (h : NetX K H a n cols ws bs) : Dt K H (.ref a) (netD n cols ws bs) := by
  obtain ⟨la, wa, ba, cs, h1, h2, h3, h4, h5⟩ := h
  exact .tup h1 (.cons (.str _) (.cons (.int _) (.cons (.tup h2 (sls_dt (h3.imp fun _ _ z => z.1))) (.cons (.tup h4.1 (DtAll.ints _)) (.cons (.tup h5.1 (DtAll.ints _)) .nil)))))
def spNetN (K : PySem.W.Frag) : Sp := fun vs H Q _ => ∃ (h d t wa ba : Addr) (ds : List Int) (i D n : Nat) (v0 la : V) (xs ys : List V), vs = [.ref h, .ref t, .int n] ∧ Hand H h d ds i ∧ SqT K H t [v0, .int D, la, .ref wa, .ref ba] ∧ SqT K H wa xs ∧ SqT K H ba ys ∧ D ≤ 4 ∧ 1 ≤ n ∧ n ≤ 1000 ∧ 1 ≤ xs.length ∧ xs.length ≤ 4 ∧ 1 ≤ ys.length ∧ ys.length ≤ 4 ∧
  ∀ (p : Addr) (H' : Hp) (i' : Nat) (cols : List (List Int)) (ws bs : List Int), Hand H' h d ds i' → Go (· = h) H H' → NetX K H' p n cols ws bs → Net n cols ws bs → cols.length = D → (∀ z ∈ ws, 0 ≤ z ∧ z < xs.length) → (∀ z ∈ bs, 0 ≤ z ∧ z < ys.length) → Q (.ref p) H'
theorem rep_flat {α : Type} (k : Nat) (x : α) : (List.replicate k [x]).flatten = List.replicate k x := by
  induction k with
  | zero => rfl
  | succ k ih => rw [List.replicate_succ, List.flatten_cons, ih]; rfl
set_option maxHeartbeats 2000000 in
theorem ok_netn {f : Addr} {fd : FuncData} (B : Blt mg) (g_law_take : Has P w K mg base CX0 1 "_law_take" ["hand", "many"] (spTakeN K)) (g_law_order : Has P w K mg base CX0 2 "_law_order" ["hand", "many"] (spOrder K))
    (F : Fun K "_law_network" "_law_network" s_law_network f fd) : FnOk P w K mg base CX0 3 f fd ["hand", "task", "many"] (spNetN K) := by
  have sc : FnScope ["hand", "task", "many", "links", "few", "white", "black", "c", "k"] ["hand", "task", "many"] (defScope s_law_network) := ⟨rfl, rfl, rfl, by decide +kernel, rfl, by decide +kernel, by decide +kernel⟩
  refine F.ok sc (fun vs H Q E h => ?_) (fun cdv A outer s H vs Q E hr h => ?_)
  · obtain ⟨_, _, _, _, _, _, _, _, _, _, _, _, _, rfl, _⟩ := h
    rfl
  obtain ⟨h, d, t, wa, ba, ds, i0, D, n, v0, la, xs, ys, rfl, hh, hT, hwa, hba, D4, n1, n2, x1, x4, y1, y4, k⟩ := h
  refine ⟨_, (pss_cons (ps_set (i := 3) sc.nd rfl (Or.inl rfl) (pe_callTy (show CallR _ _ (rTupF K) from call_tupF) (by rfl) B.tuple (by decide +kernel) (pa_cons (pe_lc (own := [("c", 7)]) (g := gName 7) (tt := tYes) rfl sc.nd (pi_range1 (by rfl) B.range (pa_cons (pe_ix ix_tup (pv 1) pe_int (fun _ _ => rfl)) pa_nil)) (blkOk_by (N := ["hand", "task", "many", "links", "few", "white", "black", "c", "k"]) (sc := defScope s_law_network) (by decide +kernel)) (fun _ _ _ _ _ => pg_name (i := 7) sc.nd rfl (Or.inl rfl)) (fun _ _ _ _ _ => pts_nil) (fun _ _ _ _ _ => (pc g_law_order hr (pa_cons (pv 0) (pa_cons (pv 2) pa_nil))))) pa_nil)))
    (pss_cons (ps_set (i := 4) sc.nd rfl (Or.inl rfl) (pe_callB (call_min2 rfl) (by rfl) B.min (by decide +kernel) (pa_cons (pv 2) (pa_cons pe_int pa_nil))))
    (pss_cons (ps_set (i := 5) sc.nd rfl (Or.inl rfl) (pe_callTy (show CallR _ _ (rTupF K) from call_tupF) (by rfl) B.tuple (by decide +kernel) (pa_cons (pe_op (show OpR _ _ rCatN from op_catN) (pe_lc (own := [("k", 8)]) (g := gName 8) (tt := tYes) rfl sc.nd (pi_range1 (by rfl) B.range (pa_cons (pv 4) pa_nil)) (blkOk_by (N := ["hand", "task", "many", "links", "few", "white", "black", "c", "k"]) (sc := defScope s_law_network) (by decide +kernel)) (fun _ _ _ _ _ => pg_name (i := 8) sc.nd rfl (Or.inl rfl)) (fun _ _ _ _ _ => pts_nil) (fun _ _ _ _ _ => (pc g_law_take hr (pa_cons (pv 0) (pa_cons (pe_callB (show CallR _ _ (rLenS K) from call_len_seq) (by rfl) B.len (by decide +kernel) (pa_cons (pe_ix (show IxR _ (rIxT K) from ix_tup) (pv 1) pe_int (fun _ _ => rfl)) pa_nil)) pa_nil))))) (pe_op (show OpR _ _ rMulLN from op_mulLN) (pe_lstN (pa_cons pe_int pa_nil)) (pe_op op_sub (pv 2) (pv 4)))) pa_nil)))
    (pss_cons (ps_set (i := 6) sc.nd rfl (Or.inl rfl) (pe_callTy (show CallR _ _ (rTupF K) from call_tupF) (by rfl) B.tuple (by decide +kernel) (pa_cons (pe_op (show OpR _ _ rCatN from op_catN) (pe_lc (own := [("k", 8)]) (g := gName 8) (tt := tYes) rfl sc.nd (pi_range1 (by rfl) B.range (pa_cons (pv 4) pa_nil)) (blkOk_by (N := ["hand", "task", "many", "links", "few", "white", "black", "c", "k"]) (sc := defScope s_law_network) (by decide +kernel)) (fun _ _ _ _ _ => pg_name (i := 8) sc.nd rfl (Or.inl rfl)) (fun _ _ _ _ _ => pts_nil) (fun _ _ _ _ _ => (pc g_law_take hr (pa_cons (pv 0) (pa_cons (pe_callB (show CallR _ _ (rLenS K) from call_len_seq) (by rfl) B.len (by decide +kernel) (pa_cons (pe_ix (show IxR _ (rIxT K) from ix_tup) (pv 1) pe_int (fun _ _ => rfl)) pa_nil)) pa_nil))))) (pe_op (show OpR _ _ rMulLN from op_mulLN) (pe_lstN (pa_cons pe_int pa_nil)) (pe_op op_sub (pv 2) (pv 4)))) pa_nil)))
    (pss_one (ps_ret (pe_tupN (pa_cons pe_str (pa_cons (pv 2) (pa_cons (pv 3) (pa_cons (pv 5) (pa_cons (pv 6) pa_nil)))))))))))), ?_⟩
  try dsimp only [cxOf]
  w_fin
  intro lp hlp
  obtain ⟨nh, nd⟩ := hand_out hh hlp
  refine itr_walk (lo := 0) (n := ((D : Nat) : Int).toNat) (fun i H' => ∃ (m : Nat) (cs : List (List Int)), GN K (· = h) H lp cs H' ∧ Hand H' h d ds m ∧ cs.length = i ∧ ∀ c ∈ cs, Col n c) ⟨i0, [], GN.start hlp, hh.new hlp _, rfl, fun c hc => by cases hc⟩ ?_ ?_
  · rintro i H1 hi ⟨m, cs, acc, hh1, len, C⟩
    w_fin
    refine ⟨h, d, ds, m, n, rfl, hh1, n1, n2, fun p H2 m2 c hh2 g2 hp hc => ?_⟩
    obtain ⟨ac, e, f, a⟩ := (acc.step nh g2).push hp (by omega)
    refine ⟨_, e, f, m2, _, a, hh2.off nh nd _, by rw [List.length_append, len]; rfl, fun c' hc' => ?_⟩
    rcases List.mem_append.mp hc' with q | q
    · exact C c' q
    · rw [List.mem_singleton.mp q]
      exact hc
  rintro H1 ⟨m, cs, acc, hh1, len, C⟩
  have len : cs.length = D := by omega
  obtain ⟨lxs, elp, hls⟩ := acc.ex
  w_fin
  intro lt H2 _ s2 hlt hltn
  have g2 : Go (· = h) H H2 := acc.go.trans s2.go
  have hh2 := hh1.same s2
  have hls2 := hls.imp fun _ _ z => SqN.stay s2.tups z
  w_fin
  obtain ⟨fw, hfw, f1, f2⟩ : ∃ fw : Nat, (if (9 : Int) < (n : Int) then (9 : Int) else (n : Int)) = fw ∧ fw ≤ n ∧ fw ≤ 9 := by
    by_cases q : (9 : Int) < (n : Int)
    · exact ⟨9, by rw [if_pos q]; rfl, by omega, by omega⟩
    · exact ⟨n, by rw [if_neg q], by omega, by omega⟩
  rw [hfw]
  w_fin
  intro wp hwpw
  obtain ⟨nwhw, nwdw⟩ := hand_out hh2 hwpw
  refine itr_walk (lo := 0) (n := ((fw : Nat) : Int).toNat) (fun i H' => ∃ (m : Nat) (ws : List Int), GI (· = h) H2 wp ws H' ∧ Hand H' h d ds m ∧ ws.length = i ∧ ∀ z ∈ ws, 0 ≤ z ∧ z < xs.length) ⟨_, [], GI.start hwpw, hh2.new hwpw _, rfl, fun c hc => by cases hc⟩ ?_ ?_
  · rintro i H4 hi ⟨m4, ws, aw, hh4, lw, rw4⟩
    have hT4 := (g2.trans aw.go).seqT hT
    have hwa4 := (g2.trans aw.go).seqT hwa
    w_fin
    refine ⟨wa, xs, rfl, .inr hwa4, ?_⟩
    w_fin
    refine ⟨h, d, ds, m4, xs.length, rfl, hh4, by omega, by omega, fun x H5 x0 x1 hh5 g5 => ?_⟩
    obtain ⟨e, f, a⟩ := (aw.step nwhw g5).push x (by omega)
    refine ⟨_, e, f, _, _, a, hh5.off nwhw nwdw _, by rw [List.length_append, lw]; rfl, fun z hz => ?_⟩
    rcases List.mem_append.mp hz with q | q
    · exact rw4 z q
    · rw [List.mem_singleton.mp q]
      exact ⟨x0, x1⟩
  rintro Hw4 ⟨mw, ws, aw, hhw4, lw, rw⟩
  have lw : ws.length = fw := by omega
  have ew := aw.ex
  w_fin
  intro wz Hw5 _ sw5 we5
  w_fin
  refine ⟨wz, _, _, rfl, rfl, we5, by omega, by omega, by simp only [List.length_cons, List.length_nil]; omega, fun wm Hw6 _ sw6 we6 => ?_⟩
  rw [rep_flat, show ((n : Int) - (fw : Int)).toNat = n - fw by omega] at we6
  w_fin
  refine st_rCat (sw6 _ _ (sw5 _ _ ew)) we6 (by rw [List.length_map, List.length_replicate]; omega) fun wq Hw7 _ sw7 we7 => ?_
  w_fin
  intro wt Hw8 _ sw8 we8 wn8
  have we8 : SqT K Hw8 wt ((ws ++ List.replicate (n - fw) 0).map V.int) := by rw [List.map_append, List.map_replicate]; exact we8
  have wb : ∀ z : Int, z ∈ ws ++ List.replicate (n - fw) 0 → 0 ≤ z ∧ z < xs.length := fun z hz => by
    rcases List.mem_append.mp hz with q | q
    · exact rw z q
    · rw [List.eq_of_mem_replicate q]; omega
  have wl : (ws ++ List.replicate (n - fw) (0 : Int)).length = n := by rw [List.length_append, List.length_replicate]; omega
  have ws48 := ((sw5.trans sw6).trans sw7).trans sw8
  have wg := aw.go.trans ws48.go
  have whh := hhw4.same ws48
  w_fin
  intro bp hwpb
  obtain ⟨nwhb, nwdb⟩ := hand_out whh hwpb
  refine itr_walk (lo := 0) (n := ((fw : Nat) : Int).toNat) (fun i H' => ∃ (m : Nat) (ws : List Int), GI (· = h) Hw8 bp ws H' ∧ Hand H' h d ds m ∧ ws.length = i ∧ ∀ z ∈ ws, 0 ≤ z ∧ z < ys.length) ⟨_, [], GI.start hwpb, whh.new hwpb _, rfl, fun c hc => by cases hc⟩ ?_ ?_
  · rintro i H4 hi ⟨m4, ws, aw, hh4, lw, rw4⟩
    have hT4 := ((g2.trans wg).trans aw.go).seqT hT
    have hwa4 := ((g2.trans wg).trans aw.go).seqT hba
    w_fin
    refine ⟨ba, ys, rfl, .inr hwa4, ?_⟩
    w_fin
    refine ⟨h, d, ds, m4, ys.length, rfl, hh4, by omega, by omega, fun x H5 x0 x1 hh5 g5 => ?_⟩
    obtain ⟨e, f, a⟩ := (aw.step nwhb g5).push x (by omega)
    refine ⟨_, e, f, _, _, a, hh5.off nwhb nwdb _, by rw [List.length_append, lw]; rfl, fun z hz => ?_⟩
    rcases List.mem_append.mp hz with q | q
    · exact rw4 z q
    · rw [List.mem_singleton.mp q]
      exact ⟨x0, x1⟩
  rintro Hb4 ⟨mb, bs, ab, hhb4, lb, rb⟩
  have lb : bs.length = fw := by omega
  have eb := ab.ex
  w_fin
  intro bz Hb5 _ sb5 be5
  w_fin
  refine ⟨bz, _, _, rfl, rfl, be5, by omega, by omega, by simp only [List.length_cons, List.length_nil]; omega, fun bm Hb6 _ sb6 be6 => ?_⟩
  rw [rep_flat, show ((n : Int) - (fw : Int)).toNat = n - fw by omega] at be6
  w_fin
  refine st_rCat (sb6 _ _ (sb5 _ _ eb)) be6 (by rw [List.length_map, List.length_replicate]; omega) fun bq Hb7 _ sb7 be7 => ?_
  w_fin
  intro bt Hb8 _ sb8 be8 bn8
  have be8 : SqT K Hb8 bt ((bs ++ List.replicate (n - fw) 0).map V.int) := by rw [List.map_append, List.map_replicate]; exact be8
  have bb : ∀ z : Int, z ∈ bs ++ List.replicate (n - fw) 0 → 0 ≤ z ∧ z < ys.length := fun z hz => by
    rcases List.mem_append.mp hz with q | q
    · exact rb z q
    · rw [List.eq_of_mem_replicate q]; omega
  have bl : (bs ++ List.replicate (n - fw) (0 : Int)).length = n := by rw [List.length_append, List.length_replicate]; omega
  have bs48 := ((sb5.trans sb6).trans sb7).trans sb8
  have bg := ab.go.trans bs48.go
  have bhh := hhb4.same bs48
  w_fin
  intro np H9 _ s9 hnp
  have N : Net n cs (ws ++ List.replicate (n - fw) 0) (bs ++ List.replicate (n - fw) 0) := ⟨n1, n2, C, by omega, wl, bl, fun z hz => by have := wb z hz; omega, fun z hz => by have := bb z hz; omega⟩
  have t28 := wg.tups.trans bg.tups
  refine k np H9 _ cs _ _ (bhh.same s9) (((g2.trans wg).trans bg).trans s9.go) ⟨lt, wt, bt, lxs, SqT.of hnp, s9.seqT (t28.seq hlt), hls2.imp fun _ _ z => (SqN.stay t28 z).stay s9.tups, ?_, ⟨s9.seqT be8, bn8.stay s9.tups⟩⟩ N len wb bb
  exact ⟨s9.seqT (bg.seqT we8), (wn8.stay bg.tups).stay s9.tups⟩
end
/-- parts that are small -/
def Smalls (ds : List PyData) : Prop := ∀ d ∈ ds, Sized 5 1 d
theorem smalls_ints {r : List Int} (b : ∀ z ∈ r, 0 ≤ z ∧ z < 1000) : Smalls (r.map PyData.int) := fun d hd => by
  obtain ⟨z, hz, rfl⟩ := List.mem_map.mp hd
  have := b z hz
  exact (small_int z (by omega) (by omega)).more (by omega) (by omega)
theorem Smalls.app {a b : List PyData} (h : Smalls a) (k : Smalls b) : Smalls (a ++ b) := fun d hd => by
  rcases List.mem_append.mp hd with q | q
  · exact h d q
  · exact k d q
theorem Smalls.take {a : List PyData} (h : Smalls a) (n : Nat) : Smalls (a.take n) := fun d hd => h d (List.mem_of_mem_take hd)
theorem Smalls.drop {a : List PyData} (h : Smalls a) (n : Nat) : Smalls (a.drop n) := fun d hd => h d (List.mem_of_mem_drop hd)
theorem Smalls.one {d : PyData} (h : Sized 5 1 d) : Smalls [d] := fun x hx => by rw [List.mem_singleton.mp hx]; exact h
theorem Smalls.tup {a : List PyData} (h : Smalls a) (l : a.length ≤ 415) : Sized 2500 2 (.tuple a) := (sized_tup h).more (by omega) (by omega)
theorem Smalls.lst {a : List PyData} (h : Smalls a) (l : a.length ≤ 415) : Sized 2500 2 (.list a) := (sized_lst h).more (by omega) (by omega)
theorem cut_butlast {xs : List V} (h : 1 ≤ xs.length) : cutV xs none (some (-1)) = xs.take (xs.length - 1) := by
  have ne : xs ≠ [] := fun z => by rw [z] at h; simp at h
  have q := List.dropLast_concat_getLast ne
  have e := cut_last xs.dropLast (xs.getLast ne)
  rw [q] at e
  rw [e, List.dropLast_eq_take]
section
variable {P : Program} {w : World} {K : PySem.W.Frag} {mg : Str → Option Value} {base : Heap}
theorem sized_bl (b : Bool) : Sized 5 1 (.bool b) := ⟨by simp only [PyData.leavesShort], by simp only [PyData.showable], by simp only [PyData.depth]; omega, by simp only [PyData.bulk]; omega⟩
theorem first_at : ∀ {c : List Int} {b : Int}, b ∈ c → ∃ j, j < c.length ∧ c[j]? = some b ∧ ∀ (m : Nat) (z : Int), m < j → c[m]? = some z → z ≠ b
  | x :: c, b, h => by
    by_cases q : x = b
    · exact ⟨0, by simp, by rw [q]; rfl, fun m z hm => absurd hm (Nat.not_lt_zero m)⟩
    · obtain ⟨j, hj, e, f⟩ := first_at (c := c) (b := b) (by
        rcases List.mem_cons.mp h with r | r
        · exact absurd r.symm q
        · exact r)
      refine ⟨j + 1, by simpa using hj, e, fun m z hm hz => ?_⟩
      cases m with
      | zero =>
        rw [← Option.some.inj hz]
        exact q
      | succ m => exact f m z (by omega) hz
theorem index_in {H : Hp} {l : Addr} {c : List Int} {b : Int} {Q : VK} (hb : b ∈ c) (hl : SqT K H l (c.map V.int)) (q : ∀ j : Nat, j < c.length → Q (.int (j : Nat)) H) : rIndexT K (.ref l) [.int b] H Q := by
  obtain ⟨j, hj, e, f⟩ := first_at hb
  refine ⟨l, _, .int b, j, .int b, rfl, rfl, hl, rfl, flat_ints _, by rw [List.getElem?_map, e]; rfl, ?_, fun m z' hm hz => ?_, q j hj⟩
  · show decide (b = b) = true
    exact decide_eq_true rfl
  · rw [List.getElem?_map, Option.map_eq_some_iff] at hz
    obtain ⟨z, hz, rfl⟩ := hz
    show decide (z = b) = false
    exact decide_eq_false (f m z hm hz)
theorem pick_sized {M : Addr → Prop} {H : Hp} {vs : List V} {es : List PyData} {m n : Nat} {i : Int} (a : DnAll M K H vs es) (z : ∀ e ∈ es, Sized m n e) (h0 : 0 ≤ i) (h1 : i < es.length) : ∃ y e, atI vs i = some y ∧ Dn M K H y e ∧ Sized m n e := by
  obtain ⟨y, e, h1, h2, h3⟩ := a.pick (by omega) h1
  exact ⟨y, e, h1, h3, z e h2⟩
def spRowN (K : PySem.W.Frag) : Sp := fun vs H Q _ => ∃ (h d a : Addr) (ds : List Int) (i : Nat) (r : List Int) (bound : Int), vs = [.ref h, .ref a, .int bound] ∧ Hand H h d ds i ∧ SqN K H a (r.map V.int) ∧ 1 ≤ r.length ∧ r.length ≤ 410 ∧ (∀ z ∈ r, 0 ≤ z ∧ z < 1000) ∧ 0 ≤ bound ∧ bound ≤ 1000 ∧
  ∀ (v : V) (H' : Hp) (i' : Nat) (e : PyData), Hand H' h d ds i' → Go (· = h) H H' → Dn (· = h) K H' v e → Sized 2500 2 e → Q v H'
set_option maxHeartbeats 2000000 in
theorem ok_rown {f : Addr} {fd : FuncData} (B : Blt mg) (g_law_take : Has P w K mg base CX0 1 "_law_take" ["hand", "many"] (spTakeN K)) (F : Fun K "_law_row_changed" "_law_row_changed" s_law_row_changed f fd) : FnOk P w K mg base CX0 2 f fd ["hand", "row", "bound"] (spRowN K) := by
  have sc : FnScope ["hand", "row", "bound", "shape", "at", "other", "value"] ["hand", "row", "bound"] (defScope s_law_row_changed) := ⟨rfl, rfl, rfl, by decide +kernel, rfl, by decide +kernel, by decide +kernel⟩
  refine F.ok sc (fun vs H Q E h => ?_) (fun cdv A outer s H vs Q E hr h => ?_)
  · obtain ⟨_, _, _, _, _, _, _, rfl, _⟩ := h
    rfl
  obtain ⟨h, d, a, ds, i0, r, bound, rfl, hh, hR, r1, r2, rb, b0, b1, k⟩ := h
  refine ⟨_, (pss_cons (ps_set (i := 3) sc.nd rfl (Or.inl rfl) (pc g_law_take hr (pa_cons (pv 0) (pa_cons pe_int pa_nil))))
    (pss_cons (ps_set (i := 4) sc.nd rfl (Or.inl rfl) (pc g_law_take hr (pa_cons (pv 0) (pa_cons (pe_callB call_len_seq (by rfl) B.len (by decide +kernel) (pa_cons (pv 1) pa_nil)) pa_nil))))
    (pss_cons (ps_if (pt_cmpR op_eqi (pv 3) pe_int (nomark _))
      (pss_one (ps_ret (pe_ix ix_list (pe_lstN (pa_cons (pe_callTy (show CallR _ _ (rListN K) from call_listN) (by rfl) B.list (by decide +kernel) (pa_cons (pv 1) pa_nil)) (pa_cons (pe_slice (show SlR _ (LG.rCut K) from sl_cut) (pv 1) po_none (po_some (pe_un un_neg pe_int))) (pa_cons (pe_op op_plus (pv 1) (pe_tupN (pa_cons pe_int pa_nil))) (pa_cons (pe_tupN pa_nil) (pa_cons pe_non (pa_cons pe_int (pa_cons pe_str pa_nil)))))))) (pc g_law_take hr (pa_cons (pv 0) (pa_cons pe_int pa_nil))) (fun _ _ => rfl))))
      pss_nil)
    (pss_cons (ps_if (pt_cmpR op_eqi (pv 3) pe_int (nomark _))
      (pss_one (ps_ret (pe_callTy (show CallR _ _ (rTupN K) from call_tupN) (by rfl) B.tuple (by decide +kernel) (pa_cons (pe_lc (own := [("value", 6)]) (g := gName 6) (tt := tYes) rfl sc.nd (pi_tup (pv 1)) (blkOk_by (N := ["hand", "row", "bound", "shape", "at", "other", "value"]) (sc := defScope s_law_row_changed) (by decide +kernel)) (fun _ _ _ _ _ => pg_name (i := 6) sc.nd rfl (Or.inl rfl)) (fun _ _ _ _ _ => pts_nil) (fun _ _ _ _ _ => (pe_ifExp (pt_cmpR op_lt (pv 6) pe_int (nomark _)) (pe_cmpR op_eqi (pv 6) pe_int (nomark _)) (pv 6)))) pa_nil))))
      pss_nil)
    (pss_cons (ps_if (PW.pt (pw_and (pt_cmpR op_eqi (pv 3) pe_int (nomark _)) (pw_and1 (pt_cmpR op_in_seq pe_int (pv 1) (by with_unfolding_all rfl)))))
      (pss_cons (ps_set (i := 4) sc.nd rfl (Or.inl rfl) (pe_bmN PySem.F.slot_tuple_index PySem.F.type_tuple_index mt_indexT (pv 1) (pa_cons pe_int pa_nil)))
      (pss_one (ps_ret (pe_op op_plus (pe_op op_plus (pe_slice (show SlR _ (LG.rCut K) from sl_cut) (pv 1) po_none (po_some (pv 4))) (pe_tupN (pa_cons pe_bl pa_nil))) (pe_slice (show SlR _ (LG.rCut K) from sl_cut) (pv 1) (po_some (pe_op op_add (pv 4) pe_int)) po_none)))))
      pss_nil)
    (pss_cons (ps_if (PW.pt (pw_and (pt_cmpR op_eqi (pv 3) pe_int (nomark _)) (pw_and1 (pt_cmpR op_in_seq pe_int (pv 1) (by with_unfolding_all rfl)))))
      (pss_cons (ps_set (i := 4) sc.nd rfl (Or.inl rfl) (pe_bmN PySem.F.slot_tuple_index PySem.F.type_tuple_index mt_indexT (pv 1) (pa_cons pe_int pa_nil)))
      (pss_one (ps_ret (pe_op op_plus (pe_op op_plus (pe_slice (show SlR _ (LG.rCut K) from sl_cut) (pv 1) po_none (po_some (pv 4))) (pe_tupN (pa_cons pe_bl pa_nil))) (pe_slice (show SlR _ (LG.rCut K) from sl_cut) (pv 1) (po_some (pe_op op_add (pv 4) pe_int)) po_none)))))
      pss_nil)
    (pss_cons (ps_set (i := 5) sc.nd rfl (Or.inl rfl) (pe_ix ix_list (pe_lstN (pa_cons (pv 2) (pa_cons (pe_un un_neg pe_int) (pa_cons pe_non (pa_cons pe_str (pa_cons (pe_tupN (pa_cons pe_int pa_nil)) (pa_cons (pe_op op_sub (pv 2) pe_int) (pa_cons (pe_ix ix_tup (pv 1) (pe_op op_sub (pv 4) pe_int) (fun _ _ => rfl)) (pa_cons (pe_op op_add (pv 2) pe_int) pa_nil))))))))) (pc g_law_take hr (pa_cons (pv 0) (pa_cons pe_int pa_nil))) (fun _ _ => rfl)))
    (pss_one (ps_ret (pe_op op_plus (pe_op op_plus (pe_slice (show SlR _ (LG.rCut K) from sl_cut) (pv 1) po_none (po_some (pv 4))) (pe_tupN (pa_cons (pv 5) pa_nil))) (pe_slice (show SlR _ (LG.rCut K) from sl_cut) (pv 1) (po_some (pe_op op_add (pv 4) pe_int)) po_none))))))))))), ?_⟩
  try dsimp only [cxOf]
  have sm := smalls_ints rb
  have lm : (r.map PyData.int).length = r.length := List.length_map _
  have lv : (r.map V.int).length = r.length := List.length_map _
  have fl : ((r.map V.int).all flatV) = true := flat_ints r
  w_fin
  refine ⟨h, d, ds, i0, 8, rfl, hh, by omega, by omega, fun sh H1 sh0 sh1 hh1 g1 => ?_⟩
  have hR1 := g1.seqT hR.1
  w_fin
  rw [lv]
  refine ⟨h, d, ds, _, r.length, rfl, hh1, by omega, by omega, fun at_ H2 at0 at1 hh2 g2 => ?_⟩
  have g02 := g1.trans g2
  have hR2 := g02.seqT hR.1
  w_fin
  refine st_two (fun c0 => ?_) (fun c0 => ?_)
  · w_fin
    intro p1 H3 f3 s3 e3
    have hR3 := s3.seqT hR2
    w_fin
    intro p2 H4 s4 e4
    have hR4 := s4.seqT hR3
    w_fin
    intro p3 H5 _ s5 e5
    w_fin
    refine st_rPlus (s5.seqT hR4) (SqT.of e5) (by rw [lv]; simp only [List.length_cons, List.length_nil]; omega) fun p4 H6 s6 e6 => ?_
    w_fin
    intro p5 H7 _ s7 e7
    w_fin
    intro lp H8 f8 s8 e8
    w_fin
    have s38 := ((((s4.trans s5).trans s6).trans s7).trans s8)
    have hh8 := (hh2.same s3).same s38
    refine ⟨h, d, ds, _, 7, rfl, hh8, by omega, by omega, fun r5 H9 r50 r51 hh9 g9 => ?_⟩
    have n1 := (hand_out hh2 f3).1
    have nl := (hand_out (((((hh2.same s3).same s4).same s5).same s6).same s7) f8).1
    rw [cut_butlast (by rw [lv]; exact r1), lv] at e4
    have all : DnAll (· = h) K H8 [.ref p1, .ref p2, .ref p4, .ref p5, .non, .int 0, .str "0"] [.list (r.map PyData.int), .tuple ((r.map PyData.int).take (r.length - 1)), .tuple (r.map PyData.int ++ [.int 0]), .tuple [], .none, .int 0, .str "0"] :=
      .cons (.lst n1 (s38 _ _ e3) (DtAll.ints r).dn) (.cons (.tup ((((s5.trans s6).trans s7).trans s8).seqT e4) ((DtAll.ints r).dn.take _)) (.cons (.tup ((s7.trans s8).seqT e6) ((DtAll.ints r).dn.app (.cons (.int 0) .nil))) (.cons (.tup (s8.seqT (SqT.of e7)) .nil) (.cons .non (.cons (.int 0) (.cons (.str "0") .nil))))))
    have si0 : Sized 5 1 (.int 0) := (small_int 0 (by decide) (by decide)).more (by decide) (by decide)
    obtain ⟨y, e, hat, hy, hz⟩ := pick_sized (m := 2500) (n := 2) (all.stay g9) (fun e he => by
      simp only [List.mem_cons, List.not_mem_nil, or_false] at he
      rcases he with rfl | rfl | rfl | rfl | rfl | rfl | rfl
      · exact sm.lst (by omega)
      · exact (sm.take _).tup (by rw [List.length_take]; omega)
      · exact (sm.app (.one si0)).tup (by rw [List.length_append, lm]; simp only [List.length_cons, List.length_nil]; omega)
      · exact sized_tup0.more (by decide) (by decide)
      · exact sized_non.more (by decide) (by decide)
      · exact si0.more (by decide) (by decide)
      · exact (sized_str "0" (by decide +kernel) 4 (by decide +kernel)).more (by decide) (by decide)) r50 r51
    refine st_ixL (SqL.of (g9.out _ _ nl e8)) hat ?_
    exact k y H9 _ e hh9 ((g02.trans (s3.trans s38).go).trans g9) hy hz
  w_fin
  refine st_two (fun c1 => ?_) (fun c1 => ?_)
  · w_fin
    intro p hp
    refine itt_walk (xs := r.map V.int) (fun i H' => Same H2 H' ∧ ∃ (vs : List V) (es : List PyData), H' p = some (.lst vs) ∧ DtAll K H' vs es ∧ vs.length = i ∧ Smalls es) ⟨same_new hp _, [], [], upd_same, .nil, rfl, fun d hd => by cases hd⟩ (fun i H' _ z => z.1.seqT hR2) ?_ ?_
    · rintro i y H3 hi ⟨s3, vs, es, e3, da, lvs, se⟩
      rw [List.getElem?_map, Option.map_eq_some_iff] at hi
      obtain ⟨z, hz, rfl⟩ := hi
      have il : i < r.length := (List.getElem?_eq_some_iff.mp hz).1
      have zb := rb z (List.mem_of_getElem? hz)
      have fin : ∀ (v : V) (e : PyData), Dt K H3 v e → Sized 5 1 e → ∃ xs, H3 p = some (.lst xs) ∧ xs.length < sizeLine ∧ (Same H2 (upd H3 p (.lst (xs ++ [v]))) ∧ ∃ (vs : List V) (es : List PyData), (upd H3 p (.lst (xs ++ [v]))) p = some (.lst vs) ∧ DtAll K (upd H3 p (.lst (xs ++ [v]))) vs es ∧ vs.length = i + 1 ∧ Smalls es) := fun v e hv hs =>
        have t := (Go.put (M := (· = p)) (ys := vs ++ [v]) rfl e3).tups
        ⟨vs, e3, lt_small (by omega), same_own s3 hp _, vs ++ [v], es ++ [e], upd_same, (da.stay t).app (.cons (hv.stay t) .nil), by rw [List.length_append, lvs]; rfl, se.app (.one hs)⟩
      w_fin
      refine st_two (fun c2 => ?_) (fun c2 => ?_)
      · w_fin
        exact fin _ _ (.bl _) ⟨by simp only [PyData.leavesShort], by simp only [PyData.showable], by simp only [PyData.depth]; omega, by simp only [PyData.bulk]; omega⟩
      · w_fin
        exact fin _ _ (.int z) ((small_int z (by omega) (by omega)).more (by decide) (by decide))
    · rintro H3 ⟨s3, vs, es, e3, da, lvs, se⟩
      rw [lv] at lvs
      w_fin
      intro tp H4 _ s4 e4
      exact k _ H4 _ (.tuple es) ((hh2.same s3).same s4) (g02.trans (s3.trans s4).go) (.tup (SqT.of e4) (da.stay s4.tups).dn) (se.tup (by rw [← da.len]; omega))
  have hnd2 := hR.2.stay g02.tups
  w_fin
  refine st_two (fun c2 => ?_) (fun c2 => ?_)
  · w_fin
    refine ⟨a, _, rfl, .inr hR2, rfl, fl, ?_⟩
    rw [inV_int]
    w_fin
    refine st_two (fun m1 => ?_) (fun m1 => ?_)
    · w_fin
      refine ⟨⟨a, rfl, hnd2⟩, ?_⟩
      w_fin
      refine index_in m1 hR2 fun j hj => ?_
      have hhc := hh2
      have gc := g02
      have hRc := hR2
      have hx : Dn (· = h) K H2 (.bl true) (.bool true) := .bl _
      have sx := sized_bl true
      generalize PyData.bool true = dx at hx sx
      w_fin
      intro q1 H13 s13 e13
      rw [cut_to] at e13
      w_fin
      intro q2 H14 _ s14 e14
      w_fin
      refine st_rPlus (s14.seqT e13) (SqT.of e14) (by rw [List.length_take, lv]; simp only [List.length_cons, List.length_nil]; omega) fun q3 H15 s15 e15 => ?_
      have hR15 := ((s13.trans s14).trans s15).seqT hRc
      w_fin
      intro q4 H16 s16 e16
      rw [show (j : Int) + 1 = ((j + 1 : Nat) : Int) by omega, cut_from] at e16
      w_fin
      refine st_rPlus (s16.seqT e15) e16 (by simp only [List.length_append, List.length_take, List.length_drop, lv, List.length_cons, List.length_nil]; omega) fun q5 H17 s17 e17 => ?_
      have sc := (((s13.trans s14).trans s15).trans s16).trans s17
      exact k _ H17 _ (.tuple (((r.map PyData.int).take j ++ [dx]) ++ (r.map PyData.int).drop (j + 1))) (hhc.same sc) (gc.trans sc.go) (.tup e17 ((((DtAll.ints r).dn.take j).app (.cons (hx.stay sc.go) .nil)).app ((DtAll.ints r).dn.drop (j + 1)))) ((((sm.take j).app (.one sx)).app (sm.drop _)).tup (by simp only [List.length_append, List.length_take, List.length_drop, lm, List.length_cons, List.length_nil]; omega))
    · w_fin
      w_fin
      refine st_two (fun c3 => ?_) (fun c3 => ?_)
      · w_fin
        refine ⟨a, _, rfl, .inr hR2, rfl, fl, ?_⟩
        rw [inV_int]
        w_fin
        refine st_two (fun m1 => ?_) (fun m1 => ?_)
        · w_fin
          refine ⟨⟨a, rfl, hnd2⟩, ?_⟩
          w_fin
          refine index_in m1 hR2 fun j hj => ?_
          have hhc := hh2
          have gc := g02
          have hRc := hR2
          have hx : Dn (· = h) K H2 (.bl false) (.bool false) := .bl _
          have sx := sized_bl false
          generalize PyData.bool false = dx at hx sx
          w_fin
          intro q1 H13 s13 e13
          rw [cut_to] at e13
          w_fin
          intro q2 H14 _ s14 e14
          w_fin
          refine st_rPlus (s14.seqT e13) (SqT.of e14) (by rw [List.length_take, lv]; simp only [List.length_cons, List.length_nil]; omega) fun q3 H15 s15 e15 => ?_
          have hR15 := ((s13.trans s14).trans s15).seqT hRc
          w_fin
          intro q4 H16 s16 e16
          rw [show (j : Int) + 1 = ((j + 1 : Nat) : Int) by omega, cut_from] at e16
          w_fin
          refine st_rPlus (s16.seqT e15) e16 (by simp only [List.length_append, List.length_take, List.length_drop, lv, List.length_cons, List.length_nil]; omega) fun q5 H17 s17 e17 => ?_
          have sc := (((s13.trans s14).trans s15).trans s16).trans s17
          exact k _ H17 _ (.tuple (((r.map PyData.int).take j ++ [dx]) ++ (r.map PyData.int).drop (j + 1))) (hhc.same sc) (gc.trans sc.go) (.tup e17 ((((DtAll.ints r).dn.take j).app (.cons (hx.stay sc.go) .nil)).app ((DtAll.ints r).dn.drop (j + 1)))) ((((sm.take j).app (.one sx)).app (sm.drop _)).tup (by simp only [List.length_append, List.length_take, List.length_drop, lm, List.length_cons, List.length_nil]; omega))
        · w_fin
          w_fin
          intro t1 H3 _ s3 e3
          have hR3 := s3.seqT hR2
          obtain ⟨y, hat, yb⟩ : ∃ y : Int, atI (r.map V.int) (at_ - 1) = some (.int y) ∧ 0 ≤ y ∧ y < 1000 := by
            obtain ⟨v, e, q1, q2, q3⟩ := (DtAll.ints r (K := K) (H := H3)).pick (i := at_ - 1) (by rw [lm]; omega) (by rw [lm]; omega)
            obtain ⟨z, hz, rfl⟩ := List.mem_map.mp q2
            cases q3
            exact ⟨z, q1, rb z hz⟩
          w_fin
          refine st_ixT hR3 hat ?_
          w_fin
          intro lp H4 f4 s4 e4
          w_fin
          have hh4 := (hh2.same s3).same s4
          refine ⟨h, d, ds, _, 8, rfl, hh4, by omega, by omega, fun r5 H9 r50 r51 hhc g9 => ?_⟩
          have nl := (hand_out (hh2.same s3) f4).1
          have all : DnAll (· = h) K H4 [.int bound, .int (-1), .non, .str "0", .ref t1, .int (bound - 1), .int y, .int (bound + 400)] [.int bound, .int (-1), .none, .str "0", .tuple [.int 0], .int (bound - 1), .int y, .int (bound + 400)] :=
            .cons (.int _) (.cons (.int _) (.cons .non (.cons (.str "0") (.cons (.tup (s4.seqT (SqT.of e3)) (.cons (.int 0) .nil)) (.cons (.int _) (.cons (.int _) (.cons (.int _) .nil)))))))
          have sI : ∀ i : Int, -2000 ≤ i → i ≤ 2000 → Sized 5 1 (.int i) := fun i a b => (sized_int (Nat.lt_of_lt_of_le (show i.natAbs < 4000 by omega) (by decide))).more (by decide) (by decide)
          obtain ⟨x, dx, hatx, hx, sx⟩ := pick_sized (m := 5) (n := 1) (all.stay g9) (fun e he => by
            simp only [List.mem_cons, List.not_mem_nil, or_false] at he
            rcases he with rfl | rfl | rfl | rfl | rfl | rfl | rfl | rfl
            · exact sI _ (by omega) (by omega)
            · exact sI _ (by omega) (by omega)
            · exact sized_non.more (by decide) (by decide)
            · exact (sized_str "0" (by decide +kernel) 4 (by decide +kernel)).more (by decide) (by decide)
            · exact (sized_one (small_int 0 (by decide) (by decide))).more (by decide) (by decide)
            · exact sI _ (by omega) (by omega)
            · exact sI _ (by omega) (by omega)
            · exact sI _ (by omega) (by omega)) r50 r51
          refine st_ixL (SqL.of (g9.out _ _ nl e4)) hatx ?_
          have gc := (g02.trans (s3.trans s4).go).trans g9
          have hRc := gc.seqT hR.1
          obtain ⟨j, rfl⟩ : ∃ j : Nat, at_ = j := ⟨at_.toNat, by omega⟩
          have hj : j < r.length := by omega
          w_fin
          intro q1 H13 s13 e13
          rw [cut_to] at e13
          w_fin
          intro q2 H14 _ s14 e14
          w_fin
          refine st_rPlus (s14.seqT e13) (SqT.of e14) (by rw [List.length_take, lv]; simp only [List.length_cons, List.length_nil]; omega) fun q3 H15 s15 e15 => ?_
          have hR15 := ((s13.trans s14).trans s15).seqT hRc
          w_fin
          intro q4 H16 s16 e16
          rw [show (j : Int) + 1 = ((j + 1 : Nat) : Int) by omega, cut_from] at e16
          w_fin
          refine st_rPlus (s16.seqT e15) e16 (by simp only [List.length_append, List.length_take, List.length_drop, lv, List.length_cons, List.length_nil]; omega) fun q5 H17 s17 e17 => ?_
          have sc := (((s13.trans s14).trans s15).trans s16).trans s17
          exact k _ H17 _ (.tuple (((r.map PyData.int).take j ++ [dx]) ++ (r.map PyData.int).drop (j + 1))) (hhc.same sc) (gc.trans sc.go) (.tup e17 ((((DtAll.ints r).dn.take j).app (.cons (hx.stay sc.go) .nil)).app ((DtAll.ints r).dn.drop (j + 1)))) ((((sm.take j).app (.one sx)).app (sm.drop _)).tup (by simp only [List.length_append, List.length_take, List.length_drop, lm, List.length_cons, List.length_nil]; omega))
      w_fin
      w_fin
      intro t1 H3 _ s3 e3
      have hR3 := s3.seqT hR2
      obtain ⟨y, hat, yb⟩ : ∃ y : Int, atI (r.map V.int) (at_ - 1) = some (.int y) ∧ 0 ≤ y ∧ y < 1000 := by
        obtain ⟨v, e, q1, q2, q3⟩ := (DtAll.ints r (K := K) (H := H3)).pick (i := at_ - 1) (by rw [lm]; omega) (by rw [lm]; omega)
        obtain ⟨z, hz, rfl⟩ := List.mem_map.mp q2
        cases q3
        exact ⟨z, q1, rb z hz⟩
      w_fin
      refine st_ixT hR3 hat ?_
      w_fin
      intro lp H4 f4 s4 e4
      w_fin
      have hh4 := (hh2.same s3).same s4
      refine ⟨h, d, ds, _, 8, rfl, hh4, by omega, by omega, fun r5 H9 r50 r51 hhc g9 => ?_⟩
      have nl := (hand_out (hh2.same s3) f4).1
      have all : DnAll (· = h) K H4 [.int bound, .int (-1), .non, .str "0", .ref t1, .int (bound - 1), .int y, .int (bound + 400)] [.int bound, .int (-1), .none, .str "0", .tuple [.int 0], .int (bound - 1), .int y, .int (bound + 400)] :=
        .cons (.int _) (.cons (.int _) (.cons .non (.cons (.str "0") (.cons (.tup (s4.seqT (SqT.of e3)) (.cons (.int 0) .nil)) (.cons (.int _) (.cons (.int _) (.cons (.int _) .nil)))))))
      have sI : ∀ i : Int, -2000 ≤ i → i ≤ 2000 → Sized 5 1 (.int i) := fun i a b => (sized_int (Nat.lt_of_lt_of_le (show i.natAbs < 4000 by omega) (by decide))).more (by decide) (by decide)
      obtain ⟨x, dx, hatx, hx, sx⟩ := pick_sized (m := 5) (n := 1) (all.stay g9) (fun e he => by
        simp only [List.mem_cons, List.not_mem_nil, or_false] at he
        rcases he with rfl | rfl | rfl | rfl | rfl | rfl | rfl | rfl
        · exact sI _ (by omega) (by omega)
        · exact sI _ (by omega) (by omega)
        · exact sized_non.more (by decide) (by decide)
        · exact (sized_str "0" (by decide +kernel) 4 (by decide +kernel)).more (by decide) (by decide)
        · exact (sized_one (small_int 0 (by decide) (by decide))).more (by decide) (by decide)
        · exact sI _ (by omega) (by omega)
        · exact sI _ (by omega) (by omega)
        · exact sI _ (by omega) (by omega)) r50 r51
      refine st_ixL (SqL.of (g9.out _ _ nl e4)) hatx ?_
      have gc := (g02.trans (s3.trans s4).go).trans g9
      have hRc := gc.seqT hR.1
      obtain ⟨j, rfl⟩ : ∃ j : Nat, at_ = j := ⟨at_.toNat, by omega⟩
      have hj : j < r.length := by omega
      w_fin
      intro q1 H13 s13 e13
      rw [cut_to] at e13
      w_fin
      intro q2 H14 _ s14 e14
      w_fin
      refine st_rPlus (s14.seqT e13) (SqT.of e14) (by rw [List.length_take, lv]; simp only [List.length_cons, List.length_nil]; omega) fun q3 H15 s15 e15 => ?_
      have hR15 := ((s13.trans s14).trans s15).seqT hRc
      w_fin
      intro q4 H16 s16 e16
      rw [show (j : Int) + 1 = ((j + 1 : Nat) : Int) by omega, cut_from] at e16
      w_fin
      refine st_rPlus (s16.seqT e15) e16 (by simp only [List.length_append, List.length_take, List.length_drop, lv, List.length_cons, List.length_nil]; omega) fun q5 H17 s17 e17 => ?_
      have sc := (((s13.trans s14).trans s15).trans s16).trans s17
      exact k _ H17 _ (.tuple (((r.map PyData.int).take j ++ [dx]) ++ (r.map PyData.int).drop (j + 1))) (hhc.same sc) (gc.trans sc.go) (.tup e17 ((((DtAll.ints r).dn.take j).app (.cons (hx.stay sc.go) .nil)).app ((DtAll.ints r).dn.drop (j + 1)))) ((((sm.take j).app (.one sx)).app (sm.drop _)).tup (by simp only [List.length_append, List.length_take, List.length_drop, lm, List.length_cons, List.length_nil]; omega))
  w_fin
  w_fin
  refine st_two (fun c3 => ?_) (fun c3 => ?_)
  · w_fin
    refine ⟨a, _, rfl, .inr hR2, rfl, fl, ?_⟩
    rw [inV_int]
    w_fin
    refine st_two (fun m1 => ?_) (fun m1 => ?_)
    · w_fin
      refine ⟨⟨a, rfl, hnd2⟩, ?_⟩
      w_fin
      refine index_in m1 hR2 fun j hj => ?_
      have hhc := hh2
      have gc := g02
      have hRc := hR2
      have hx : Dn (· = h) K H2 (.bl false) (.bool false) := .bl _
      have sx := sized_bl false
      generalize PyData.bool false = dx at hx sx
      w_fin
      intro q1 H13 s13 e13
      rw [cut_to] at e13
      w_fin
      intro q2 H14 _ s14 e14
      w_fin
      refine st_rPlus (s14.seqT e13) (SqT.of e14) (by rw [List.length_take, lv]; simp only [List.length_cons, List.length_nil]; omega) fun q3 H15 s15 e15 => ?_
      have hR15 := ((s13.trans s14).trans s15).seqT hRc
      w_fin
      intro q4 H16 s16 e16
      rw [show (j : Int) + 1 = ((j + 1 : Nat) : Int) by omega, cut_from] at e16
      w_fin
      refine st_rPlus (s16.seqT e15) e16 (by simp only [List.length_append, List.length_take, List.length_drop, lv, List.length_cons, List.length_nil]; omega) fun q5 H17 s17 e17 => ?_
      have sc := (((s13.trans s14).trans s15).trans s16).trans s17
      exact k _ H17 _ (.tuple (((r.map PyData.int).take j ++ [dx]) ++ (r.map PyData.int).drop (j + 1))) (hhc.same sc) (gc.trans sc.go) (.tup e17 ((((DtAll.ints r).dn.take j).app (.cons (hx.stay sc.go) .nil)).app ((DtAll.ints r).dn.drop (j + 1)))) ((((sm.take j).app (.one sx)).app (sm.drop _)).tup (by simp only [List.length_append, List.length_take, List.length_drop, lm, List.length_cons, List.length_nil]; omega))
    · w_fin
      w_fin
      intro t1 H3 _ s3 e3
      have hR3 := s3.seqT hR2
      obtain ⟨y, hat, yb⟩ : ∃ y : Int, atI (r.map V.int) (at_ - 1) = some (.int y) ∧ 0 ≤ y ∧ y < 1000 := by
        obtain ⟨v, e, q1, q2, q3⟩ := (DtAll.ints r (K := K) (H := H3)).pick (i := at_ - 1) (by rw [lm]; omega) (by rw [lm]; omega)
        obtain ⟨z, hz, rfl⟩ := List.mem_map.mp q2
        cases q3
        exact ⟨z, q1, rb z hz⟩
      w_fin
      refine st_ixT hR3 hat ?_
      w_fin
      intro lp H4 f4 s4 e4
      w_fin
      have hh4 := (hh2.same s3).same s4
      refine ⟨h, d, ds, _, 8, rfl, hh4, by omega, by omega, fun r5 H9 r50 r51 hhc g9 => ?_⟩
      have nl := (hand_out (hh2.same s3) f4).1
      have all : DnAll (· = h) K H4 [.int bound, .int (-1), .non, .str "0", .ref t1, .int (bound - 1), .int y, .int (bound + 400)] [.int bound, .int (-1), .none, .str "0", .tuple [.int 0], .int (bound - 1), .int y, .int (bound + 400)] :=
        .cons (.int _) (.cons (.int _) (.cons .non (.cons (.str "0") (.cons (.tup (s4.seqT (SqT.of e3)) (.cons (.int 0) .nil)) (.cons (.int _) (.cons (.int _) (.cons (.int _) .nil)))))))
      have sI : ∀ i : Int, -2000 ≤ i → i ≤ 2000 → Sized 5 1 (.int i) := fun i a b => (sized_int (Nat.lt_of_lt_of_le (show i.natAbs < 4000 by omega) (by decide))).more (by decide) (by decide)
      obtain ⟨x, dx, hatx, hx, sx⟩ := pick_sized (m := 5) (n := 1) (all.stay g9) (fun e he => by
        simp only [List.mem_cons, List.not_mem_nil, or_false] at he
        rcases he with rfl | rfl | rfl | rfl | rfl | rfl | rfl | rfl
        · exact sI _ (by omega) (by omega)
        · exact sI _ (by omega) (by omega)
        · exact sized_non.more (by decide) (by decide)
        · exact (sized_str "0" (by decide +kernel) 4 (by decide +kernel)).more (by decide) (by decide)
        · exact (sized_one (small_int 0 (by decide) (by decide))).more (by decide) (by decide)
        · exact sI _ (by omega) (by omega)
        · exact sI _ (by omega) (by omega)
        · exact sI _ (by omega) (by omega)) r50 r51
      refine st_ixL (SqL.of (g9.out _ _ nl e4)) hatx ?_
      have gc := (g02.trans (s3.trans s4).go).trans g9
      have hRc := gc.seqT hR.1
      obtain ⟨j, rfl⟩ : ∃ j : Nat, at_ = j := ⟨at_.toNat, by omega⟩
      have hj : j < r.length := by omega
      w_fin
      intro q1 H13 s13 e13
      rw [cut_to] at e13
      w_fin
      intro q2 H14 _ s14 e14
      w_fin
      refine st_rPlus (s14.seqT e13) (SqT.of e14) (by rw [List.length_take, lv]; simp only [List.length_cons, List.length_nil]; omega) fun q3 H15 s15 e15 => ?_
      have hR15 := ((s13.trans s14).trans s15).seqT hRc
      w_fin
      intro q4 H16 s16 e16
      rw [show (j : Int) + 1 = ((j + 1 : Nat) : Int) by omega, cut_from] at e16
      w_fin
      refine st_rPlus (s16.seqT e15) e16 (by simp only [List.length_append, List.length_take, List.length_drop, lv, List.length_cons, List.length_nil]; omega) fun q5 H17 s17 e17 => ?_
      have sc := (((s13.trans s14).trans s15).trans s16).trans s17
      exact k _ H17 _ (.tuple (((r.map PyData.int).take j ++ [dx]) ++ (r.map PyData.int).drop (j + 1))) (hhc.same sc) (gc.trans sc.go) (.tup e17 ((((DtAll.ints r).dn.take j).app (.cons (hx.stay sc.go) .nil)).app ((DtAll.ints r).dn.drop (j + 1)))) ((((sm.take j).app (.one sx)).app (sm.drop _)).tup (by simp only [List.length_append, List.length_take, List.length_drop, lm, List.length_cons, List.length_nil]; omega))
  w_fin
  w_fin
  intro t1 H3 _ s3 e3
  have hR3 := s3.seqT hR2
  obtain ⟨y, hat, yb⟩ : ∃ y : Int, atI (r.map V.int) (at_ - 1) = some (.int y) ∧ 0 ≤ y ∧ y < 1000 := by
    obtain ⟨v, e, q1, q2, q3⟩ := (DtAll.ints r (K := K) (H := H3)).pick (i := at_ - 1) (by rw [lm]; omega) (by rw [lm]; omega)
    obtain ⟨z, hz, rfl⟩ := List.mem_map.mp q2
    cases q3
    exact ⟨z, q1, rb z hz⟩
  w_fin
  refine st_ixT hR3 hat ?_
  w_fin
  intro lp H4 f4 s4 e4
  w_fin
  have hh4 := (hh2.same s3).same s4
  refine ⟨h, d, ds, _, 8, rfl, hh4, by omega, by omega, fun r5 H9 r50 r51 hhc g9 => ?_⟩
  have nl := (hand_out (hh2.same s3) f4).1
  have all : DnAll (· = h) K H4 [.int bound, .int (-1), .non, .str "0", .ref t1, .int (bound - 1), .int y, .int (bound + 400)] [.int bound, .int (-1), .none, .str "0", .tuple [.int 0], .int (bound - 1), .int y, .int (bound + 400)] :=
    .cons (.int _) (.cons (.int _) (.cons .non (.cons (.str "0") (.cons (.tup (s4.seqT (SqT.of e3)) (.cons (.int 0) .nil)) (.cons (.int _) (.cons (.int _) (.cons (.int _) .nil)))))))
  have sI : ∀ i : Int, -2000 ≤ i → i ≤ 2000 → Sized 5 1 (.int i) := fun i a b => (sized_int (Nat.lt_of_lt_of_le (show i.natAbs < 4000 by omega) (by decide))).more (by decide) (by decide)
  obtain ⟨x, dx, hatx, hx, sx⟩ := pick_sized (m := 5) (n := 1) (all.stay g9) (fun e he => by
    simp only [List.mem_cons, List.not_mem_nil, or_false] at he
    rcases he with rfl | rfl | rfl | rfl | rfl | rfl | rfl | rfl
    · exact sI _ (by omega) (by omega)
    · exact sI _ (by omega) (by omega)
    · exact sized_non.more (by decide) (by decide)
    · exact (sized_str "0" (by decide +kernel) 4 (by decide +kernel)).more (by decide) (by decide)
    · exact (sized_one (small_int 0 (by decide) (by decide))).more (by decide) (by decide)
    · exact sI _ (by omega) (by omega)
    · exact sI _ (by omega) (by omega)
    · exact sI _ (by omega) (by omega)) r50 r51
  refine st_ixL (SqL.of (g9.out _ _ nl e4)) hatx ?_
  have gc := (g02.trans (s3.trans s4).go).trans g9
  have hRc := gc.seqT hR.1
  obtain ⟨j, rfl⟩ : ∃ j : Nat, at_ = j := ⟨at_.toNat, by omega⟩
  have hj : j < r.length := by omega
  w_fin
  intro q1 H13 s13 e13
  rw [cut_to] at e13
  w_fin
  intro q2 H14 _ s14 e14
  w_fin
  refine st_rPlus (s14.seqT e13) (SqT.of e14) (by rw [List.length_take, lv]; simp only [List.length_cons, List.length_nil]; omega) fun q3 H15 s15 e15 => ?_
  have hR15 := ((s13.trans s14).trans s15).seqT hRc
  w_fin
  intro q4 H16 s16 e16
  rw [show (j : Int) + 1 = ((j + 1 : Nat) : Int) by omega, cut_from] at e16
  w_fin
  refine st_rPlus (s16.seqT e15) e16 (by simp only [List.length_append, List.length_take, List.length_drop, lv, List.length_cons, List.length_nil]; omega) fun q5 H17 s17 e17 => ?_
  have sc := (((s13.trans s14).trans s15).trans s16).trans s17
  exact k _ H17 _ (.tuple (((r.map PyData.int).take j ++ [dx]) ++ (r.map PyData.int).drop (j + 1))) (hhc.same sc) (gc.trans sc.go) (.tup e17 ((((DtAll.ints r).dn.take j).app (.cons (hx.stay sc.go) .nil)).app ((DtAll.ints r).dn.drop (j + 1)))) ((((sm.take j).app (.one sx)).app (sm.drop _)).tup (by simp only [List.length_append, List.length_take, List.length_drop, lm, List.length_cons, List.length_nil]; omega))
end
def Parts (ds : List PyData) : Prop := ∀ d ∈ ds, Sized 16000 4 d
theorem Parts.app {a b : List PyData} (h : Parts a) (k : Parts b) : Parts (a ++ b) := fun d hd => by
  rcases List.mem_append.mp hd with q | q
  · exact h d q
  · exact k d q
theorem Parts.take {a : List PyData} (h : Parts a) (n : Nat) : Parts (a.take n) := fun d hd => h d (List.mem_of_mem_take hd)
theorem Parts.drop {a : List PyData} (h : Parts a) (n : Nat) : Parts (a.drop n) := fun d hd => h d (List.mem_of_mem_drop hd)
theorem Parts.one {d : PyData} (h : Sized 16000 4 d) : Parts [d] := fun x hx => by rw [List.mem_singleton.mp hx]; exact h
theorem Parts.tup {a : List PyData} (h : Parts a) (l : a.length ≤ 6) : Sized 96006 6 (.tuple a) := (sized_tup h).more (by omega) (by omega)
theorem Parts.lst {a : List PyData} (h : Parts a) (l : a.length ≤ 6) : Sized 96006 6 (.list a) := (sized_lst h).more (by omega) (by omega)
theorem net_parts {n : Nat} {cols : List (List Int)} {ws bs : List Int} (N : Net n cols ws bs) : Parts [.str "network", .int n, .tuple (cols.map tupI), tupI ws, tupI bs] := fun d hd => by
  have a := sized_ints (r := ws) (m := 1000) (by rw [N.wl]; exact N.few) N.wr
  have b := sized_ints (r := bs) (m := 1000) (by rw [N.bl]; exact N.few) N.br
  simp only [List.mem_cons, List.not_mem_nil, or_false] at hd
  rcases hd with rfl | rfl | rfl | rfl | rfl
  · exact ⟨by decide +kernel, by decide +kernel, by simp only [PyData.depth]; omega, by decide +kernel⟩
  · exact (sized_int (by have := N.few; omega)).more (by omega) (by omega)
  · have q := sized_tup (m := 1000) (h := 1) (ds := cols.map tupI) fun d hd => by
      obtain ⟨r, hr, rfl⟩ := List.mem_map.mp hd
      have C := N.col r hr
      exact sized_ints (by rw [C.len]; exact N.few) fun z hz => by
        have := C.mem.mp hz
        have := N.few
        omega
    rw [List.length_map] at q
    refine q.more ?_ (by omega)
    have := Nat.mul_le_mul_right 1001 N.D4
    omega
  · exact a.more (by omega) (by omega)
  · exact b.more (by omega) (by omega)
theorem col_small {n : Nat} {c : List Int} (C : Col n c) (h : n ≤ 1000) : ∀ z ∈ c, 0 ≤ z ∧ z < 1000 := fun z hz => by
  have := C.mem.mp hz
  omega
theorem word_first {w : PyData} {r : List PyData} (h : SeqAt.shaped w = true) : WordOk (.tuple (w :: r)) := fun w' r' e _ => by
  cases e
  exact h
theorem word_len {ds : List PyData} (h : ds.length ≠ 5) : WordOk (.tuple ds) := fun w' r' e l => by
  cases e
  exact absurd (by rw [List.length_cons, l]) h
theorem sized_dict0 : Sized 4 4 (.dict []) := ⟨by simp only [PyData.leavesShort, PyData.leavesShortKv], by simp only [PyData.showable, PyData.showableKv], by simp only [PyData.depth, PyData.depthKv]; omega, by simp only [PyData.bulk, PyData.bulkKv]; omega⟩
theorem cutF (a b c d e : V) : cutV [a, b, c, d, e] (some 1) none = [b, c, d, e] ∧ cutV [a, b, c, d, e] (some 2) none = [c, d, e] ∧ cutV [a, b, c, d, e] (some 3) none = [d, e] ∧ cutV [a, b, c, d, e] none (some 2) = [a, b] ∧ cutV [a, b, c, d, e] none (some 3) = [a, b, c] ∧ cutV [a, b, c, d, e] none (some 4) = [a, b, c, d] :=
  ⟨cut_from _ 1, cut_from _ 2, cut_from _ 3, cut_to _ 2, cut_to _ 3, cut_to _ 4⟩
theorem Rws.tup {a : List PyData} (h : ∀ d ∈ a, Sized 2500 2 d) (l : a.length ≤ 6) : Sized 16000 4 (.tuple a) := (sized_tup h).more (by omega) (by omega)
theorem Rws.lst {a : List PyData} (h : ∀ d ∈ a, Sized 2500 2 d) (l : a.length ≤ 6) : Sized 16000 4 (.list a) := (sized_lst h).more (by omega) (by omega)
section
variable {P : Program} {w : World} {K : PySem.W.Frag} {mg : Str → Option Value} {base : Heap}
def spChgN (K : PySem.W.Frag) : Sp := fun vs H Q _ => ∃ (h d a t wa ba : Addr) (ds : List Int) (i n : Nat) (cols : List (List Int)) (ws bs : List Int) (D : Int) (v0 lb : V) (xs ys : List V), vs = [.ref h, .ref a, .ref t] ∧ Hand H h d ds i ∧ NetX K H a n cols ws bs ∧ Net n cols ws bs ∧ n ≤ 410 ∧ 1 ≤ cols.length ∧
  SqT K H t [v0, .int D, lb, .ref wa, .ref ba] ∧ SqT K H wa xs ∧ SqT K H ba ys ∧ xs.length ≤ 4 ∧ ys.length ≤ 4 ∧ ∀ (v : V) (H' : Hp) (i' : Nat) (e : PyData), Hand H' h d ds i' → Go (· = h) H H' → Dn (· = h) K H' v e → Sized 96006 6 e → WordOk e → Q v H'
set_option maxHeartbeats 2000000 in
theorem ok_chgn {f : Addr} {fd : FuncData} (B : Blt mg) (g_law_take : Has P w K mg base CX0 1 "_law_take" ["hand", "many"] (spTakeN K)) (g_law_row_changed : Has P w K mg base CX0 2 "_law_row_changed" ["hand", "row", "bound"] (spRowN K)) (F : Fun K "_law_changed" "_law_changed" s_law_changed f fd) : FnOk P w K mg base CX0 3 f fd ["hand", "value", "task"] (spChgN K) := by
  have sc : FnScope ["hand", "value", "task", "shape", "links", "other", "at", "link"] ["hand", "value", "task"] (defScope s_law_changed) := ⟨rfl, rfl, rfl, by decide +kernel, rfl, by decide +kernel, by decide +kernel⟩
  refine F.ok sc (fun vs H Q E h => ?_) (fun cdv A outer s H vs Q E hr h => ?_)
  · obtain ⟨_, _, _, _, _, _, _, _, _, _, _, _, _, _, _, _, _, rfl, _⟩ := h
    rfl
  obtain ⟨h, d, a, t, wa, ba, ds, i0, n, cols, ws, bs, D, v0, lb, xs, ys, rfl, hh, hV, N, nf, D1, hT, hwa, hba, x4, y4, k⟩ := h
  obtain ⟨la, wv, bv, cs, q1, q2, q3, q4, q5⟩ := id hV
  refine ⟨_, (pss_cons (ps_set (i := 3) sc.nd rfl (Or.inl rfl) (pc g_law_take hr (pa_cons (pv 0) (pa_cons pe_int pa_nil))))
    (pss_cons (ps_if (pt_cmpR op_eqi (pv 3) pe_int (nomark _))
      (pss_one (ps_ret (pe_ix ix_list (pe_lstN (pa_cons (pe_callTy (show CallR _ _ (rListN K) from call_listN) (by rfl) B.list (by decide +kernel) (pa_cons (pv 1) pa_nil)) (pa_cons (pe_slice (show SlR _ (LG.rCut K) from sl_cut) (pv 1) po_none (po_some pe_int)) (pa_cons (pe_op op_plus (pv 1) (pe_tupN (pa_cons pe_int pa_nil))) (pa_cons (pe_tupN (pa_cons (pv 1) pa_nil)) (pa_cons pe_non (pa_cons pe_dnewK (pa_cons pe_str (pa_cons pe_int pa_nil))))))))) (pc g_law_take hr (pa_cons (pv 0) (pa_cons pe_int pa_nil))) (fun _ _ => rfl))))
      pss_nil)
    (pss_cons (ps_if (pt_cmpR op_eqi (pv 3) pe_int (nomark _))
      (pss_one (ps_ret (pe_op op_plus (pe_tupN (pa_cons (pe_ix ix_list (pe_lstN (pa_cons pe_str (pa_cons pe_str (pa_cons pe_non (pa_cons pe_str (pa_cons (pe_tupN (pa_cons pe_str pa_nil)) pa_nil)))))) (pc g_law_take hr (pa_cons (pv 0) (pa_cons pe_int pa_nil))) (fun _ _ => rfl)) pa_nil)) (pe_slice (show SlR _ (LG.rCut K) from sl_cut) (pv 1) (po_some pe_int) po_none))))
      pss_nil)
    (pss_cons (ps_if (pt_cmpR op_eqi (pv 3) pe_int (nomark _))
      (pss_cons (ps_set (i := 5) sc.nd rfl (Or.inl rfl) (pe_ix ix_list (pe_lstN (pa_cons pe_int (pa_cons (pe_un un_neg pe_int) (pa_cons pe_int (pa_cons pe_bl (pa_cons pe_non (pa_cons pe_str (pa_cons (pe_op op_add (pe_ix ix_tup (pv 1) pe_int (fun _ _ => rfl)) pe_int) (pa_cons (pe_op op_sub (pe_ix ix_tup (pv 1) pe_int (fun _ _ => rfl)) pe_int) pa_nil))))))))) (pc g_law_take hr (pa_cons (pv 0) (pa_cons pe_int pa_nil))) (fun _ _ => rfl)))
      (pss_one (ps_ret (pe_op op_plus (pe_tupN (pa_cons (pe_ix ix_tup (pv 1) pe_int (fun _ _ => rfl)) (pa_cons (pv 5) pa_nil))) (pe_slice (show SlR _ (LG.rCut K) from sl_cut) (pv 1) (po_some pe_int) po_none)))))
      pss_nil)
    (pss_cons (ps_set (i := 4) sc.nd rfl (Or.inl rfl) (pe_ix ix_tup (pv 1) pe_int (fun _ _ => rfl)))
    (pss_cons (ps_if (pt_cmpR op_eqi (pv 3) pe_int (nomark _))
      (pss_cons (ps_set (i := 5) sc.nd rfl (Or.inl rfl) (pe_ix ix_list (pe_lstN (pa_cons (pe_callTy (show CallR _ _ (rListN K) from call_listN) (by rfl) B.list (by decide +kernel) (pa_cons (pv 4) pa_nil)) (pa_cons (pe_slice (show SlR _ (LG.rCut K) from sl_cut) (pv 4) po_none (po_some (pe_un un_neg pe_int))) (pa_cons (pe_op op_plus (pv 4) (pe_slice (show SlR _ (LG.rCut K) from sl_cut) (pv 4) po_none (po_some pe_int))) (pa_cons (pe_tupN pa_nil) (pa_cons pe_non (pa_cons (pe_ix ix_tup (pv 4) pe_int (fun _ _ => rfl)) pa_nil))))))) (pc g_law_take hr (pa_cons (pv 0) (pa_cons pe_int pa_nil))) (fun _ _ => rfl)))
      (pss_one (ps_ret (pe_op op_plus (pe_op op_plus (pe_slice (show SlR _ (LG.rCut K) from sl_cut) (pv 1) po_none (po_some pe_int)) (pe_tupN (pa_cons (pv 5) pa_nil))) (pe_slice (show SlR _ (LG.rCut K) from sl_cut) (pv 1) (po_some pe_int) po_none)))))
      pss_nil)
    (pss_cons (ps_if (pt_cmpR op_lt (pv 3) pe_int (nomark _))
      (pss_cons (ps_set (i := 6) sc.nd rfl (Or.inl rfl) (pc g_law_take hr (pa_cons (pv 0) (pa_cons (pe_callB call_len_seq (by rfl) B.len (by decide +kernel) (pa_cons (pv 4) pa_nil)) pa_nil))))
      (pss_cons (ps_set (i := 7) sc.nd rfl (Or.inl rfl) (pc g_law_row_changed hr (pa_cons (pv 0) (pa_cons (pe_ix ix_tup (pv 4) (pv 6) (fun _ _ => rfl)) (pa_cons (pe_ix ix_tup (pv 1) pe_int (fun _ _ => rfl)) pa_nil)))))
      (pss_one (ps_ret (pe_op op_plus (pe_op op_plus (pe_slice (show SlR _ (LG.rCut K) from sl_cut) (pv 1) po_none (po_some pe_int)) (pe_tupN (pa_cons (pe_op op_plus (pe_op op_plus (pe_slice (show SlR _ (LG.rCut K) from sl_cut) (pv 4) po_none (po_some (pv 6))) (pe_tupN (pa_cons (pv 7) pa_nil))) (pe_slice (show SlR _ (LG.rCut K) from sl_cut) (pv 4) (po_some (pe_op op_add (pv 6) pe_int)) po_none)) pa_nil))) (pe_slice (show SlR _ (LG.rCut K) from sl_cut) (pv 1) (po_some pe_int) po_none))))))
      pss_nil)
    (pss_cons (ps_if (pt_cmpR op_lt (pv 3) pe_int (nomark _))
      (pss_one (ps_ret (pe_op op_plus (pe_slice (show SlR _ (LG.rCut K) from sl_cut) (pv 1) po_none (po_some pe_int)) (pe_tupN (pa_cons (pc g_law_row_changed hr (pa_cons (pv 0) (pa_cons (pe_ix ix_tup (pv 1) pe_int (fun _ _ => rfl)) (pa_cons (pe_callB call_len_seq (by rfl) B.len (by decide +kernel) (pa_cons (pe_ix ix_tup (pv 2) pe_int (fun _ _ => rfl)) pa_nil)) pa_nil)))) (pa_cons (pe_ix ix_tup (pv 1) pe_int (fun _ _ => rfl)) pa_nil))))))
      pss_nil)
    (pss_one (ps_ret (pe_op op_plus (pe_slice (show SlR _ (LG.rCut K) from sl_cut) (pv 1) po_none (po_some pe_int)) (pe_tupN (pa_cons (pc g_law_row_changed hr (pa_cons (pv 0) (pa_cons (pe_ix ix_tup (pv 1) pe_int (fun _ _ => rfl)) (pa_cons (pe_callB call_len_seq (by rfl) B.len (by decide +kernel) (pa_cons (pe_ix ix_tup (pv 2) pe_int (fun _ _ => rfl)) pa_nil)) pa_nil)))) pa_nil))))))))))))), ?_⟩
  try dsimp only [cxOf]
  have n1 := N.pos
  have D4 := N.D4
  have lcs : cs.length = cols.length := q3.len
  have pn := net_parts N
  have da : DtAll K H [.str "network", .int n, .ref la, .ref wv, .ref bv] [.str "network", .int n, .tuple (cols.map tupI), tupI ws, tupI bs] :=
    .cons (.str _) (.cons (.int _) (.cons (.tup q2 (sls_dt (q3.imp fun _ _ z => z.1))) (.cons (.tup q4.1 (DtAll.ints _)) (.cons (.tup q5.1 (DtAll.ints _)) .nil))))
  have sI : ∀ i : Int, -2000 ≤ i → i ≤ 2000 → Sized 16000 4 (.int i) := fun i a b => (sized_int (Nat.lt_of_lt_of_le (show i.natAbs < 4000 by omega) (by decide))).more (by decide) (by decide)
  have sN : Sized 16000 4 .none := sized_non.more (by decide) (by decide)
  have sS : ∀ x : Str, (x.cps.toList.all fun c => decide (c < 16 ^ 8)) = true → x.cps.size ≤ 100 → Sized 16000 4 (.str x) := fun x h1 h2 => (sized_str x h1 100 h2).more (by decide) (by decide)
  w_fin
  refine ⟨h, d, ds, i0, 12, rfl, hh, by omega, by omega, fun sh H1 sh0 sh1 hh1 g1 => ?_⟩
  have x1 := g1.seqT q1
  w_fin
  refine st_two (fun c0 => ?_) (fun c0 => ?_)
  · w_fin
    intro p1 H2 f2 s2 e2
    have x2 := s2.seqT x1
    w_fin
    intro p2 H3 s3 e3
    have x3 := s3.seqT x2
    w_fin
    intro p3 H4 _ s4 e4
    w_fin
    refine st_rPlus (s4.seqT x3) (SqT.of e4) (by simp) fun p4 H5 s5 e5 => ?_
    w_fin
    intro p5 H6 _ s6 e6
    w_fin
    intro p6 f7
    have s7 := same_new f7 (.dK [])
    have e7 : (upd H6 p6 (.dK [])) p6 = some (.dK []) := upd_same
    generalize upd H6 p6 (.dK []) = H7 at s7 e7 ⊢
    w_fin
    intro lp H8 f8 s8 e8
    w_fin
    have hh6 := (((((hh1.same s2).same s3).same s4).same s5).same s6)
    have hh7 := hh6.same s7
    refine ⟨h, d, ds, _, 8, rfl, hh7.same s8, by omega, by omega, fun r5 H9 r50 r51 hh9 g9 => ?_⟩
    have n1 := (hand_out hh1 f2).1
    have n6 := (hand_out hh6 f7).1
    have nl := (hand_out hh7 f8).1
    have s78 := s7.trans s8
    have s68 := s6.trans s78
    have s38 := (s3.trans (s4.trans (s5.trans s68)))
    have s18 := s2.trans s38
    have g18 := g1.trans s18.go
    have da8 : DnAll (· = h) K H8 _ _ := (da.stay g18.tups).dn
    have all : DnAll (· = h) K H8 [.ref p1, .ref p2, .ref p4, .ref p5, .non, .ref p6, .str "network", .int 5] [.list [.str "network", .int n, .tuple (cols.map tupI), tupI ws, tupI bs], .tuple [.str "network", .int n, .tuple (cols.map tupI), tupI ws], .tuple ([.str "network", .int n, .tuple (cols.map tupI), tupI ws, tupI bs] ++ [.int 0]), .tuple [netD n cols ws bs], .none, .dict [], .str "network", .int 5] :=
      .cons (.lst n1 (s38 _ _ e2) da8) (.cons (.tup ((s4.trans (s5.trans s68)).seqT e3) (da8.take 4)) (.cons (.tup (s68.seqT e5) (da8.app (.cons (.int 0) .nil))) (.cons (.tup (s78.seqT (SqT.of e6)) (.cons (.tup (g18.seqT q1) da8) .nil)) (.cons .non (.cons (.dct (kvs := []) (ds := []) n6 (s8 _ _ e7) .nil) (.cons (.str _) (.cons (.int 5) .nil)))))))
    have key : ∀ e ∈ [PyData.list [.str "network", .int n, .tuple (cols.map tupI), tupI ws, tupI bs], .tuple [.str "network", .int n, .tuple (cols.map tupI), tupI ws], .tuple ([.str "network", .int n, .tuple (cols.map tupI), tupI ws, tupI bs] ++ [.int 0]), .tuple [netD n cols ws bs], .none, .dict [], .str "network", .int 5], Sized 96006 6 e ∧ WordOk e := fun e he => by
      simp only [List.mem_cons, List.not_mem_nil, or_false] at he
      rcases he with rfl | rfl | rfl | rfl | rfl | rfl | rfl | rfl
      · exact ⟨pn.lst (by simp), fun w r e _ => nomatch e⟩
      · exact ⟨(pn.take 4).tup (by simp), word_len (by simp)⟩
      · exact ⟨(pn.app (.one (sI 0 (by decide) (by decide)))).tup (by simp), word_len (by simp)⟩
      · exact ⟨(sized_one (sized_net N)).more (by decide) (by decide), word_len (by simp)⟩
      · exact ⟨sN.more (by decide) (by decide), fun w r e _ => nomatch e⟩
      · exact ⟨sized_dict0.more (by decide) (by decide), fun w r e _ => nomatch e⟩
      · exact ⟨(sS "network" (by decide +kernel) (by decide +kernel)).more (by decide) (by decide), fun w r e _ => nomatch e⟩
      · exact ⟨(sI 5 (by decide) (by decide)).more (by decide) (by decide), fun w r e _ => nomatch e⟩
    obtain ⟨y, e, hat, hm, hy⟩ := (all.stay g9).pick (i := r5) (by simp; omega) (by simp; omega)
    refine st_ixL (SqL.of (g9.out _ _ nl e8)) hat ?_
    exact k y H9 _ e hh9 (g18.trans g9) hy (key e hm).1 (key e hm).2
  w_fin
  refine st_two (fun c1 => ?_) (fun c1 => ?_)
  · w_fin
    intro p1 H2 _ s2 e2
    w_fin
    intro lp H3 f3 s3 e3
    have hh2 := hh1.same s2
    have nl := (hand_out hh2 f3).1
    w_fin
    refine ⟨h, d, ds, _, 5, rfl, hh2.same s3, by omega, by omega, fun r5 H4 r50 r51 hh4 g4 => ?_⟩
    have all : DnAll (· = h) K H3 [.str "Network", .str "", .non, .str "task", .ref p1] [.str "Network", .str "", .none, .str "task", .tuple [.str "network"]] :=
      .cons (.str _) (.cons (.str _) (.cons .non (.cons (.str _) (.cons (.tup (s3.seqT (SqT.of e2)) (.cons (.str _) .nil)) .nil))))
    have key : ∀ e ∈ [PyData.str "Network", .str "", .none, .str "task", .tuple [.str "network"]], Sized 16000 4 e ∧ SeqAt.shaped e = true := fun e he => by
      simp only [List.mem_cons, List.not_mem_nil, or_false] at he
      rcases he with rfl | rfl | rfl | rfl | rfl
      · exact ⟨sS "Network" (by decide +kernel) (by decide +kernel), by decide +kernel⟩
      · exact ⟨sS "" (by decide +kernel) (by decide +kernel), by decide +kernel⟩
      · exact ⟨sN, by decide +kernel⟩
      · exact ⟨sS "task" (by decide +kernel) (by decide +kernel), by decide +kernel⟩
      · exact ⟨(sized_one (sized_str "network" (by decide +kernel) 100 (by decide +kernel))).more (by decide) (by decide), by decide +kernel⟩
    obtain ⟨y, e, hat, hm, hy⟩ := (all.stay g4).pick (i := r5) (by simp; omega) (by simp; omega)
    obtain ⟨se, he⟩ := key e hm
    refine st_ixL (SqL.of (g4.out _ _ nl e3)) hat ?_
    w_fin
    intro p2 H5 _ s5 e5
    have gg := ((s2.trans s3).go.trans g4).trans s5.go
    have x5 := gg.seqT x1
    w_fin
    intro p3 H6 s6 e6
    rw [(cutF _ _ _ _ _).1] at e6
    w_fin
    refine st_rPlus (s6.seqT (SqT.of e5)) e6 (by simp) fun p4 H7 s7 e7 => ?_
    have g17 := (g1.trans gg).trans (s6.trans s7).go
    exact k _ H7 _ (.tuple ([e] ++ [.int n, .tuple (cols.map tupI), tupI ws, tupI bs])) (((hh4.same s5).same s6).same s7) g17 (.tup e7 (.cons (hy.stay ((s5.trans s6).trans s7).go) ((da.stay g17.tups).dn.drop 1))) ((Parts.app (.one se) (pn.drop 1)).tup (by simp)) (word_first he)
  w_fin
  refine st_two (fun c2 => ?_) (fun c2 => ?_)
  · w_fin
    intro lp H3 f3 s3 e3
    have nl := (hand_out hh1 f3).1
    w_fin
    refine ⟨h, d, ds, _, 8, rfl, hh1.same s3, by omega, by omega, fun r5 H4 r50 r51 hh4 g4 => ?_⟩
    have all : DnAll (· = h) K H3 [.int 0, .int (-1), .int 401, .bl true, .non, .str "1", .int ((n : Int) + 1), .int ((n : Int) - 1)] [.int 0, .int (-1), .int 401, .bool true, .none, .str "1", .int ((n : Int) + 1), .int ((n : Int) - 1)] :=
      .cons (.int _) (.cons (.int _) (.cons (.int _) (.cons (.bl _) (.cons .non (.cons (.str _) (.cons (.int _) (.cons (.int _) .nil)))))))
    have key : ∀ e ∈ [PyData.int 0, .int (-1), .int 401, .bool true, .none, .str "1", .int ((n : Int) + 1), .int ((n : Int) - 1)], Sized 16000 4 e := fun e he => by
      simp only [List.mem_cons, List.not_mem_nil, or_false] at he
      rcases he with rfl | rfl | rfl | rfl | rfl | rfl | rfl | rfl
      · exact sI _ (by decide) (by decide)
      · exact sI _ (by decide) (by decide)
      · exact sI _ (by decide) (by decide)
      · exact (sized_bl true).more (by decide) (by decide)
      · exact sN
      · exact sS "1" (by decide +kernel) (by decide +kernel)
      · exact sI _ (by omega) (by omega)
      · exact sI _ (by omega) (by omega)
    obtain ⟨y, e, hat, hm, hy⟩ := (all.stay g4).pick (i := r5) (by simp; omega) (by simp; omega)
    have se := key e hm
    refine st_ixL (SqL.of (g4.out _ _ nl e3)) hat ?_
    have gg := s3.go.trans g4
    have x4' := gg.seqT x1
    w_fin
    intro p2 H5 _ s5 e5
    have x5 := s5.seqT x4'
    w_fin
    intro p3 H6 s6 e6
    rw [(cutF _ _ _ _ _).2.1] at e6
    w_fin
    refine st_rPlus (s6.seqT (SqT.of e5)) e6 (by simp) fun p4 H7 s7 e7 => ?_
    have g17 := (g1.trans gg).trans ((s5.trans s6).trans s7).go
    exact k _ H7 _ (.tuple ([.str "network", e] ++ [.tuple (cols.map tupI), tupI ws, tupI bs])) (((hh4.same s5).same s6).same s7) g17 (.tup e7 (.cons (.str _) (.cons (hy.stay ((s5.trans s6).trans s7).go) ((da.stay g17.tups).dn.drop 2)))) ((Parts.app (Parts.app (pn.take 1) (.one se)) (pn.drop 2)).tup (by simp)) (word_first (by decide +kernel))
  have l1 := g1.seqT q2
  obtain ⟨c0, hc0⟩ : ∃ c, cols[0]? = some c := ⟨_, List.getElem?_eq_getElem (by omega)⟩
  obtain ⟨ca0, hca0, hcaS0⟩ := q3.at hc0
  have dl : DtAll K H cs (cols.map tupI) := sls_dt (q3.imp fun _ _ z => z.1)
  have rw_ : ∀ e ∈ cols.map tupI, Sized 2500 2 e := fun e he => by
    obtain ⟨c, hc, rfl⟩ := List.mem_map.mp he
    have C := N.col c hc
    exact (sized_ints (m := 410) (by rw [C.len]; exact nf) (col_small C (by omega))).more (by decide) (by decide)
  have lct : (cols.map tupI).length = cols.length := List.length_map _
  w_fin
  refine st_two (fun c3 => ?_) (fun c3 => ?_)
  · w_fin
    intro p1 H2 f2 s2 e2
    have l2 := s2.seqT l1
    w_fin
    intro p2 H3 s3 e3
    rw [cut_butlast (by omega)] at e3
    have l3 := s3.seqT l2
    w_fin
    intro p3 H4 s4 e4
    have e4' : SqT K H4 p3 (cs.take 1) := by rw [← cut_to]; exact e4
    have l4 := s4.seqT l3
    w_fin
    refine st_rPlus l4 e4' (by rw [List.length_take]; omega) fun p4 H5 s5 e5 => ?_
    w_fin
    intro p5 H6 _ s6 e6
    w_fin
    refine st_ixT (s6.seqT (s5.seqT l4)) (at_of (j := 0) rfl hca0) ?_
    w_fin
    intro lp H7 f7 s7 e7
    have hh6 := ((((hh1.same s2).same s3).same s4).same s5).same s6
    have n1' := (hand_out hh1 f2).1
    have nl := (hand_out hh6 f7).1
    w_fin
    refine ⟨h, d, ds, _, 6, rfl, hh6.same s7, by omega, by omega, fun r5 H8 r50 r51 hh8 g8 => ?_⟩
    have s67 := s6.trans s7
    have s47 := s4.trans (s5.trans s67)
    have s17 := s2.trans (s3.trans s47)
    have g17 := g1.trans s17.go
    have dl7 : DnAll (· = h) K H7 cs (cols.map tupI) := (dl.stay g17.tups).dn
    have all : DnAll (· = h) K H7 [.ref p1, .ref p2, .ref p4, .ref p5, .non, .ref ca0] [.list (cols.map tupI), .tuple ((cols.map tupI).take (cs.length - 1)), .tuple (cols.map tupI ++ (cols.map tupI).take 1), .tuple [], .none, tupI c0] :=
      .cons (.lst n1' ((s3.trans s47) _ _ e2) dl7) (.cons (.tup (s47.seqT e3) (dl7.take _)) (.cons (.tup (s67.seqT e5) (dl7.app (dl7.take 1))) (.cons (.tup (s7.seqT (SqT.of e6)) .nil) (.cons .non (.cons (.tup (g17.seqT hcaS0.1) (DtAll.ints _).dn) .nil)))))
    have key : ∀ e ∈ [PyData.list (cols.map tupI), .tuple ((cols.map tupI).take (cs.length - 1)), .tuple (cols.map tupI ++ (cols.map tupI).take 1), .tuple [], .none, tupI c0], Sized 16000 4 e := fun e he => by
      simp only [List.mem_cons, List.not_mem_nil, or_false] at he
      rcases he with rfl | rfl | rfl | rfl | rfl | rfl
      · exact Rws.lst rw_ (by omega)
      · exact Rws.tup (fun d hd => rw_ d (List.mem_of_mem_take hd)) (by rw [List.length_take]; omega)
      · refine Rws.tup (fun d hd => ?_) (by rw [List.length_append, List.length_take]; omega)
        rcases List.mem_append.mp hd with q | q
        · exact rw_ d q
        · exact rw_ d (List.mem_of_mem_take q)
      · exact sized_tup0.more (by decide) (by decide)
      · exact sN
      · exact (rw_ _ (List.mem_map_of_mem (List.mem_of_getElem? hc0))).more (by decide) (by decide)
    obtain ⟨y, e, hat, hm, hy⟩ := (all.stay g8).pick (i := r5) (by simp; omega) (by simp; omega)
    have se := key e hm
    refine st_ixL (SqL.of (g8.out _ _ nl e7)) hat ?_
    have hhc := hh8
    have gc := g17.trans g8
    have xc := gc.seqT q1
    w_fin
    intro a1 H11 s11 e11
    rw [(cutF _ _ _ _ _).2.2.2.1] at e11
    w_fin
    intro a2 H12 _ s12 e12
    w_fin
    refine st_rPlus (s12.seqT e11) (SqT.of e12) (by simp) fun a3 H13 s13 e13 => ?_
    have x13 := ((s11.trans s12).trans s13).seqT xc
    w_fin
    intro a4 H14 s14 e14
    rw [(cutF _ _ _ _ _).2.2.1] at e14
    w_fin
    refine st_rPlus (s14.seqT e13) e14 (by simp) fun a5 H15 s15 e15 => ?_
    have sc := (((s11.trans s12).trans s13).trans s14).trans s15
    have gz := gc.trans sc.go
    exact k _ H15 _ _ (hhc.same sc) gz (.tup e15 ((((da.stay gz.tups).dn.take 2).app (.cons (hy.stay sc.go) .nil)).app ((da.stay gz.tups).dn.drop 3))) (((Parts.app (pn.take 2) (.one se)).app (pn.drop 3)).tup (by simp)) (word_first (w := .str "network") (by decide +kernel))
  w_fin
  refine st_two (fun c4 => ?_) (fun c4 => ?_)
  · w_fin
    refine ⟨h, d, ds, _, cs.length, rfl, hh1, by omega, by omega, fun at_ H2 at0 at1 hh2 g2 => ?_⟩
    have l2 := g2.seqT l1
    have x2 := g2.seqT x1
    obtain ⟨j, rfl⟩ : ∃ j : Nat, at_ = j := ⟨at_.toNat, by omega⟩
    obtain ⟨c, hc⟩ : ∃ c, cols[j]? = some c := ⟨_, List.getElem?_eq_getElem (by omega)⟩
    obtain ⟨ca, hca, hcaS⟩ := q3.at hc
    have C := N.col c (List.mem_of_getElem? hc)
    w_fin
    refine st_ixT l2 (at_of (j := j) rfl hca) ?_
    w_fin
    have g12 := g1.trans g2
    refine ⟨h, d, ca, ds, _, c, n, rfl, hh2, SqN.stay g12.tups hcaS, by rw [C.len]; exact n1, by rw [C.len]; exact nf, col_small C (by omega), by omega, by omega, fun v H3 i3 dv hhc g3 hv sv => ?_⟩
    have gc := g12.trans g3
    have xc := gc.seqT q1
    have lc := gc.seqT q2
    w_fin
    intro a1 H11 s11 e11
    rw [(cutF _ _ _ _ _).2.2.2.1] at e11
    have lc1 := s11.seqT lc
    w_fin
    intro b1 H21 s21 eb1
    rw [cut_to] at eb1
    w_fin
    intro b2 H22 _ s22 eb2
    w_fin
    refine st_rPlus (s22.seqT eb1) (SqT.of eb2) (by rw [List.length_take]; simp only [List.length_cons, List.length_nil]; omega) fun b3 H23 s23 eb3 => ?_
    have lc3 := ((s21.trans s22).trans s23).seqT lc1
    w_fin
    intro b4 H24 s24 eb4
    rw [show (j : Int) + 1 = ((j + 1 : Nat) : Int) by omega, cut_from] at eb4
    w_fin
    refine st_rPlus (s24.seqT eb3) eb4 (by simp only [List.length_append, List.length_take, List.length_drop, List.length_cons, List.length_nil]; omega) fun b5 H25 s25 eb5 => ?_
    w_fin
    intro a2 H12 _ s12 e12
    w_fin
    have sb := (((s21.trans s22).trans s23).trans s24).trans s25
    refine st_rPlus ((sb.trans s12).seqT e11) (SqT.of e12) (by simp) fun a3 H13 s13 e13 => ?_
    have x13 := (((s11.trans sb).trans s12).trans s13).seqT xc
    w_fin
    intro a4 H14 s14 e14
    rw [(cutF _ _ _ _ _).2.2.1] at e14
    w_fin
    refine st_rPlus (s14.seqT e13) e14 (by simp) fun a5 H15 s15 e15 => ?_
    have sl := ((s12.trans s13).trans s14).trans s15
    have sc := (s11.trans sb).trans sl
    have gz := gc.trans sc.go
    have dlz : DnAll (· = h) K H15 cs (cols.map tupI) := (dl.stay gz.tups).dn
    have el : Dn (· = h) K H15 (.ref b5) (.tuple (((cols.map tupI).take j ++ [dv]) ++ (cols.map tupI).drop (j + 1))) := .tup (sl.seqT eb5) (((dlz.take j).app (.cons (hv.stay sc.go) .nil)).app (dlz.drop (j + 1)))
    have sl2 : Sized 16000 4 (.tuple (((cols.map tupI).take j ++ [dv]) ++ (cols.map tupI).drop (j + 1))) := by
      refine Rws.tup (fun d hd => ?_) (by simp only [List.length_append, List.length_take, List.length_drop, List.length_cons, List.length_nil]; omega)
      rcases List.mem_append.mp hd with q | q
      · rcases List.mem_append.mp q with q | q
        · exact rw_ d (List.mem_of_mem_take q)
        · rw [List.mem_singleton.mp q]
          exact sv
      · exact rw_ d (List.mem_of_mem_drop q)
    exact k _ H15 _ _ (hhc.same sc) gz (.tup e15 ((((da.stay gz.tups).dn.take 2).app (.cons el .nil)).app ((da.stay gz.tups).dn.drop 3))) (((Parts.app (pn.take 2) (.one sl2)).app (pn.drop 3)).tup (by simp)) (word_first (w := .str "network") (by decide +kernel))
  w_fin
  have t1 := g1.seqT hT
  have wa1 := g1.seqT hwa
  have ba1 := g1.seqT hba
  refine st_two (fun c5 => ?_) (fun c5 => ?_)
  · w_fin
    intro a1 H2 s2 e2
    rw [(cutF _ _ _ _ _).2.2.2.2.1] at e2
    have t2 := s2.seqT t1
    have wa2 := s2.seqT wa1
    have x2 := s2.seqT x1
    w_fin
    have g12 := g1.trans s2.go
    refine ⟨h, d, wv, ds, _, ws, _, rfl, hh1.same s2, SqN.stay g12.tups q4, by rw [N.wl]; exact n1, by rw [N.wl]; exact nf, N.wr, by omega, by omega, fun v H3 i3 dv hhc g3 hv sv => ?_⟩
    have x3 := g3.seqT x2
    w_fin
    intro a2 H4 _ s4 e4
    w_fin
    refine st_rPlus (s4.seqT (g3.seqT e2)) (SqT.of e4) (by simp) fun a3 H5 s5 e5 => ?_
    have sc := s4.trans s5
    have gz := (g12.trans g3).trans sc.go
    exact k _ H5 _ _ (hhc.same sc) gz (.tup e5 (((da.stay gz.tups).dn.take 3).app (.cons (hv.stay sc.go) ((da.stay gz.tups).dn.drop 4)))) (((pn.take 3).app (Parts.app (.one (sv.more (by decide) (by decide))) (pn.drop 4))).tup (by simp)) (word_first (w := .str "network") (by decide +kernel))
  w_fin
  intro a1 H2 s2 e2
  rw [(cutF _ _ _ _ _).2.2.2.2.2] at e2
  have t2 := s2.seqT t1
  have ba2 := s2.seqT ba1
  have x2 := s2.seqT x1
  w_fin
  have g12 := g1.trans s2.go
  refine ⟨h, d, bv, ds, _, bs, _, rfl, hh1.same s2, SqN.stay g12.tups q5, by rw [N.bl]; exact n1, by rw [N.bl]; exact nf, N.br, by omega, by omega, fun v H3 i3 dv hhc g3 hv sv => ?_⟩
  w_fin
  intro a2 H4 _ s4 e4
  w_fin
  refine st_rPlus (s4.seqT (g3.seqT e2)) (SqT.of e4) (by simp) fun a3 H5 s5 e5 => ?_
  have sc := s4.trans s5
  have gz := (g12.trans g3).trans sc.go
  exact k _ H5 _ _ (hhc.same sc) gz (.tup e5 (((da.stay gz.tups).dn.take 4).app (.cons (hv.stay sc.go) .nil))) (((pn.take 4).app (.one (sv.more (by decide) (by decide)))).tup (by simp)) (word_first (w := .str "network") (by decide +kernel))
end
section
variable {P : Program} {w : World} {K : PySem.W.Frag} {mg : Str → Option Value} {base : Heap}
theorem rel_ref {D : Addr} : ∀ u, RelV (.ref D) u → u = .ref D := fun u r => r
theorem rel_ty {s : String} : ∀ u, RelV (.ty s) u → u = .type s := fun u r => r
theorem none_back {H H' : Hp} (s : Same H H') {l : Addr} (h : H' l = none) : H l = none := by
  cases e : H l with
  | none => rfl
  | some o => rw [s _ _ e] at h; cases h
theorem pair_sized {d e : PyData} (a : Sized 96006 6 d) (b : Sized 1000 6 e) : Sized 200000 7 (.list [d, e]) := (sized_lst (m := 96006) (h := 6) (ds := [d, e]) fun x hx => by
  simp only [List.mem_cons, List.not_mem_nil, or_false] at hx
  rcases hx with rfl | rfl
  · exact a
  · exact b.more (by decide) (by decide)).more (by simp) (by decide)
def spAskN (K : PySem.W.Frag) : Sp := fun vs H Q _ => ∃ (M : Addr → Prop) (x : V) (d e : PyData) (a wa ba : Addr) (D : Int) (v0 la : V) (xs ys : List V), vs = [x, .ref a] ∧ Dn M K H x d ∧ Dt K H (.ref a) e ∧ (∀ l, H l = none → ¬ M l) ∧ Sys K H ∧ Sized 96006 6 d ∧ Sized 1000 6 e ∧ WordOk d ∧ WordOk e ∧ isTask e = true ∧
  SqT K H a [v0, .int D, la, .ref wa, .ref ba] ∧ SqT K H wa xs ∧ SqT K H ba ys ∧ 2 ≤ D ∧ D ≤ 4 ∧ ∀ H', Same H H' → Q (.bl true) H'
set_option maxHeartbeats 1000000 in
theorem ok_asked {CN CT : Addr} {f : Addr} {fd : FuncData} (B : Blt mg) (eBadNetwork : Err K mg "BadNetwork" CN) (hC : ExcC K CN) (hex : PySem.W.exmOne K (.ref CN) (.ref CN) = some true) (kv : PySem.W.kitOne K (.ref CN) (.type "ValueError") = some true) (kt : PySem.W.kitOne K (.ref CN) (.ref CT) = some false) (gBadTask : mg "BadTask" = some (.ref CT))
    (gcheck_network : Has P w K mg base (L2N.CX P w) 7 "check_network" ["network", "task"] (spCheckN K CN CT)) (g_law_right : Has P w K mg base CX0 3 "_law_right" ["value", "task"] (spRightN K)) (F : Fun K "_law_asked" "_law_asked" s_law_asked f fd) : FnG P w K mg base 9 f fd ["value", "task"] (spAskN K) := by
  have sc : FnScope ["value", "task", "kept", "due", "e", "answer"] ["value", "task"] (defScope s_law_asked) := ⟨rfl, rfl, rfl, by decide +kernel, rfl, by decide +kernel, by decide +kernel⟩
  refine FnG.by F sc (fun vs H Q E h => ?_) (fun cdv A outer s H vs Q E hg hr h => ?_)
  · obtain ⟨_, _, _, _, _, _, _, _, _, _, _, _, rfl, _⟩ := h
    rfl
  obtain ⟨M, x, d, e, a, wa, ba, D, v0, la, xs, ys, rfl, hd, he, hM, S, sd, se, wd, we, ht, hT, hwa, hba, D2, D4, k⟩ := h
  refine ⟨_, (pss_cons (ps_set (i := 2) sc.nd rfl (Or.inl rfl) (pe_callB (call_repN hg hr.units) (by rfl) B.repr (by decide +kernel) (pa_cons (pe_lstN (pa_cons (pv 0) (pa_cons (pv 1) pa_nil))) pa_nil)))
    (pss_cons (ps_set (i := 3) sc.nd rfl (Or.inl rfl) (pc g_law_right hr (pa_cons (pv 0) (pa_cons (pv 1) pa_nil))))
    (pss_cons (L2N.ps_try_as (i := 4) rfl rfl sc.nd rfl rfl ⟨rfl, by decide, .inl eBadNetwork.g⟩ takes0N (fun W pn xe tk _ =>
      (pss_one (ps_set (i := 5) sc.nd rfl (Or.inl rfl) (pcSN gcheck_network hr tk (pa_cons (pv 0) (pa_cons (pv 1) pa_nil))))))
      (fun a oe cls d pn hz hf => (pss_one (ps_ret (pe_and (pe_not (pv 3)) (pe_and (pe_callB (show CallR _ (.builtin "isinstance") (rIsEA K CN a cls d) from call_isPA hC List.mem_cons_self hz hf) (by rfl) B.isinstance (by decide +kernel) (pa_cons (pv 4) (pa_cons (pe_bltn (v := V.ty "ValueError") (u := Value.type "ValueError") (by rfl) B.ValueError (by decide +kernel) rfl) pa_nil))) (pe_and (pe_not (pe_callB (show CallR _ (.builtin "isinstance") (rIsEA K CN a cls d) from call_isPA hC List.mem_cons_self hz hf) (by rfl) B.isinstance (by decide +kernel) (pa_cons (pv 4) (pa_cons (pe_glob (v := V.ref _) rfl gBadTask rfl) pa_nil)))) (pe_one (pe_cmpR op_eqs (pe_callB (show CallR _ (.builtin "repr") (rRepN K) from call_repN hg hr.units) (by rfl) B.repr (by decide +kernel) (pa_cons (pe_lstN (pa_cons (pv 0) (pa_cons (pv 1) pa_nil))) pa_nil)) (pv 2) (nomark _))))))))))
    (pss_one (ps_ret (pe_and (pe_cmpR op_isN (pv 5) pe_non (nomark _)) (pe_and (pv 3) (pe_one (pe_cmpR op_eqs (pe_callB (call_repN hg hr.units) (by rfl) B.repr (by decide +kernel) (pa_cons (pe_lstN (pa_cons (pv 0) (pa_cons (pv 1) pa_nil))) pa_nil)) (pv 2) (nomark _)))))))))), ?_⟩
  try dsimp only [cxOf]
  have sz := pair_sized sd se
  obtain ⟨z1, z2, z3⟩ := sz.rep (by decide) (by decide)
  have sb : e.bulk ≤ 1000000 := Nat.le_trans se.2.2.2 (by decide)
  have dn : ∀ {H' : Hp} {l : Addr}, Same H H' → H l = none → H' l = some (.lst [x, .ref a]) → Dn M K H' (.ref l) (.list [d, e]) := fun s' hl el => .lst (hM _ hl) el (.cons (hd.stay s'.go) (.cons (he.stay s'.tups).dn .nil))
  w_fin
  intro l1 H1 f1 s1 e1
  w_fin
  refine ⟨M, _, _, rfl, dn s1 f1 e1, S.same s1, z1, z2, z3, ?_⟩
  w_fin
  refine ⟨M, x, d, a, wa, ba, D, v0, la, xs, ys, rfl, hd.stay s1.go, s1.seqT hT, s1.seqT hwa, s1.seqT hba, D2, D4, fun H2 s2 => ?_⟩
  have s12 := s1.trans s2
  w_fin
  refine ⟨_, rfl, _, rfl, M, M, x, .ref a, d, e, rfl, hd.stay s12.go, (he.stay s12.tups).dn, sb, wd, we, .inr ⟨ht, a, wa, ba, D, v0, la, xs, ys, rfl, s12.seqT hT, s12.seqT hwa, s12.seqT hba, fun hY H3 s3 => ?_, fun hF H3 s3 => ?_⟩⟩
  · have s13 := s12.trans s3
    rw [hY]
    w_fin
    refine ⟨rfl, ?_⟩
    w_fin
    refine st_y rfl ?_
    w_fin
    intro l2 H4 f4 s4 e4
    w_fin
    refine ⟨M, _, _, rfl, dn (s13.trans s4) (none_back s13 f4) e4, (S.same s13).same s4, z1, z2, z3, ?_⟩
    w_fin
    rw [decide_eq_true rfl]
    exact k H4 (s13.trans s4)
  · have s13 := s12.trans s3
    rw [hF]
    refine ⟨true, hex, fun _ a ha => ?_, fun q => Bool.noConfusion q⟩
    w_fin
    refine iteT ?_
    w_fin
    refine ⟨rfl, rfl, .ty "ValueError", _, true, rfl, rel_ty, kv, ?_⟩
    w_fin
    refine ⟨rfl, rfl, .ref CT, _, false, rfl, rel_ref, kt, ?_⟩
    w_fin
    refine iteT ?_
    w_fin
    intro l2 H4 f4 s4 e4
    w_fin
    refine ⟨M, _, _, rfl, dn (s13.trans s4) (none_back s13 f4) e4, (S.same s13).same s4, z1, z2, z3, ?_⟩
    w_fin
    rw [decide_eq_true rfl]
    exact k H4 (s13.trans s4)
def spBadT (K : PySem.W.Frag) : Sp := fun vs H Q _ => ∃ (M M2 : Addr → Prop) (x t : V) (d e : PyData), vs = [x, t] ∧ Dn M K H x d ∧ Dn M2 K H t e ∧ e.bulk ≤ 1000000 ∧ WordOk d ∧ WordOk e ∧ isTask e = false ∧ ∀ H', Same H H' → Q (.bl true) H'
theorem ok_badt {CN CT : Addr} {f : Addr} {fd : FuncData} (B : Blt mg) (eBadTask : Err K mg "BadTask" CT) (hC : ExcC K CT) (hex : PySem.W.exmOne K (.ref CT) (.ref CT) = some true) (kn : PySem.W.kitOne K (.ref CT) (.ref CN) = some false) (gBadNetwork : mg "BadNetwork" = some (.ref CN))
    (gcheck_network : Has P w K mg base (L2N.CX P w) 7 "check_network" ["network", "task"] (spCheckN K CN CT)) (F : Fun K "_law_bad_task" "_law_bad_task" s_law_bad_task f fd) : FnOk P w K mg base CX0 8 f fd ["value", "task"] (spBadT K) := by
  have sc : FnScope ["value", "task", "e"] ["value", "task"] (defScope s_law_bad_task) := ⟨rfl, rfl, rfl, by decide +kernel, rfl, by decide +kernel, by decide +kernel⟩
  refine F.ok sc (fun vs H Q E h => ?_) (fun cdv A outer s H vs Q E hr h => ?_)
  · obtain ⟨_, _, _, _, _, _, rfl, _⟩ := h
    rfl
  obtain ⟨M, M2, x, t, d, e, rfl, hd, he, hb, wd, we, ht, k⟩ := h
  refine ⟨_, (pss_cons (L2N.ps_try_as (i := 2) rfl rfl sc.nd rfl rfl ⟨rfl, by decide, .inl eBadTask.g⟩ takes0N (fun W pn xe tk _ =>
      (pss_one (ps_expr (pcSN gcheck_network hr tk (pa_cons (pv 0) (pa_cons (pv 1) pa_nil))))))
      (fun a oe cls d pn hz hf => (pss_one (ps_ret (pe_not (pe_callB (show CallR _ (.builtin "isinstance") (rIsEA K CT a cls d) from call_isPA hC List.mem_cons_self hz hf) (by rfl) B.isinstance (by decide +kernel) (pa_cons (pv 2) (pa_cons (pe_glob (v := V.ref _) rfl gBadNetwork rfl) pa_nil))))))))
    (pss_one (ps_ret pe_bl))), ?_⟩
  try dsimp only [cxOf]
  w_fin
  refine ⟨_, rfl, _, rfl, M, M2, x, t, d, e, rfl, hd, he, hb, wd, we, .inl ⟨ht, fun H3 s3 => ?_⟩⟩
  refine ⟨true, hex, fun _ a ha => ?_, fun q => Bool.noConfusion q⟩
  w_fin
  refine ⟨rfl, rfl, .ref CN, _, false, rfl, rel_ref, kn, ?_⟩
  w_fin
  exact k H3 s3
end
theorem prod3 : ∀ (ls : List Int) (p : Int) (n : Nat), 1 ≤ p → p ≤ 3 ^ n → (∀ z ∈ ls, 1 ≤ z ∧ z ≤ 3) → (ls.map PyData.int).foldl (fun p m => p * numD m) p ≤ 3 ^ (n + ls.length)
  | [], p, n, _, h2, _ => by simpa using h2
  | z :: ls, p, n, h1, h2, h3 => by
    have hz := h3 z List.mem_cons_self
    have a : 1 * 1 ≤ p * z := Int.mul_le_mul h1 hz.1 (by decide) (by omega)
    have b : p * z ≤ 3 ^ n * 3 := Int.mul_le_mul h2 hz.2 (by omega) (by omega)
    have := prod3 ls (p * z) (n + 1) (by omega) (by rw [Int.pow_succ]; exact b) fun x hx => h3 x (List.mem_cons_of_mem _ hx)
    rw [List.length_cons, show n + (ls.length + 1) = n + 1 + ls.length by omega]
    exact this
theorem zero_row {ls : List Int} (h : ∀ m ∈ ls, 1 ≤ m ∧ m ≤ 60) : isRow ls (tupI (List.replicate ls.length 0)) = true := by
  show (decide (((List.replicate ls.length (0 : Int)).map PyData.int).length = ls.length) && (((List.replicate ls.length (0 : Int)).map PyData.int).zip ls).all fun p => isNum p.1 0 (p.2 - 1)) = true
  rw [decide_eq_true (by simp), Bool.true_and, List.all_eq_true]
  rintro ⟨a, m⟩ hp
  obtain ⟨h1, h2⟩ := List.of_mem_zip hp
  obtain ⟨z, hz, rfl⟩ := List.mem_map.mp h1
  rw [List.eq_of_mem_replicate hz]
  have := h m h2
  show (decide ((0 : Int) ≤ 0) && decide ((0 : Int) ≤ m - 1)) = true
  rw [decide_eq_true (by omega), decide_eq_true (by omega)]
  rfl
theorem good_zero {ls : List Int} (h : ∀ m ∈ ls, 1 ≤ m ∧ m ≤ 60) (n : Nat) : Good ls ([List.replicate ls.length 0].take n) := by
  cases n with
  | zero => exact ⟨by simp, (fun r hr => absurd hr (by simp)), List.Pairwise.nil⟩
  | succ n =>
    rw [List.take_of_length_le (by simp)]
    exact ⟨by simp, fun r hr => by rw [List.mem_singleton.mp hr]; exact zero_row h, List.pairwise_singleton _ _⟩
section
variable {P : Program} {w : World} {K : PySem.W.Frag} {mg : Str → Option Value} {base : Heap}
def sideR (rows : List (List Int)) : PyData := .tuple (rows.map tupI)
def rowsOf (ls : List Int) (n : Nat) : List (List Int) := [List.replicate ls.length 0].take n
def spLaw (K : PySem.W.Frag) : Sp := fun vs H Q _ => ∃ (a : Addr) (ns : List Int), vs = [.ref a] ∧ SqL K H a (ns.map V.int) ∧ ns.length ≤ 63 ∧ Sys K H ∧ ∀ H', Q (.bl true) H'
set_option maxHeartbeats 2000000 in
theorem ok_all {f : Addr} {fd : FuncData} (B : Blt mg) (g_law_draws : Has P w K mg base CX0 1 "_law_draws" ["script", "many"] (spDraws K)) (g_law_take : Has P w K mg base CX0 1 "_law_take" ["hand", "many"] (spTakeN K)) (g_law_network : Has P w K mg base CX0 3 "_law_network" ["hand", "task", "many"] (spNetN K))
    (g_law_changed : Has P w K mg base CX0 3 "_law_changed" ["hand", "value", "task"] (spChgN K)) (g_law_asked : HasG P w K mg base 9 "_law_asked" ["value", "task"] (spAskN K)) (g_law_bad_task : Has P w K mg base CX0 8 "_law_bad_task" ["value", "task"] (spBadT K))
    (F : Fun K "_law_all" "_law_all" s_law_all f fd) : FnG P w K mg base 10 f fd ["script"] (spLaw K) := by
  have sc : FnScope ["script", "hand", "colours", "labels", "rows", "white", "task", "many", "value", "k", "other", "changed", "c", "x", "y"] ["script"] (defScope s_law_all) := ⟨rfl, rfl, rfl, by decide +kernel, rfl, by decide +kernel, by decide +kernel⟩
  refine FnG.by F sc (fun vs H Q E h => ?_) (fun cdv A outer s H vs Q E hg hr h => ?_)
  · obtain ⟨_, _, rfl, _⟩ := h
    rfl
  obtain ⟨a, ns, rfl, hS, h63, S0, k⟩ := h
  refine ⟨_, (pss_cons (ps_set (i := 1) sc.nd rfl (Or.inr rfl) (pe_lstN (pa_cons (pc g_law_draws hr (pa_cons (pv 0) (pa_cons pe_int pa_nil))) (pa_cons pe_int pa_nil))))
    (pss_cons (ps_set (i := 2) sc.nd rfl (Or.inl rfl) (pe_op op_add pe_int (pc g_law_take hr (pa_cons (pv 1) (pa_cons pe_int pa_nil)))))
    (pss_cons (ps_set (i := 3) sc.nd rfl (Or.inl rfl) (pe_callTy (show CallR _ _ (rTupN K) from call_tupN) (by rfl) B.tuple (by decide +kernel) (pa_cons (pe_lc (own := [("c", 12)]) (g := gName 12) (tt := tYes) rfl sc.nd (pi_range1 (by rfl) B.range (pa_cons (pv 2) pa_nil)) (blkOk_by (N := ["script", "hand", "colours", "labels", "rows", "white", "task", "many", "value", "k", "other", "changed", "c", "x", "y"]) (sc := defScope s_law_all) (by decide +kernel)) (fun _ _ _ _ _ => pg_name (i := 12) sc.nd rfl (Or.inl rfl)) (fun _ _ _ _ _ => pts_nil) (fun _ _ _ _ _ => (pe_op op_add pe_int (pc g_law_take hr (pa_cons (pv 1) (pa_cons pe_int pa_nil)))))) pa_nil)))
    (pss_cons (ps_set (i := 4) sc.nd rfl (Or.inr rfl) (pe_tupN (pa_cons (pe_callTy (show CallR _ _ (rTupN K) from call_tupN) (by rfl) B.tuple (by decide +kernel) (pa_cons (pe_lc (own := [("c", 12)]) (g := gName 12) (tt := tYes) rfl sc.nd (pi_range1 (by rfl) B.range (pa_cons (pv 2) pa_nil)) (blkOk_by (N := ["script", "hand", "colours", "labels", "rows", "white", "task", "many", "value", "k", "other", "changed", "c", "x", "y"]) (sc := defScope s_law_all) (by decide +kernel)) (fun _ _ _ _ _ => pg_name (i := 12) sc.nd rfl (Or.inl rfl)) (fun _ _ _ _ _ => pts_nil) (fun _ _ _ _ _ => pe_int)) pa_nil)) pa_nil)))
    (pss_cons (ps_set (i := 5) sc.nd rfl (Or.inl rfl) (pe_callTy (show CallR _ _ (rTupN K) from call_tupN) (by rfl) B.tuple (by decide +kernel) (pa_cons (pe_lc (own := [("x", 13)]) (g := gName 13) (tt := tYes) rfl sc.nd (pi_range1 (by rfl) B.range (pa_cons (pe_op op_add pe_int (pc g_law_take hr (pa_cons (pv 1) (pa_cons pe_int pa_nil)))) pa_nil)) (blkOk_by (N := ["script", "hand", "colours", "labels", "rows", "white", "task", "many", "value", "k", "other", "changed", "c", "x", "y"]) (sc := defScope s_law_all) (by decide +kernel)) (fun _ _ _ _ _ => pg_name (i := 13) sc.nd rfl (Or.inl rfl)) (fun _ _ _ _ _ => pts_nil) (fun _ _ _ _ _ => (pv 4))) pa_nil)))
    (pss_cons (ps_set (i := 6) sc.nd rfl (Or.inl rfl) (pe_tupN (pa_cons pe_str (pa_cons (pv 2) (pa_cons (pv 3) (pa_cons (pv 5) (pa_cons (pe_callTy (show CallR _ _ (rTupN K) from call_tupN) (by rfl) B.tuple (by decide +kernel) (pa_cons (pe_lc (own := [("y", 14)]) (g := gName 14) (tt := tYes) rfl sc.nd (pi_range1 (by rfl) B.range (pa_cons (pe_op op_add pe_int (pc g_law_take hr (pa_cons (pv 1) (pa_cons pe_int pa_nil)))) pa_nil)) (blkOk_by (N := ["script", "hand", "colours", "labels", "rows", "white", "task", "many", "value", "k", "other", "changed", "c", "x", "y"]) (sc := defScope s_law_all) (by decide +kernel)) (fun _ _ _ _ _ => pg_name (i := 14) sc.nd rfl (Or.inl rfl)) (fun _ _ _ _ _ => pts_nil) (fun _ _ _ _ _ => (pe_slice (show SlR _ (LG.rCut K) from sl_cut) (pv 4) po_none (po_some (pv 14))))) pa_nil)) pa_nil)))))))
    (pss_cons (ps_set (i := 7) sc.nd rfl (Or.inl rfl) (pe_op op_add pe_int (pc g_law_take hr (pa_cons (pv 1) (pa_cons pe_int pa_nil)))))
    (pss_cons (ps_if (pt_cmpR op_eqi (pc g_law_take hr (pa_cons (pv 1) (pa_cons pe_int pa_nil))) pe_int (nomark _))
      (pss_one (ps_set (i := 7) sc.nd rfl (Or.inl rfl) (pe_op op_add pe_int (pc g_law_take hr (pa_cons (pv 1) (pa_cons pe_int pa_nil))))))
      pss_nil)
    (pss_cons (ps_set (i := 8) sc.nd rfl (Or.inl rfl) (pc g_law_network hr (pa_cons (pv 1) (pa_cons (pv 6) (pa_cons (pv 7) pa_nil)))))
    (pss_cons (ps_if (pt_not (pt_val (pcG g_law_asked hg hr (pa_cons (pv 8) (pa_cons (pv 6) pa_nil)))))
      (pss_one (ps_ret pe_bl))
      pss_nil)
    (pss_cons (ps_for PassesOwn.never rfl (pi_range1 (by rfl) B.range (pa_cons pe_int pa_nil)) (pg_name (i := 9) sc.nd rfl (Or.inl rfl))
      (pss_cons (ps_set (i := 11) sc.nd rfl (Or.inl rfl) (pc g_law_changed hr (pa_cons (pv 1) (pa_cons (pv 8) (pa_cons (pv 6) pa_nil)))))
      (pss_one (ps_if (PW.pt (pw_or (pt_not (pt_val (pcG g_law_asked hg hr (pa_cons (pv 11) (pa_cons (pv 6) pa_nil))))) (pw_or1 (pt_not (pt_val (pcG g_law_asked hg hr (pa_cons (pv 11) (pa_cons (pv 6) pa_nil))))))))
        (pss_one (ps_ret pe_bl))
        pss_nil))))
    (pss_cons (ps_set (i := 10) sc.nd rfl (Or.inl rfl) (pe_tupN (pa_cons pe_str (pa_cons (pv 2) (pa_cons (pv 3) (pa_cons (pe_slice (show SlR _ (LG.rCut K) from sl_cut) (pv 5) po_none (po_some pe_int)) (pa_cons (pe_slice (show SlR _ (LG.rCut K) from sl_cut) (pe_ix ix_tup (pv 6) pe_int (fun _ _ => rfl)) po_none (po_some pe_int)) pa_nil)))))))
    (pss_cons (ps_if (PW.pt (pw_or (pt_not (pt_val (pcG g_law_asked hg hr (pa_cons (pv 8) (pa_cons (pv 10) pa_nil))))) (pw_or1 (pt_not (pt_val (pcG g_law_asked hg hr (pa_cons (pe_tupN (pa_cons pe_str (pa_cons pe_int (pa_cons (pe_op (show OpR _ _ (rRepA K) from op_repA) (pe_tupN (pa_cons (pe_tupN pa_nil) pa_nil)) (pv 2)) (pa_cons (pe_tupN pa_nil) (pa_cons (pe_tupN pa_nil) pa_nil)))))) (pa_cons (pv 6) pa_nil))))))))
      (pss_one (ps_ret pe_bl))
      pss_nil)
    (pss_one (ps_ret (pe_and (pc g_law_bad_task hr (pa_cons (pv 8) (pa_cons (pe_callTy (show CallR _ _ (rListN K) from call_listN) (by rfl) B.list (by decide +kernel) (pa_cons (pv 6) pa_nil)) pa_nil))) (pe_and (pc g_law_bad_task hr (pa_cons pe_non (pa_cons (pe_slice (show SlR _ (LG.rCut K) from sl_cut) (pv 6) po_none (po_some pe_int)) pa_nil))) (pe_one (pcG g_law_asked hg hr (pa_cons (pv 8) (pa_cons (pv 6) pa_nil))))))))))))))))))))), ?_⟩
  try dsimp only [cxOf]
  w_fin
  refine ⟨a, ns, 260, rfl, hS, h63, by omega, fun d H1 ds hd0 s1 hd1 hdl hdb => ?_⟩
  w_fin
  intro h H2 hh0 s2 hh
  have hh2 : Hand H2 h d ds 0 := ⟨hh, s2 _ _ hd1⟩
  have S2 : Sys K H2 := S0.same (s1.trans s2)
  have nh : ¬ sysModules = h := S2.ne hh
  w_fin
  refine ⟨h, d, ds, 0, 3, rfl, hh2, by omega, by omega, fun r1 H3 r10 r11 hh3 g3 => ?_⟩
  obtain ⟨D, hD⟩ : ∃ D : Nat, 2 + r1 = D := ⟨(2 + r1).toNat, by omega⟩
  w_fin
  rw [hD]
  w_fin
  intro lp hlp
  obtain ⟨nwh, nwd⟩ := hand_out hh3 hlp
  refine itr_walk (lo := 0) (n := ((D : Nat) : Int).toNat) (fun i H' => ∃ (m : Nat) (ls : List Int), GI (· = h) H3 lp ls H' ∧ Hand H' h d ds m ∧ ls.length = i ∧ ∀ z ∈ ls, 1 ≤ z ∧ z ≤ 3) ⟨_, [], GI.start hlp, hh3.new hlp _, rfl, fun c hc => by cases hc⟩ ?_ ?_
  · rintro i H4 hi ⟨m4, ws, aw, hh4, lw, rw4⟩
    w_fin
    refine ⟨h, d, ds, m4, 3, rfl, hh4, by omega, by omega, fun x H5 x0 x1 hh5 g5 => ?_⟩
    w_fin
    obtain ⟨e, f, a⟩ := (aw.step nwh g5).push (1 + x) (by omega)
    refine ⟨_, e, f, _, _, a, hh5.off nwh nwd _, by rw [List.length_append, lw]; rfl, fun z hz => ?_⟩
    rcases List.mem_append.mp hz with q | q
    · exact rw4 z q
    · rw [List.mem_singleton.mp q]
      omega
  rintro H4 ⟨m4, ls, al, hh4, lls, lb⟩
  have lls : ls.length = D := by omega
  have el := al.ex
  w_fin
  intro la H5 _ s5 ela
  have hh5 := hh4.same s5
  have g25 := (g3.trans al.go).trans s5.go
  have S5 := S2.go g25 nh
  w_fin
  intro zp hzp
  refine itr_walk (lo := 0) (n := ((D : Nat) : Int).toNat) (fun i H' => AccI H5 zp (List.replicate i 0) H') (AccI.start hzp) ?_ ?_
  · rintro i H6 hi ac
    w_fin
    refine ac.fin (by rw [List.length_replicate]; omega) fun H' a2 => ?_
    rw [List.replicate_succ']
    exact a2
  rintro H6 az
  have ez := az.ex
  w_fin
  intro zt H7 _ s7 ezt
  rw [Int.toNat_natCast] at ezt
  w_fin
  intro rt H8 _ s8 ert
  have s58 := (az.same.trans s7).trans s8
  have hh8 := hh5.same s58
  have dr : ∀ {H' : Hp}, TupsStay H8 H' → Dt K H' (.ref rt) (sideR [List.replicate D 0]) := fun t => .tup (t.seq (SqT.of ert)) (.cons (.tup (t.seq (s8.seqT (SqT.of ezt))) (DtAll.ints _)) .nil)
  have tr : SqT K H8 rt [.ref zt] := SqT.of ert
  w_fin
  refine ⟨h, d, ds, _, 4, rfl, hh8, by omega, by omega, fun p0 H9 p00 p01 hh9 g9 => ?_⟩
  obtain ⟨pn, hpn⟩ : ∃ pn : Nat, 1 + p0 = pn := ⟨(1 + p0).toNat, by omega⟩
  w_fin
  rw [hpn]
  w_fin
  intro wl hwl
  refine itr_walk (lo := 0) (n := ((pn : Nat) : Int).toNat) (fun i H' => AccD K H9 wl ((List.replicate i [List.replicate D (0 : Int)]).map sideR) H') (AccD.start hwl) ?_ ?_
  · rintro i H10 hi ac
    w_fin
    refine ac.fin (dr (g9.tups.trans ac.same.tups)) (by rw [List.length_map, List.length_replicate]; omega) fun H' a2 => ?_
    rw [List.replicate_succ', List.map_append]
    exact a2
  rintro H10 aw
  rw [Int.toNat_natCast] at aw
  obtain ⟨wxs, ewl, dwx⟩ := aw.ex
  w_fin
  intro wt H11 _ s11 ewt
  have s911 := aw.same.trans s11
  have hh11 := hh9.same s911
  have dwx11 := dwx.stay s11.tups
  have g811 := g9.trans s911.go
  w_fin
  refine ⟨h, d, ds, _, 4, rfl, hh11, by omega, by omega, fun q0 H12 q00 q01 hh12 g12 => ?_⟩
  obtain ⟨qn, hqn⟩ : ∃ qn : Nat, 1 + q0 = qn := ⟨(1 + q0).toNat, by omega⟩
  w_fin
  rw [hqn]
  w_fin
  intro bl hbl
  refine itr_walk (lo := 0) (n := ((qn : Nat) : Int).toNat) (fun i H' => AccD K H12 bl (((List.range i).map (rowsOf ls)).map sideR) H') (AccD.start hbl) ?_ ?_
  · rintro i H13 hi ac
    have tr13 := ac.same.seqT ((g811.trans g12).seqT tr)
    w_fin
    intro sl H14 s14 esl
    rw [Int.zero_add, cut_to] at esl
    refine (ac.step s14).fin (r := sideR (rowsOf ls i)) (.tup esl ?_) (by rw [List.length_map, List.length_map, List.length_range]; omega) fun H' a2 => ?_
    · show DtAll K H14 ([V.ref zt].take i) (([List.replicate ls.length 0].take i).map tupI)
      rw [List.map_take, lls]
      exact (DtAll.cons (.tup ((g811.trans g12).tups.trans (ac.same.trans s14).tups |>.seq (s8.seqT (SqT.of ezt))) (DtAll.ints _)) .nil).take i
    · rw [List.range_succ, List.map_append, List.map_append]
      exact a2
  rintro H13 ab
  rw [Int.toNat_natCast] at ab
  obtain ⟨bxs, ebl, dbx⟩ := ab.ex
  w_fin
  intro bt H14 _ s14 ebt
  w_fin
  intro tk H15 _ s15 etk
  have s1215 := (ab.same.trans s14).trans s15
  have hh15 := hh12.same s1215
  have g515 := ((s58.go.trans g811).trans g12).trans s1215.go
  have S15 := S5.go g515 nh
  have hla : SqT K H15 la (ls.map V.int) := g515.seqT (SqT.of ela)
  have hwt : SqT K H15 wt wxs := (g12.trans s1215.go).seqT (SqT.of ewt)
  have dw15 : DtAll K H15 wxs ((List.replicate pn [List.replicate D (0 : Int)]).map sideR) := dwx11.stay (g12.trans s1215.go).tups
  have hbt : SqT K H15 bt bxs := s15.seqT (SqT.of ebt)
  have db15 : DtAll K H15 bxs (((List.range qn).map (rowsOf ls)).map sideR) := dbx.stay (s14.trans s15).tups
  have htk : SqT K H15 tk [.str "task", .int D, .ref la, .ref wt, .ref bt] := SqT.of etk
  have lwx : wxs.length = pn := by rw [dw15.len]; simp
  have lbx : bxs.length = qn := by rw [db15.len]; simp
  have dtk : ∀ {H' : Hp}, TupsStay H15 H' → Dt K H' (.ref tk) (taskD D ls (List.replicate pn [List.replicate D 0]) ((List.range qn).map (rowsOf ls))) := fun t => (task_dt htk hla hwt dw15 hbt db15).stay t
  clear ez az s7 ezt s8 ert dr tr aw ewl dwx s11 ewt s911 hh11 dwx11 ab ebl dbx s14 ebt s15 etk s58 hh8
  have lok : ∀ m ∈ ls, 1 ≤ m ∧ m ≤ 60 := fun m hm => by have := lb m hm; omega
  have lab : LabOk D ls := ⟨by omega, lok, by
    have := prod3 ls 1 0 (by decide) (by decide) lb
    have e : (3 : Int) ^ (0 + ls.length) ≤ 81 := by
      rw [Nat.zero_add, lls]
      have : D = 2 ∨ D = 3 ∨ D = 4 := by omega
      rcases this with rfl | rfl | rfl <;> decide
    show (ls.map PyData.int).foldl (fun p m => p * numD m) 1 ≤ 4000
    omega⟩
  have gW : ∀ n : Nat, 1 ≤ n → n ≤ 4 → GoodS ls (List.replicate n [List.replicate D 0]) := fun n n1 n4 => ⟨by simp; omega, by simp; omega, fun rows hr => by
    rw [List.eq_of_mem_replicate hr, ← lls]
    exact good_zero lok 1⟩
  have gB : ∀ n : Nat, 1 ≤ n → n ≤ 4 → GoodS ls ((List.range n).map (rowsOf ls)) := fun n n1 n4 => ⟨by simp; omega, by simp; omega, fun rows hr => by
    obtain ⟨y, _, rfl⟩ := List.mem_map.mp hr
    exact good_zero lok y⟩
  have tOk : ∀ p q : Nat, 1 ≤ p → p ≤ 4 → 1 ≤ q → q ≤ 4 → isTask (taskD D ls (List.replicate p [List.replicate D 0]) ((List.range q).map (rowsOf ls))) = true := fun p q p1 p4 q1 q4 => task_ok (by omega) (by omega) lab (gW p p1 p4) (gB q q1 q4)
  have tS : ∀ p q : Nat, 1 ≤ p → p ≤ 4 → 1 ≤ q → q ≤ 4 → Sized 1000 6 (taskD D ls (List.replicate p [List.replicate D 0]) ((List.range q).map (rowsOf ls))) := fun p q p1 p4 q1 q4 => (task_sized (by omega) (by omega) lok (by omega) (gW p p1 p4) (gB q q1 q4)).more (by decide) (by decide)
  w_fin
  refine ⟨h, d, ds, _, 9, rfl, hh15, by omega, by omega, fun n0 H16 n00 n01 hh16 g16 => ?_⟩
  obtain ⟨n1, hn1⟩ : ∃ n : Nat, 1 + n0 = n := ⟨(1 + n0).toNat, by omega⟩
  w_fin
  rw [hn1]
  w_fin
  refine ⟨h, d, ds, _, 16, rfl, hh16, by omega, by omega, fun c0 H17 c00 c01 hh17 g17 => ?_⟩
  w_fin
  refine st_two (fun b0 => ?_) (fun b0 => ?_)
  · w_fin
    refine ⟨h, d, ds, _, 2, rfl, hh17, by omega, by omega, fun b1 HR b10 b11 hhR g18 => ?_⟩
    obtain ⟨n, hn⟩ : ∃ n : Nat, 400 + b1 = n := ⟨(400 + b1).toNat, by omega⟩
    w_fin
    rw [hn]
    have gR := (g16.trans g17).trans g18
    have n4 : 1 ≤ n ∧ n ≤ 401 := by omega
    w_fin
    refine ⟨h, d, tk, wt, bt, ds, _, D, n, _, _, wxs, bxs, rfl, hhR, gR.seqT htk, gR.seqT hwt, gR.seqT hbt, by omega, by omega, by omega, by omega, by omega, by omega, by omega, fun np HN iN cols ws bs hhN gN hV N lD wb bb => ?_⟩
    have gRN := gR.trans gN
    have sV := (sized_net N).more (show 30000 ≤ 96006 by decide) (show 3 ≤ 6 by decide)
    have wV : WordOk (netD n cols ws bs) := word_first (by decide +kernel)
    have ask : ∀ {H' : Hp} {v : V} {e : PyData} {Q : VK} {i' : Nat}, Go (· = h) H15 H' → Hand H' h d ds i' → Dn (· = h) K H' v e → Sized 96006 6 e → WordOk e → (∀ H2, Same H' H2 → Q (.bl true) H2) → spAskN K [v, .ref tk] H' Q E0 := fun g hh hv sv wv q =>
      ⟨(· = h), _, _, _, tk, wt, bt, D, _, _, wxs, bxs, rfl, hv, dtk g.tups, fun l hl => (hand_out hh hl).1, S15.go g nh, sv, tS pn qn (by omega) (by omega) (by omega) (by omega), wv, task_word _ _ _ _, tOk pn qn (by omega) (by omega) (by omega) (by omega), g.seqT htk, g.seqT hwt, g.seqT hbt, by omega, by omega, q⟩
    w_fin
    refine ask gRN hhN hV.dt.dn sV wV fun H20 s20 => ?_
    w_fin
    refine iteF ?_
    w_fin
    refine fr_range (fun i σ H' => ∃ (i' : Nat) (kv cv : Option V), σ = [some (.ref a), some (.ref h), some (.int D), some (.ref la), some (.ref rt), some (.ref wt), some (.ref tk), some (.int n), some (.ref np), kv, none, cv, none, none, none] ∧ Hand H' h d ds i' ∧ Go (· = h) HN H') ⟨_, none, none, rfl, hhN.same s20, s20.go⟩ ?_ ?_
    · rintro i σ H21 hi ⟨i', kv, cv, rfl, hh21, g21⟩
      have gz := gRN.trans g21
      w_fin
      refine ⟨h, d, np, tk, wt, bt, ds, _, n, cols, ws, bs, D, _, _, wxs, bxs, rfl, hh21, hV.stay g21.tups, N, by omega, by omega, gz.seqT htk, gz.seqT hwt, gz.seqT hbt, by omega, by omega, fun v H22 i2 e hh22 g22 hv sv wv => ?_⟩
      have gz2 := gz.trans g22
      w_fin
      refine ask gz2 hh22 hv sv wv fun H23 s23 => ?_
      w_fin
      refine iteF ?_
      w_fin
      refine ask (gz2.trans s23.go) (hh22.same s23) (hv.stay s23.go) sv wv fun H24 s24 => ?_
      w_fin
      refine iteF ?_
      w_fin
      exact ⟨_, _, _, rfl, (hh22.same s23).same s24, (g21.trans g22).trans (s23.trans s24).go⟩
    rintro σ H21 ⟨i', kv, cv, rfl, hh21, g21⟩
    have gz := gRN.trans g21
    have hwt1 := gz.seqT hwt
    w_fin
    intro w2 H22 s22 ew2
    have htk2 := s22.seqT (gz.seqT htk)
    have hbt2 := s22.seqT (gz.seqT hbt)
    w_fin
    intro b2 H23 s23 eb2
    w_fin
    intro ot H24 _ s24 eot
    have ew2 : SqT K H22 w2 (wxs.take 1) := by rw [← cut_to]; exact ew2
    have eb2 : SqT K H23 b2 (bxs.take 1) := by rw [← cut_to]; exact eb2
    have sz := (s22.trans s23).trans s24
    have g24 := gz.trans sz.go
    have dw1 : DtAll K H24 (wxs.take 1) ((List.replicate 1 [List.replicate D (0 : Int)]).map sideR) := by
      have := (dw15.stay g24.tups).take 1
      rw [← List.map_take, List.take_replicate, Nat.min_eq_left (by omega)] at this
      exact this
    have db1 : DtAll K H24 (bxs.take 1) (((List.range 1).map (rowsOf ls)).map sideR) := by
      have := (db15.stay g24.tups).take 1
      rw [← List.map_take, ← List.map_take, List.take_range, Nat.min_eq_left (by omega)] at this
      exact this
    have hot : SqT K H24 ot [.str "task", .int D, .ref la, .ref w2, .ref b2] := SqT.of eot
    have dot := task_dt hot (g24.seqT hla) ((s23.trans s24).seqT ew2) dw1 (s24.seqT eb2) db1
    have hh24 := hh21.same sz
    w_fin
    refine ⟨(· = h), _, _, _, ot, w2, b2, D, _, _, wxs.take 1, bxs.take 1, rfl, (hV.stay (g21.trans sz.go).tups).dt.dn, dot, fun l hl => (hand_out hh24 hl).1, S15.go g24 nh, sV, tS 1 1 (by decide) (by decide) (by decide) (by decide), wV, task_word _ _ _ _, tOk 1 1 (by decide) (by decide) (by decide) (by decide), hot, (s23.trans s24).seqT ew2, s24.seqT eb2, by omega, by omega, fun H25 s25 => ?_⟩
    w_fin
    refine iteF ?_
    w_fin
    intro y1 H26 _ s26 e26
    w_fin
    intro y2 H27 _ s27 e27
    w_fin
    refine st_rRepA (SqT.of e27) (by simp) (by omega) (by omega) (by simp) fun y3 H28 s28 e28 => ?_
    rw [rep_flat, Int.toNat_natCast] at e28
    w_fin
    intro y4 H29 _ s29 e29
    w_fin
    intro y5 H30 _ s30 e30
    w_fin
    intro vt H31 _ s31 e31
    w_fin
    have s2931 := (s29.trans s30).trans s31
    have s2831 := s28.trans s2931
    have s31a := ((s25.trans s26).trans s27).trans s2831
    have g31 := g24.trans s31a.go
    have hh31 := hh24.same s31a
    have t0 : ∀ {H' : Hp} {y : Addr}, SqT K H' y [] → Dn (· = h) K H' (.ref y) (.tuple []) := fun e => .tup e .nil
    have rep : ∀ k : Nat, DnAll (· = h) K H31 (List.replicate k (.ref y1)) (List.replicate k (.tuple [])) := fun k => by
      induction k with
      | zero => exact .nil
      | succ k ih => exact .cons (t0 ((s27.trans s2831).seqT (SqT.of e26))) ih
    have dv : Dn (· = h) K H31 (.ref vt) (.tuple [.str "network", .int 0, .tuple (List.replicate D (.tuple [])), .tuple [], .tuple []]) :=
      .tup (SqT.of e31) (.cons (.str _) (.cons (.int _) (.cons (.tup (s2931.seqT e28) (rep D)) (.cons (t0 ((s30.trans s31).seqT (SqT.of e29))) (.cons (t0 (s31.seqT (SqT.of e30))) .nil)))))
    have sv0 : Sized 96006 6 (.tuple [.str "network", .int 0, .tuple (List.replicate D (.tuple [])), .tuple [], .tuple []]) := by
      refine Parts.tup (fun x hx => ?_) (by simp)
      simp only [List.mem_cons, List.not_mem_nil, or_false] at hx
      rcases hx with rfl | rfl | rfl | rfl | rfl
      · exact ⟨by decide +kernel, by decide +kernel, by simp only [PyData.depth]; omega, by decide +kernel⟩
      · exact (small_int 0 (by decide) (by decide)).more (by decide) (by decide)
      · exact (sized_tup (m := 0) (h := 1) fun y hy => by rw [List.eq_of_mem_replicate hy]; exact sized_tup0).more (by rw [List.length_replicate]; omega) (by decide)
      · exact sized_tup0.more (by decide) (by decide)
      · exact sized_tup0.more (by decide) (by decide)
    refine ask g31 hh31 dv sv0 (word_first (by decide +kernel)) fun H32 s32 => ?_
    w_fin
    refine iteF ?_
    have g32 := g31.trans s32.go
    have hh32 := hh31.same s32
    have htk32 := g32.seqT htk
    w_fin
    intro tl H33 f33 s33 e33
    have tp : ∀ {H' : Hp}, TupsStay H15 H' → DnAll (· = h) K H' [.str "task", .int D, .ref la, .ref wt, .ref bt] [.str "task", .int D, tupI ls, sideD (List.replicate pn [List.replicate D 0]), sideD ((List.range qn).map (rowsOf ls))] := fun t =>
      DtAll.dn (.cons (.str _) (.cons (.int _) (.cons (.tup (t.seq hla) (DtAll.ints ls)) (.cons (.tup (t.seq hwt) (dw15.stay t)) (.cons (.tup (t.seq hbt) (db15.stay t)) .nil)))))
    have ps : ∀ x ∈ [PyData.str "task", .int D, tupI ls, sideD (List.replicate pn [List.replicate D 0]), sideD ((List.range qn).map (rowsOf ls))], Sized 104 3 x := fun x hx => by
      obtain ⟨a1, a2, a3, a4, a5⟩ := task_parts_sized (D := D) (by omega) (by omega) lok (by omega) (gW pn (by omega) (by omega)) (gB qn (by omega) (by omega))
      simp only [List.mem_cons, List.not_mem_nil, or_false] at hx
      rcases hx with rfl | rfl | rfl | rfl | rfl <;> assumption
    have g33 := g32.trans s33.go
    have nl := (hand_out hh32 f33).1
    w_fin
    refine ⟨(· = h), (· = h), .ref np, .ref tl, _, .list _, rfl, (hV.dt.stay ((g21.trans sz.go).trans (s31a.trans (s32.trans s33)).go).tups).dn, .lst nl e33 (tp g33.tups), Nat.le_trans (sized_lst ps).2.2.2 (by simp), wV, (fun w r e _ => nomatch e), rfl, fun H34 s34 => ?_⟩
    w_fin
    have g34 := g33.trans s34.go
    have htk34 := g34.seqT htk
    w_fin
    intro tc H35 s35 e35
    have e35 : SqT K H35 tc ([V.str "task", .int D, .ref la, .ref wt, .ref bt].take 4) := by rw [← cut_to]; exact e35
    have g35 := g34.trans s35.go
    w_fin
    refine ⟨(· = h), (· = h), .non, .ref tc, .none, .tuple _, rfl, .non, .tup e35 ((tp g35.tups).take 4), Nat.le_trans (sized_tup fun x hx => ps x (List.mem_of_mem_take hx)).2.2.2 (by simp), (fun w r e _ => nomatch e), word_len (by simp), rfl, fun H36 s36 => ?_⟩
    w_fin
    have hh36 := (((hh32.same s33).same s34).same s35).same s36
    exact ask (g35.trans s36.go) hh36 (hV.dt.stay ((((g21.trans sz.go).trans (s31a.trans (s32.trans s33)).go).trans s34.go).trans (s35.trans s36).go).tups).dn sV wV fun H37 _ => k H37
  · have hhR := hh17
    have gR := g16.trans g17
    obtain ⟨n, hn⟩ : ∃ n : Nat, n1 = n := ⟨_, rfl⟩
    rw [hn]
    have n4 : 1 ≤ n ∧ n ≤ 401 := by omega
    w_fin
    refine ⟨h, d, tk, wt, bt, ds, _, D, n, _, _, wxs, bxs, rfl, hhR, gR.seqT htk, gR.seqT hwt, gR.seqT hbt, by omega, by omega, by omega, by omega, by omega, by omega, by omega, fun np HN iN cols ws bs hhN gN hV N lD wb bb => ?_⟩
    have gRN := gR.trans gN
    have sV := (sized_net N).more (show 30000 ≤ 96006 by decide) (show 3 ≤ 6 by decide)
    have wV : WordOk (netD n cols ws bs) := word_first (by decide +kernel)
    have ask : ∀ {H' : Hp} {v : V} {e : PyData} {Q : VK} {i' : Nat}, Go (· = h) H15 H' → Hand H' h d ds i' → Dn (· = h) K H' v e → Sized 96006 6 e → WordOk e → (∀ H2, Same H' H2 → Q (.bl true) H2) → spAskN K [v, .ref tk] H' Q E0 := fun g hh hv sv wv q =>
      ⟨(· = h), _, _, _, tk, wt, bt, D, _, _, wxs, bxs, rfl, hv, dtk g.tups, fun l hl => (hand_out hh hl).1, S15.go g nh, sv, tS pn qn (by omega) (by omega) (by omega) (by omega), wv, task_word _ _ _ _, tOk pn qn (by omega) (by omega) (by omega) (by omega), g.seqT htk, g.seqT hwt, g.seqT hbt, by omega, by omega, q⟩
    w_fin
    refine ask gRN hhN hV.dt.dn sV wV fun H20 s20 => ?_
    w_fin
    refine iteF ?_
    w_fin
    refine fr_range (fun i σ H' => ∃ (i' : Nat) (kv cv : Option V), σ = [some (.ref a), some (.ref h), some (.int D), some (.ref la), some (.ref rt), some (.ref wt), some (.ref tk), some (.int n), some (.ref np), kv, none, cv, none, none, none] ∧ Hand H' h d ds i' ∧ Go (· = h) HN H') ⟨_, none, none, rfl, hhN.same s20, s20.go⟩ ?_ ?_
    · rintro i σ H21 hi ⟨i', kv, cv, rfl, hh21, g21⟩
      have gz := gRN.trans g21
      w_fin
      refine ⟨h, d, np, tk, wt, bt, ds, _, n, cols, ws, bs, D, _, _, wxs, bxs, rfl, hh21, hV.stay g21.tups, N, by omega, by omega, gz.seqT htk, gz.seqT hwt, gz.seqT hbt, by omega, by omega, fun v H22 i2 e hh22 g22 hv sv wv => ?_⟩
      have gz2 := gz.trans g22
      w_fin
      refine ask gz2 hh22 hv sv wv fun H23 s23 => ?_
      w_fin
      refine iteF ?_
      w_fin
      refine ask (gz2.trans s23.go) (hh22.same s23) (hv.stay s23.go) sv wv fun H24 s24 => ?_
      w_fin
      refine iteF ?_
      w_fin
      exact ⟨_, _, _, rfl, (hh22.same s23).same s24, (g21.trans g22).trans (s23.trans s24).go⟩
    rintro σ H21 ⟨i', kv, cv, rfl, hh21, g21⟩
    have gz := gRN.trans g21
    have hwt1 := gz.seqT hwt
    w_fin
    intro w2 H22 s22 ew2
    have htk2 := s22.seqT (gz.seqT htk)
    have hbt2 := s22.seqT (gz.seqT hbt)
    w_fin
    intro b2 H23 s23 eb2
    w_fin
    intro ot H24 _ s24 eot
    have ew2 : SqT K H22 w2 (wxs.take 1) := by rw [← cut_to]; exact ew2
    have eb2 : SqT K H23 b2 (bxs.take 1) := by rw [← cut_to]; exact eb2
    have sz := (s22.trans s23).trans s24
    have g24 := gz.trans sz.go
    have dw1 : DtAll K H24 (wxs.take 1) ((List.replicate 1 [List.replicate D (0 : Int)]).map sideR) := by
      have := (dw15.stay g24.tups).take 1
      rw [← List.map_take, List.take_replicate, Nat.min_eq_left (by omega)] at this
      exact this
    have db1 : DtAll K H24 (bxs.take 1) (((List.range 1).map (rowsOf ls)).map sideR) := by
      have := (db15.stay g24.tups).take 1
      rw [← List.map_take, ← List.map_take, List.take_range, Nat.min_eq_left (by omega)] at this
      exact this
    have hot : SqT K H24 ot [.str "task", .int D, .ref la, .ref w2, .ref b2] := SqT.of eot
    have dot := task_dt hot (g24.seqT hla) ((s23.trans s24).seqT ew2) dw1 (s24.seqT eb2) db1
    have hh24 := hh21.same sz
    w_fin
    refine ⟨(· = h), _, _, _, ot, w2, b2, D, _, _, wxs.take 1, bxs.take 1, rfl, (hV.stay (g21.trans sz.go).tups).dt.dn, dot, fun l hl => (hand_out hh24 hl).1, S15.go g24 nh, sV, tS 1 1 (by decide) (by decide) (by decide) (by decide), wV, task_word _ _ _ _, tOk 1 1 (by decide) (by decide) (by decide) (by decide), hot, (s23.trans s24).seqT ew2, s24.seqT eb2, by omega, by omega, fun H25 s25 => ?_⟩
    w_fin
    refine iteF ?_
    w_fin
    intro y1 H26 _ s26 e26
    w_fin
    intro y2 H27 _ s27 e27
    w_fin
    refine st_rRepA (SqT.of e27) (by simp) (by omega) (by omega) (by simp) fun y3 H28 s28 e28 => ?_
    rw [rep_flat, Int.toNat_natCast] at e28
    w_fin
    intro y4 H29 _ s29 e29
    w_fin
    intro y5 H30 _ s30 e30
    w_fin
    intro vt H31 _ s31 e31
    w_fin
    have s2931 := (s29.trans s30).trans s31
    have s2831 := s28.trans s2931
    have s31a := ((s25.trans s26).trans s27).trans s2831
    have g31 := g24.trans s31a.go
    have hh31 := hh24.same s31a
    have t0 : ∀ {H' : Hp} {y : Addr}, SqT K H' y [] → Dn (· = h) K H' (.ref y) (.tuple []) := fun e => .tup e .nil
    have rep : ∀ k : Nat, DnAll (· = h) K H31 (List.replicate k (.ref y1)) (List.replicate k (.tuple [])) := fun k => by
      induction k with
      | zero => exact .nil
      | succ k ih => exact .cons (t0 ((s27.trans s2831).seqT (SqT.of e26))) ih
    have dv : Dn (· = h) K H31 (.ref vt) (.tuple [.str "network", .int 0, .tuple (List.replicate D (.tuple [])), .tuple [], .tuple []]) :=
      .tup (SqT.of e31) (.cons (.str _) (.cons (.int _) (.cons (.tup (s2931.seqT e28) (rep D)) (.cons (t0 ((s30.trans s31).seqT (SqT.of e29))) (.cons (t0 (s31.seqT (SqT.of e30))) .nil)))))
    have sv0 : Sized 96006 6 (.tuple [.str "network", .int 0, .tuple (List.replicate D (.tuple [])), .tuple [], .tuple []]) := by
      refine Parts.tup (fun x hx => ?_) (by simp)
      simp only [List.mem_cons, List.not_mem_nil, or_false] at hx
      rcases hx with rfl | rfl | rfl | rfl | rfl
      · exact ⟨by decide +kernel, by decide +kernel, by simp only [PyData.depth]; omega, by decide +kernel⟩
      · exact (small_int 0 (by decide) (by decide)).more (by decide) (by decide)
      · exact (sized_tup (m := 0) (h := 1) fun y hy => by rw [List.eq_of_mem_replicate hy]; exact sized_tup0).more (by rw [List.length_replicate]; omega) (by decide)
      · exact sized_tup0.more (by decide) (by decide)
      · exact sized_tup0.more (by decide) (by decide)
    refine ask g31 hh31 dv sv0 (word_first (by decide +kernel)) fun H32 s32 => ?_
    w_fin
    refine iteF ?_
    have g32 := g31.trans s32.go
    have hh32 := hh31.same s32
    have htk32 := g32.seqT htk
    w_fin
    intro tl H33 f33 s33 e33
    have tp : ∀ {H' : Hp}, TupsStay H15 H' → DnAll (· = h) K H' [.str "task", .int D, .ref la, .ref wt, .ref bt] [.str "task", .int D, tupI ls, sideD (List.replicate pn [List.replicate D 0]), sideD ((List.range qn).map (rowsOf ls))] := fun t =>
      DtAll.dn (.cons (.str _) (.cons (.int _) (.cons (.tup (t.seq hla) (DtAll.ints ls)) (.cons (.tup (t.seq hwt) (dw15.stay t)) (.cons (.tup (t.seq hbt) (db15.stay t)) .nil)))))
    have ps : ∀ x ∈ [PyData.str "task", .int D, tupI ls, sideD (List.replicate pn [List.replicate D 0]), sideD ((List.range qn).map (rowsOf ls))], Sized 104 3 x := fun x hx => by
      obtain ⟨a1, a2, a3, a4, a5⟩ := task_parts_sized (D := D) (by omega) (by omega) lok (by omega) (gW pn (by omega) (by omega)) (gB qn (by omega) (by omega))
      simp only [List.mem_cons, List.not_mem_nil, or_false] at hx
      rcases hx with rfl | rfl | rfl | rfl | rfl <;> assumption
    have g33 := g32.trans s33.go
    have nl := (hand_out hh32 f33).1
    w_fin
    refine ⟨(· = h), (· = h), .ref np, .ref tl, _, .list _, rfl, (hV.dt.stay ((g21.trans sz.go).trans (s31a.trans (s32.trans s33)).go).tups).dn, .lst nl e33 (tp g33.tups), Nat.le_trans (sized_lst ps).2.2.2 (by simp), wV, (fun w r e _ => nomatch e), rfl, fun H34 s34 => ?_⟩
    w_fin
    have g34 := g33.trans s34.go
    have htk34 := g34.seqT htk
    w_fin
    intro tc H35 s35 e35
    have e35 : SqT K H35 tc ([V.str "task", .int D, .ref la, .ref wt, .ref bt].take 4) := by rw [← cut_to]; exact e35
    have g35 := g34.trans s35.go
    w_fin
    refine ⟨(· = h), (· = h), .non, .ref tc, .none, .tuple _, rfl, .non, .tup e35 ((tp g35.tups).take 4), Nat.le_trans (sized_tup fun x hx => ps x (List.mem_of_mem_take hx)).2.2.2 (by simp), (fun w r e _ => nomatch e), word_len (by simp), rfl, fun H36 s36 => ?_⟩
    w_fin
    have hh36 := (((hh32.same s33).same s34).same s35).same s36
    exact ask (g35.trans s36.go) hh36 (hV.dt.stay ((((g21.trans sz.go).trans (s31a.trans (s32.trans s33)).go).trans s34.go).trans (s35.trans s36).go).tups).dn sV wV fun H37 _ => k H37
theorem ok_law {C : Addr} {f : Addr} {fd : FuncData} (B : Blt mg) (eLookError : Err K mg "LookError" C) (g_law_all : HasG P w K mg base 10 "_law_all" ["script"] (spLaw K)) (F : Fun K "law" "law" slaw f fd) : FnG P w K mg base 11 f fd ["script"] (spLaw K) := by
  have sc : FnScope ["script"] ["script"] (defScope slaw) := ⟨rfl, rfl, rfl, by decide +kernel, rfl, by decide +kernel, by decide +kernel⟩
  refine FnG.by F sc (fun vs H Q E h => ?_) (fun cdv A outer s H vs Q E hg hr h => ?_)
  · obtain ⟨_, _, rfl, _⟩ := h
    rfl
  obtain ⟨a, ns, rfl, hS, h63, S0, k⟩ := h
  refine ⟨_, (pss_one (ps_try_only rfl rfl ⟨rfl, by decide, .inl eLookError.g⟩ takes0 (fun W pn xe tk _ =>
      (pss_one (ps_ret (pcG g_law_all hg hr (pa_cons (pv 0) pa_nil)))))
      (fun _ _ _ _ _ _ _ => (pss_one (ps_ret pe_bl))))), ?_⟩
  exact ⟨_, rfl, a, ns, rfl, hS, h63, S0, fun H' => k H'⟩
end
/-! ### the top: the defs stand there as the text says -/
theorem def_mk {K : PySem.W.Frag} {h : Heap} {mg : Str → Option Value} {x : Str} {st : Stmt} {ps : List Str} {f : Addr} {od an : Option Addr} {sl : Array (Option Value)} {oc kV dc pm cd ct : Value} (X : K.In h) (G : h.Ns mainGlobals mg)
    (a : PySem.W.nsIn K mainGlobals x = some (some (.ref f))) (l : K.lookup f = some ⟨oc, od, .func (PySem.W.fnOf x x (defArgs st) (defBody st) (defScope st) .none kV dc pm an cd ct), sl⟩) (c : PySem.W.codeIn K cd x = true) (k : PySem.W.keepIn K (.ref f) = true)
    (b : ∀ (kV doc pm : Value) (an : Option Addr) (cdv ct : Value) (us : List Value), us.length = ps.length → bindArgs (PySem.W.fnOf x x (defArgs st) (defBody st) (defScope st) .none kV doc pm an cdv ct) ⟨us, []⟩ = pure (ps.zip us)) : Def K mg x st ps :=
  ⟨f, _, fun_mk l c k, PySem.W.mg_of X G a, (fun_mk l c k).binds b⟩
theorem all_mk {l : PySem.W.OpenLaw} {w : World} {K : PySem.W.Frag} {h : Heap} {mg : Str → Option Value} {fa f5 f6 f13 f14 f15 f16 f17 f18 f21 f22 f23 f24 f26 f27 f28 f29 f30 f31 f32 f33 f34 f35 f36 f37 f38 CBadTask CBadNetwork CLookError : Addr} (X : K.In h) (G : h.Ns mainGlobals mg) (hfa : mg "law" = some (.ref fa))
    {od5 an5 od6 an6 od13 an13 od14 an14 od15 an15 od16 an16 od17 an17 od18 an18 od21 an21 od22 an22 od23 an23 od24 an24 od26 an26 od27 an27 od28 an28 od29 an29 od30 an30 od31 an31 od32 an32 od33 an33 od34 an34 od35 an35 od36 an36 od37 an37 od38 an38 : Option Addr} {sl5 sl6 sl13 sl14 sl15 sl16 sl17 sl18 sl21 sl22 sl23 sl24 sl26 sl27 sl28 sl29 sl30 sl31 sl32 sl33 sl34 sl35 sl36 sl37 sl38 : Array (Option Value)} {oc5 kV5 dc5 pm5 cd5 ct5 oc6 kV6 dc6 pm6 cd6 ct6 oc13 kV13 dc13 pm13 cd13 ct13 oc14 kV14 dc14 pm14 cd14 ct14 oc15 kV15 dc15 pm15 cd15 ct15 oc16 kV16 dc16 pm16 cd16 ct16 oc17 kV17 dc17 pm17 cd17 ct17 oc18 kV18 dc18 pm18 cd18 ct18 oc21 kV21 dc21 pm21 cd21 ct21 oc22 kV22 dc22 pm22 cd22 ct22 oc23 kV23 dc23 pm23 cd23 ct23 oc24 kV24 dc24 pm24 cd24 ct24 oc26 kV26 dc26 pm26 cd26 ct26 oc27 kV27 dc27 pm27 cd27 ct27 oc28 kV28 dc28 pm28 cd28 ct28 oc29 kV29 dc29 pm29 cd29 ct29 oc30 kV30 dc30 pm30 cd30 ct30 oc31 kV31 dc31 pm31 cd31 ct31 oc32 kV32 dc32 pm32 cd32 ct32 oc33 kV33 dc33 pm33 cd33 ct33 oc34 kV34 dc34 pm34 cd34 ct34 oc35 kV35 dc35 pm35 cd35 ct35 oc36 kV36 dc36 pm36 cd36 ct36 oc37 kV37 dc37 pm37 cd37 ct37 oc38 kV38 dc38 pm38 cd38 ct38 : Value}
    (a5 : PySem.W.nsIn K mainGlobals "is_number" = some (some (.ref f5))) (l5 : K.lookup f5 = some ⟨oc5, od5, .func (PySem.W.fnOf "is_number" "is_number" (defArgs sis_number) (defBody sis_number) (defScope sis_number) .none kV5 dc5 pm5 an5 cd5 ct5), sl5⟩) (c5 : PySem.W.codeIn K cd5 "is_number" = true) (k5 : PySem.W.keepIn K (.ref f5) = true)
    (a6 : PySem.W.nsIn K mainGlobals "product_of" = some (some (.ref f6))) (l6 : K.lookup f6 = some ⟨oc6, od6, .func (PySem.W.fnOf "product_of" "product_of" (defArgs sproduct_of) (defBody sproduct_of) (defScope sproduct_of) .none kV6 dc6 pm6 an6 cd6 ct6), sl6⟩) (c6 : PySem.W.codeIn K cd6 "product_of" = true) (k6 : PySem.W.keepIn K (.ref f6) = true)
    (a13 : PySem.W.nsIn K mainGlobals "check_task" = some (some (.ref f13))) (l13 : K.lookup f13 = some ⟨oc13, od13, .func (PySem.W.fnOf "check_task" "check_task" (defArgs scheck_task) (defBody scheck_task) (defScope scheck_task) .none kV13 dc13 pm13 an13 cd13 ct13), sl13⟩) (c13 : PySem.W.codeIn K cd13 "check_task" = true) (k13 : PySem.W.keepIn K (.ref f13) = true)
    (a14 : PySem.W.nsIn K mainGlobals "is_task" = some (some (.ref f14))) (l14 : K.lookup f14 = some ⟨oc14, od14, .func (PySem.W.fnOf "is_task" "is_task" (defArgs sis_task) (defBody sis_task) (defScope sis_task) .none kV14 dc14 pm14 an14 cd14 ct14), sl14⟩) (c14 : PySem.W.codeIn K cd14 "is_task" = true) (k14 : PySem.W.keepIn K (.ref f14) = true)
    (a15 : PySem.W.nsIn K mainGlobals "are_labels" = some (some (.ref f15))) (l15 : K.lookup f15 = some ⟨oc15, od15, .func (PySem.W.fnOf "are_labels" "are_labels" (defArgs sare_labels) (defBody sare_labels) (defScope sare_labels) .none kV15 dc15 pm15 an15 cd15 ct15), sl15⟩) (c15 : PySem.W.codeIn K cd15 "are_labels" = true) (k15 : PySem.W.keepIn K (.ref f15) = true)
    (a16 : PySem.W.nsIn K mainGlobals "_are_inputs" = some (some (.ref f16))) (l16 : K.lookup f16 = some ⟨oc16, od16, .func (PySem.W.fnOf "_are_inputs" "_are_inputs" (defArgs s_are_inputs) (defBody s_are_inputs) (defScope s_are_inputs) .none kV16 dc16 pm16 an16 cd16 ct16), sl16⟩) (c16 : PySem.W.codeIn K cd16 "_are_inputs" = true) (k16 : PySem.W.keepIn K (.ref f16) = true)
    (a17 : PySem.W.nsIn K mainGlobals "_are_rows" = some (some (.ref f17))) (l17 : K.lookup f17 = some ⟨oc17, od17, .func (PySem.W.fnOf "_are_rows" "_are_rows" (defArgs s_are_rows) (defBody s_are_rows) (defScope s_are_rows) .none kV17 dc17 pm17 an17 cd17 ct17), sl17⟩) (c17 : PySem.W.codeIn K cd17 "_are_rows" = true) (k17 : PySem.W.keepIn K (.ref f17) = true)
    (a18 : PySem.W.nsIn K mainGlobals "is_row" = some (some (.ref f18))) (l18 : K.lookup f18 = some ⟨oc18, od18, .func (PySem.W.fnOf "is_row" "is_row" (defArgs sis_row) (defBody sis_row) (defScope sis_row) .none kV18 dc18 pm18 an18 cd18 ct18), sl18⟩) (c18 : PySem.W.codeIn K cd18 "is_row" = true) (k18 : PySem.W.keepIn K (.ref f18) = true)
    (a21 : PySem.W.nsIn K mainGlobals "check_network" = some (some (.ref f21))) (l21 : K.lookup f21 = some ⟨oc21, od21, .func (PySem.W.fnOf "check_network" "check_network" (defArgs scheck_network) (defBody scheck_network) (defScope scheck_network) .none kV21 dc21 pm21 an21 cd21 ct21), sl21⟩) (c21 : PySem.W.codeIn K cd21 "check_network" = true) (k21 : PySem.W.keepIn K (.ref f21) = true)
    (a22 : PySem.W.nsIn K mainGlobals "is_network" = some (some (.ref f22))) (l22 : K.lookup f22 = some ⟨oc22, od22, .func (PySem.W.fnOf "is_network" "is_network" (defArgs sis_network) (defBody sis_network) (defScope sis_network) .none kV22 dc22 pm22 an22 cd22 ct22), sl22⟩) (c22 : PySem.W.codeIn K cd22 "is_network" = true) (k22 : PySem.W.keepIn K (.ref f22) = true)
    (a23 : PySem.W.nsIn K mainGlobals "is_order" = some (some (.ref f23))) (l23 : K.lookup f23 = some ⟨oc23, od23, .func (PySem.W.fnOf "is_order" "is_order" (defArgs sis_order) (defBody sis_order) (defScope sis_order) .none kV23 dc23 pm23 an23 cd23 ct23), sl23⟩) (c23 : PySem.W.codeIn K cd23 "is_order" = true) (k23 : PySem.W.keepIn K (.ref f23) = true)
    (a24 : PySem.W.nsIn K mainGlobals "_are_numbers" = some (some (.ref f24))) (l24 : K.lookup f24 = some ⟨oc24, od24, .func (PySem.W.fnOf "_are_numbers" "_are_numbers" (defArgs s_are_numbers) (defBody s_are_numbers) (defScope s_are_numbers) .none kV24 dc24 pm24 an24 cd24 ct24), sl24⟩) (c24 : PySem.W.codeIn K cd24 "_are_numbers" = true) (k24 : PySem.W.keepIn K (.ref f24) = true)
    (a26 : PySem.W.nsIn K mainGlobals "_law_draws" = some (some (.ref f26))) (l26 : K.lookup f26 = some ⟨oc26, od26, .func (PySem.W.fnOf "_law_draws" "_law_draws" (defArgs s_law_draws) (defBody s_law_draws) (defScope s_law_draws) .none kV26 dc26 pm26 an26 cd26 ct26), sl26⟩) (c26 : PySem.W.codeIn K cd26 "_law_draws" = true) (k26 : PySem.W.keepIn K (.ref f26) = true)
    (a27 : PySem.W.nsIn K mainGlobals "_law_take" = some (some (.ref f27))) (l27 : K.lookup f27 = some ⟨oc27, od27, .func (PySem.W.fnOf "_law_take" "_law_take" (defArgs s_law_take) (defBody s_law_take) (defScope s_law_take) .none kV27 dc27 pm27 an27 cd27 ct27), sl27⟩) (c27 : PySem.W.codeIn K cd27 "_law_take" = true) (k27 : PySem.W.keepIn K (.ref f27) = true)
    (a28 : PySem.W.nsIn K mainGlobals "_law_integer" = some (some (.ref f28))) (l28 : K.lookup f28 = some ⟨oc28, od28, .func (PySem.W.fnOf "_law_integer" "_law_integer" (defArgs s_law_integer) (defBody s_law_integer) (defScope s_law_integer) .none kV28 dc28 pm28 an28 cd28 ct28), sl28⟩) (c28 : PySem.W.codeIn K cd28 "_law_integer" = true) (k28 : PySem.W.keepIn K (.ref f28) = true)
    (a29 : PySem.W.nsIn K mainGlobals "_law_order" = some (some (.ref f29))) (l29 : K.lookup f29 = some ⟨oc29, od29, .func (PySem.W.fnOf "_law_order" "_law_order" (defArgs s_law_order) (defBody s_law_order) (defScope s_law_order) .none kV29 dc29 pm29 an29 cd29 ct29), sl29⟩) (c29 : PySem.W.codeIn K cd29 "_law_order" = true) (k29 : PySem.W.keepIn K (.ref f29) = true)
    (a30 : PySem.W.nsIn K mainGlobals "_law_network" = some (some (.ref f30))) (l30 : K.lookup f30 = some ⟨oc30, od30, .func (PySem.W.fnOf "_law_network" "_law_network" (defArgs s_law_network) (defBody s_law_network) (defScope s_law_network) .none kV30 dc30 pm30 an30 cd30 ct30), sl30⟩) (c30 : PySem.W.codeIn K cd30 "_law_network" = true) (k30 : PySem.W.keepIn K (.ref f30) = true)
    (a31 : PySem.W.nsIn K mainGlobals "_law_inputs_right" = some (some (.ref f31))) (l31 : K.lookup f31 = some ⟨oc31, od31, .func (PySem.W.fnOf "_law_inputs_right" "_law_inputs_right" (defArgs s_law_inputs_right) (defBody s_law_inputs_right) (defScope s_law_inputs_right) .none kV31 dc31 pm31 an31 cd31 ct31), sl31⟩) (c31 : PySem.W.codeIn K cd31 "_law_inputs_right" = true) (k31 : PySem.W.keepIn K (.ref f31) = true)
    (a32 : PySem.W.nsIn K mainGlobals "_law_right" = some (some (.ref f32))) (l32 : K.lookup f32 = some ⟨oc32, od32, .func (PySem.W.fnOf "_law_right" "_law_right" (defArgs s_law_right) (defBody s_law_right) (defScope s_law_right) .none kV32 dc32 pm32 an32 cd32 ct32), sl32⟩) (c32 : PySem.W.codeIn K cd32 "_law_right" = true) (k32 : PySem.W.keepIn K (.ref f32) = true)
    (a33 : PySem.W.nsIn K mainGlobals "_law_row_changed" = some (some (.ref f33))) (l33 : K.lookup f33 = some ⟨oc33, od33, .func (PySem.W.fnOf "_law_row_changed" "_law_row_changed" (defArgs s_law_row_changed) (defBody s_law_row_changed) (defScope s_law_row_changed) .none kV33 dc33 pm33 an33 cd33 ct33), sl33⟩) (c33 : PySem.W.codeIn K cd33 "_law_row_changed" = true) (k33 : PySem.W.keepIn K (.ref f33) = true)
    (a34 : PySem.W.nsIn K mainGlobals "_law_changed" = some (some (.ref f34))) (l34 : K.lookup f34 = some ⟨oc34, od34, .func (PySem.W.fnOf "_law_changed" "_law_changed" (defArgs s_law_changed) (defBody s_law_changed) (defScope s_law_changed) .none kV34 dc34 pm34 an34 cd34 ct34), sl34⟩) (c34 : PySem.W.codeIn K cd34 "_law_changed" = true) (k34 : PySem.W.keepIn K (.ref f34) = true)
    (a35 : PySem.W.nsIn K mainGlobals "_law_asked" = some (some (.ref f35))) (l35 : K.lookup f35 = some ⟨oc35, od35, .func (PySem.W.fnOf "_law_asked" "_law_asked" (defArgs s_law_asked) (defBody s_law_asked) (defScope s_law_asked) .none kV35 dc35 pm35 an35 cd35 ct35), sl35⟩) (c35 : PySem.W.codeIn K cd35 "_law_asked" = true) (k35 : PySem.W.keepIn K (.ref f35) = true)
    (a36 : PySem.W.nsIn K mainGlobals "_law_bad_task" = some (some (.ref f36))) (l36 : K.lookup f36 = some ⟨oc36, od36, .func (PySem.W.fnOf "_law_bad_task" "_law_bad_task" (defArgs s_law_bad_task) (defBody s_law_bad_task) (defScope s_law_bad_task) .none kV36 dc36 pm36 an36 cd36 ct36), sl36⟩) (c36 : PySem.W.codeIn K cd36 "_law_bad_task" = true) (k36 : PySem.W.keepIn K (.ref f36) = true)
    (a37 : PySem.W.nsIn K mainGlobals "_law_all" = some (some (.ref f37))) (l37 : K.lookup f37 = some ⟨oc37, od37, .func (PySem.W.fnOf "_law_all" "_law_all" (defArgs s_law_all) (defBody s_law_all) (defScope s_law_all) .none kV37 dc37 pm37 an37 cd37 ct37), sl37⟩) (c37 : PySem.W.codeIn K cd37 "_law_all" = true) (k37 : PySem.W.keepIn K (.ref f37) = true)
    (a38 : PySem.W.nsIn K mainGlobals "law" = some (some (.ref f38))) (l38 : K.lookup f38 = some ⟨oc38, od38, .func (PySem.W.fnOf "law" "law" (defArgs slaw) (defBody slaw) (defScope slaw) .none kV38 dc38 pm38 an38 cd38 ct38), sl38⟩) (c38 : PySem.W.codeIn K cd38 "law" = true) (k38 : PySem.W.keepIn K (.ref f38) = true)
    (gBadTask : PySem.W.nsIn K mainGlobals "BadTask" = some (some (.ref CBadTask))) (xBadTask : PySem.W.excIn K CBadTask [.type "ValueError", .type "Exception", .type "BaseException", .type "object"] "ValueError.__new__" = true) (kBadTask : PySem.W.keepIn K (.ref CBadTask) = true) (bBadTask : PySem.W.subIn K (.ref CBadTask) (.type "BaseException") = some true) (tBadTask : PySem.W.typeIn K (.ref CBadTask) = some (.type "type")) (iBadTask : PySem.W.isClsIn K CBadTask = true)
    (gBadNetwork : PySem.W.nsIn K mainGlobals "BadNetwork" = some (some (.ref CBadNetwork))) (xBadNetwork : PySem.W.excIn K CBadNetwork [.type "ValueError", .type "Exception", .type "BaseException", .type "object"] "ValueError.__new__" = true) (kBadNetwork : PySem.W.keepIn K (.ref CBadNetwork) = true) (bBadNetwork : PySem.W.subIn K (.ref CBadNetwork) (.type "BaseException") = some true) (tBadNetwork : PySem.W.typeIn K (.ref CBadNetwork) = some (.type "type")) (iBadNetwork : PySem.W.isClsIn K CBadNetwork = true)
    (gLookError : PySem.W.nsIn K mainGlobals "LookError" = some (some (.ref CLookError))) (xLookError : PySem.W.excIn K CLookError [.type "ValueError", .type "Exception", .type "BaseException", .type "object"] "ValueError.__new__" = true) (kLookError : PySem.W.keepIn K (.ref CLookError) = true) (bLookError : PySem.W.subIn K (.ref CLookError) (.type "BaseException") = some true) (tLookError : PySem.W.typeIn K (.ref CLookError) = some (.type "type")) (iLookError : PySem.W.isClsIn K CLookError = true)
    (sBadTaskBadTask : PySem.W.subIn K (.ref CBadTask) (.ref CBadTask) = some true)
    (sBadNetworkBadNetwork : PySem.W.subIn K (.ref CBadNetwork) (.ref CBadNetwork) = some true)
    (u1 : PySem.W.findIn K (.ref CBadNetwork) "__getattribute__" = some (some (.builtin "BaseException.__getattribute__")))
    (u2 : PySem.W.findIn K (.ref CBadNetwork) "__getattr__" = some none)
    (u3 : PySem.W.hasDictIn K CBadNetwork = true)
    (u4 : PySem.W.findIn K (.ref CBadNetwork) "__class__" = some (some (.builtin "object.__class__")))
    (u7 : PySem.W.mroIn K CBadNetwork (.type "object") = some true)
    (y1 : PySem.W.findIn K (.ref CBadTask) "__getattribute__" = some (some (.builtin "BaseException.__getattribute__")))
    (y2 : PySem.W.findIn K (.ref CBadTask) "__getattr__" = some none)
    (y3 : PySem.W.hasDictIn K CBadTask = true)
    (y4 : PySem.W.findIn K (.ref CBadTask) "__class__" = some (some (.builtin "object.__class__")))
    (y7 : PySem.W.mroIn K CBadTask (.type "object") = some true)
    (u5 : PySem.W.specialIn K (.builtin "object.__class__") "__get__" = some (some (.builtin "getset_descriptor.__get__")))
    (u6 : PySem.W.takesIn K (.builtin "object.__class__") = some true)
    (n0 : PySem.W.kitOne K (.ref CBadNetwork) (.type "ValueError") = some true)
    (n1 : PySem.W.kitOne K (.ref CBadNetwork) (.ref CBadTask) = some false)
    (n2 : PySem.W.kitOne K (.ref CBadTask) (.ref CBadNetwork) = some false)
    (zabs : PySem.W.nsIn K mainGlobals "abs" = some none)
    (zint : PySem.W.nsIn K mainGlobals "int" = some none)
    (zlen : PySem.W.nsIn K mainGlobals "len" = some none)
    (zrange : PySem.W.nsIn K mainGlobals "range" = some none)
    (ztuple : PySem.W.nsIn K mainGlobals "tuple" = some none)
    (zisinstance : PySem.W.nsIn K mainGlobals "isinstance" = some none)
    (zbool : PySem.W.nsIn K mainGlobals "bool" = some none)
    (zlist : PySem.W.nsIn K mainGlobals "list" = some none)
    (zall : PySem.W.nsIn K mainGlobals "all" = some none)
    (zzip : PySem.W.nsIn K mainGlobals "zip" = some none)
    (zstr : PySem.W.nsIn K mainGlobals "str" = some none)
    (zset : PySem.W.nsIn K mainGlobals "set" = some none)
    (zsorted : PySem.W.nsIn K mainGlobals "sorted" = some none)
    (zmin : PySem.W.nsIn K mainGlobals "min" = some none)
    (zrepr : PySem.W.nsIn K mainGlobals "repr" = some none)
    (zValueError : PySem.W.nsIn K mainGlobals "ValueError" = some none)
    {tkLEAST_COLOURS : Tok} (qLEAST_COLOURS : PySem.W.nsIn K mainGlobals "LEAST_COLOURS" = some (some (.int 2 tkLEAST_COLOURS)))
    {tkMOST_COLOURS : Tok} (qMOST_COLOURS : PySem.W.nsIn K mainGlobals "MOST_COLOURS" = some (some (.int 4 tkMOST_COLOURS)))
    {tkMOST_INPUTS : Tok} (qMOST_INPUTS : PySem.W.nsIn K mainGlobals "MOST_INPUTS" = some (some (.int 4 tkMOST_INPUTS)))
    {tkMOST_LABELS : Tok} (qMOST_LABELS : PySem.W.nsIn K mainGlobals "MOST_LABELS" = some (some (.int 60 tkMOST_LABELS)))
    {tkMOST_ROWS : Tok} (qMOST_ROWS : PySem.W.nsIn K mainGlobals "MOST_ROWS" = some (some (.int 4000 tkMOST_ROWS)))
    {tkMOST_NODES : Tok} (qMOST_NODES : PySem.W.nsIn K mainGlobals "MOST_NODES" = some (some (.int 400 tkMOST_NODES)))
    (zsys : K.lookup sysModules = none) :
    ∃ fd : FuncData, K.lookup sysModules = none ∧ (∀ (s : Shared) (v : Value), BindsTo s fd ⟨[v], []⟩ [("script", v)]) ∧ ∀ base : Heap, K.In base → base.Ns mainGlobals mg → FnG l.prog w K mg base 11 fa fd ["script"] (spLaw K) := by
  have e := hfa.symm.trans (PySem.W.mg_of X G a38)
  cases e
  have B : Blt mg := ⟨PySem.W.mg_none_of X G zabs, PySem.W.mg_none_of X G zint, PySem.W.mg_none_of X G zlen, PySem.W.mg_none_of X G zrange, PySem.W.mg_none_of X G ztuple, PySem.W.mg_none_of X G zisinstance, PySem.W.mg_none_of X G zbool, PySem.W.mg_none_of X G zlist, PySem.W.mg_none_of X G zall, PySem.W.mg_none_of X G zzip, PySem.W.mg_none_of X G zstr, PySem.W.mg_none_of X G zset, PySem.W.mg_none_of X G zsorted, PySem.W.mg_none_of X G zmin, PySem.W.mg_none_of X G zrepr, PySem.W.mg_none_of X G zValueError⟩
  have T : Cst mg := ⟨⟨_, PySem.W.mg_of X G qLEAST_COLOURS⟩, ⟨_, PySem.W.mg_of X G qMOST_COLOURS⟩, ⟨_, PySem.W.mg_of X G qMOST_INPUTS⟩, ⟨_, PySem.W.mg_of X G qMOST_LABELS⟩, ⟨_, PySem.W.mg_of X G qMOST_ROWS⟩, ⟨_, PySem.W.mg_of X G qMOST_NODES⟩⟩
  have eBadTask : Err K mg "BadTask" CBadTask := ⟨xBadTask, PySem.W.mg_of X G gBadTask, kBadTask, bBadTask, tBadTask⟩
  have eBadNetwork : Err K mg "BadNetwork" CBadNetwork := ⟨xBadNetwork, PySem.W.mg_of X G gBadNetwork, kBadNetwork, bBadNetwork, tBadNetwork⟩
  have eLookError : Err K mg "LookError" CLookError := ⟨xLookError, PySem.W.mg_of X G gLookError, kLookError, bLookError, tLookError⟩
  have hBadTaskBadTask := exm_of2 bBadTask iBadTask tBadTask sBadTaskBadTask
  have hBadNetworkBadNetwork := exm_of2 bBadNetwork iBadNetwork tBadNetwork sBadNetworkBadNetwork
  have RN : ExcC K CBadNetwork := ⟨u1, u2, bBadNetwork, u3, u4, u5, u6, u7⟩
  have RT_ : ExcC K CBadTask := ⟨y1, y2, bBadTask, y3, y4, u5, u6, y7⟩
  have dis_number : Def K mg "is_number" sis_number ["value", "low", "high"] := def_mk X G a5 l5 c5 k5 fun _ _ _ _ _ _ us hl => match us, hl with | [_, _, _], _ => rfl
  have dproduct_of : Def K mg "product_of" sproduct_of ["numbers"] := def_mk X G a6 l6 c6 k6 fun _ _ _ _ _ _ us hl => match us, hl with | [_], _ => rfl
  have dcheck_task : Def K mg "check_task" scheck_task ["task"] := def_mk X G a13 l13 c13 k13 fun _ _ _ _ _ _ us hl => match us, hl with | [_], _ => rfl
  have dis_task : Def K mg "is_task" sis_task ["task"] := def_mk X G a14 l14 c14 k14 fun _ _ _ _ _ _ us hl => match us, hl with | [_], _ => rfl
  have dare_labels : Def K mg "are_labels" sare_labels ["D", "labels"] := def_mk X G a15 l15 c15 k15 fun _ _ _ _ _ _ us hl => match us, hl with | [_, _], _ => rfl
  have d_are_inputs : Def K mg "_are_inputs" s_are_inputs ["allowed", "labels"] := def_mk X G a16 l16 c16 k16 fun _ _ _ _ _ _ us hl => match us, hl with | [_, _], _ => rfl
  have d_are_rows : Def K mg "_are_rows" s_are_rows ["rows", "labels"] := def_mk X G a17 l17 c17 k17 fun _ _ _ _ _ _ us hl => match us, hl with | [_, _], _ => rfl
  have dis_row : Def K mg "is_row" sis_row ["row", "labels"] := def_mk X G a18 l18 c18 k18 fun _ _ _ _ _ _ us hl => match us, hl with | [_, _], _ => rfl
  have dcheck_network : Def K mg "check_network" scheck_network ["network", "task"] := def_mk X G a21 l21 c21 k21 fun _ _ _ _ _ _ us hl => match us, hl with | [_, _], _ => rfl
  have dis_network : Def K mg "is_network" sis_network ["value", "p", "q"] := def_mk X G a22 l22 c22 k22 fun _ _ _ _ _ _ us hl => match us, hl with | [_, _, _], _ => rfl
  have dis_order : Def K mg "is_order" sis_order ["value", "many"] := def_mk X G a23 l23 c23 k23 fun _ _ _ _ _ _ us hl => match us, hl with | [_, _], _ => rfl
  have d_are_numbers : Def K mg "_are_numbers" s_are_numbers ["value", "many", "most"] := def_mk X G a24 l24 c24 k24 fun _ _ _ _ _ _ us hl => match us, hl with | [_, _, _], _ => rfl
  have d_law_draws : Def K mg "_law_draws" s_law_draws ["script", "many"] := def_mk X G a26 l26 c26 k26 fun _ _ _ _ _ _ us hl => match us, hl with | [_, _], _ => rfl
  have d_law_take : Def K mg "_law_take" s_law_take ["hand", "many"] := def_mk X G a27 l27 c27 k27 fun _ _ _ _ _ _ us hl => match us, hl with | [_, _], _ => rfl
  have d_law_integer : Def K mg "_law_integer" s_law_integer ["value"] := def_mk X G a28 l28 c28 k28 fun _ _ _ _ _ _ us hl => match us, hl with | [_], _ => rfl
  have d_law_order : Def K mg "_law_order" s_law_order ["hand", "many"] := def_mk X G a29 l29 c29 k29 fun _ _ _ _ _ _ us hl => match us, hl with | [_, _], _ => rfl
  have d_law_network : Def K mg "_law_network" s_law_network ["hand", "task", "many"] := def_mk X G a30 l30 c30 k30 fun _ _ _ _ _ _ us hl => match us, hl with | [_, _, _], _ => rfl
  have d_law_inputs_right : Def K mg "_law_inputs_right" s_law_inputs_right ["values", "many", "bound"] := def_mk X G a31 l31 c31 k31 fun _ _ _ _ _ _ us hl => match us, hl with | [_, _, _], _ => rfl
  have d_law_right : Def K mg "_law_right" s_law_right ["value", "task"] := def_mk X G a32 l32 c32 k32 fun _ _ _ _ _ _ us hl => match us, hl with | [_, _], _ => rfl
  have d_law_row_changed : Def K mg "_law_row_changed" s_law_row_changed ["hand", "row", "bound"] := def_mk X G a33 l33 c33 k33 fun _ _ _ _ _ _ us hl => match us, hl with | [_, _, _], _ => rfl
  have d_law_changed : Def K mg "_law_changed" s_law_changed ["hand", "value", "task"] := def_mk X G a34 l34 c34 k34 fun _ _ _ _ _ _ us hl => match us, hl with | [_, _, _], _ => rfl
  have d_law_asked : Def K mg "_law_asked" s_law_asked ["value", "task"] := def_mk X G a35 l35 c35 k35 fun _ _ _ _ _ _ us hl => match us, hl with | [_, _], _ => rfl
  have d_law_bad_task : Def K mg "_law_bad_task" s_law_bad_task ["value", "task"] := def_mk X G a36 l36 c36 k36 fun _ _ _ _ _ _ us hl => match us, hl with | [_, _], _ => rfl
  have d_law_all : Def K mg "_law_all" s_law_all ["script"] := def_mk X G a37 l37 c37 k37 fun _ _ _ _ _ _ us hl => match us, hl with | [_], _ => rfl
  refine ⟨PySem.W.fnOf "law" "law" (defArgs slaw) (defBody slaw) (defScope slaw) .none kV38 dc38 pm38 an38 cd38 ct38, zsys, fun s v => .of_eq rfl, fun base _ _ => ?_⟩
  have gtake : Has l.prog w K mg base CX0 1 "_law_take" ["hand", "many"] (spTakeN K) := takeN (d_law_take.has fun f fd F => ok_take B F)
  have gdraws : Has l.prog w K mg base CX0 1 "_law_draws" ["script", "many"] (spDraws K) := d_law_draws.has fun f fd F => ok_draws B F
  have gnum : Has l.prog w K mg base CX0 1 "is_number" ["value", "low", "high"] (spNumber K) := dis_number.has fun f fd F => ok_number B F
  have gprod : Has l.prog w K mg base CX0 1 "product_of" ["numbers"] (spProduct K) := dproduct_of.has fun f fd F => ok_product F
  have grow : Has l.prog w K mg base CX0 2 "is_row" ["row", "labels"] (spRow K) := dis_row.has fun f fd F => ok_row B gnum F
  have grows : Has l.prog w K mg base CX0 3 "_are_rows" ["rows", "labels"] (spRows K) := d_are_rows.has fun f fd F => ok_rows B grow F
  have ginp : Has l.prog w K mg base CX0 4 "_are_inputs" ["allowed", "labels"] (spInputs K) := d_are_inputs.has fun f fd F => ok_inputs B T gnum grows F
  have glab : Has l.prog w K mg base CX0 2 "are_labels" ["D", "labels"] (spLabels K) := dare_labels.has fun f fd F => ok_labels B T gnum gprod F
  have gtb : Has l.prog w K mg base CX0 5 "is_task" ["task"] (spTaskB K) := dis_task.has fun f fd F => ok_taskb B glab ginp F
  have gct : Has l.prog w K mg base (L2N.CX l.prog w) 6 "check_task" ["task"] (spCheckT K CBadTask) := dcheck_task.has fun f fd F => ok_checkt eBadTask gtb F
  have gnums : Has l.prog w K mg base CX0 2 "_are_numbers" ["value", "many", "most"] (spNums K) := d_are_numbers.has fun f fd F => ok_nums B gnum F
  have gord : Has l.prog w K mg base CX0 3 "is_order" ["value", "many"] (spOrd K) := dis_order.has fun f fd F => ok_ord B gnums F
  have gisn : Has l.prog w K mg base CX0 4 "is_network" ["value", "p", "q"] (spIsNet K) := dis_network.has fun f fd F => ok_isnet B T gnum gord gnums F
  have gcn : Has l.prog w K mg base (L2N.CX l.prog w) 7 "check_network" ["network", "task"] (spCheckN K CBadNetwork CBadTask) := dcheck_network.has fun f fd F => ok_checkn B eBadNetwork gct gisn F
  have gint : Has l.prog w K mg base CX0 1 "_law_integer" ["value"] (spInteger K) := d_law_integer.has fun f fd F => ok_integer B F
  have gir : Has l.prog w K mg base CX0 2 "_law_inputs_right" ["values", "many", "bound"] (spIR K) := d_law_inputs_right.has fun f fd F => ok_ir B gint F
  have gri : Has l.prog w K mg base CX0 3 "_law_right" ["value", "task"] (spRightN K) := d_law_right.has fun f fd F => ok_right B gint gir F
  have glo : Has l.prog w K mg base CX0 2 "_law_order" ["hand", "many"] (spOrder K) := d_law_order.has fun f fd F => ok_order B gtake F
  have gln : Has l.prog w K mg base CX0 3 "_law_network" ["hand", "task", "many"] (spNetN K) := d_law_network.has fun f fd F => ok_netn B gtake glo F
  have grc : Has l.prog w K mg base CX0 2 "_law_row_changed" ["hand", "row", "bound"] (spRowN K) := d_law_row_changed.has fun f fd F => ok_rown B gtake F
  have gch : Has l.prog w K mg base CX0 3 "_law_changed" ["hand", "value", "task"] (spChgN K) := d_law_changed.has fun f fd F => ok_chgn B gtake grc F
  have gas : HasG l.prog w K mg base 9 "_law_asked" ["value", "task"] (spAskN K) := d_law_asked.hasG fun f fd F => ok_asked B eBadNetwork RN hBadNetworkBadNetwork n0 n1 eBadTask.g gcn gri F
  have gbt : Has l.prog w K mg base CX0 8 "_law_bad_task" ["value", "task"] (spBadT K) := d_law_bad_task.has fun f fd F => ok_badt B eBadTask RT_ hBadTaskBadTask n2 eBadNetwork.g gcn F
  have gall : HasG l.prog w K mg base 10 "_law_all" ["script"] (spLaw K) := d_law_all.hasG fun f fd F => ok_all B gdraws gtake gln gch gas gbt F
  exact ok_law B eLookError gall (fun_mk l38 c38 k38)
end Lw
open PySem PySem.W PyProof.Rows
set_option maxRecDepth 100000 in
set_option maxHeartbeats 0 in
theorem PySem.Challenge.cw_looksfar_k12_check_network_holds : PySem.Challenge.rw_looksfar_k12_check_network.Holds := by
  w_on; o_law; k_head; (case hw => w_witness2)
  k_fill
  refine LG.walk_S (l := PySem.Challenge.rw_looksfar_k12_check_network) (n := 63) (k := 11) (sp := Lw.spLaw) (x := "script") rfl (by decide) rfl ⟨rfl, by decide, by decide⟩ (by decide +kernel) (fun w h Y => PySem.W.kIn_of Y) ?F (fun K H a ns hl S hS => ⟨a, ns, rfl, hS, hl, S, fun _ => rfl⟩)
  case F =>
    intro w mg fa h KX G hmg
    refine' Lw.all_mk KX G hmg ?a5 ?l5 ?c5 ?k5 ?a6 ?l6 ?c6 ?k6 ?a13 ?l13 ?c13 ?k13 ?a14 ?l14 ?c14 ?k14 ?a15 ?l15 ?c15 ?k15 ?a16 ?l16 ?c16 ?k16 ?a17 ?l17 ?c17 ?k17 ?a18 ?l18 ?c18 ?k18 ?a21 ?l21 ?c21 ?k21 ?a22 ?l22 ?c22 ?k22 ?a23 ?l23 ?c23 ?k23 ?a24 ?l24 ?c24 ?k24 ?a26 ?l26 ?c26 ?k26 ?a27 ?l27 ?c27 ?k27 ?a28 ?l28 ?c28 ?k28 ?a29 ?l29 ?c29 ?k29 ?a30 ?l30 ?c30 ?k30 ?a31 ?l31 ?c31 ?k31 ?a32 ?l32 ?c32 ?k32 ?a33 ?l33 ?c33 ?k33 ?a34 ?l34 ?c34 ?k34 ?a35 ?l35 ?c35 ?k35 ?a36 ?l36 ?c36 ?k36 ?a37 ?l37 ?c37 ?k37 ?a38 ?l38 ?c38 ?k38 ?gBadTask ?xBadTask ?kBadTask ?bBadTask ?tBadTask ?iBadTask ?gBadNetwork ?xBadNetwork ?kBadNetwork ?bBadNetwork ?tBadNetwork ?iBadNetwork ?gLookError ?xLookError ?kLookError ?bLookError ?tLookError ?iLookError ?sBadTaskBadTask ?sBadNetworkBadNetwork ?u1 ?u2 ?u3 ?u4 ?u7 ?y1 ?y2 ?y3 ?y4 ?y7 ?u5 ?u6 ?n0 ?n1 ?n2 ?zabs ?zint ?zlen ?zrange ?ztuple ?zisinstance ?zbool ?zlist ?zall ?zzip ?zstr ?zset ?zsorted ?zmin ?zrepr ?zValueError ?qLEAST_COLOURS ?qMOST_COLOURS ?qMOST_INPUTS ?qMOST_LABELS ?qMOST_ROWS ?qMOST_NODES ?zsys
    (case a5 => k_is)
    (case l5 => k_is)
    (case c5 => k_is)
    (case k5 => k_is)
    (case a6 => k_is)
    (case l6 => k_is)
    (case c6 => k_is)
    (case k6 => k_is)
    (case a13 => k_is)
    (case l13 => k_is)
    (case c13 => k_is)
    (case k13 => k_is)
    (case a14 => k_is)
    (case l14 => k_is)
    (case c14 => k_is)
    (case k14 => k_is)
    (case a15 => k_is)
    (case l15 => k_is)
    (case c15 => k_is)
    (case k15 => k_is)
    (case a16 => k_is)
    (case l16 => k_is)
    (case c16 => k_is)
    (case k16 => k_is)
    (case a17 => k_is)
    (case l17 => k_is)
    (case c17 => k_is)
    (case k17 => k_is)
    (case a18 => k_is)
    (case l18 => k_is)
    (case c18 => k_is)
    (case k18 => k_is)
    (case a21 => k_is)
    (case l21 => k_is)
    (case c21 => k_is)
    (case k21 => k_is)
    (case a22 => k_is)
    (case l22 => k_is)
    (case c22 => k_is)
    (case k22 => k_is)
    (case a23 => k_is)
    (case l23 => k_is)
    (case c23 => k_is)
    (case k23 => k_is)
    (case a24 => k_is)
    (case l24 => k_is)
    (case c24 => k_is)
    (case k24 => k_is)
    (case a26 => k_is)
    (case l26 => k_is)
    (case c26 => k_is)
    (case k26 => k_is)
    (case a27 => k_is)
    (case l27 => k_is)
    (case c27 => k_is)
    (case k27 => k_is)
    (case a28 => k_is)
    (case l28 => k_is)
    (case c28 => k_is)
    (case k28 => k_is)
    (case a29 => k_is)
    (case l29 => k_is)
    (case c29 => k_is)
    (case k29 => k_is)
    (case a30 => k_is)
    (case l30 => k_is)
    (case c30 => k_is)
    (case k30 => k_is)
    (case a31 => k_is)
    (case l31 => k_is)
    (case c31 => k_is)
    (case k31 => k_is)
    (case a32 => k_is)
    (case l32 => k_is)
    (case c32 => k_is)
    (case k32 => k_is)
    (case a33 => k_is)
    (case l33 => k_is)
    (case c33 => k_is)
    (case k33 => k_is)
    (case a34 => k_is)
    (case l34 => k_is)
    (case c34 => k_is)
    (case k34 => k_is)
    (case a35 => k_is)
    (case l35 => k_is)
    (case c35 => k_is)
    (case k35 => k_is)
    (case a36 => k_is)
    (case l36 => k_is)
    (case c36 => k_is)
    (case k36 => k_is)
    (case a37 => k_is)
    (case l37 => k_is)
    (case c37 => k_is)
    (case k37 => k_is)
    (case a38 => k_is)
    (case l38 => k_is)
    (case c38 => k_is)
    (case k38 => k_is)
    (case gBadTask => k_is)
    (case xBadTask => k_exc)
    (case kBadTask => k_is)
    (case bBadTask => k_is)
    (case tBadTask => k_is)
    (case iBadTask => k_is)
    (case gBadNetwork => k_is)
    (case xBadNetwork => k_exc)
    (case kBadNetwork => k_is)
    (case bBadNetwork => k_is)
    (case tBadNetwork => k_is)
    (case iBadNetwork => k_is)
    (case gLookError => k_is)
    (case xLookError => k_exc)
    (case kLookError => k_is)
    (case bLookError => k_is)
    (case tLookError => k_is)
    (case iLookError => k_is)
    (case sBadTaskBadTask => first | rfl | k_is)
    (case sBadNetworkBadNetwork => first | rfl | k_is)
    (case u1 => first | rfl | k_is | decide +kernel)
    (case u2 => first | rfl | k_is | decide +kernel)
    (case u3 => first | rfl | k_is | decide +kernel)
    (case u4 => first | rfl | k_is | decide +kernel)
    (case u7 => first | rfl | k_is | decide +kernel)
    (case y1 => first | rfl | k_is | decide +kernel)
    (case y2 => first | rfl | k_is | decide +kernel)
    (case y3 => first | rfl | k_is | decide +kernel)
    (case y4 => first | rfl | k_is | decide +kernel)
    (case y7 => first | rfl | k_is | decide +kernel)
    (case u5 => first | rfl | k_is | decide +kernel)
    (case u6 => first | rfl | k_is | decide +kernel)
    (case n0 => first | rfl | k_is | decide +kernel)
    (case n1 => first | rfl | k_is | decide +kernel)
    (case n2 => first | rfl | k_is | decide +kernel)
    (case zabs => k_is)
    (case zint => k_is)
    (case zlen => k_is)
    (case zrange => k_is)
    (case ztuple => k_is)
    (case zisinstance => k_is)
    (case zbool => k_is)
    (case zlist => k_is)
    (case zall => k_is)
    (case zzip => k_is)
    (case zstr => k_is)
    (case zset => k_is)
    (case zsorted => k_is)
    (case zmin => k_is)
    (case zrepr => k_is)
    (case zValueError => k_is)
    (case qLEAST_COLOURS => k_is)
    (case qMOST_COLOURS => k_is)
    (case qMOST_INPUTS => k_is)
    (case qMOST_LABELS => k_is)
    (case qMOST_ROWS => k_is)
    (case qMOST_NODES => k_is)
    (case zsys => rfl)
